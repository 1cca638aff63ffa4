import PyProof.Rows.All
import Wide.All
import OpenK.AllK
import Wide.FinOn
import HandS.ForMost
import HandS.Exc
import HandS.ExcOwn
import HandS.ExcInit
import HandS.ExcField
import HandS.TryMany
import HandS.WordsExc
import HandS.Nested
import HandS.Walk
import HandS.IsInst
import HandS.TupLe
import HandS.TupAny
import HandS.Wide
import HandS.Deep
import HandS.SortRule
import HandS.DictComp
import HandS.Conv
import HandS.Lambda
import KE.GoesMore
import KE.GoesEnum
import HandS.Rev
import HandS.SetFor
import KE.KIndexOf
import HandS.CallSlots
import HandS.SortInts
import KE.KTupSum
import HandS.TupLen
import PyProof.TupleOfSeq
import HandS.ExcValue
import HandS.AnyAll
import HandS.Style
import KE.GoesZip
import HandS.Defaults
import HandS.Iter
import HandS.More
import HandS.MakeKwOnly
import HandS.SortKw
import KE.DatumOrd
import KE.KNestM
import PySem.Challenge.RW_pairfloors_k08_first_shortest_ways
import HandS.WideMore
import HandS.EndTab
import KE.KLam
-- Lam
section
set_option Elab.async false
set_option linter.all false
set_option maxRecDepth 100000
set_option maxHeartbeats 4000000
/-! Lam: a lambda with parameters is made in a def, handed to a second def and called there. -/
namespace LamP
open PySem PySem.Spec PyProof.Rows L2 LamX NdefX
/-- at f stands what `lambda ..: b` makes -/
def LamIs (h : Heap) (f : Addr) (F : NF) (b : Expr) : Prop :=
  ∃ od sl pm ctv, h.get? f = some { cls := .type "function", dict := od, data := .func (PySem.W.kla_fn "<lambda>" F.qual F.params b F.scope F.cl pm (.ref F.c) ctv), slots := sl }
def LamO (f : Addr) (F : NF) (b : Expr) : HO := .ext fun h => LamIs h f F b
theorem lamO_ne {f : Addr} {F : NF} {b : Expr} (ps : Array Value) : LamO f F b ≠ .tbl ps := by
  unfold LamO
  exact fun z => HO.noConfusion z
theorem lam_is {P : Program} {w : World} {H : Hp} {h : Heap} {f : Addr} {F : NF} {b : Expr} (hok : HOk P w H h) (e : H f = some (LamO f F b)) : LamIs h f F b :=
  (show LamIs h f F b ∧ _ ∧ _ from hok f _ e).1
section
variable {T : List NTab} {H : Hp} {P c' : Addr} {ps : Array Value} {pos : Pos} {q : Str}
/-- the table at P has a new row, for the code object at c' -/
def grow (H : Hp) (P : Addr) (ps : Array Value) (pos : Pos) (c' : Addr) (q : Str) : Hp := upd (upd H P (.tbl (ps ++ #[rawInt pos.line, rawInt pos.col, .ref c']))) c' (CodeO c' q)
theorem grow_other {b : Addr} (h1 : b ≠ P) (h2 : b ≠ c') : grow H P ps pos c' q b = H b := (upd_ne h2).trans (upd_ne h1)
theorem grow_kept (hP : H P = some (.tbl ps)) (nC : H c' = none) : ExtN H (grow H P ps pos c' q) := by
  intro b o e plain
  refine (grow_other (fun z => ?_) (ne_of_none e nC)).trans e
  subst z
  exact plain ps (Option.some.inj (e.symm.trans hP))
theorem grow_none {b : Addr} (e : grow H P ps pos c' q b = none) : H b = none := upd_none (upd_none e)
theorem grow_tabs (hT : TabsN T H) (hP : H P = some (.tbl ps)) (well : TriplesOk ps.toList) (only : ∀ p ∈ T, p.1 = P → p.2 = fun _ _ => q) (nC : H c' = none) : TabsN T (grow H P ps pos c' q) := by
  intro p hp
  obtain ⟨qs, at_, ok, rows⟩ := hT p hp
  have keep := grow_kept (pos := pos) (q := q) hP nC
  by_cases here : p.1 = P
  · have same : qs = ps := by
      rw [here, hP] at at_
      cases at_
      rfl
    subst same
    refine ⟨qs ++ #[rawInt pos.line, rawInt pos.col, .ref c'], ?_, ?_, fun pos2 cv found => ?_⟩
    · rw [here]
      exact (upd_ne (ne_of_none hP nC)).trans upd_same
    · rw [Array.toList_append]
      exact PySem.TriplesOk_snoc _ _ _ _ ok
    · rw [Array.toList_append] at found
      rcases among_app2 _ ok found with old | ⟨new, _⟩
      · obtain ⟨c0, e1, e2⟩ := rows pos2 cv old
        exact ⟨c0, e1, keep _ _ e2 codeO_ne⟩
      · exact ⟨c', new, by rw [only p hp here]; exact upd_same⟩
  · refine ⟨qs, ?_, ok, fun pos2 cv found => ?_⟩
    · exact (grow_other here (ne_of_none at_ nC)).trans at_
    · exact (rows pos2 cv found).imp fun _ z => ⟨z.1, keep _ _ z.2 codeO_ne⟩
end
/-- a lambda made: F its data but for the code object's place -/
structure Made (T : List NTab) (F : Addr → NF) (b : Expr) (H H1 : Hp) (f c' : Addr) : Prop where
  kept : ExtN H H1
  back : ∀ a, H1 a = none → H a = none
  tabs : TabsN T H1
  new : H f = none
  lam : H1 f = some (LamO f (F c') b)
  code : H1 c' = some (CodeO c' (F c').qual)
theorem made_of {T : List NTab} {F : Addr → NF} {b : Expr} {H H1 : Hp} {f c' : Addr} (kept : ExtN H H1) (back : ∀ a, H1 a = none → H a = none) (tabs : TabsN T H1) (n1 : H1 f = none) (code : H1 c' = some (CodeO c' (F c').qual)) : Made T F b H (upd H1 f (LamO f (F c') b)) f c' :=
  have step : ∀ a o, H1 a = some o → upd H1 f (LamO f (F c') b) a = some o := fun a o e => (upd_ne (ne_of_none e n1)).trans e
  ⟨fun a o e p => step a o (kept a o e p), fun a e => back a (upd_none e), tabs.ext step, back f n1, upd_same, step c' _ code⟩
section
variable {X : Cx} {pins : List (Addr × Obj)} {σ : L2.St} {H : Hp} {s : Shared}
/-- its function object laid on top of the heap -/
theorem inv_lam {F : NF} {b : Expr} {tk : Nat} {pm ctv : Value} (I : Inv X pins σ H s) :
    Inv X pins σ (upd H s.heap.objs.size (LamO s.heap.objs.size F b)) { s with heap := s.heap.push (PySem.W.kla_obj "<lambda>" F.qual F.params b F.scope F.cl pm F.c ctv), toks := tk } := by
  have top := Heap.get?_push_size s.heap (o := PySem.W.kla_obj "<lambda>" F.qual F.params b F.scope F.cl pm F.c ctv) rfl
  refine I.laid (fun _ _ e => Heap.get?_push_of_some _ e) (Nat.le_refl _) ⟨⟨_, _, _, _, top⟩, ⟨_, top⟩, fun _ _ is st => ?_⟩
  exact is.imp fun _ y => y.imp fun _ y => y.imp fun _ y => y.imp fun _ e => st _ e
def mkLam (X : Cx) (params : Arguments) (scope : Scope) (c' : Addr) : NF := ⟨"<lambda>", X.env.qual ++ "<lambda>", params, [], scope, cloFrom X.env.cells scope.names [], c'⟩
/-- the reading of a lambda: a new function object -/
def tLamE (T : List NTab) (mk : Addr → NF) (b : Expr) : TE := fun σ H Q => TabsN T H ∧ ∀ (f c' : Addr) (H1 : Hp), Made T mk b H H1 f c' → Q (.ref f) H1
theorem pe_lam {T : List NTab} {c P : Addr} {params : Arguments} {body : Expr} {scope : Scope} {pos : Pos} (TB : TabB X.base X.mg c P) (hcode : X.env.code = .ref c) (mem : (P, fun _ _ => X.env.qual ++ "<lambda>") ∈ T)
    (only : ∀ p ∈ T, p.1 = P → p.2 = fun _ _ => X.env.qual ++ "<lambda>") (hdef : defaultsOf params X.env = ([], []))
    (hfree : ∀ y ∈ scope.names, y.2 = .free → X.env.scope.names.lookup y.1 = some .cell ∨ X.env.scope.names.lookup y.1 = some .free) : PE X (.Lambda params body scope pos) (tLamE T (mkLam X params scope) body) := by
  constructor
  rintro pins s σ H Q I ⟨hT, h⟩
  have clo := closure_ok (scope := scope) (env := X.env) fun y hy e => I.ok.has _ (hfree y hy e)
  obtain ⟨ps, hP, well, rows⟩ := (hT _ mem : TabN H P fun _ _ => X.env.qual ++ "<lambda>")
  have inP : s.heap.get? P = some (PySem.W.tabObj ps) := I.hok P _ hP
  have ends : ∀ {g : Heap} {tk : Nat} {H1 : Hp} {c1 : Addr} (ctv : Value), Inv X pins σ H1 { s with heap := g, toks := tk } → ExtN H H1 → (∀ a, H1 a = none → H a = none) → TabsN T H1 → H1 c1 = some (CodeO c1 (X.env.qual ++ "<lambda>")) →
      EP X pins σ Q (.ref g.objs.size) { s with heap := g.push (PySem.W.kla_obj "<lambda>" (X.env.qual ++ "<lambda>") params body scope (cloFrom X.env.cells scope.names []) ((X.mg "__name__").getD .none) c1 ctv), toks := tk } := fun ctv J kept back tabs code =>
    ⟨.ref _, _, inv_lam (F := mkLam X params scope _) J, rfl, h _ _ _ (made_of kept back tabs (J.hok.fresh (Nat.le_refl _)) code)⟩
  refine PySem.W.kla_eval hdef ?_
  rcases known : codeAmong pos ps.toList with _ | cv
  · refine PySem.W.kla_makeFunction clo I.ok.glob (I.mod.glob.keeps I.bk) hcode (TB.code.keeps I.bk) inP well known TB.gP (TB.bm.keeps I.bk) fun c1 ctv g tk but new _ rec row => ?_
    obtain ⟨_, oc, vs, t, same, hoc, hd, hv⟩ := rec
    cases same
    have nC := I.hok.fresh new
    have J : Inv X pins σ (grow H P ps pos c1 (X.env.qual ++ "<lambda>")) { s with heap := g, toks := tk } := inv_table I hP (fun b o hb e => but b o hb e) row new ⟨oc, vs, t, hoc, hd, hv⟩
    exact ends ctv J (grow_kept hP nC) (fun _ => grow_none) (grow_tabs hT hP well only nC) upd_same
  · obtain ⟨c1, rfl, code⟩ := rows pos cv known
    exact PySem.W.kla_makeFunctionHit clo I.ok.glob (I.mod.glob.keeps I.bk) hcode (TB.code.keeps I.bk) inP well known (TB.bm.keeps I.bk) fun ctv g tk kept _ =>
      ends ctv (I.kept kept) (ExtN.refl H) (fun _ e => e) hT code
end
/-! ### the lambda called -/
/-- the lambda F at f keeps sp, called at a room of k -/
structure LOk (P : Program) (w : World) (K : PySem.W.Frag) (mg : Str → Option Value) (base : Heap) (CX : CXT) (k : Nat) (f : Addr) (F : NF) (b : Expr) (ps fr : List Str) (sp : List (Option V) → Sp) : Prop where
  len : ∀ ws vs H Q E, sp ws vs H Q E → vs.length = ps.length
  run : ∀ A outer s H us vs ws Q E, Room k A → Env0 P w K mg base A outer s H → H f = some (LamO f F b) ∧ H F.c = some (CodeO F.c F.qual) → CellsAt F.cl fr ws s.heap H → Vals vs us → sp ws vs H Q E → codeAny (model P w) A (.call (.ref f) ⟨us, []⟩) (CR CX outer P w H s Q E) s
theorem lok_of {CX : CXT} {P : Program} {w : World} {K : PySem.W.Frag} {mg : Str → Option Value} {base : Heap} {N ps fr : List Str} {F : NF} {b : Expr} {f : Addr} {k : Nat} {sp : List (Option V) → Sp}
    (S : NScope N ps fr F.scope) (binds : ∀ (pm ctv : Value) (us : List Value), us.length = ps.length → bindArgs (PySem.W.kla_fn "<lambda>" F.qual F.params b F.scope F.cl pm (.ref F.c) ctv) ⟨us, []⟩ = pure (ps.zip us)) (len : ∀ ws vs H Q E, sp ws vs H Q E → vs.length = ps.length)
    (body : ∀ A outer s H vs ws Q E, Room k (A.deeper (envF F f s.heap.objs.size)) → H f = some (LamO f F b) → H F.c = some (CodeO F.c F.qual) → ws.length = fr.length → sp ws vs H Q E → ∃ t, PE (ncx CX P w K mg base N F f A outer s H E) b t ∧ t (startF N vs ws) H Q) :
    LOk P w K mg base CX (k + 1) f F b ps fr sp := by
  refine ⟨len, ?_⟩
  rintro A outer s H us vs ws Q E room e0 ⟨lam, code⟩ cells rel pre
  have n := len _ _ _ _ _ pre
  obtain ⟨od, sl, pm, ctv, at_⟩ := lam_is e0.hok lam
  have noLimit := e0.mod.nolimit.keeps fun b o e => (e0.bs b o e).1
  apply PySem.W.kla_callFunE room.depth at_ rfl S.co S.gen rfl (codeO_at e0.hok code)
  rw [binds pm ctv us (rel.length ▸ n)]
  refine wpAny_pure (wpAny_newFunctionEnv S.nocell (fun y hy => S.par y.1 (List.of_mem_zip hy).1) (fun g frame but => ⟨noLimit.fresh _ but, ?_⟩) S.kind)
  obtain ⟨t, reads, goal⟩ := body A outer s H vs ws Q E (room.deeper _) lam code cells.len pre
  have start := inv_startN (CX := CX) (E := E) (f := f) (tk := s.toks + (ps.zip us).length) S room.hd e0 n rel cells frame fun b o e => but.extBut b o (Nat.ne_of_lt (Heap.lt_size e)) (Heap.get?_push_of_some _ e)
  exact PySem.W.kla_codeExpr (wpAny_mono (reads.run [] _ _ H Q start goal) (fun v s' out => out.elim fun w' z => z.elim fun H' ⟨J, rv, q⟩ => ⟨w', H', J.os, J.bare, J.base, J.hok, rv, q⟩) fun _ _ z => z)
/-- the captured cells, as they were when the running def began: it has no way to them but this lambda -/
theorem cells_later {X : Cx} {pins : List (Addr × Obj)} {σ : L2.St} {H : Hp} {s : Shared} {cl : List (Str × Addr)} {fr : List Str} {ws : List (Option V)} (C : CellsAt cl fr ws X.s_0.heap X.H_0) (none_ : X.ex = []) (I : Inv X pins σ H s) : CellsAt cl fr ws s.heap H := by
  have out : ∀ c : Addr, c ∉ X.ex := by simp [none_]
  have stays : ∀ {y c}, cl.lookup y = some c → ∀ {v}, X.s_0.heap.IsCell c v → s.heap.IsCell c v := by
    rintro y c e v ⟨o, at_, d⟩
    exact (I.base.any at_ (C.all y c e).1 (out c)).elim fun sl z => ⟨_, z, d⟩
  constructor
  · exact C.len
  · intro y c e
    have ⟨un, v, cell⟩ := C.all y c e
    exact ⟨cell.elim fun o z => I.base.free c o z.1 un (out c), v, stays e cell⟩
  · exact C.inj
  · intro i y e
    have ⟨c, at_, holds⟩ := C.has i y e
    exact ⟨c, at_, fun v ev => (holds v ev).imp fun u z => ⟨z.1, stays at_ z.2⟩⟩
/-- a call's end, read by its caller -/
theorem call_ends {X : Cx} {CX : CXT} {pins : List (Addr × Obj)} {σ : L2.St} {H : Hp} {s : Shared} {Q : VK} {E : XK} {v : Value} {us : List Value} (hx : Passes CX X E) (I : Inv X pins σ H s) (h : codeAny (model X.prog X.w) X.A (.call v ⟨us, []⟩) (CR CX X.stack X.prog X.w H s Q E) s) :
    wpAny (model X.prog X.w) X.A (call v us) (EP X pins σ Q) X.xe s := by
  refine wpAny_call (codeAny_mono h ?_)
  rintro (e | fl) s' z
  · exact hx pins σ H s e s' I z
  · match fl, z with
    | .ret u, z => exact I.after z
/-- g(..), g the name i of the running def that was handed the lambda F; ws: what its cells hold -/
def tCallF (f : Addr) (F : NF) (b : Expr) (i : Nat) (ws : List (Option V)) (sp : List (Option V) → Sp) (E : XK) (t : TA) : TE := fun σ H Q => σ[i]? = some (some (.ref f)) ∧ H f = some (LamO f F b) ∧
  t σ H fun vs H1 => (H1 f = some (LamO f F b) ∧ H1 F.c = some (CodeO F.c F.qual)) ∧ sp ws vs H1 Q E
theorem pe_callF {X : Cx} {CX : CXT} {f : Addr} {F : NF} {b : Expr} {ps fr : List Str} {ws : List (Option V)} {i j k : Nat} {x : Str} {sp : List (Option V) → Sp} {E : XK} {t : TA} {e : Expr} {es : List Expr} {p pos : Pos}
    (Fn : LOk X.prog X.w X.K X.mg X.base CX k f F b ps fr sp) (C : CellsAt F.cl fr ws X.s_0.heap X.H_0) (hex : X.ex = []) (hr : Room j X.A) (hk : k ≤ j) (hx : Passes CX X E) (hN : X.N[i]? = some x) (hv : Vis X.env.scope x) (ha : PA X (e :: es) t)
    (hd : (x == ("__debug__" : Str)) = false := by decide) (hcd : (x == ("__classdict__" : Str)) = false := by decide)
    (he : starEach (e :: es) X.env = (false, eval e X.env) :: starEach es X.env := by rfl) (hpl : (backTo pos (starEach es X.env)).any (·.1) = false := by rfl) :
    PE X (.Call (.Name x p) (e :: es) [] pos) (tCallF f F b i ws sp E t) := by
  constructor
  rintro pins s σ H Q I ⟨var, lam, args⟩
  have fn : ∀ {σ H s}, Inv X pins σ H s → H f = some (LamO f F b) → PySem.W.FnAt f s.heap := fun I e => (lam_is I.hok e).elim fun od z => z.elim fun sl z => z.elim fun _ z => z.elim fun _ z => ⟨_, od, _, sl, z⟩
  have name := (pe_var (pos := p) hN hv hd hcd).run pins s σ H (fun v H1 => v = .ref f ∧ H1 = H) I ⟨.ref f, var, rfl, rfl⟩
  refine wpAny_Call_Name_kw (thn name ?_)
  rintro u s1 ⟨_, _, I1, ru, rfl, rfl⟩
  cases ru
  refine PySem.W.callWith_F (first := []) (fn I1 lam) (thn (ha.run pos pins s1 σ _ _ I1 args) ?_) he hpl
  rintro us s2 ⟨vs, H2, I2, r, both, pre⟩
  exact ⟨fn I2 both.1, call_ends hx I2 (Fn.run X.A X.stack s2 H2 us vs ws Q E (hr.mono hk) I2.env0 both (cells_later C hex I2) r pre)⟩
/-! ### a def that is handed a lambda -/
/-- a def of the top, called while the cells cl stand -/
structure FnOkC (P : Program) (w : World) (K : PySem.W.Frag) (mg : Str → Option Value) (base : Heap) (CX : CXT) (k : Nat) (f : Addr) (fd : FuncData) (ps : List Str) (cl : List (Str × Addr)) (fr : List Str) (ws : List (Option V)) (sp : Sp) : Prop where
  len : ∀ vs H Q E, sp vs H Q E → vs.length = ps.length
  run : ∀ A outer s H args us vs Q E, Room k A → Env0 P w K mg base A outer s H → CellsAt cl fr ws s.heap H → BindsTo s fd args (ps.zip us) → Vals vs us → sp vs H Q E → codeAny (model P w) A (.call (.ref f) args) (CR CX outer P w H s Q E) s
theorem okC {P : Program} {w : World} {K : PySem.W.Frag} {mg : Str → Option Value} {base : Heap} {x qual : Str} {st : Stmt} {f : Addr} {fd : FuncData} {N ps : List Str} {k : Nat} {cl : List (Str × Addr)} {fr : List Str} {ws : List (Option V)} {sp : Sp}
    (F : Fun K x qual st f fd) (S : FnScope N ps (defScope st)) (len : ∀ vs H Q E, sp vs H Q E → vs.length = ps.length)
    (body : ∀ (cdv : Value) (A : Around) (outer : List Env) (s : Shared) (H : Hp) (vs : List V) (Q : VK) (E : XK), Room k (A.deeper (envOfC qual (defScope st) s.heap.objs.size f cdv)) → CellsAt cl fr ws s.heap H → sp vs H Q E →
      ∃ t, PSs (cxOf CX0 P w K mg base N qual (defScope st) f cdv A outer s H E).nox (defBody st) t ∧ t { nx := fun _ H' => Q .non H', rt := Q } (L2.start N vs) H) : FnOkC P w K mg base CX0 (k + 1) f fd ps cl fr ws sp := by
  have ⟨_, _, _, _, _, _, cdv, _, _, is, look, code⟩ := F.ex
  subst is
  refine ⟨len, fun A outer s H args us vs Q E room e0 cells bound rel pre => run_ofS look code S room e0 bound rel (len _ _ _ _ pre) fun deeper => ?_⟩
  exact (body cdv A outer s H vs Q E deeper cells pre).imp fun t z => ⟨z.1.nox, z.2⟩
def tCallC (js : List Nat) (sp : List (Option V) → Sp) (E : XK) (t : TA) : TE := fun σ H Q => t σ H fun vs H1 => sp (js.map (slotAt σ)) vs H1 Q E
theorem pe_callC {X : Cx} {CX : CXT} {g : Addr} {fd : FuncData} {cl : List (Str × Addr)} {ps fr : List Str} {js : List Nat} {k : Nat} {x : Str} {sp : List (Option V) → Sp} {E : XK} {t : TA} {e : Expr} {es : List Expr} {p pos : Pos}
    (G : ∀ ws, FnOkC X.prog X.w X.K X.mg X.base CX k g fd ps cl fr ws (sp ws)) (cp : X.Ok → Caps X cl fr js) (hr : Room k X.A) (hg : Gl X x) (hm : X.mg x = some (.ref g)) (hk : PySem.W.keepIn X.K (.ref g) = true) (hb : L2.Binds X.K fd ps []) (hx : Passes CX X E) (ha : PA X (e :: es) t)
    (hdb : (x == ("__debug__" : Str)) = false := by decide)
    (he : starEach (e :: es) X.env = (false, eval e X.env) :: starEach es X.env := by rfl) (hpl : (backTo pos (starEach es X.env)).any (·.1) = false := by rfl) :
    PE X (.Call (.Name x p) (e :: es) [] pos) (tCallC js sp E t) := by
  constructor
  intro pins s σ H Q I pre
  refine wpAny_Call_Name_kw (ld_glob I hg hm (PySem.W.callWith_K I.ok.mod.kin hk (thn (ha.run pos pins s σ H _ I pre) ?_) he hpl) hdb)
  rintro us s1 ⟨vs, H1, I1, r, goal⟩
  refine ⟨I1.kIn, call_ends hx I1 ((G _).run X.A X.stack s1 H1 _ us vs Q E hr I1.env0 (cells_of I1 (cp I1.ok)) ?_ r goal)⟩
  have n : us.length = ps.length := r.length ▸ (G _).len _ _ _ _ goal
  simpa using hb s1 us I1.kIn (by simpa using n)
end LamP
end

-- TupZ
section
set_option Elab.async false
set_option linter.all false
set_option maxRecDepth 100000
set_option maxHeartbeats 4000000
/-! TupZ: tuples that the program makes, their objects known: no dict, so that their methods can be called. -/
namespace L2
open PySem PySem.Spec PyProof.Rows
/-- a tuple's object: of the class itself, without a dict -/
def ZO (o : Obj) : Prop := o.cls = .type "tuple" ∧ o.dict = none
/-- the tuple at a -/
def TZ (H : Hp) (a : Addr) (xs : List V) : Prop := ∃ o : Obj, ZO o ∧ H a = some (.frz o (.tup xs))
/-- a new tuple at a -/
abbrev zT (o : Obj) (xs : List V) : HO := .frz o (.tup xs)
section
variable {H H' : Hp} {a p : Addr} {xs ys : List V} {o : Obj} {u : HO} {K : PySem.W.Frag}
theorem TZ.sq (h : TZ H a xs) : SqT K H a xs := h.elim fun o h => .inl (.inr ⟨o, h.2⟩)
theorem TZ.new (t : ZO o) : TZ (upd H a (zT o xs)) a xs := ⟨o, t, upd_same⟩
theorem TZ.ne (h : TZ H a xs) (n : H p = none) : a ≠ p := h.elim fun _ h => ne_of_none h.2 n
theorem TZ.upd (h : TZ H a xs) (n : a ≠ p) : TZ (L2.upd H p u) a xs := h.elim fun o h => ⟨o, h.1, (upd_ne n).trans h.2⟩
theorem TZ.via (h : TZ H a xs) (k : ∀ u, H a = some u → H' a = some u) : TZ H' a xs := h.elim fun o h => ⟨o, h.1, k _ h.2⟩
theorem TZ.inj (h : TZ H a xs) (g : TZ H a ys) : xs = ys := by
  obtain ⟨o, _, e⟩ := h
  obtain ⟨o2, _, e2⟩ := g
  rw [e] at e2
  cases e2
  rfl
theorem TZ.ty (h : TZ H a xs) : TyX K H (.ref a) (.type "tuple") := h.elim fun _ h => .fTuple h.2
theorem TZ.neL (h : TZ H a xs) {ws : List V} (g : H p = some (.lst ws)) : a ≠ p := h.elim fun _ h => ne_of h.2 g (by intro z; cases z)
end
section
variable {X : Cx} {pins : List (Addr × Obj)} {σ : L2.St} {H : Hp} {s : Shared}
/-- what is known of the object at a tuple's place -/
theorem TZ.obj {a : Addr} {xs : List V} (I : Inv X pins σ H s) (h : TZ H a xs) : ∃ o : Obj, s.heap.get? a = some o ∧ o.cls = .type "tuple" ∧ o.dict = none ∧ xs.length ≤ sizeLine ∧ ∃ (its : List Value) (n : Nat), Vals xs its ∧ o.data = .seq its.toArray n := by
  obtain ⟨o, ⟨c, d⟩, e⟩ := h
  obtain ⟨g, z, its, r, o2, g2, _, n, hd⟩ := I.hok a _ e
  rw [g] at g2
  cases g2
  exact ⟨o, g, c, d, z, its, n, r, hd⟩
/-- a new tuple -/
theorem laidZ {vs : List V} {us : List Value} {Q : VK} {k : Nat} (I : Inv X pins σ H s) (r : Vals vs us) (z : vs.length ≤ sizeLine) (h : ∀ q o, H q = none → ZO o → Q (.ref q) (upd H q (zT o vs))) :
    EP X pins σ Q (.ref s.heap.objs.size) { s with heap := s.heap.push { cls := .type "tuple", data := .seq us.toArray }, toks := k } := by
  have at_ := Heap.get?_push_size s.heap (o := { cls := .type "tuple", data := .seq us.toArray }) rfl
  exact ⟨V.ref s.heap.objs.size, upd H s.heap.objs.size (zT { cls := .type "tuple", data := .seq us.toArray } vs), I.laid (fun b u e => Heap.get?_push_of_some _ e) (Nat.le_refl _) ⟨at_, z, us, r, _, at_, rfl, _, rfl⟩, rfl, h _ _ (I.hok.fresh (Nat.le_refl _)) ⟨rfl, rfl⟩⟩
end
/-! ### (a, b, ..) -/
def tTupZ (t : TA) : TE := fun σ H Q => t σ H fun xs H1 => xs.length ≤ sizeLine ∧ ∀ p o, H1 p = none → ZO o → Q (.ref p) (upd H1 p (zT o xs))
theorem pe_tupZ {X : Cx} {es : List Expr} {ts : TA} {k : Nat} {pos : Pos} (h : PA X es ts) : PE X (.Tuple es k pos) (tTupZ ts) :=
  ⟨fun pins s σ H Q I hq => wpAny_Tuple_spliced (thn (h.run pos pins s σ H _ I hq) fun us s1 ⟨xs, H1, I1, r, z, q⟩ => ⟨r.length ▸ z, laidZ (k := s1.toks) I1 r z q⟩)⟩
/-! ### tuple(x) -/
def rTupZ (K : PySem.W.Frag) : List V → Hp → VK → Prop := fun xs H Q => ∃ p ys, xs = [.ref p] ∧ ((SqL K H p ys ∧ ∀ l o, H l = none → ZO o → Q (.ref l) (upd H l (zT o ys))) ∨ (SqT K H p ys ∧ Q (.ref p) H))
theorem call_tupZ {X : Cx} : CallR X (.type "tuple") (rTupZ X.K) := by
  intro pins s σ H xs us Q I r ⟨p, ys, ev, h⟩
  subst ev
  match us, r with
  | [_], .cons ru .nil =>
    cases ru
    rcases h with ⟨hl, q⟩ | ⟨ht, q⟩
    · obtain ⟨its, rv, pl, z⟩ := I.list hl
      refine call_tuple_list pl.isList (fun g kept => ?_) (by rw [List.size_toArray, ← rv.length]; exact z)
      exact laidZ (s := { s with heap := g }) (k := s.toks) (I.kept (t' := s.toks) kept) rv z q
    · obtain ⟨its, _, pt, _⟩ := I.tuple ht
      exact call_tuple_same pt ⟨.ref p, H, I, rfl, q⟩
/-! ### t[lo:hi] -/
def rSlZ (K : PySem.W.Frag) : V → Option Int → Option Int → Hp → VK → Prop := fun x lo hi H Q => ∃ a xs, x = .ref a ∧ SqT K H a xs ∧
  (HT.sIx xs.length 0 lo = 0 ∧ HT.sIx xs.length xs.length hi = xs.length → Q (.ref a) H) ∧ (¬ (HT.sIx xs.length 0 lo = 0 ∧ HT.sIx xs.length xs.length hi = xs.length) → ∀ p o, H p = none → ZO o → Q (.ref p) (upd H p (zT o (cutV xs lo hi))))
theorem sl_tupZ {X : Cx} : SlR X (rSlZ X.K) := by
  intro pins s σ H x v vl vu lo hi sl Q I rx hs pl pu ⟨a, xs, ev, hx, q1, q2⟩
  subst ev
  by_cases hw : HT.sIx xs.length 0 lo = 0 ∧ HT.sIx xs.length xs.length hi = xs.length
  · exact sl_tupA pins s σ H _ v vl vu lo hi sl Q I rx hs pl pu ⟨a, xs, rfl, hx, q1, fun n => absurd hw n⟩
  · cases rx
    obtain ⟨its, r, ht, z⟩ := I.tuple hx
    have e : its.toArray.size = xs.length := List.size_toArray.trans r.length.symm
    refine ⟨"tuple", _, PyProof.Rows.slot_tuple_getitem.lookup, ht.typeIs, HT.getItem_tuple_cut ht hs pl pu (by rw [e]; exact hw) ?_ (by rw [e]; exact z)⟩
    rw [e]
    exact laidZ (k := s.toks) I ((r.drop (HT.sIx xs.length 0 lo)).take (HT.sIx xs.length xs.length hi - HT.sIx xs.length 0 lo)) (Nat.le_trans (cutV_length xs lo hi) z) (q2 hw)
/-! ### t + u -/
def rCatZ (K : PySem.W.Frag) : R2 := fun x y H Q => ∃ a b xs ys, x = .ref a ∧ y = .ref b ∧ SqT K H a xs ∧ SqT K H b ys ∧ xs.length + ys.length ≤ sizeLine ∧
  (xs = [] → Q (.ref b) H) ∧ (xs ≠ [] → ys = [] → Q (.ref a) H) ∧ (xs ≠ [] → ys ≠ [] → ∀ p o, H p = none → ZO o → Q (.ref p) (upd H p (zT o (xs ++ ys))))
theorem op_catZ {X : Cx} : OpR X (binaryOp .Add) (rCatZ X.K) := by
  intro pins s σ H x y v u Q I rx ry ⟨a, b, xs, ys, e1, e2, ha, hb, z, q0, q1, q2⟩
  subst e1 e2
  by_cases n1 : xs = []
  · exact op_catA pins s σ H _ _ v u Q I rx ry ⟨a, b, xs, ys, rfl, rfl, ha, hb, z, q0, q1, fun n => absurd n1 n⟩
  by_cases n2 : ys = []
  · exact op_catA pins s σ H _ _ v u Q I rx ry ⟨a, b, xs, ys, rfl, rfl, ha, hb, z, q0, q1, fun _ n => absurd n2 n⟩
  cases rx
  cases ry
  obtain ⟨is, r1, p1, _⟩ := I.tuple ha
  obtain ⟨js, r2, p2, _⟩ := I.tuple hb
  refine HT.cat_tup p1 p2 (fun z => n1 (r1.nil_iff.mp z)) (fun z => absurd (r2.nil_iff.mp z) n2) (fun _ => ?_) (by rw [← r1.length, ← r2.length]; exact z)
  exact laidZ (k := s.toks) I (r1.append r2) (by rw [List.length_append]; exact z) (q2 n1 n2)
/-! ### tuple(reversed(x)), x a list -/
def tTupRevZ (K : PySem.W.Frag) (te : TE) : TE := fun σ H Q => te σ H fun v H1 => ∃ (a : Addr) (xs : List V), v = .ref a ∧ SqL K H1 a xs ∧ ∀ q o, H1 q = none → ZO o → Q (.ref q) (upd H1 q (zT o xs.reverse))
theorem pe_tupRevZ {X : Cx} {e : Expr} {te : TE} {p p2 pos pos2 : Pos} (calm : X.calm = true) (g1 : Gl X "tuple") (m1 : X.mg "tuple" = none) (g2 : Gl X "reversed") (m2 : X.mg "reversed" = none) (he : PE X e te)
    (st : starEach [e] X.env = (false, eval e X.env) :: starEach [] X.env := by rfl)
    (st2 : starEach [.Call (.Name "reversed" p2) [e] [] pos2] X.env = (false, eval (.Call (.Name "reversed" p2) [e] [] pos2) X.env) :: starEach [] X.env := by rfl) :
    PE X (.Call (.Name "tuple" p) [.Call (.Name "reversed" p2) [e] [] pos2] [] pos) (tTupRevZ X.K te) := by
  refine ⟨fun pins s σ H Q I h => Call_ (ld_blt I g1 m1 boot_tuple (callWith_type1 (args_cons (Call_ (ld_blt I g2 m2 boot_reversed (callWith_type1 (args_cons (thn (he.run pins s σ H _ I h) fun u s1 ⟨v, H1, I1, r1, q1⟩ => args_nil ?_) st) st rfl))) st2) st2 rfl))⟩
  obtain ⟨a, xs, ev, hl, q⟩ := q1
  subst ev
  cases r1
  obtain ⟨its, rv, pl, z⟩ := I1.list hl
  refine call_reversed_list pl.isList (args_nil ?_)
  have I2 : Inv X pins σ H1 { s1 with heap := s1.heap.push (revObj a ((its.toArray.size : Int) - 1)) } := I1.kept (t' := s1.toks) fun b o e => Heap.get?_push_of_some _ e
  have ⟨f0, f1, _, f3, f4, f5⟩ := I1.fpOk (H' := H1) (b := s1.heap.objs.size) (Nat.le_refl _) (I1.hok.fresh (Nat.le_refl _))
  have there := pl.isList
  have far : a ≠ s1.heap.objs.size := there.elim fun _ y => Nat.ne_of_lt (Heap.lt_size y.1)
  refine RT.call_tuple_rev (s := { s1 with heap := s1.heap.push (revObj a ((its.toArray.size : Int) - 1)) }) (I1.ok.hd calm) ⟨_, Heap.get?_push_size _ rfl, rfl, rfl⟩ (there.push _) far (by rw [List.size_toArray, ← rv.length]; exact z) fun g tk acc kept back => ?_
  have I3 : Inv X pins σ H1 { s1 with heap := g, toks := tk } := I2.turned (t' := tk) (fun b o nb e => kept b o nb e) f0 f1 f3 f4 f5
  have w := laidZ (k := tk) I3 (RT.vals_rev rv back) (by rw [List.length_reverse]; exact z) q
  rw [Array.toArray_toList] at w
  exact w

/-! ### t.count(x), t.index(x): methods of a tuple that the program made -/
section
variable {X : Cx}
def tBMZ (r : V → List V → Hp → VK → Prop) (to : TE) (t : TA) : TE := fun σ H Q => to σ H fun x H1 => (∃ a xs, x = .ref a ∧ TZ H1 a xs) ∧ t σ H1 fun zs H2 => r x zs H2 Q
theorem pe_bmZ {o e : Expr} {es : List Expr} {to : TE} {t : TA} {name : Str} {apos cpos : Pos} {id : String} {r : V → List V → Hp → VK → Prop}
    (slot : Slot "tuple" name id) (kind : typeOf (.builtin id) = pure (.type "method_descriptor")) (hm : MtR X id r) (ho : PE X o to) (ha : PA X (e :: es) t)
    (hbase : attributeBase o name X.env (eval o X.env) = eval o X.env := by rfl)
    (few : ((backTo cpos (starEach (e :: es) X.env)).all (fun x => !x.1) && (backToKw cpos (keywordEach [] X.env)).all (fun x => x.1.isSome)
      && decide ((e :: es).length + ([] : List Keyword).length + (if ([] : List Keyword).isEmpty then 0 else 1) < 30)) = true := by rfl)
    (line : (apos.endLine == cpos.line) = true := by rfl) (st : starEach (e :: es) X.env = (false, eval e X.env) :: starEach es X.env := by rfl) (plain : (backTo cpos (starEach es X.env)).any (·.1) = false := by rfl) :
    PE X (.Call (.Attribute o name apos) (e :: es) [] cpos) (tBMZ r to t) := by
  refine ⟨fun pins s σ H Q I h => wpAny_Call_method_late hbase few line rfl (thn (ho.run pins s σ H _ I h) fun v s1 ⟨x, H1, I1, r1, ⟨a, xs, ev, hz⟩, q1⟩ => ?_)⟩
  subst ev
  cases r1
  obtain ⟨ob, g, c, d, _⟩ := hz.obj I1
  refine ⟨"tuple", id, PySem.F.plainAttrs_tuple, slot, kind, ⟨ob, g, c⟩, fun b e => ?_, ?_⟩
  · cases e
    exact ⟨ob, g, d⟩
  · have args := ha.run cpos pins s1 σ H1 _ I1 q1
    rw [st] at args ⊢
    exact Calls.callWith_builtin (by show (false || (backTo cpos (starEach es X.env)).any (·.1)) = false; rw [plain] <;> rfl) (Calls.evalArgs_plain (thn args fun us s2 ⟨vs, H2, I2, r2, q2⟩ => hm pins s2 σ H2 (.ref a) vs _ us Q I2 rfl r2 q2))
/-- how often a number stands in a row -/
def rCntZ (K : PySem.W.Frag) : V → List V → Hp → VK → Prop := fun x zs H Q => ∃ (a : Addr) (ns : List Int) (k : Int), x = .ref a ∧ zs = [.int k] ∧ SqT K H a (ns.map V.int) ∧ Q (.int (ns.count k : Nat)) H
theorem mt_tcount : MtR X "tuple.count" (rCntZ X.K) := by
  intro pins s σ H x zs v us Q I rx rz ⟨a, ns, k, e1, e2, ht, q⟩
  subst e1 e2
  cases rx
  obtain ⟨u, rfl, t, rfl⟩ := rz.one
  obtain ⟨its, rv, ⟨⟨cls, dd, data, sl⟩, g, c, n, d⟩, _⟩ := I.tuple ht
  cases (show cls = _ from c)
  cases (show data = _ from d)
  have are := ints_of_vals rv
  refine call_meets PySem.F.slot_tuple_count ⟨_, g, rfl⟩ PySem.F.entry_tuple_count (PySem.F.args_tuple_count_2 _ _) (SeqAt.tuple_countAt a its.toArray n dd sl (.int k t) (eqk k)) ⟨g, fun y m => (eqk_gives are y (by simpa using m)).at _ _, .int (ns.count k : Nat), H, I.tok _, ⟨s.toks, ?_⟩, q⟩
  rw [show its.toArray.toList.countP (eqk k) = ns.count k from eqk_count are]
/-- where a number stands first -/
def rIdxZ (K : PySem.W.Frag) : V → List V → Hp → VK → Prop := fun x zs H Q => ∃ (a : Addr) (ns : List Int) (k : Int), x = .ref a ∧ zs = [.int k] ∧ SqT K H a (ns.map V.int) ∧ k ∈ ns ∧ Q (.int (ns.idxOf k : Nat)) H
theorem mt_tindex : MtR X "tuple.index" (rIdxZ X.K) := by
  intro pins s σ H x zs v us Q I rx rz ⟨a, ns, k, e1, e2, ht, mem, q⟩
  subst e1 e2
  cases rx
  obtain ⟨u, rfl, t, rfl⟩ := rz.one
  obtain ⟨its, rv, tup, _⟩ := I.tuple ht
  exact SeqAt.tuple_index_ints (vs := its) tup (intsAre_of rv) mem ⟨.int (ns.idxOf k : Nat), H, I.tok _, ⟨s.toks, rfl⟩, q⟩
end
end L2
end

-- EnumT
section
set_option Elab.async false
set_option linter.all false
set_option maxRecDepth 100000
set_option maxHeartbeats 4000000
/-! EnumT: for i, x in enumerate(t), t a tuple (enumerate with one argument, over whatever begins). -/
namespace EnT
open PySem PySem.Spec PyProof.Rows
open Sem (wp)
/-- the two objects of enumerate(v) in a heap of n places: v's iterator o at n, the enumerate object at n + 1 -/
def two (h : Heap) (o : Obj) : Heap := (h.push o).push { cls := .type "enumerate", data := .fields #[.none, .bool false, .ref h.objs.size, rawInt 0, .none, .none] }
theorem new1 {v : Value} {o : Obj} {H : Heap → Prop} (B : Begins v o H) :
    Meets (Builtin.«enumerate.__new__» ⟨[.type "enumerate", v], []⟩) (fun _ R s => H s.heap ∧ R (.ok (.ret (.ref (s.heap.push o).objs.size))) { s with heap := two s.heap o }) := by
  refine .of_wp fun prog w A R s h => ?_
  rcases s with ⟨hp, g, d, tk, os⟩
  rcases h with ⟨ready, h⟩
  have start : ∀ {A' : Around} {E : Value → Shared → Prop} {Q : Value → Shared → Prop}, Q (.ref hp.objs.size) ⟨hp.push o, g, d, tk, os⟩ → wpAny (model prog w) A' (pyIter v) Q E ⟨hp, g, d, tk, os⟩ := fun q => B.iter _ _ _ _ _ _ ready q
  have sub := sub_enumerate
  wp_walk using start
  refine wpAny_stack_any fun _ => wpAny_pure ?_
  split
  · rename_i c _ _ _ _ _
    cases (c == Value.type "enumerate") <;> (wp_walk using start; exact ⟨_, rfl, h⟩)
  · wp_walk using start
    exact ⟨_, rfl, h⟩
/-- what is known of them -/
structure Two (h h' : Heap) (o : Obj) : Prop where
  en : IsEnum h' (h.objs.size + 1) h.objs.size 0 .none
  it : h'.get? h.objs.size = some o
  old : ∀ b ob, h.get? b = some ob → h'.get? b = some ob
theorem two_is {h : Heap} {o : Obj} (free : o.isFreed = false) : Two h (two h o) o := by
  have n : (h.push o).objs.size = h.objs.size + 1 := Heap.size_push ..
  have top := Heap.get?_push_size (h.push o) (o := { cls := .type "enumerate", data := .fields #[.none, .bool false, .ref h.objs.size, rawInt 0, .none, .none] }) rfl
  exact ⟨n ▸ top, Heap.get?_push_of_some _ (Heap.get?_push_size _ free), fun b ob q => Heap.get?_push_of_some _ (Heap.get?_push_of_some _ q)⟩
theorem begin1 {prog : Program} {w : World} {A : Around} {E : Value → Shared → Prop} {s : Shared} {v : Value} {o : Obj} {H : Heap → Prop} {Q : Value → Shared → Prop} (B : Begins v o H) (ready : H s.heap)
    (h : Two s.heap (two s.heap o) o → Q (.ref (s.heap.objs.size + 1)) { s with heap := two s.heap o }) : wpAny (model prog w) A (call (.type "enumerate") [v]) Q E s := by
  have T := two_is (h := s.heap) B.free
  have n : (s.heap.push o).objs.size = s.heap.objs.size + 1 := Heap.size_push ..
  refine callType_new F.called_enumerate (by decide) (F.typeCall_enumerate_1 _) (F.newCall_enumerate_1 _) (fun obj => F.args_object_init_2 obj _) F.entry_enumerate_new (new1 B) ⟨ready, ?_⟩
  show _ ∧ _
  rw [n]
  exact ⟨⟨_, T.en, rfl⟩, h T⟩
end EnT
namespace L2
open PySem PySem.Spec PyProof.Rows
/-- a tuple or a list -/
def SqB (K : PySem.W.Frag) : Bool → Hp → Addr → List V → Prop
  | true => SqT K
  | false => SqL K
/-- its iterator -/
def ItB : Bool → Addr → Addr → Nat → Heap → Prop
  | true, it, a, i, h => h.IsTupleIter it a i
  | false, it, a, i, h => h.IsListIter it a i
def AtB : Bool → Addr → Array Value → Heap → Prop
  | true, a, xs, h => h.IsTuple a xs
  | false, a, xs, h => h.IsList a xs
def objB : Bool → Addr → Obj
  | true, a => { cls := .type "tuple_iterator", data := .fields #[.ref a, .int 0 0] }
  | false, a => { cls := .type "list_iterator", data := .fields #[.ref a, .int 0 0] }
theorem drawsB {prog : Program} {w : World} {A : Around} (hh : A.handled = none) : ∀ (t : Bool) (it a : Addr) (ne : a ≠ it) (xs : Array Value), Draws prog w A it [it, a] xs.size (fun i v => xs[i]? = some v) (fun i h => ItB t it a i h ∧ AtB t a xs h)
  | true, it, a, ne, xs => .tuple hh it a ne xs
  | false, it, a, ne, xs => .list hh it a ne xs
theorem beginsB : ∀ (t : Bool) (a : Addr) (xs : Array Value), Begins (.ref a) (objB t a) (AtB t a xs)
  | true, a, xs => begins_tuple a xs
  | false, a, xs => begins_list a xs
theorem itB_at : ∀ {t : Bool} {it a : Addr} {i : Nat} {h h' : Heap}, ItB t it a i h → (∀ o, h.get? it = some o → h'.get? it = some o) → ItB t it a i h'
  | true, _, _, _, _, _, x, k => Heap.IsTupleIter.at x k
  | false, _, _, _, _, _, x, k => Heap.IsListIter.at x k
theorem itB_obj : ∀ {t : Bool} {it a : Addr} {i : Nat} {h : Heap}, ItB t it a i h → ∃ o, h.get? it = some o ∧ o.data = .fields #[.ref a, .int i 0]
  | true, _, _, _, _, ⟨o, e, _, d⟩ => ⟨o, e, d⟩
  | false, _, _, _, _, ⟨o, e, _, d⟩ => ⟨o, e, d⟩
theorem itB_new : ∀ {t : Bool} {it a : Addr} {h : Heap}, h.get? it = some (objB t a) → ItB t it a 0 h
  | true, _, _, _, e => ⟨_, e, rfl, rfl⟩
  | false, _, _, _, e => ⟨_, e, rfl, rfl⟩
section
variable {X : Cx} {pins : List (Addr × Obj)} {σ : L2.St} {H : Hp} {s : Shared}
theorem seqB (I : Inv X pins σ H s) : ∀ {t : Bool} {a : Addr} {xs : List V}, SqB X.K t H a xs → ∃ its : List Value, Vals xs its ∧ AtB t a its.toArray s.heap ∧ a < s.heap.objs.size
  | true, _, _, q => by
    obtain ⟨its, r, p, _⟩ := I.tuple q
    exact ⟨its, r, p, p.elim fun _ z => Heap.lt_size z.1⟩
  | false, _, _, q => by
    obtain ⟨its, r, p, _⟩ := I.list q
    exact ⟨its, r, p.isList, p.lt⟩
theorem injB (I : Inv X pins σ H s) : ∀ {t : Bool} {a : Addr} {xs ys : List V}, SqB X.K t H a xs → SqB X.K t H a ys → xs = ys
  | true, _, _, _, q, q2 => I.tuple_inj q q2
  | false, _, _, _, q, q2 => I.list_inj q q2
end
/-- a new pair of the i-th of xs and the i-th of ys -/
def YPairZ (xs ys : Nat → Option V) : Nat → Hp → V → Hp → Prop := fun i H v H' => ∃ T x y, v = .ref T ∧ H T = none ∧ (∃ o, ZO o ∧ H' = upd H T (zT o [x, y])) ∧ xs i = some x ∧ ys i = some y
/-- the row at a, each of its items in a new pair behind its place -/
def IteB (K : PySem.W.Frag) (t : Bool) (a : Addr) : It where
  go i H := ∃ (xs : List V) (x : V), SqB K t H a xs ∧ xs[i]? = some x
  yld i H v H' := ∃ q x, v = .ref q ∧ H q = none ∧ (∃ o, ZO o ∧ H' = upd H q (zT o [.int (i : Nat), x])) ∧ ∀ xs, SqB K t H a xs → xs[i]? = some x
  stop i H := ∃ xs : List V, SqB K t H a xs ∧ i = xs.length
/-- e enumerates by the iterator it of the row at a, of which i items are drawn -/
structure EnSt (t : Bool) (a e it : Addr) (i : Nat) (h : Heap) : Prop where
  en : ∃ old, IsEnum h e it (i : Int) old
  it_ : ItB t it a i h
  ne : e ≠ it
  nai : a ≠ it
  nae : a ≠ e
theorem EnSt.lt_e {t : Bool} {a e it : Addr} {i : Nat} {h : Heap} (S : EnSt t a e it i h) : e < h.objs.size := S.en.elim fun _ q => Heap.lt_size q
theorem EnSt.lt_it {t : Bool} {a e it : Addr} {i : Nat} {h : Heap} (S : EnSt t a e it i h) : it < h.objs.size := (itB_obj S.it_).elim fun _ q => Heap.lt_size q.1
theorem EnSt.lt {t : Bool} {a e it : Addr} {i : Nat} {h : Heap} (S : EnSt t a e it i h) : ∀ b ∈ [e, it], b < h.objs.size := by
  simpa using And.intro S.lt_e S.lt_it
theorem two_mem {e it b : Addr} (h : b ∉ [e, it]) : b ≠ e ∧ b ≠ it := by simpa using h
theorem turn_enumB {P : Program} {w : World} {K : PySem.W.Frag} {elts : List Expr} {kk : Nat} {tpos : Pos} (t : Bool) (a e it : Addr) : Turn P w K (.Tuple elts kk tpos) (IteB K t a) [e, it] e (EnSt t a e it) where
  mem := List.mem_cons_self
  obj i h S b m := by
    rcases List.mem_cons.mp m with z | z
    · rw [z]
      exact S.en.elim fun _ q => ⟨_, q, fun _ y => nomatch y⟩
    · obtain ⟨o, q, d⟩ := itB_obj S.it_
      exact ⟨o, List.mem_singleton.mp z ▸ q, fun _ y => by rw [d] at y; cases y⟩
  keep i h h' S k := ⟨S.en.imp fun _ q => k e (List.mem_cons_self ..) _ q, itB_at S.it_ fun o q => k it (by simp) o q, S.ne, S.nai, S.nae⟩
  self A i s Q E S h := S.en.elim fun _ q => wpAny_pyIter_enum q h
  item := by
    intro X hP hw hK hc i pins s σ H E I own S go
    subst hP hw hK
    obtain ⟨old, en⟩ := S.en
    obtain ⟨xs, x, seq, hx⟩ := go
    obtain ⟨items, rel, row, _⟩ := seqB I seq
    obtain ⟨u, hu, ru⟩ := rel.get hx
    have lo := S.lt
    have draws := drawsB (prog := X.prog) (w := X.w) (A := X.A.in1) (I.ok.hd hc) t it a S.nai items.toArray
    refine wpAny_pyNext_enum_itemD draws en ⟨S.it_, row⟩ (by simpa using (List.getElem?_eq_some_iff.mp hu).1) S.ne (by simp [S.ne, Ne.symm S.nae]) fun y g tk drawn out next at_ _ kept => ?_
    obtain rfl : u = y := Option.some.inj (hu.symm.trans (by simpa using drawn))
    refine ⟨_, rfl, wpAny_letOwnedTupleGo_enum (s := { s with heap := g, toks := tk + 1 }) out fun g2 en2 same => ?_⟩
    have here := (same.2 _ (Nat.ne_of_gt S.lt_e)).trans at_
    have all : ∀ b ob, b ∉ [e, it] → s.heap.get? b = some ob → g2.get? b = some ob := fun b ob nb q => (same.2 b (two_mem nb).1).trans (kept b ob (two_mem nb).1 (two_mem nb).2 q)
    obtain ⟨ob, eb⟩ : ∃ ob : Obj, ob = { cls := .type "tuple", data := .seq #[.int i tk, u] } := ⟨_, rfl⟩
    rw [← eb] at here
    have new : ObjOk X.prog X.w (upd H s.heap.objs.size (zT ob [.int (i : Nat), x])) g2 s.heap.objs.size (zT ob [.int (i : Nat), x]) :=
      ⟨here, by show 2 ≤ sizeLine; decide, [.int i tk, u], .cons ⟨tk, rfl⟩ (.cons ru .nil), _, here, by rw [eb], 0, by rw [eb]⟩
    refine ⟨.ref s.heap.objs.size, _, I.turnedNew (t' := tk + 1) all own (Nat.le_refl _) new, rfl, ⟨_, x, rfl, I.hok.fresh (Nat.le_refl _), ⟨ob, ⟨by rw [eb], by rw [eb]⟩, rfl⟩, fun ys q => injB I q seq ▸ hx⟩, ⟨⟨u, ?_⟩, itB_at next.1 fun o q => (same.2 it S.ne.symm).trans q, S.ne, S.nai, S.nae⟩, fun b m => ?_⟩
    · rw [show ((i + 1 : Nat) : Int) = (i : Int) + 1 by omega]
      exact en2
    · exact (upd_ne (Nat.ne_of_lt (lo b m))).trans (own b m).1
  done := by
    intro X hP hw hK hc i pins s σ H E I own S stop
    subst hP hw hK
    obtain ⟨old, en⟩ := S.en
    obtain ⟨xs, seq, rfl⟩ := stop
    obtain ⟨items, rel, row, _⟩ := seqB I seq
    have ⟨_, f1, _, f3, f4, f5⟩ := own it (by simp)
    have draws := drawsB (prog := X.prog) (w := X.w) (A := X.A.in1) (I.ok.hd hc) t it a S.nai items.toArray
    have len : xs.length = items.toArray.size := by rw [List.size_toArray]; exact rel.length
    refine wpAny_pyNext_enum_endD draws en ⟨len ▸ S.it_, row⟩ fun g kept => ?_
    exact ⟨rfl, I.turned (t' := s.toks) (fun b o nb q => kept b o nb q) (own it (by simp)).1 f1 f3 f4 f5⟩
def iEnumB (K : PySem.W.Frag) (t : Bool) (ta : TA) : TI := fun σ H R => ta σ H fun vs H1 => ∃ a xs, vs = [.ref a] ∧ SqB K t H1 a xs ∧ R (IteB K t a) H1
theorem pi_enumB {X : Cx} (t : Bool) {e : Expr} {ta : TA} {p pos tpos : Pos} {elts : List Expr} {kk : Nat} (hg : Gl X "enumerate") (hm : X.mg "enumerate" = none) (ha : PA X [e] ta) (hs : starEach [e] X.env = [(false, eval e X.env)] := by rfl) :
    PI X (.Tuple elts kk tpos) (.Call (.Name "enumerate" p) [e] [] pos) (iEnumB X.K t ta) := by
  refine ⟨fun pins s σ H R I h => ?_⟩
  refine Call_ (ld_blt I hg hm boot_enumerate (callWith_type1 (thn (ha.run pos pins s σ H _ I h) fun us s1 done => ?_) hs rfl))
  obtain ⟨vs, H1, I1, r1, q⟩ := done
  obtain ⟨a, xs, ev, seq, q⟩ := q
  subst ev
  match us, r1 with
  | [_], .cons rfl .nil =>
    obtain ⟨items, _, row, la⟩ := seqB I1 seq
    refine EnT.begin1 (beginsB t a items.toArray) row fun T => wpAny_pyIter_enum T.en ?_
    refine ⟨_, [_, _], _, _, H1, rfl, I1.kept (t' := s1.toks) T.old, turn_enumB t a _ _, ⟨⟨_, T.en⟩, itB_new T.it, Nat.succ_ne_self _, Nat.ne_of_lt la, Nat.ne_of_lt (Nat.lt_succ_of_lt la)⟩, fun b m => ?_, q⟩
    have big : s1.heap.objs.size ≤ b := by
      rcases List.mem_cons.mp m with z | z
      · exact z ▸ Nat.le_succ _
      · exact Nat.le_of_eq (List.mem_singleton.mp z).symm
    exact I1.fpOk big (I1.hok.fresh big)
theorem walk_enumB {K : PySem.W.Frag} {t : Bool} {a : Addr} {xs : List V} : Walk (IteB K t a) xs.length (fun H => SqB K t H a xs) (YPairZ (fun i => some (.int (i : Nat))) (fun i => xs[i]?)) where
  goes i _ lt q := ⟨xs, xs[i], q, List.getElem?_eq_getElem lt⟩
  stops _ q := ⟨xs, q, rfl⟩
  yields i H v H' _ q y := y.elim fun T z => z.elim fun x ⟨h1, h2, h3, h4⟩ => ⟨T, _, x, h1, h2, h3, rfl, h4 xs q⟩
abbrev IteT (K : PySem.W.Frag) (a : Addr) := IteB K true a
abbrev iEnumT (K : PySem.W.Frag) (ta : TA) := iEnumB K true ta
theorem pi_enumT {X : Cx} {e : Expr} {ta : TA} {p pos tpos : Pos} {elts : List Expr} {kk : Nat} (hg : Gl X "enumerate") (hm : X.mg "enumerate" = none) (ha : PA X [e] ta) (hs : starEach [e] X.env = [(false, eval e X.env)] := by rfl) :
    PI X (.Tuple elts kk tpos) (.Call (.Name "enumerate" p) [e] [] pos) (iEnumT X.K ta) := pi_enumB true hg hm ha hs
theorem walk_enumT {K : PySem.W.Frag} {a : Addr} {xs : List V} : Walk (IteT K a) xs.length (fun H => SqT K H a xs) (YPairZ (fun i => some (.int (i : Nat))) (fun i => xs[i]?)) := walk_enumB
end L2
end

-- Rel
section
set_option Elab.async false
set_option linter.all false
set_option maxRecDepth 100000
set_option maxHeartbeats 4000000
/-! Rel: what a def leaves of the heap; data of tuples; the drawn source. -/
namespace R
open PySem PySem.Spec PyProof.Rows L2 LamX NdefX
/-! ### data that stands in tuples -/
mutual
inductive Tp (H : Hp) : V → PyData → Prop
  | non : Tp H .non .none
  | bl (b : Bool) : Tp H (.bl b) (.bool b)
  | int (i : Int) : Tp H (.int i) (.int i)
  | str (x : Str) : Tp H (.str x) (.str x)
  | tup {a : Addr} {xs : List V} {ds : List PyData} : TZ H a xs → Tps H xs ds → Tp H (.ref a) (.tuple ds)
inductive Tps (H : Hp) : List V → List PyData → Prop
  | nil : Tps H [] []
  | cons {v : V} {vs : List V} {d : PyData} {ds : List PyData} : Tp H v d → Tps H vs ds → Tps H (v :: vs) (d :: ds)
end
def TK (H H' : Hp) : Prop := ∀ a xs, TZ H a xs → TZ H' a xs
theorem TK.refl (H : Hp) : TK H H := fun _ _ h => h
theorem TK.trans {H H1 H2 : Hp} (a : TK H H1) (b : TK H1 H2) : TK H H2 := fun c xs h => b c xs (a c xs h)
theorem TK.new {H : Hp} {p : Addr} {o : HO} (h : H p = none) : TK H (upd H p o) := fun a xs e => e.upd (e.ne h)
theorem TK.lst {H : Hp} {p : Addr} {xs : List V} {o : HO} (h : H p = some (.lst xs)) : TK H (upd H p o) := fun a ys e => e.upd (e.neL h)
mutual
theorem Tp.mono {H H' : Hp} (k : TK H H') : ∀ {v : V} {d : PyData}, Tp H v d → Tp H' v d
  | _, _, .non => .non
  | _, _, .bl b => .bl b
  | _, _, .int i => .int i
  | _, _, .str x => .str x
  | _, _, .tup h t => .tup (k _ _ h) (Tps.mono k t)
theorem Tps.mono {H H' : Hp} (k : TK H H') : ∀ {vs : List V} {ds : List PyData}, Tps H vs ds → Tps H' vs ds
  | _, _, .nil => .nil
  | _, _, .cons h t => .cons (Tp.mono k h) (Tps.mono k t)
end
mutual
theorem Tp.dp {K : PySem.W.Frag} {H : Hp} : ∀ {v : V} {d : PyData}, Tp H v d → Dp K H v d
  | _, _, .non => .non
  | _, _, .bl b => .bl b
  | _, _, .int i => .int i
  | _, _, .str x => .str x
  | _, _, .tup h t => .tup h.sq (Tps.dp t)
theorem Tps.dp {K : PySem.W.Frag} {H : Hp} : ∀ {vs : List V} {ds : List PyData}, Tps H vs ds → DpAll K H vs ds
  | _, _, .nil => .nil
  | _, _, .cons h t => .cons (Tp.dp h) (Tps.dp t)
end
theorem Tps.length {H : Hp} : ∀ {vs : List V} {ds : List PyData}, Tps H vs ds → vs.length = ds.length
  | _, _, .nil => rfl
  | _, _, .cons _ t => by
    rw [List.length_cons, List.length_cons, Tps.length t]
theorem Tps.get {H : Hp} : ∀ {vs : List V} {ds : List PyData} {i : Nat} {v : V}, Tps H vs ds → vs[i]? = some v → ∃ d, ds[i]? = some d ∧ Tp H v d
  | _, _, _, _, .nil, e => by simp at e
  | _, _, 0, _, .cons h _, e => by simp at e; subst e; exact ⟨_, rfl, h⟩
  | _, _, i + 1, v, .cons _ t, e => by
    obtain ⟨d, h1, h2⟩ := Tps.get (i := i) (v := v) t (by simpa using e)
    exact ⟨d, by simpa using h1, h2⟩
theorem Tps.getD {H : Hp} : ∀ {vs : List V} {ds : List PyData} {i : Nat} {d : PyData}, Tps H vs ds → ds[i]? = some d → ∃ v, vs[i]? = some v ∧ Tp H v d
  | _, _, _, _, .nil, e => by simp at e
  | _, _, 0, _, .cons h _, e => by simp at e; subst e; exact ⟨_, rfl, h⟩
  | _, _, i + 1, v, .cons _ t, e => by
    obtain ⟨d, h1, h2⟩ := Tps.getD (i := i) (d := v) t (by simpa using e)
    exact ⟨d, by simpa using h1, h2⟩
theorem Tps.append {H : Hp} : ∀ {vs ws : List V} {ds es : List PyData}, Tps H vs ds → Tps H ws es → Tps H (vs ++ ws) (ds ++ es)
  | _, _, _, _, .nil, t => t
  | _, _, _, _, .cons h t, u => .cons h (Tps.append t u)
theorem Tps.erase {H : Hp} : ∀ {vs : List V} {ds : List PyData} (i : Nat), Tps H vs ds → Tps H (vs.eraseIdx i) (ds.eraseIdx i)
  | _, _, _, .nil => .nil
  | _, _, 0, .cons _ t => t
  | _, _, i + 1, .cons h t => .cons h (Tps.erase i t)
theorem Tps.ints {H : Hp} : ∀ (ns : List Int), Tps H (ns.map V.int) (ns.map PyData.int)
  | [] => .nil
  | n :: r => .cons (.int n) (Tps.ints r)
theorem Tps.ints_of {H : Hp} : ∀ {vs : List V} {ns : List Int}, Tps H vs (ns.map PyData.int) → vs = ns.map V.int
  | _, [], h => by cases h; rfl
  | _, n :: r, h => by
    cases h with
    | cons h1 h2 =>
      cases h1
      rw [Tps.ints_of h2] <;> rfl
/-! ### pairs of numbers -/
def prD (p : Int × Int) : PyData := .tuple [.int p.1, .int p.2]
def lkD (ps : List (Int × Int)) : List PyData := ps.map prD
theorem tp_pr {H : Hp} {v : V} {p : Int × Int} (h : Tp H v (prD p)) : ∃ a, v = .ref a ∧ TZ H a [.int p.1, .int p.2] := by
  cases h with
  | tup h t => exact ⟨_, rfl, by rw [Tps.ints_of (ns := [p.1, p.2]) t] at h; exact h⟩
theorem pr_tp {H : Hp} {a : Addr} {i j : Int} (h : TZ H a [.int i, .int j]) : Tp H (.ref a) (prD (i, j)) := .tup h (.cons (.int i) (.cons (.int j) .nil))
/-! ### the drawn source: a list of two numbers -/
def BIG : Nat := 1048600
def Src (H : Hp) (a : Addr) : Prop := ∃ x y : Int, H a = some (.lst [.int x, .int y]) ∧ 0 ≤ x ∧ x.natAbs < 2 ^ BIG ∧ 0 ≤ y ∧ y < 2147483647
/-! ### what is left as it was -/
structure Ext (T : List NTab) (so : Option Addr) (H H' : Hp) : Prop where
  kp : ∀ b o, some b ≠ so → (∀ ps, o ≠ .tbl ps) → H b = some o → H' b = some o
  tb : TabsN T H → TabsN T H'
  sr : ∀ a, so = some a → Src H a → Src H' a
  fr : ∀ b, H' b = none → H b = none
section
variable {T : List NTab} {so : Option Addr} {H H1 H2 : Hp} {a : Addr}
theorem Ext.refl (T : List NTab) (so : Option Addr) (H : Hp) : Ext T so H H := ⟨fun _ _ _ _ h => h, fun h => h, fun _ _ h => h, fun _ h => h⟩
theorem Ext.trans (x : Ext T so H H1) (y : Ext T so H1 H2) : Ext T so H H2 := ⟨fun b o n t h => y.kp b o n t (x.kp b o n t h), fun h => y.tb (x.tb h), fun b e h => y.sr b e (x.sr b e h), fun b h => x.fr b (y.fr b h)⟩
theorem upd_none' {H : Hp} {a b : Addr} {o : HO} (e : upd H a o b = none) : H b = none := by
  unfold upd at e
  split at e
  · cases e
  · exact e
theorem tabs_new {H : Hp} {p : Addr} {o : HO} (n : H p = none) (h : TabsN T H) : TabsN T (upd H p o) := h.ext fun b u e => by
  rw [upd_ne (ne_of_none e n)]
  exact e
/-- a new object -/
theorem Ext.new {p : Addr} {o : HO} (n : H p = none) : Ext T so H (upd H p o) :=
  ⟨fun b u _ _ e => by rw [upd_ne (ne_of_none e n)]; exact e, tabs_new n, fun b e ⟨x, y, h, r⟩ => ⟨x, y, by rw [upd_ne (ne_of_none h n)]; exact h, r⟩, fun b e => upd_none' e⟩
/-- an object that the beginning does not know is changed -/
theorem Ext.mut {p : Addr} {o u : HO} (x : Ext T so H H1) (n : H p = none) (h1 : H1 p = some u) (nt : ∀ ps, u ≠ .tbl ps) (nc : ∀ c q, u ≠ CodeO c q) (ns : so ≠ some p) : Ext T so H (upd H1 p o) :=
  ⟨fun b w a b' e => by rw [upd_ne (ne_of_none e n)]; exact x.kp b w a b' e, fun h => by
    have q := x.tb h
    intro t ht
    obtain ⟨ps, a1, a2, a3⟩ := q t ht
    refine ⟨ps, by rw [upd_ne (ne_of a1 h1 (Ne.symm (nt ps)))]; exact a1, a2, fun pos cv hc => ?_⟩
    obtain ⟨c, e1, e2⟩ := a3 pos cv hc
    exact ⟨c, e1, by rw [upd_ne (ne_of e2 h1 (Ne.symm (nc c _)))]; exact e2⟩,
   fun b e q => by
    obtain ⟨x', y', h', r⟩ := x.sr b e q
    exact ⟨x', y', by rw [upd_ne (fun z => ns (by rw [e, z]))]; exact h', r⟩, fun b e => x.fr b (upd_none' e)⟩
theorem lst_nt {xs : List V} (ps : Array Value) : (HO.lst xs) ≠ .tbl ps := fun z => by cases z
theorem lst_nc {xs : List V} (c : Addr) (q : Str) : (HO.lst xs) ≠ CodeO c q := fun z => by
  unfold CodeO at z
  cases z
theorem tup_nt {xs : List V} (ps : Array Value) : (HO.tup xs) ≠ .tbl ps := fun z => by cases z
theorem ins_nt {C d : Addr} {fs : List (Str × V)} (ps : Array Value) : (HO.ins C d fs) ≠ .tbl ps := fun z => by cases z
theorem ins_nc {C d : Addr} {fs : List (Str × V)} (c : Addr) (q : Str) : (HO.ins C d fs) ≠ CodeO c q := fun z => by
  unfold CodeO at z
  cases z
theorem own_nt {x : Addr} (ps : Array Value) : (HO.own x) ≠ .tbl ps := fun z => by cases z
theorem frz_nt {o : Obj} {u : HO} (ps : Array Value) : (HO.frz o u) ≠ .tbl ps := fun z => by cases z
theorem Ext.mutL {p : Addr} {o : HO} {xs : List V} (x : Ext T so H H1) (n : H p = none) (h1 : H1 p = some (.lst xs)) (ns : so ≠ some p) : Ext T so H (upd H1 p o) := x.mut n h1 lst_nt lst_nc ns
/-- nothing but new objects: so the source is left too -/
theorem Ext.toS (x : Ext T none H H1) : Ext T so H H1 := ⟨fun b o _ t h => x.kp b o (fun z => nomatch z) t h, x.tb, fun b _ ⟨i, j, h, r⟩ => ⟨i, j, x.kp b _ (fun z => nomatch z) lst_nt h, r⟩, x.fr⟩
theorem Ext.tup {xs : List V} (x : Ext T none H H1) (h : TZ H a xs) : TZ H1 a xs := h.elim fun o h => ⟨o, h.1, x.kp a _ (fun z => nomatch z) frz_nt h.2⟩
theorem Ext.lst {xs : List V} (x : Ext T none H H1) (h : H a = some (.lst xs)) : H1 a = some (.lst xs) := x.kp a _ (fun z => nomatch z) lst_nt h
theorem Ext.ins {C d : Addr} {fs : List (Str × V)} (x : Ext T none H H1) (h : H a = some (.ins C d fs)) : H1 a = some (.ins C d fs) := x.kp a _ (fun z => nomatch z) ins_nt h
theorem Ext.tk (x : Ext T none H H1) : TK H H1 := fun _ _ h => x.tup h
/-- with the source: it is a list -/
theorem Ext.tkS {s : Addr} (x : Ext T (some s) H H1) (q : Src H s) : TK H H1 := fun a xs ⟨ob, zo, h⟩ => ⟨ob, zo, x.kp a _ (fun z => by
  obtain ⟨i, j, e, _⟩ := q
  rw [Option.some.inj z, e] at h
  cases h) frz_nt h⟩
theorem Ext.insS {s C d : Addr} {fs : List (Str × V)} (x : Ext T (some s) H H1) (q : Src H s) (h : H a = some (.ins C d fs)) : H1 a = some (.ins C d fs) := x.kp a _ (fun z => by
  obtain ⟨i, j, e, _⟩ := q
  rw [Option.some.inj z, e] at h
  cases h) ins_nt h
theorem Ext.lstS {s : Addr} {xs : List V} (x : Ext T (some s) H H1) (n : a ≠ s) (h : H a = some (.lst xs)) : H1 a = some (.lst xs) := x.kp a _ (fun z => n (Option.some.inj z)) lst_nt h
theorem Ext.src {s : Addr} (x : Ext T (some s) H H1) (q : Src H s) : Src H1 s := x.sr s rfl q
theorem Ext.same (x : Same H H1) (fr : ∀ b, H1 b = none → H b = none) : Ext T so H H1 := ⟨fun b o _ _ h => x b o h, fun h => h.ext x, fun b _ ⟨i, j, h, r⟩ => ⟨i, j, x b _ h, r⟩, fr⟩
theorem new_ne {b : Addr} (n : H b = none) {o : HO} (h : H a = some o) : a ≠ b := ne_of_none h n
end
/-! ### three comparisons in a row -/
def tChain3 (r r' r'' : R2) (ta tb tc td : TE) : TE := fun σ H Q => ta σ H fun x H1 => tb σ H1 fun y H2 => r x y H2 fun z H3 => ∃ k, z = .bl k ∧
  (if k = true then tc σ H3 fun w H4 => r' y w H4 fun z' H5 => ∃ k', z' = .bl k' ∧ (if k' = true then td σ H5 fun u H6 => r'' w u H6 Q else Q (.bl false) H5) else Q (.bl false) H3)
theorem pe_chain3 {X : Cx} {a b c d : Expr} {ta tb tc td : TE} {pos : Pos} {op op' op'' : CmpOp} {r r' r'' : R2} (ho : OpR X (compareOp op) r) (ho' : OpR X (compareOp op') r') (ho'' : OpR X (compareOp op'') r'') (ha : PE X a ta) (hb : PE X b tb) (hc : PE X c tc) (hd : PE X d td)
    (hm : lastMarks [op, op', op''] [b, c, d] = false := by with_unfolding_all rfl) : PE X (.Compare a [op, op', op''] [b, c, d] pos) (tChain3 r r' r'' ta tb tc td) := by
  refine ⟨fun pins s σ H Q I h => ?_⟩
  refine Compare_chain (thn (ha.run pins s σ H _ I h) fun v s1 ⟨x, H1, I1, r1, q1⟩ => chain_link (thn (hb.run pins s1 σ H1 _ I1 q1) fun u s2 ⟨y, H2, I2, r2, q2⟩ =>
    thn (ho pins s2 σ H2 x y v u _ I2 r1 r2 q2) fun d s3 ⟨z, H3, I3, r3, k, e, q3⟩ => ?_)) hm
  subst e
  cases r3
  refine wpAny_truthy_bool ?_
  cases k with
  | false => exact ite_ff ⟨.bl false, H3, I3, rfl, q3⟩
  | true =>
    refine ite_tt (chain_link (thn (hc.run pins s3 σ H3 _ I3 q3) fun w' s4 ⟨z', H4, I4, r4, q4⟩ => thn (ho' pins s4 σ H4 y z' u w' _ I4 r2 r4 q4) fun d2 s5 ⟨z2, H5, I5, r5, k2, e2, q5⟩ => ?_))
    subst e2
    cases r5
    refine wpAny_truthy_bool ?_
    cases k2 with
    | false => exact ite_ff ⟨.bl false, H5, I5, rfl, q5⟩
    | true => exact ite_tt (chain_last (thn (hd.run pins s5 σ H5 _ I5 q5) fun w2 s6 ⟨z3, H6, I6, r6, q6⟩ => ho'' pins s6 σ H6 z' z3 w' w2 Q I6 r4 r6 q6))
/-! ### where a def of the text stands -/
structure DefAt (K : PySem.W.Frag) (mg : Str → Option Value) (x qual : Str) (st : Stmt) (ps : List Str) (f : Addr) (fd : FuncData) : Prop where
  fn : Fun K x qual st f fd
  bd : L2.Binds K fd ps []
theorem iteB {c : Bool} {A B : Prop} (h1 : c = true → A) (h2 : c = false → B) : if c = true then A else B := by
  cases c with
  | true => exact iteT (h1 rfl)
  | false => exact iteF (h2 rfl)
end R
end

-- PuA
section
set_option Elab.async false
set_option linter.all false
set_option maxRecDepth 100000
set_option maxHeartbeats 4000000
/-! PuA: values without a heap; how slots and heap hold them; what evaluation may do. -/
namespace Pu
open PySem PySem.Spec PyProof.Rows L2 LamX NdefX
abbrev D := PyData
/-- a slot: unbound; a thing that no one changes any more; a list of one's own; a caller's list that is changed -/
inductive S where
  | un | v (d : D) | own (xs : List D) | io (xs : List D)
  /-- an error that was caught: its class, its what -/
  | exc (cl : Str) (w : D)
  /-- the law's own row of numbers -/
  | scr (ns : List Int)
abbrev Env := List S
/-- what an expression tells: a thing, a new list, the i-th slot -/
inductive Rk where
  | v (d : D) | own (xs : List D) | sl (i : Nat)
inductive Res (α : Type) where
  | ok (r : α) (ρ : Env) | ex (c : Str) (w : D) (ρ : Env) | no
def Res.bind {α β : Type} : Res α → (α → Env → Res β) → Res β
  | .ok r ρ, g => g r ρ
  | .ex c w ρ, _ => .ex c w ρ
  | .no, _ => .no
@[simp] theorem Res.bind_ok {α β : Type} {r : α} {ρ : Env} {g : α → Env → Res β} : (Res.ok r ρ).bind g = g r ρ := rfl
@[simp] theorem Res.bind_ex {α β : Type} {c : Str} {w : D} {ρ : Env} {g : α → Env → Res β} : (Res.ex c w ρ : Res α).bind g = .ex c w ρ := rfl
@[simp] theorem Res.bind_no {α β : Type} {g : α → Env → Res β} : (Res.no : Res α).bind g = .no := rfl
mutual
inductive Rv (cm : Str → Option Addr) (F : Addr → Prop) (H : Hp) : V → D → Prop
  | non : Rv cm F H .non .none
  | bl (b : Bool) : Rv cm F H (.bl b) (.bool b)
  | int (i : Int) : Rv cm F H (.int i) (.int i)
  | str (x : Str) : Rv cm F H (.str x) (.str x)
  | tup {a : Addr} {vs : List V} {ds : List D} : TZ H a vs → Rvs cm F H vs ds → Rv cm F H (.ref a) (.tuple ds)
  | lst {a : Addr} {vs : List V} {ds : List D} : F a → H a = some (.lst vs) → Rvs cm F H vs ds → Rv cm F H (.ref a) (.list ds)
  | ob {a C dx : Addr} {cl : Str} {fs : List (Str × V)} {ds : List (D × D)} : cm cl = some C → H a = some (.ins C dx fs) → Rfs cm F H fs ds → Rv cm F H (.ref a) (.dict ((.none, .str cl) :: ds))
  /-- a def of the module, as a thing -/
  | fn {a : Addr} {q : Str} : cm q = some a → Rv cm F H (.ref a) (.dict [(.str q, .none)])
inductive Rvs (cm : Str → Option Addr) (F : Addr → Prop) (H : Hp) : List V → List D → Prop
  | nil : Rvs cm F H [] []
  | cons {v : V} {vs : List V} {d : D} {ds : List D} : Rv cm F H v d → Rvs cm F H vs ds → Rvs cm F H (v :: vs) (d :: ds)
inductive Rfs (cm : Str → Option Addr) (F : Addr → Prop) (H : Hp) : List (Str × V) → List (D × D) → Prop
  | nil : Rfs cm F H [] []
  | cons {x : Str} {v : V} {fs : List (Str × V)} {d : D} {ds : List (D × D)} : Rv cm F H v d → Rfs cm F H fs ds → Rfs cm F H ((x, v) :: fs) ((.str x, d) :: ds)
end
def Keep (F : Addr → Prop) (a : Addr) : HO → Prop
  | .tup _ => True | .lst _ => F a | .ins _ _ _ => True | .xd _ => True | .frz _ _ => True | _ => False
structure Le (F : Addr → Prop) (H : Hp) (F' : Addr → Prop) (H' : Hp) : Prop where
  f : ∀ a, F a → F' a
  h : ∀ a o, Keep F a o → H a = some o → H' a = some o
theorem Le.refl (F : Addr → Prop) (H : Hp) : Le F H F H := ⟨fun _ h => h, fun _ _ _ h => h⟩
theorem Le.tz {F F' : Addr → Prop} {H H' : Hp} (l : Le F H F' H') {a : Addr} {xs : List V} (h : TZ H a xs) : TZ H' a xs := h.elim fun o h => ⟨o, h.1, l.h _ _ trivial h.2⟩
theorem Keep.mono {F F' : Addr → Prop} (f : ∀ a, F a → F' a) {a : Addr} {o : HO} (h : Keep F a o) : Keep F' a o := by
  cases o <;> first | exact f a h | exact h
theorem Le.trans {F F1 F2 : Addr → Prop} {H H1 H2 : Hp} (a : Le F H F1 H1) (b : Le F1 H1 F2 H2) : Le F H F2 H2 := ⟨fun c h => b.f c (a.f c h), fun c o k h => b.h c o (k.mono a.f) (a.h c o k h)⟩
section
variable {cm : Str → Option Addr} {F F' : Addr → Prop} {H H' : Hp}
mutual
theorem Rv.mono (k : Le F H F' H') : ∀ {v : V} {d : D}, Rv cm F H v d → Rv cm F' H' v d
  | _, _, .non => .non
  | _, _, .bl b => .bl b
  | _, _, .int i => .int i
  | _, _, .str x => .str x
  | _, _, .tup h t => .tup (k.tz h) (Rvs.mono k t)
  | _, _, .lst f h t => .lst (k.f _ f) (k.h _ _ f h) (Rvs.mono k t)
  | _, _, .ob c h t => .ob c (k.h _ _ trivial h) (Rfs.mono k t)
  | _, _, .fn c => .fn c
theorem Rvs.mono (k : Le F H F' H') : ∀ {vs : List V} {ds : List D}, Rvs cm F H vs ds → Rvs cm F' H' vs ds
  | _, _, .nil => .nil
  | _, _, .cons h t => .cons (Rv.mono k h) (Rvs.mono k t)
theorem Rfs.mono (k : Le F H F' H') : ∀ {fs : List (Str × V)} {ds : List (D × D)}, Rfs cm F H fs ds → Rfs cm F' H' fs ds
  | _, _, .nil => .nil
  | _, _, .cons h t => .cons (Rv.mono k h) (Rfs.mono k t)
end
theorem Rvs.length : ∀ {vs : List V} {ds : List D}, Rvs cm F H vs ds → vs.length = ds.length
  | _, _, .nil => rfl
  | _, _, .cons _ t => by rw [List.length_cons, List.length_cons, Rvs.length t]
theorem Rvs.get : ∀ {vs : List V} {ds : List D} {i : Nat} {v : V}, Rvs cm F H vs ds → vs[i]? = some v → ∃ d, ds[i]? = some d ∧ Rv cm F H v d
  | _, _, _, _, .nil, e => by simp at e
  | _, _, 0, _, .cons h _, e => by simp at e; subst e; exact ⟨_, rfl, h⟩
  | _, _, i + 1, v, .cons _ t, e => by
    obtain ⟨d, h1, h2⟩ := Rvs.get (i := i) (v := v) t (by simpa using e)
    exact ⟨d, by simpa using h1, h2⟩
theorem Rvs.getD : ∀ {vs : List V} {ds : List D} {i : Nat} {d : D}, Rvs cm F H vs ds → ds[i]? = some d → ∃ v, vs[i]? = some v ∧ Rv cm F H v d
  | _, _, _, _, .nil, e => by simp at e
  | _, _, 0, _, .cons h _, e => by simp at e; subst e; exact ⟨_, rfl, h⟩
  | _, _, i + 1, d, .cons _ t, e => by
    obtain ⟨v, h1, h2⟩ := Rvs.getD (i := i) (d := d) t (by simpa using e)
    exact ⟨v, by simpa using h1, h2⟩
theorem Rvs.append : ∀ {vs ws : List V} {ds es : List D}, Rvs cm F H vs ds → Rvs cm F H ws es → Rvs cm F H (vs ++ ws) (ds ++ es)
  | _, _, _, _, .nil, t => t
  | _, _, _, _, .cons h t, u => .cons h (Rvs.append t u)
theorem Rvs.take : ∀ {vs : List V} {ds : List D} (n : Nat), Rvs cm F H vs ds → Rvs cm F H (vs.take n) (ds.take n)
  | _, _, 0, _ => .nil
  | _, _, _ + 1, .nil => .nil
  | _, _, n + 1, .cons h t => .cons h (Rvs.take n t)
theorem Rvs.drop : ∀ {vs : List V} {ds : List D} (n : Nat), Rvs cm F H vs ds → Rvs cm F H (vs.drop n) (ds.drop n)
  | _, _, 0, h => h
  | _, _, _ + 1, .nil => .nil
  | _, _, n + 1, .cons _ t => Rvs.drop n t
theorem Rvs.erase : ∀ {vs : List V} {ds : List D} (i : Nat), Rvs cm F H vs ds → Rvs cm F H (vs.eraseIdx i) (ds.eraseIdx i)
  | _, _, _, .nil => .nil
  | _, _, 0, .cons _ t => t
  | _, _, i + 1, .cons h t => .cons h (Rvs.erase i t)
theorem Rvs.set {v : V} {d : D} (r : Rv cm F H v d) : ∀ {vs : List V} {ds : List D} (i : Nat), Rvs cm F H vs ds → Rvs cm F H (vs.set i v) (ds.set i d)
  | _, _, _, .nil => .nil
  | _, _, 0, .cons _ t => .cons r t
  | _, _, i + 1, .cons h t => .cons h (Rvs.set r i t)
theorem Rvs.ints : ∀ (ns : List Int), Rvs cm F H (ns.map V.int) (ns.map PyData.int)
  | [] => .nil
  | n :: r => .cons (.int n) (Rvs.ints r)
theorem Rvs.ints_of : ∀ {vs : List V} {ns : List Int}, Rvs cm F H vs (ns.map PyData.int) → vs = ns.map V.int
  | _, [], h => by cases h; rfl
  | _, n :: r, h => by
    cases h with
    | cons h1 h2 =>
      cases h1
      rw [Rvs.ints_of h2] <;> rfl
end
/-- what is left as it was, but for the lists at io -/
structure Fr (T : List NTab) (io : Addr → Prop) (H H' : Hp) : Prop where
  kp : ∀ b o, ¬ io b → (∀ ps, o ≠ .tbl ps) → H b = some o → H' b = some o
  tb : TabsN T H → TabsN T H'
  fr : ∀ b, H' b = none → H b = none
theorem Fr.refl (T : List NTab) (io : Addr → Prop) (H : Hp) : Fr T io H H := ⟨fun _ _ _ _ h => h, fun h => h, fun _ h => h⟩
theorem Fr.trans {T : List NTab} {io : Addr → Prop} {H H1 H2 : Hp} (x : Fr T io H H1) (y : Fr T io H1 H2) : Fr T io H H2 := ⟨fun b o n t h => y.kp b o n t (x.kp b o n t h), fun h => y.tb (x.tb h), fun b h => x.fr b (y.fr b h)⟩
theorem Fr.new {T : List NTab} {io : Addr → Prop} {H : Hp} {p : Addr} {o : HO} (n : H p = none) : Fr T io H (upd H p o) :=
  ⟨fun b u _ _ e => by rw [upd_ne (ne_of_none e n)]; exact e, R.tabs_new n, fun b e => R.upd_none' e⟩
theorem Fr.mutL {T : List NTab} {io : Addr → Prop} {H H1 : Hp} {p : Addr} {xs : List V} {o : HO} (x : Fr T io H H1) (n : H p = none ∨ io p) (h1 : H1 p = some (.lst xs)) : Fr T io H (upd H1 p o) :=
  ⟨fun b w a b' e => by
    have ne : b ≠ p := by
      rcases n with n | n
      · exact ne_of_none e n
      · intro z; subst z; exact a n
    rw [upd_ne ne]; exact x.kp b w a b' e, fun h => by
    have q := x.tb h
    intro t ht
    obtain ⟨ps, a1, a2, a3⟩ := q t ht
    refine ⟨ps, by rw [upd_ne (ne_of a1 h1 (Ne.symm (R.lst_nt ps)))]; exact a1, a2, fun pos cv hc => ?_⟩
    obtain ⟨c, e1, e2⟩ := a3 pos cv hc
    exact ⟨c, e1, by rw [upd_ne (ne_of e2 h1 (Ne.symm (R.lst_nc c _)))]; exact e2⟩, fun b e => x.fr b (R.upd_none' e)⟩
theorem Fr.ofExt {T : List NTab} {io : Addr → Prop} {H H1 : Hp} (x : R.Ext T none H H1) : Fr T io H H1 := ⟨fun b o _ t h => x.kp b o (fun z => nomatch z) t h, x.tb, x.fr⟩
/-- what stands fixed while a def runs -/
structure Gx where
  cm : Str → Option Addr
  TT : List NTab
  /-- within an except clause: the error, its class, its dict -/
  exc : Option (Addr × Value × Option Addr)
  /-- rows of numbers that the module holds -/
  scr : Addr → List Int → Prop
def Gx.base (g : Gx) : Gx := { g with exc := none }
structure Cfg where
  g : Gx
  H0 : Hp
  F0 : Addr → Prop
  ioA : Nat → Option Addr
  tt : TabsN g.TT H0
  /-- new lists that are held for a moment -/
  tmp : Addr → Option (List V)
def Cfg.io (c : Cfg) (a : Addr) : Prop := ∃ i, c.ioA i = some a
/-- a row of numbers that is read alone -/
def Scr (g : Gx) (F : Addr → Prop) (H : Hp) (a : Addr) (ns : List Int) : Prop := (∀ z ∈ ns, Builtin.Int.intBits z ≤ 1048576) ∧ ((F a ∧ H a = some (.lst (ns.map V.int))) ∨ (∃ o, H a = some (.frz o (.lst (ns.map V.int)))) ∨ g.scr a ns)
theorem Scr.mono {g : Gx} {F F' : Addr → Prop} {H H' : Hp} (k : Le F H F' H') {a : Addr} {ns : List Int} (h : Scr g F H a ns) : Scr g F' H' a ns := by
  rcases h with ⟨b, ⟨f, h⟩ | ⟨o, h⟩ | h⟩
  · exact ⟨b, .inl ⟨k.f _ f, k.h _ _ f h⟩⟩
  · exact ⟨b, .inr (.inl ⟨o, k.h _ _ trivial h⟩)⟩
  · exact ⟨b, .inr (.inr h)⟩
def SR (c : Cfg) (F : Addr → Prop) (H : Hp) (i : Nat) : S → Option V → Prop
  | .un, _ => True
  | .v d, o => ∃ v, o = some v ∧ Rv c.g.cm F H v d
  | .own xs, o => ∃ a vs, o = some (.ref a) ∧ H a = some (.lst vs) ∧ Rvs c.g.cm F H vs xs ∧ ¬ F a ∧ c.H0 a = none
  | .io xs, o => ∃ a vs, o = some (.ref a) ∧ H a = some (.lst vs) ∧ Rvs c.g.cm F H vs xs ∧ ¬ F a ∧ c.ioA i = some a
  | .exc cl w, o => ∃ a C dd v, c.g.exc = some (a, .ref C, some dd) ∧ c.g.cm cl = some C ∧ o = some (.ref a) ∧ H dd = some (.xd [("what", v)]) ∧ Rv c.g.cm F H v w
  | .scr ns, o => ∃ a, o = some (.ref a) ∧ Scr c.g F H a ns
def OwnAt (ρ : Env) (σ : L2.St) (i : Nat) (a : Addr) : Prop := σ[i]? = some (some (.ref a)) ∧ ∃ xs, ρ[i]? = some (.own xs) ∨ ρ[i]? = some (.io xs)
structure ER (c : Cfg) (F : Addr → Prop) (ρ : Env) (σ : L2.St) (H : Hp) : Prop where
  len : σ.length = ρ.length
  sl : ∀ i s, ρ[i]? = some s → ∃ o, σ[i]? = some o ∧ SR c F H i s o
  dist : ∀ i j a, OwnAt ρ σ i a → OwnAt ρ σ j a → i = j
  ioK : ∀ i a, c.ioA i = some a → ∃ xs, ρ[i]? = some (.io xs)
  fr : Fr c.g.TT c.io c.H0 H
  f0 : ∀ a, c.F0 a → F a
  fn : ∀ a, F a → c.F0 a ∨ c.H0 a = none
  fl : ∀ a, F a → ∃ vs, H a = some (.lst vs)
  tp : ∀ a vs, c.tmp a = some vs → H a = some (.lst vs) ∧ ¬ F a ∧ c.H0 a = none ∧ ∀ i, ¬ OwnAt ρ σ i a
section
variable {c : Cfg} {F F' : Addr → Prop} {ρ : Env} {σ : L2.St} {H H' : Hp}
theorem SR.mono {i : Nat} (k : Le F H F' H') : ∀ {s : S} {o : Option V}, SR c F H i s o → (∀ a, o = some (.ref a) → (∃ xs, s = .own xs ∨ s = .io xs) → ¬ F' a ∧ H' a = H a) → SR c F' H' i s o
  | .un, _, _, _ => trivial
  | .v d, _, ⟨v, e, r⟩, _ => ⟨v, e, r.mono k⟩
  | .own xs, _, ⟨a, vs, e, h, r, n, z⟩, q => by
    obtain ⟨q1, q2⟩ := q a e ⟨xs, .inl rfl⟩
    exact ⟨a, vs, e, q2.trans h, r.mono k, q1, z⟩
  | .io xs, _, ⟨a, vs, e, h, r, n, z⟩, q => by
    obtain ⟨q1, q2⟩ := q a e ⟨xs, .inr rfl⟩
    exact ⟨a, vs, e, q2.trans h, r.mono k, q1, z⟩
  | .exc cl w, _, ⟨a, C, dd, v, e1, e2, e3, e4, e5⟩, _ => ⟨a, C, dd, v, e1, e2, e3, k.h _ _ trivial e4, e5.mono k⟩
  | .scr ns, _, ⟨a, e, h⟩, _ => ⟨a, e, h.mono k⟩
/-- the address of one's own list in the i-th slot -/
theorem ER.own_at (e : ER c F ρ σ H) {i : Nat} {xs : List D} (h : ρ[i]? = some (.own xs) ∨ ρ[i]? = some (.io xs)) : ∃ a vs, σ[i]? = some (some (.ref a)) ∧ H a = some (.lst vs) ∧ Rvs c.g.cm F H vs xs ∧ ¬ F a ∧ (c.H0 a = none ∨ c.io a) ∧ OwnAt ρ σ i a := by
  rcases h with h | h
  · obtain ⟨o, e1, a, vs, rfl, e2, r, n, z⟩ := e.sl i _ h
    exact ⟨a, vs, e1, e2, r, n, .inl z, e1, xs, .inl h⟩
  · obtain ⟨o, e1, a, vs, rfl, e2, r, n, z⟩ := e.sl i _ h
    exact ⟨a, vs, e1, e2, r, n, .inr ⟨i, z⟩, e1, xs, .inr h⟩
theorem OwnAt.get (e : ER c F ρ σ H) {i : Nat} {a : Addr} (h : OwnAt ρ σ i a) : ∃ xs vs, H a = some (.lst vs) ∧ Rvs c.g.cm F H vs xs ∧ ¬ F a ∧ (c.H0 a = none ∨ c.io a) := by
  obtain ⟨h1, xs, h2⟩ := h
  obtain ⟨b, vs, e1, e2, e3, e4, e5, _⟩ := e.own_at h2
  rw [h1] at e1
  cases e1
  exact ⟨xs, vs, e2, e3, e4, e5⟩
/-- nothing but new objects, and more that is fixed -/
theorem ER.step (e : ER c F ρ σ H) (k : Le F H F' H') (fr : Fr c.g.TT c.io H H') (o : ∀ i a, OwnAt ρ σ i a → ¬ F' a ∧ H' a = H a) (fn : ∀ a, F' a → F a ∨ c.H0 a = none) (fl : ∀ a, F' a → ∃ vs, H' a = some (.lst vs)) (tq : ∀ a vs, c.tmp a = some vs → ¬ F' a ∧ H' a = H a) : ER c F' ρ σ H' :=
  ⟨e.len, fun i s h => by
    obtain ⟨u, e1, r⟩ := e.sl i s h
    exact ⟨u, e1, r.mono k fun a hu ⟨xs, hs⟩ => o i a ⟨by rw [e1, hu], xs, by rcases hs with hs | hs <;> (subst hs; simp [h])⟩⟩, e.dist, e.ioK, e.fr.trans fr, fun a h => k.f a (e.f0 a h), fun a h => by
    rcases fn a h with h | h
    · exact e.fn a h
    · exact .inr h, fl, fun a vs h => by
    obtain ⟨h1, _, h3, h4⟩ := e.tp a vs h
    obtain ⟨q1, q2⟩ := tq a vs h
    exact ⟨q2.trans h1, q1, h3, h4⟩⟩
theorem Le.new {p : Addr} {o : HO} (n : H p = none) : Le F H F (upd H p o) := ⟨fun _ h => h, fun a u _ h => by rw [upd_ne (ne_of_none h n)]; exact h⟩
theorem ER.new {p : Addr} {o : HO} (e : ER c F ρ σ H) (n : H p = none) : ER c F ρ σ (upd H p o) := e.step (Le.new n) (Fr.new n) (fun i a h => by
    obtain ⟨xs, vs, h1, _, h2, _⟩ := h.get e
    exact ⟨h2, upd_ne (ne_of_none h1 n)⟩) (fun a h => .inl h) (fun a h => by
    obtain ⟨vs, h1⟩ := e.fl a h
    exact ⟨vs, by rw [upd_ne (ne_of_none h1 n)]; exact h1⟩) fun a vs h => by
    obtain ⟨h1, h2, _⟩ := e.tp a vs h
    exact ⟨h2, upd_ne (ne_of_none h1 n)⟩
theorem ER.h0 (e : ER c F ρ σ H) {p : Addr} (n : H p = none) : c.H0 p = none := e.fr.fr p n
theorem ER.nf (e : ER c F ρ σ H) {p : Addr} (n : H p = none) : ¬ F p := fun h => by
  obtain ⟨vs, h1⟩ := e.fl p h
  rw [n] at h1
  cases h1
def fz (F : Addr → Prop) (a : Addr) : Addr → Prop := fun b => F b ∨ b = a
theorem Le.fz {a : Addr} {vs : List V} (h : H a = some (.lst vs)) : Le F H (fz F a) H := ⟨fun _ h => .inl h, fun _ _ _ h => h⟩
/-- a list that no slot owns is fixed from now on -/
theorem ER.fix (e : ER c F ρ σ H) {a : Addr} {vs : List V} (h : H a = some (.lst vs)) (n : c.H0 a = none) (o : ∀ i, ¬ OwnAt ρ σ i a) (nt : c.tmp a = none) : ER c (fz F a) ρ σ H :=
  e.step (Le.fz h) (Fr.refl ..) (fun i b q => ⟨fun z => by
    rcases z with z | z
    · obtain ⟨_, _, _, _, h2, _⟩ := q.get e
      exact h2 z
    · subst z; exact o i q, rfl⟩) (fun b z => by
    rcases z with z | z
    · exact .inl z
    · subst z; exact .inr n) (fun b z => by
    rcases z with z | z
    · exact e.fl b z
    · subst z; exact ⟨vs, h⟩) fun b us hb => by
    refine ⟨fun z => ?_, rfl⟩
    rcases z with z | z
    · exact (e.tp b us hb).2.1 z
    · subst z
      rw [nt] at hb
      cases hb
end
end Pu
end

-- Blk
section
set_option Elab.async false
set_option linter.all false
set_option maxRecDepth 100000
set_option maxHeartbeats 4000000
/-! Blk: rules that speak of the written part, with that part named: for the insides of comprehensions. -/
namespace BlkX
open PySem PySem.Spec PyProof.Rows L2
variable {X : Cx} (K : PySem.W.Frag)
theorem ixl (h : X.K = K := by rfl) : IxR X (rIxL K) := h ▸ ix_list
theorem ixt (h : X.K = K := by rfl) : IxR X (rIxT K) := h ▸ ix_tup
theorem csum (hc : X.calm = true := by rfl) (h : X.K = K := by rfl) : CallR X (.builtin "sum") (rSum K) := h ▸ cr_sum hc
theorem call (hc : X.calm = true := by rfl) (h : X.K = K := by rfl) : CallR X (.builtin "all") (rAll K) := h ▸ cr_all hc
theorem cany (hc : X.calm = true := by rfl) (h : X.K = K := by rfl) : CallR X (.builtin "any") (rAny K) := h ▸ cr_any hc
def rLen : List V → Hp → VK → Prop := fun xs H Q => ∃ p ys, xs = [.ref p] ∧ (SqL K H p ys ∨ SqT K H p ys) ∧ Q (.int ys.length) H
theorem clen (h : X.K = K := by rfl) : CallR X (.builtin "len") (rLen K) := by
  subst h
  exact call_len_seq
abbrev rTupO := rTupZ K
theorem ctup (h : X.K = K := by rfl) : CallR X (.type "tuple") (rTupO K) := by
  subst h
  exact call_tupZ
theorem pil {tg l : Expr} {tl : TE} (hl : PE X l tl) (h : X.K = K := by rfl) : PI X tg l (iList K tl) := h ▸ pi_list hl
theorem pit {tg l : Expr} {tl : TE} (hl : PE X l tl) (h : X.K = K := by rfl) : PI X tg l (iTup K tl) := h ▸ pi_tup hl
theorem sll (h : X.K = K := by rfl) : SlR X (rSlL K) := h ▸ sl_list
theorem slt (h : X.K = K := by rfl) : SlR X (rSlZ K) := h ▸ sl_tupZ
theorem catT (h : X.K = K := by rfl) : OpR X (binaryOp .Add) (rCatZ K) := h ▸ op_catZ
def tTru (ta : TE) : TT := fun σ H Q => ta σ H fun x H' => ∃ k, TruV K x H' k ∧ Q k H'
theorem ptru {a : Expr} {ta : TE} (ha : PE X a ta) (he : ∀ whole, isTrue a X.env whole = (do let v ← whole; standAt a.pos; holding [v] (truthy v)) := by intro _; rfl) (h : X.K = K := by rfl) : PT X a (tTru K ta) := h ▸ pt_truth ha he
end BlkX
end

-- PuB
section
set_option Elab.async false
set_option linter.all false
set_option maxRecDepth 100000
set_option maxHeartbeats 4000000
/-! PuB: what it means that a reading does what a plain function says; expressions. -/
namespace Pu
open PySem PySem.Spec PyProof.Rows L2 LamX NdefX
def RR (c : Cfg) (F : Addr → Prop) (H : Hp) (ρ : Env) (σ : L2.St) : Rk → V → Prop
  | .v d, v => Rv c.g.cm F H v d
  | .own xs, v => ∃ a vs, v = .ref a ∧ H a = some (.lst vs) ∧ Rvs c.g.cm F H vs xs ∧ ¬ F a ∧ c.H0 a = none ∧ c.tmp a = none ∧ ∀ i, ¬ OwnAt ρ σ i a
  | .sl i, v => σ[i]? = some (some v) ∧ ∃ s, ρ[i]? = some s ∧ s ≠ .un
def Post {α : Type} (c : Cfg) (W : WX) (F : Addr → Prop) (H : Hp) (σ : L2.St) (R : (Addr → Prop) → Hp → Env → α → Prop) : Res α → Prop
  | .ok r ρ' => ∀ F' H', ER c F' ρ' σ H' → Le F H F' H' → R F' H' ρ' r
  | .ex cl w ρ' => ∀ F' H' d C v, ER c F' ρ' σ H' → Le F H F' H' → c.g.cm cl = some C → H' d = some (.xd [("what", v)]) → Rv c.g.cm F' H' v w → W (.ref C) (some d) σ H'
  | .no => False
section
variable {c : Cfg} {W : WX} {F F' : Addr → Prop} {ρ : Env} {σ : L2.St} {H H' : Hp}
theorem Post.imp {α : Type} {R R1 : (Addr → Prop) → Hp → Env → α → Prop} {x : Res α} (h : Post c W F H σ R x) (k : ∀ F1 H1 ρ1 r, ER c F1 ρ1 σ H1 → Le F H F1 H1 → R F1 H1 ρ1 r → R1 F1 H1 ρ1 r) : Post c W F H σ R1 x := by
  cases x with
  | ok r ρ' => exact fun F' H' e l => k _ _ _ _ e l (h F' H' e l)
  | ex cl w ρ' => exact h
  | no => exact h
theorem Post.rebase {α : Type} {R : (Addr → Prop) → Hp → Env → α → Prop} {x : Res α} (l : Le F H F' H') (h : Post c W F H σ R x) : Post c W F' H' σ R x := by
  cases x with
  | ok r ρ' => exact fun F2 H2 e l2 => h F2 H2 e (l.trans l2)
  | ex cl w ρ' => exact fun F2 H2 d C v e l2 => h F2 H2 d C v e (l.trans l2)
  | no => exact h
theorem Post.bind {α β : Type} {R : (Addr → Prop) → Hp → Env → β → Prop} {R1 : (Addr → Prop) → Hp → Env → α → Prop} {x : Res α} {g : α → Env → Res β} (h : Post c W F H σ R (x.bind g))
    (k : ∀ F1 H1 ρ1 r, ER c F1 ρ1 σ H1 → Le F H F1 H1 → Post c W F1 H1 σ R (g r ρ1) → R1 F1 H1 ρ1 r) : Post c W F H σ R1 x := by
  cases x with
  | ok r ρ' => exact fun F' H' e l => k _ _ _ _ e l (Post.rebase l h)
  | ex cl w ρ' => exact h
  | no => exact h
theorem Post.here {α : Type} {R : (Addr → Prop) → Hp → Env → α → Prop} {r : α} (e : ER c F ρ σ H) (h : Post c W F H σ R (.ok r ρ)) : R F H ρ r := h F H e (Le.refl _ _)
end
/-- the value at v, seen now -/
def Bv (c : Cfg) (F : Addr → Prop) (H : Hp) (v : V) (d : D) : Prop := Rv c.g.cm F H v d ∨ ∃ a vs ds, v = .ref a ∧ d = .list ds ∧ H a = some (.lst vs) ∧ Rvs c.g.cm F H vs ds
def SimE (g : Gx) (W : WX) (t : TE) (f : Env → Res Rk) : Prop := ∀ (c : Cfg), c.g = g → ∀ F ρ σ H Q, ER c F ρ σ H → Post c W F H σ (fun F' H' ρ' r => ∀ v, RR c F' H' ρ' σ r v → Q v H') (f ρ) → t σ H Q
/-- the thing, fixed from now on -/
def SimV (g : Gx) (W : WX) (t : TE) (f : Env → Res D) : Prop := ∀ (c : Cfg), c.g = g → ∀ F ρ σ H Q, ER c F ρ σ H → Post c W F H σ (fun F' H' ρ' d => ∀ v, Rv c.g.cm F' H' v d → Q v H') (f ρ) → t σ H Q
/-- the thing, seen now -/
def SimB (g : Gx) (W : WX) (t : TE) (f : Env → Res D) : Prop := ∀ (c : Cfg), c.g = g → ∀ F ρ σ H Q, ER c F ρ σ H → Post c W F H σ (fun F' H' ρ' d => ∀ v, Bv c F' H' v d → Q v H') (f ρ) → t σ H Q
def SimT (g : Gx) (W : WX) (t : TT) (f : Env → Res Bool) : Prop := ∀ (c : Cfg), c.g = g → ∀ F ρ σ H Q, ER c F ρ σ H → Post c W F H σ (fun _ H' _ b => Q b H') (f ρ) → t σ H Q
def SimVs (g : Gx) (W : WX) (t : TA) (f : Env → Res (List D)) : Prop := ∀ (c : Cfg), c.g = g → ∀ F ρ σ H Q, ER c F ρ σ H → Post c W F H σ (fun F' H' ρ' ds => ∀ vs, Rvs c.g.cm F' H' vs ds → Q vs H') (f ρ) → t σ H Q
def esc : Rk → Env → Res D
  | .v d, ρ => .ok d ρ
  | .own xs, ρ => .ok (.list xs) ρ
  | .sl i, ρ => match ρ[i]? with
    | some (.v d) => .ok d ρ
    | some (.own xs) => .ok (.list xs) (ρ.set i (.v (.list xs)))
    | _ => .no
def cont : S → Option D
  | .un => none | .v d => some d | .own xs => some (.list xs) | .io xs => some (.list xs) | .exc _ _ => none | .scr _ => none
def bor : Rk → Env → Option D
  | .v d, _ => some d
  | .own xs, _ => some (.list xs)
  | .sl i, ρ => (ρ[i]?).bind cont
def nz : Rk → Rk
  | .own xs => .v (.list xs)
  | r => r
def opt {α : Type} : Option α → Env → Res α
  | some a, ρ => .ok a ρ
  | none, _ => .no
section
variable {g : Gx} {c : Cfg} {W : WX} {F F' : Addr → Prop} {ρ : Env} {σ : L2.St} {H H' : Hp}
theorem own_set {i : Nat} {s : S} (hs : ∀ xs, s ≠ .own xs ∧ s ≠ .io xs) {j : Nat} {b : Addr} (h : OwnAt (ρ.set i s) σ j b) : j ≠ i ∧ OwnAt ρ σ j b := by
  obtain ⟨h1, xs, h2⟩ := h
  have ne : j ≠ i := fun z => by
    subst z
    rw [List.getElem?_set] at h2
    rw [if_pos rfl] at h2
    split at h2
    · rcases h2 with h2 | h2
      · exact (hs xs).1 (Option.some.inj h2)
      · exact (hs xs).2 (Option.some.inj h2)
    · rcases h2 with h2 | h2 <;> cases h2
  rw [List.getElem?_set_ne (Ne.symm ne)] at h2
  exact ⟨ne, h1, xs, h2⟩
theorem get_set {i j : Nat} {s u : S} (h : (ρ.set i s)[j]? = some u) : (j = i ∧ u = s) ∨ (j ≠ i ∧ ρ[j]? = some u) := by
  by_cases e : j = i
  · subst e
    rw [List.getElem?_set, if_pos rfl] at h
    split at h
    · exact .inl ⟨rfl, (Option.some.inj h).symm⟩
    · cases h
  · rw [List.getElem?_set_ne (Ne.symm e)] at h
    exact .inr ⟨e, h⟩
/-- one's own list in a slot is fixed from now on -/
theorem ER.fixS (e : ER c F ρ σ H) {i : Nat} {xs : List D} {a : Addr} {vs : List V} (hi : ρ[i]? = some (.own xs)) (hs : σ[i]? = some (some (.ref a))) (ha : H a = some (.lst vs)) (hr : Rvs c.g.cm F H vs xs) (h0 : c.H0 a = none) :
    ER c (fz F a) (ρ.set i (.v (.list xs))) σ H ∧ Rv c.g.cm (fz F a) H (.ref a) (.list xs) := by
  have l : Le F H (fz F a) H := Le.fz ha
  have rv : Rv c.g.cm (fz F a) H (.ref a) (.list xs) := .lst (.inr rfl) ha (hr.mono l)
  have no : ∀ ys, S.v (.list xs) ≠ .own ys ∧ S.v (.list xs) ≠ .io ys := fun ys => ⟨(fun z => nomatch z), (fun z => nomatch z)⟩
  refine ⟨ER.mk (by rw [List.length_set]; exact e.len) (fun j s h => ?_) (fun j k b h1 h2 => ?_) (fun j b h => ?_) e.fr (fun b h => .inl (e.f0 b h)) (fun b h => ?_) (fun b h => ?_) (fun b us h => ?_), rv⟩
  · rcases get_set h with ⟨rfl, rfl⟩ | ⟨ne, h⟩
    · exact ⟨_, hs, _, rfl, rv⟩
    · obtain ⟨u, e1, r⟩ := e.sl j s h
      refine ⟨u, e1, r.mono l fun b hb ⟨ys, hy⟩ => ⟨fun z => ?_, rfl⟩⟩
      have o : OwnAt ρ σ j b := ⟨by rw [e1, hb], ys, by rcases hy with hy | hy <;> (subst hy; simp [h])⟩
      rcases z with z | z
      · obtain ⟨_, _, _, _, q, _⟩ := o.get e
        exact q z
      · subst z
        exact ne (e.dist j i b o ⟨hs, xs, .inl hi⟩)
  · exact e.dist j k b (own_set no h1).2 (own_set no h2).2
  · obtain ⟨ys, hy⟩ := e.ioK j b h
    refine ⟨ys, ?_⟩
    rw [List.getElem?_set_ne (fun z => ?_)]
    · exact hy
    · subst z
      rw [hi] at hy
      cases hy
  · rcases h with h | h
    · exact e.fn b h
    · subst h; exact .inr h0
  · rcases h with h | h
    · exact e.fl b h
    · subst h; exact ⟨vs, ha⟩
  · obtain ⟨q1, q2, q3, q4⟩ := e.tp b us h
    refine ⟨q1, fun z => ?_, q3, fun j o => q4 j (own_set no o).2⟩
    rcases z with z | z
    · exact q2 z
    · subst z; exact q4 i ⟨hs, xs, .inl hi⟩
theorem ER.at_v (e : ER c F ρ σ H) {i : Nat} {d : D} {v : V} (h : ρ[i]? = some (.v d)) (hv : σ[i]? = some (some v)) : Rv c.g.cm F H v d := by
  obtain ⟨o, e1, w, rfl, r⟩ := e.sl i _ h
  rw [hv] at e1
  cases e1
  exact r
theorem esc_ok {r : Rk} {v : V} {R : (Addr → Prop) → Hp → Env → D → Prop} (e : ER c F ρ σ H) (h : RR c F H ρ σ r v) (p : Post c W F H σ R (esc r ρ)) : ∃ F' ρ' d, ER c F' ρ' σ H ∧ Le F H F' H ∧ Rv c.g.cm F' H v d ∧ R F' H ρ' d := by
  cases r with
  | v d => exact ⟨F, ρ, d, e, Le.refl _ _, h, p _ _ e (Le.refl _ _)⟩
  | own xs =>
    obtain ⟨a, vs, rfl, h1, h2, h3, h4, h6, h5⟩ := h
    have l : Le F H (fz F a) H := Le.fz h1
    have e2 := e.fix h1 h4 h5 h6
    exact ⟨fz F a, ρ, _, e2, l, .lst (.inr rfl) h1 (h2.mono l), p _ _ e2 l⟩
  | sl i =>
    obtain ⟨h1, s, h2, h3⟩ := h
    dsimp only [esc] at p
    rw [h2] at p
    cases s with
    | un => exact p.elim
    | v d => exact ⟨F, ρ, d, e, Le.refl _ _, e.at_v h2 h1, p _ _ e (Le.refl _ _)⟩
    | own xs =>
      obtain ⟨o, e1, a, vs, rfl, e2, e3, e4, e5⟩ := e.sl i _ h2
      rw [h1] at e1
      cases e1
      obtain ⟨q1, q2⟩ := e.fixS h2 h1 e2 e3 e5
      exact ⟨fz F a, _, _, q1, Le.fz e2, q2, p _ _ q1 (Le.fz e2)⟩
    | io xs => exact p.elim
    | exc _ _ => exact p.elim
    | scr _ => exact p.elim
theorem bor_ok {r : Rk} {v : V} {d : D} (e : ER c F ρ σ H) (h : RR c F H ρ σ r v) (p : bor r ρ = some d) : Bv c F H v d := by
  cases r with
  | v d => cases p; exact .inl h
  | own xs =>
    cases p
    obtain ⟨a, vs, rfl, h1, h2, _⟩ := h
    exact .inr ⟨a, vs, xs, rfl, rfl, h1, h2⟩
  | sl i =>
    obtain ⟨h1, s, h2, h3⟩ := h
    dsimp only [bor] at p
    rw [h2] at p
    cases s with
    | un => cases p
    | v d => cases p; exact .inl (e.at_v h2 h1)
    | own xs =>
      cases p
      obtain ⟨o, e1, a, vs, rfl, e2, e3, _⟩ := e.sl i _ h2
      rw [h1] at e1
      cases e1
      exact .inr ⟨a, vs, xs, rfl, rfl, e2, e3⟩
    | io xs =>
      cases p
      obtain ⟨o, e1, a, vs, rfl, e2, e3, _⟩ := e.sl i _ h2
      rw [h1] at e1
      cases e1
      exact .inr ⟨a, vs, xs, rfl, rfl, e2, e3⟩
    | exc _ _ => cases p
    | scr _ => cases p
/-- a first operand, kept while the second is told -/
theorem nz_ok {r : Rk} {v : V} (e : ER c F ρ σ H) (h : RR c F H ρ σ r v) : ∃ F', ER c F' ρ σ H ∧ Le F H F' H ∧ RR c F' H ρ σ (nz r) v := by
  cases r with
  | v d => exact ⟨F, e, Le.refl _ _, h⟩
  | own xs =>
    obtain ⟨a, vs, rfl, h1, h2, h3, h4, h6, h5⟩ := h
    have l : Le F H (fz F a) H := Le.fz h1
    exact ⟨fz F a, e.fix h1 h4 h5 h6, l, .lst (.inr rfl) h1 (h2.mono l)⟩
  | sl i => exact ⟨F, e, Le.refl _ _, h⟩
theorem nz_keep {r : Rk} {v : V} {ρ' : Env} {d : D} (h : RR c F H ρ σ (nz r) v) (l : Le F H F' H') (b : bor (nz r) ρ' = some d) : RR c F' H' ρ' σ (nz r) v := by
  cases r with
  | v d => exact Rv.mono l h
  | own xs => exact Rv.mono l h
  | sl i =>
    refine ⟨h.1, ?_⟩
    dsimp only [nz, bor] at b
    cases q : ρ'[i]? with
    | none => rw [q] at b; cases b
    | some s => exact ⟨s, rfl, fun z => by subst z; rw [q] at b; cases b⟩
/-! ### expressions -/
def qVar (i : Nat) : Env → Res Rk := fun ρ => match ρ[i]? with
  | none => .no
  | some .un => .no
  | some (.exc _ _) => .no
  | some (.scr _) => .no
  | some _ => .ok (.sl i) ρ
theorem sVar {i : Nat} : SimE g W (tVar i) (qVar i) := fun c hg F ρ σ H Q e p => by
  unfold qVar at p
  cases q : ρ[i]? with
  | none => rw [q] at p; exact p.elim
  | some s =>
    rw [q] at p
    obtain ⟨o, e1, r⟩ := e.sl i s q
    cases s with
    | un => exact p.elim
    | v d =>
      obtain ⟨v, rfl, _⟩ := r
      exact ⟨v, e1, p _ _ e (Le.refl _ _) v ⟨e1, _, q, fun z => nomatch z⟩⟩
    | own d =>
      obtain ⟨a, vs, rfl, _⟩ := r
      exact ⟨_, e1, p _ _ e (Le.refl _ _) _ ⟨e1, _, q, fun z => nomatch z⟩⟩
    | io d =>
      obtain ⟨a, vs, rfl, _⟩ := r
      exact ⟨_, e1, p _ _ e (Le.refl _ _) _ ⟨e1, _, q, fun z => nomatch z⟩⟩
    | exc _ _ => exact p.elim
    | scr _ => exact p.elim
def qC (d : D) : Env → Res Rk := fun ρ => .ok (.v d) ρ
theorem sInt {i : Int} : SimE g W (tC (.int i)) (qC (.int i)) := fun c hg F ρ σ H Q e p => p _ _ e (Le.refl _ _) _ (.int i)
theorem sBl {b : Bool} : SimE g W (tC (.bl b)) (qC (.bool b)) := fun c hg F ρ σ H Q e p => p _ _ e (Le.refl _ _) _ (.bl b)
theorem sStr {x : Str} : SimE g W (tC (.str x)) (qC (.str x)) := fun c hg F ρ σ H Q e p => p _ _ e (Le.refl _ _) _ (.str x)
theorem sNon : SimE g W (tC .non) (qC .none) := fun c hg F ρ σ H Q e p => p _ _ e (Le.refl _ _) _ .non
def qV (f : Env → Res Rk) : Env → Res D := fun ρ => (f ρ).bind esc
def qB (f : Env → Res Rk) : Env → Res D := fun ρ => (f ρ).bind fun r ρ' => opt (bor r ρ') ρ'
variable {t ta tb : TE} {f fa fb : Env → Res Rk}
theorem sV (h : SimE g W t f) : SimV g W t (qV f) := fun c hg F ρ σ H Q e p => h c hg F ρ σ H Q e (p.bind fun F1 H1 ρ1 r e1 l1 q v hv => by
  obtain ⟨F2, ρ2, d, e2, l2, h2, q2⟩ := esc_ok e1 hv q
  exact q2 v h2)
theorem sB (h : SimE g W t f) : SimB g W t (qB f) := fun c hg F ρ σ H Q e p => h c hg F ρ σ H Q e (p.bind fun F1 H1 ρ1 r e1 l1 q v hv => by
  cases b : bor r ρ1 with
  | none => rw [b] at q; exact q.elim
  | some d => rw [b] at q; exact q _ _ e1 (Le.refl _ _) v (bor_ok e1 hv b))
/-- two operands -/
def qB2 (fa fb : Env → Res Rk) : Env → Res (D × D) := fun ρ => (fa ρ).bind fun r ρ1 => (fb ρ1).bind fun r2 ρ2 => (opt (bor (nz r) ρ2) ρ2).bind fun d ρ3 => (opt (bor r2 ρ3) ρ3).bind fun e ρ4 => .ok (d, e) ρ4
def SimB2 (g : Gx) (W : WX) (ta tb : TE) (f : Env → Res (D × D)) : Prop := ∀ (c : Cfg), c.g = g → ∀ F ρ σ H (Q : V → V → Hp → Prop), ER c F ρ σ H → Post c W F H σ (fun F' H' ρ' d => ∀ v u, Bv c F' H' v d.1 → Bv c F' H' u d.2 → Q v u H') (f ρ) → ta σ H fun x H1 => tb σ H1 fun y H2 => Q x y H2
theorem sB2 (ha : SimE g W ta fa) (hb : SimE g W tb fb) : SimB2 g W ta tb (qB2 fa fb) := fun c hg F ρ σ H Q e p => ha c hg F ρ σ H _ e (p.bind fun F1 H1 ρ1 r e1 l1 q v hv => by
  obtain ⟨F2, e2, l2, r2⟩ := nz_ok e1 hv
  refine hb c hg F2 ρ1 σ H1 _ e2 ((q.rebase l2).bind fun F3 H3 ρ3 r3 e3 l3 q3 u hu => ?_)
  cases b : bor (nz r) ρ3 with
  | none => rw [b] at q3; exact q3.elim
  | some d =>
    rw [b] at q3
    cases b2 : bor r3 ρ3 with
    | none => simp only [opt, Res.bind_ok, b2] at q3; exact q3.elim
    | some d2 =>
      simp only [opt, Res.bind_ok, b2] at q3
      exact q3 _ _ e3 (Le.refl _ _) v u (bor_ok e3 (nz_keep r2 l3 b) b) (bor_ok e3 hu b2))
/-- what an operator tells of things that are seen now -/
def OpS (g : Gx) (r : R2) (op : D → D → Option Rk) : Prop := ∀ (c : Cfg), c.g = g → ∀ F ρ σ H x y d1 d2 k Q, ER c F ρ σ H → Bv c F H x d1 → Bv c F H y d2 → op d1 d2 = some k → (∀ H' v, ER c F ρ σ H' → Le F H F H' → RR c F H' ρ σ k v → Q v H') → r x y H Q
def qOp (op : D → D → Option Rk) (fa fb : Env → Res Rk) : Env → Res Rk := fun ρ => (qB2 fa fb ρ).bind fun d ρ' => opt (op d.1 d.2) ρ'
theorem sOp {r : R2} {op : D → D → Option Rk} (ho : OpS g r op) (ha : SimE g W ta fa) (hb : SimE g W tb fb) : SimE g W (tOp r ta tb) (qOp op fa fb) := fun c hg F ρ σ H Q e p =>
  sB2 ha hb c hg F ρ σ H (fun x y H2 => r x y H2 Q) e (p.bind fun F1 H1 ρ1 d e1 l1 q v u hv hu => by
    cases o : op d.1 d.2 with
    | none => rw [o] at q; exact q.elim
    | some k => rw [o] at q; exact ho c hg _ _ _ _ _ _ _ _ _ _ e1 hv hu o fun H' v e' l' r' => q _ _ e' l' v r')
def UnS (g : Gx) (r : V → Hp → VK → Prop) (op : D → Option Rk) : Prop := ∀ (c : Cfg), c.g = g → ∀ F ρ σ H x d k Q, ER c F ρ σ H → Bv c F H x d → op d = some k → (∀ H' v, ER c F ρ σ H' → Le F H F H' → RR c F H' ρ σ k v → Q v H') → r x H Q
def qUn (op : D → Option Rk) (fa : Env → Res Rk) : Env → Res Rk := fun ρ => (qB fa ρ).bind fun d ρ' => opt (op d) ρ'
theorem sUn' {r : V → Hp → VK → Prop} {op : D → Option Rk} (ho : UnS g r op) (ha : SimE g W ta fa) (hg : c.g = g) {F : Addr → Prop} {ρ : Env} {σ : L2.St} {H : Hp} {Q : VK} (e : ER c F ρ σ H) (p : Post c W F H σ (fun F' H' ρ' k => ∀ v, RR c F' H' ρ' σ k v → Q v H') (qUn op fa ρ)) : ta σ H fun x H1 => r x H1 Q :=
  sB ha c hg F ρ σ H (fun x H2 => r x H2 Q) e (p.bind fun F1 H1 ρ1 d e1 l1 q v hv => by
    cases o : op d with
    | none => rw [o] at q; exact q.elim
    | some k => rw [o] at q; exact ho c hg _ _ _ _ _ _ _ _ e1 hv o fun H' v e' l' r' => q _ _ e' l' v r')
theorem sUn {r : V → Hp → VK → Prop} {op : D → Option Rk} (ho : UnS g r op) (ha : SimE g W ta fa) : SimE g W (tUn r ta) (qUn op fa) := fun c hg F ρ σ H Q e p => sUn' ho ha hg e p
/-- a built-in of one thing -/
theorem sCB1 {r : List V → Hp → VK → Prop} {op : D → Option Rk} (ho : UnS g (fun x H Q => r [x] H Q) op) (ha : SimE g W ta fa) : SimE g W (tCB r (tCons ta tNil)) (qUn op fa) := fun c hg F ρ σ H Q e p => sUn' ho ha hg e p
/-- a built-in of two things -/
theorem sCB2 {r : List V → Hp → VK → Prop} {op : D → D → Option Rk} (ho : OpS g (fun x y H Q => r [x, y] H Q) op) (ha : SimE g W ta fa) (hb : SimE g W tb fb) : SimE g W (tCB r (tCons ta (tCons tb tNil))) (qOp op fa fb) := fun c hg F ρ σ H Q e p =>
  sB2 ha hb c hg F ρ σ H (fun x y H2 => r [x, y] H2 Q) e (p.bind fun F1 H1 ρ1 d e1 l1 q v u hv hu => by
    cases o : op d.1 d.2 with
    | none => rw [o] at q; exact q.elim
    | some k => rw [o] at q; exact ho c hg _ _ _ _ _ _ _ _ _ _ e1 hv hu o fun H' v e' l' r' => q _ _ e' l' v r')
/-! ### rows of things -/
def qNil : Env → Res (List D) := fun ρ => .ok [] ρ
def qCons (f : Env → Res D) (g : Env → Res (List D)) : Env → Res (List D) := fun ρ => (f ρ).bind fun d ρ1 => (g ρ1).bind fun ds ρ2 => .ok (d :: ds) ρ2
theorem sNil : SimVs g W tNil qNil := fun c hg F ρ σ H Q e p => p _ _ e (Le.refl _ _) _ .nil
theorem sCons {q1 : Env → Res D} {gs : Env → Res (List D)} {tr : TA} (h : SimV g W ta q1) (hs : SimVs g W tr gs) : SimVs g W (tCons ta tr) (qCons q1 gs) := fun c hg F ρ σ H Q e p => h c hg F ρ σ H _ e (p.bind fun F1 H1 ρ1 d e1 l1 q v hv =>
  hs c hg F1 ρ1 σ H1 _ e1 (q.bind fun F2 H2 ρ2 ds e2 l2 q2 vs hvs => q2 _ _ e2 (Le.refl _ _) _ (.cons (hv.mono l2) hvs)))
def qTup (g : Env → Res (List D)) : Env → Res Rk := fun ρ => (g ρ).bind fun ds ρ' => if ds.length ≤ sizeLine then .ok (.v (.tuple ds)) ρ' else .no
def qLst (g : Env → Res (List D)) : Env → Res Rk := fun ρ => (g ρ).bind fun ds ρ' => if ds.length ≤ sizeLine then .ok (.own ds) ρ' else .no
theorem ER.tn (e : ER c F ρ σ H) {p : Addr} (n : H p = none) : c.tmp p = none := by
  cases z : c.tmp p with
  | none => rfl
  | some us =>
    have q := (e.tp p us z).1
    rw [n] at q
    cases q
theorem newOwn {p : Addr} {vs : List V} {ds : List D} (e : ER c F ρ σ H) (n : H p = none) (r : Rvs c.g.cm F H vs ds) : RR c F (upd H p (.lst vs)) ρ σ (.own ds) (.ref p) :=
  ⟨p, vs, rfl, upd_same, r.mono (Le.new n), e.nf n, e.h0 n, e.tn n, fun i o => by
    obtain ⟨_, _, h, _⟩ := o.get e
    rw [n] at h
    cases h⟩
theorem sTup {q1 : Env → Res (List D)} {ts : TA} (h : SimVs g W ts q1) : SimE g W (tTupZ ts) (qTup q1) := fun c hg F ρ σ H Q e p => h c hg F ρ σ H _ e (p.bind fun F1 H1 ρ1 ds e1 l1 q vs hvs => by
  have lv := hvs.length
  by_cases z : ds.length ≤ sizeLine
  · rw [if_pos z] at q
    refine ⟨by omega, fun p o np zo => q _ _ (e1.new np) (Le.new np) _ ?_⟩
    exact .tup (TZ.new zo) (hvs.mono (Le.new np))
  · rw [if_neg z] at q
    exact q.elim)
theorem sLst {q1 : Env → Res (List D)} {ts : TA} (h : SimVs g W ts q1) : SimE g W (tLst ts) (qLst q1) := fun c hg F ρ σ H Q e p => h c hg F ρ σ H _ e (p.bind fun F1 H1 ρ1 ds e1 l1 q vs hvs => by
  have lv := hvs.length
  by_cases z : ds.length ≤ sizeLine
  · rw [if_pos z] at q
    exact ⟨by omega, fun p np => q _ _ (e1.new np) (Le.new np) _ (newOwn e1 np hvs)⟩
  · rw [if_neg z] at q
    exact q.elim)
end
end Pu
end

-- PuC
section
set_option Elab.async false
set_option linter.all false
set_option maxRecDepth 100000
set_option maxHeartbeats 4000000
/-! PuC: tests, statements, loops. -/
namespace Pu
open PySem PySem.Spec PyProof.Rows L2 LamX NdefX BlkX
section
variable {g : Gx} {c : Cfg} {W : WX} {F F' : Addr → Prop} {ρ : Env} {σ : L2.St} {H H' : Hp}
variable {t ta tb : TE} {f fa fb : Env → Res Rk}
/-! ### what a thing is, seen now -/
theorem Bv.bl {v : V} {b : Bool} (h : Bv c F H v (.bool b)) : v = .bl b := by
  rcases h with h | ⟨_, _, _, _, h, _⟩
  · cases h; rfl
  · cases h
theorem Bv.int {v : V} {i : Int} (h : Bv c F H v (.int i)) : v = .int i := by
  rcases h with h | ⟨_, _, _, _, h, _⟩
  · cases h; rfl
  · cases h
theorem Bv.str {v : V} {x : Str} (h : Bv c F H v (.str x)) : v = .str x := by
  rcases h with h | ⟨_, _, _, _, h, _⟩
  · cases h; rfl
  · cases h
theorem Bv.non {v : V} (h : Bv c F H v .none) : v = .non := by
  rcases h with h | ⟨_, _, _, _, h, _⟩
  · cases h; rfl
  · cases h
theorem Bv.list {v : V} {ds : List D} (h : Bv c F H v (.list ds)) : ∃ a vs, v = .ref a ∧ H a = some (.lst vs) ∧ Rvs c.g.cm F H vs ds := by
  rcases h with h | ⟨a, vs, es, e1, e2, h1, h2⟩
  · cases h with
    | lst f h r => exact ⟨_, _, rfl, h, r⟩
  · cases e2; exact ⟨a, vs, e1, h1, h2⟩
theorem Bv.tup {v : V} {ds : List D} (h : Bv c F H v (.tuple ds)) : ∃ a vs, v = .ref a ∧ TZ H a vs ∧ Rvs c.g.cm F H vs ds := by
  rcases h with h | ⟨a, vs, es, e1, e2, h1, h2⟩
  · cases h with
    | tup h r => exact ⟨_, _, rfl, h, r⟩
  · cases e2
/-! ### tests -/
def asB : D → Option Bool
  | .bool b => some b
  | _ => none
def qTst (f : Env → Res Rk) : Env → Res Bool := fun ρ => (qB f ρ).bind fun d ρ' => opt (asB d) ρ'
theorem asB_some {d : D} {b : Bool} (h : asB d = some b) : d = .bool b := by
  cases d <;> first | (cases h; rfl) | cases h
theorem sTst (h : SimE g W t f) : SimT g W (tTest t) (qTst f) := fun c hg F ρ σ H Q e p => sB h c hg F ρ σ H _ e (p.bind fun F1 H1 ρ1 d e1 l1 q v hv => by
  cases o : asB d with
  | none => rw [o] at q; exact q.elim
  | some b =>
    rw [o] at q
    have := asB_some o
    subst this
    exact ⟨b, hv.bl, q _ _ e1 (Le.refl _ _)⟩)
theorem sTb (h : SimE g W t f) : SimT g W (tB t) (qTst f) := sTst h
def truD : D → Option Bool
  | .none => some false
  | .bool b => some b
  | .int i => some (i != 0)
  | .str x => if x.length ≤ sizeLine then some ((x.length : Int) != 0) else none
  | .list xs => some (!xs.isEmpty)
  | .tuple xs => some (!xs.isEmpty)
  | _ => none
theorem isEmpty_len {α β : Type} {xs : List α} {ys : List β} (h : xs.length = ys.length) : xs.isEmpty = ys.isEmpty := by
  cases xs <;> cases ys <;> simp_all
theorem tru_ok {K : PySem.W.Frag} {v : V} {d : D} {b : Bool} (h : Bv c F H v d) (o : truD d = some b) : TruV K v H b := by
  cases d with
  | none => obtain rfl := h.non; cases o; rfl
  | bool k => obtain rfl := h.bl; cases o; rfl
  | int i => obtain rfl := h.int; cases o; rfl
  | str x =>
    obtain rfl := h.str
    unfold truD at o
    dsimp only at o
    split at o
    · rename_i z
      cases o; exact ⟨z, rfl⟩
    · cases o
  | list xs =>
    obtain ⟨a, vs, rfl, h1, h2⟩ := h.list
    cases o
    exact .inl ⟨vs, SqL.of h1, by rw [isEmpty_len h2.length]⟩
  | tuple xs =>
    obtain ⟨a, vs, rfl, h1, h2⟩ := h.tup
    cases o
    exact .inr (.inl ⟨vs, TZ.sq h1, by rw [isEmpty_len h2.length]⟩)
  | dict kvs => cases o
def qTru (f : Env → Res Rk) : Env → Res Bool := fun ρ => (qB f ρ).bind fun d ρ' => opt (truD d) ρ'
theorem sTru {K : PySem.W.Frag} (h : SimE g W t f) : SimT g W (tTru K t) (qTru f) := fun c hg F ρ σ H Q e p => sB h c hg F ρ σ H _ e (p.bind fun F1 H1 ρ1 d e1 l1 q v hv => by
  cases o : truD d with
  | none => rw [o] at q; exact q.elim
  | some b => rw [o] at q; exact ⟨b, tru_ok hv o, q _ _ e1 (Le.refl _ _)⟩)
variable {t1 t2 : TT} {f1 f2 : Env → Res Bool}
def qAnd (f1 f2 : Env → Res Bool) : Env → Res Bool := fun ρ => (f1 ρ).bind fun b ρ' => if b then f2 ρ' else .ok false ρ'
def qOr (f1 f2 : Env → Res Bool) : Env → Res Bool := fun ρ => (f1 ρ).bind fun b ρ' => if b then .ok true ρ' else f2 ρ'
def qNot (f1 : Env → Res Bool) : Env → Res Bool := fun ρ => (f1 ρ).bind fun b ρ' => .ok (!b) ρ'
theorem sAnd (h1 : SimT g W t1 f1) (h2 : SimT g W t2 f2) : SimT g W (tAnd t1 t2) (qAnd f1 f2) := fun c hg F ρ σ H Q e p => h1 c hg F ρ σ H _ e (p.bind fun F1 H1 ρ1 b e1 l1 q => by
  cases b with
  | true => exact iteT (h2 c hg F1 ρ1 σ H1 _ e1 q)
  | false => exact iteF (q _ _ e1 (Le.refl _ _)))
theorem sOr (h1 : SimT g W t1 f1) (h2 : SimT g W t2 f2) : SimT g W (tOr t1 t2) (qOr f1 f2) := fun c hg F ρ σ H Q e p => h1 c hg F ρ σ H _ e (p.bind fun F1 H1 ρ1 b e1 l1 q => by
  cases b with
  | true => exact iteT (q _ _ e1 (Le.refl _ _))
  | false => exact iteF (h2 c hg F1 ρ1 σ H1 _ e1 q))
theorem sNot (h1 : SimT g W t1 f1) : SimT g W (tNot t1) (qNot f1) := fun c hg F ρ σ H Q e p => h1 c hg F ρ σ H _ e (p.bind fun F1 H1 ρ1 b e1 l1 q => q _ _ e1 (Le.refl _ _))
def qYes : Env → Res Bool := fun ρ => .ok true ρ
theorem sYes : SimT g W tYes qYes := fun c hg F ρ σ H Q e p => p _ _ e (Le.refl _ _)
/-- and, or, not, as values -/
def qAndV (fa fb : Env → Res Rk) : Env → Res Rk := fun ρ => (qTst fa ρ).bind fun b ρ' => if b then fb ρ' else .ok (.v (.bool false)) ρ'
def qOrV (fa fb : Env → Res Rk) : Env → Res Rk := fun ρ => (qTst fa ρ).bind fun b ρ' => if b then .ok (.v (.bool true)) ρ' else fb ρ'
def qNotV (fa : Env → Res Rk) : Env → Res Rk := fun ρ => (qTst fa ρ).bind fun b ρ' => .ok (.v (.bool (!b))) ρ'
theorem sAndV (h1 : SimE g W ta fa) (h2 : SimE g W tb fb) : SimE g W (tAndV ta tb) (qAndV fa fb) := fun c hg F ρ σ H Q e p => sTst h1 c hg F ρ σ H (fun b H1 => if b = true then tb σ H1 Q else Q (.bl false) H1) e (p.bind fun F1 H1 ρ1 b e1 l1 q => by
  cases b with
  | true => exact iteT (h2 c hg F1 ρ1 σ H1 _ e1 q)
  | false => exact iteF (q _ _ e1 (Le.refl _ _) _ (.bl false)))
theorem sOrV (h1 : SimE g W ta fa) (h2 : SimE g W tb fb) : SimE g W (tOrV ta tb) (qOrV fa fb) := fun c hg F ρ σ H Q e p => sTst h1 c hg F ρ σ H (fun b H1 => if b = true then Q (.bl true) H1 else tb σ H1 Q) e (p.bind fun F1 H1 ρ1 b e1 l1 q => by
  cases b with
  | true => exact iteT (q _ _ e1 (Le.refl _ _) _ (.bl true))
  | false => exact iteF (h2 c hg F1 ρ1 σ H1 _ e1 q))
theorem sNotV (h1 : SimE g W ta fa) : SimE g W (tNotV ta) (qNotV fa) := fun c hg F ρ σ H Q e p => sTst h1 c hg F ρ σ H (fun b H1 => Q (.bl (!b)) H1) e (p.bind fun F1 H1 ρ1 b e1 l1 q => q _ _ e1 (Le.refl _ _) _ (.bl _))
def qIfE (f1 : Env → Res Bool) (fa fb : Env → Res Rk) : Env → Res Rk := fun ρ => (f1 ρ).bind fun b ρ' => if b then fa ρ' else fb ρ'
theorem sIfE (h1 : SimT g W t1 f1) (ha : SimE g W ta fa) (hb : SimE g W tb fb) : SimE g W (tIf t1 ta tb) (qIfE f1 fa fb) := fun c hg F ρ σ H Q e p => h1 c hg F ρ σ H _ e (p.bind fun F1 H1 ρ1 b e1 l1 q => by
  cases b with
  | true => exact iteT (ha c hg F1 ρ1 σ H1 _ e1 q)
  | false => exact iteF (hb c hg F1 ρ1 σ H1 _ e1 q))
end
/-! ### statements -/
inductive Ctl where
  | nx (ρ : Env) | rt (r : Rk) (ρ : Env) | bk (ρ : Env) | ct (ρ : Env) | ex (c : Str) (w : D) (ρ : Env) | no
def Res.toC {α : Type} : Res α → (α → Env → Ctl) → Ctl
  | .ok r ρ, k => k r ρ
  | .ex c w ρ, _ => .ex c w ρ
  | .no, _ => .no
def PostS (c : Cfg) (W : WX) (F : Addr → Prop) (H : Hp) (D : Ends) : Ctl → Prop
  | .nx ρ' => ∀ F' σ' H', ER c F' ρ' σ' H' → Le F H F' H' → D.nx σ' H'
  | .rt r ρ' => ∀ F' σ' H' v, ER c F' ρ' σ' H' → Le F H F' H' → RR c F' H' ρ' σ' r v → D.rt v H'
  | .bk ρ' => ∀ F' σ' H', ER c F' ρ' σ' H' → Le F H F' H' → D.bk σ' H'
  | .ct ρ' => ∀ F' σ' H', ER c F' ρ' σ' H' → Le F H F' H' → D.ct σ' H'
  | .ex cl w ρ' => ∀ F' σ' H' d C v, ER c F' ρ' σ' H' → Le F H F' H' → c.g.cm cl = some C → H' d = some (.xd [("what", v)]) → Rv c.g.cm F' H' v w → W (.ref C) (some d) σ' H'
  | .no => False
def SimS (g : Gx) (W : WX) (t : TS) (f : Env → Ctl) : Prop := ∀ (c : Cfg), c.g = g → ∀ F ρ σ H D, ER c F ρ σ H → PostS c W F H D (f ρ) → t D σ H
section
variable {g : Gx} {c : Cfg} {W : WX} {F F' : Addr → Prop} {ρ : Env} {σ : L2.St} {H H' : Hp} {D : Ends}
theorem PostS.rebase {x : Ctl} (l : Le F H F' H') (h : PostS c W F H D x) : PostS c W F' H' D x := by
  cases x with
  | nx ρ' => exact fun F2 s2 H2 e l2 => h F2 s2 H2 e (l.trans l2)
  | rt r ρ' => exact fun F2 s2 H2 v e l2 => h F2 s2 H2 v e (l.trans l2)
  | bk ρ' => exact fun F2 s2 H2 e l2 => h F2 s2 H2 e (l.trans l2)
  | ct ρ' => exact fun F2 s2 H2 e l2 => h F2 s2 H2 e (l.trans l2)
  | ex cl w ρ' => exact fun F2 s2 H2 d C v e l2 => h F2 s2 H2 d C v e (l.trans l2)
  | no => exact h
theorem PostS.bind {α : Type} {R1 : (Addr → Prop) → Hp → Env → α → Prop} {x : Res α} {k : α → Env → Ctl} (h : PostS c W F H D (x.toC k))
    (m : ∀ F1 H1 ρ1 r, ER c F1 ρ1 σ H1 → Le F H F1 H1 → PostS c W F1 H1 D (k r ρ1) → R1 F1 H1 ρ1 r) : Post c W F H σ R1 x := by
  cases x with
  | ok r ρ' => exact fun F' H' e l => m _ _ _ _ e l (PostS.rebase l h)
  | ex cl w ρ' => exact fun F' H' d C v => h F' σ H' d C v
  | no => exact h
variable {t u : TS} {f f' : Env → Ctl} {te : TE} {fe : Env → Res Rk} {tt : TT} {ft : Env → Res Bool}
def qNext : Env → Ctl := fun ρ => .nx ρ
theorem sNext : SimS g W tNext qNext := fun c hg F ρ σ H D e p => p _ _ _ e (Le.refl _ _)
def qSeq (f f' : Env → Ctl) : Env → Ctl := fun ρ => match f ρ with
  | .nx ρ' => f' ρ'
  | x => x
theorem sSeq (h : SimS g W t f) (h' : SimS g W u f') : SimS g W (tSeq t u) (qSeq f f') := fun c hg F ρ σ H D e p => h c hg F ρ σ H _ e (by
  unfold qSeq at p
  cases z : f ρ with
  | nx ρ' => rw [z] at p; exact fun F' σ' H' e' l' => h' c hg F' ρ' σ' H' D e' (p.rebase l')
  | rt r ρ' => rw [z] at p; exact p
  | bk ρ' => rw [z] at p; exact p
  | ct ρ' => rw [z] at p; exact p
  | ex cl w ρ' => rw [z] at p; exact p
  | no => rw [z] at p; exact p)
def qIf (ft : Env → Res Bool) (f f' : Env → Ctl) : Env → Ctl := fun ρ => (ft ρ).toC fun b ρ' => if b then f ρ' else f' ρ'
theorem sIf (h1 : SimT g W tt ft) (h : SimS g W t f) (h' : SimS g W u f') : SimS g W (tIfS tt t u) (qIf ft f f') := fun c hg F ρ σ H D e p => h1 c hg F ρ σ H _ e (p.bind fun F1 H1 ρ1 b e1 l1 q => by
  cases b with
  | true => exact iteT (h c hg F1 ρ1 σ H1 _ e1 q)
  | false => exact iteF (h' c hg F1 ρ1 σ H1 _ e1 q))
def qExpr (fe : Env → Res Rk) : Env → Ctl := fun ρ => (fe ρ).toC fun _ ρ' => .nx ρ'
theorem sExpr (h : SimE g W te fe) : SimS g W (tDrop te) (qExpr fe) := fun c hg F ρ σ H D e p => h c hg F ρ σ H _ e (p.bind fun F1 H1 ρ1 b e1 l1 q v hv => q _ _ _ e1 (Le.refl _ _))
def qBreak : Env → Ctl := fun ρ => .bk ρ
theorem sBreak : SimS g W tBreak qBreak := fun c hg F ρ σ H D e p => p _ _ _ e (Le.refl _ _)
def qCont : Env → Ctl := fun ρ => .ct ρ
theorem sCont : SimS g W tCont qCont := fun c hg F ρ σ H D e p => p _ _ _ e (Le.refl _ _)
def qRetN : Env → Ctl := fun ρ => .rt (.v .none) ρ
theorem sRetN : SimS g W tRetN qRetN := fun c hg F ρ σ H D e p => p _ _ _ _ e (Le.refl _ _) .non
/-- a slot is given up -/
theorem ER.drop (e : ER c F ρ σ H) {i : Nat} {xs : List PyData} (hi : ρ[i]? = some (.own xs)) : ER c F (ρ.set i .un) σ H := by
  have no : ∀ ys, S.un ≠ .own ys ∧ S.un ≠ .io ys := fun ys => ⟨(fun z => nomatch z), (fun z => nomatch z)⟩
  refine ER.mk (by rw [List.length_set]; exact e.len) (fun j s h => ?_) (fun j k b h1 h2 => ?_) (fun j b h => ?_) e.fr e.f0 e.fn e.fl (fun b us h => ?_)
  · rcases get_set h with ⟨rfl, rfl⟩ | ⟨ne, h⟩
    · obtain ⟨o, e1, _⟩ := e.sl j _ hi
      exact ⟨o, e1, trivial⟩
    · exact e.sl j s h
  · exact e.dist j k b (own_set no h1).2 (own_set no h2).2
  · obtain ⟨ys, hy⟩ := e.ioK j b h
    refine ⟨ys, ?_⟩
    rw [List.getElem?_set_ne (fun z => ?_)]
    · exact hy
    · subst z
      rw [hi] at hy
      cases hy
  · obtain ⟨q1, q2, q3, q4⟩ := e.tp b us h
    exact ⟨q1, q2, q3, fun j o => q4 j (own_set no o).2⟩
def retK (r : Rk) (ρ : Env) : Ctl := match r with
  | .sl i => match ρ[i]? with
    | some (.v d) => .rt (.v d) ρ
    | some (.own xs) => .rt (.own xs) (ρ.set i .un)
    | _ => .no
  | r => .rt r ρ
def qRet (fe : Env → Res Rk) : Env → Ctl := fun ρ => (fe ρ).toC retK
theorem sRet (h : SimE g W te fe) : SimS g W (tRet te) (qRet fe) := fun c hg F ρ σ H D e p => h c hg F ρ σ H _ e (p.bind fun F1 H1 ρ1 r e1 l1 q v hv => by
  cases r with
  | v d => exact q _ _ _ _ e1 (Le.refl _ _) hv
  | own xs => exact q _ _ _ _ e1 (Le.refl _ _) hv
  | sl i =>
    obtain ⟨h1, s, h2, h3⟩ := hv
    dsimp only [retK] at q
    rw [h2] at q
    cases s with
    | un => exact q.elim
    | v d => exact q _ _ _ _ e1 (Le.refl _ _) (e1.at_v h2 h1)
    | own xs =>
      obtain ⟨o, e3, a, vs, rfl, e4, e5, e6, e7⟩ := e1.sl i _ h2
      rw [h1] at e3
      cases e3
      have no : ∀ ys, S.un ≠ .own ys ∧ S.un ≠ .io ys := fun ys => ⟨(fun z => nomatch z), (fun z => nomatch z)⟩
      refine q _ _ _ _ (e1.drop h2) (Le.refl _ _) ⟨a, vs, rfl, e4, e5, e6, e7, ?_, fun j o => ?_⟩
      · cases z : c.tmp a with
        | none => rfl
        | some us => exact ((e1.tp a us z).2.2.2 i ⟨h1, xs, .inl h2⟩).elim
      · obtain ⟨ne, o⟩ := own_set no o
        exact ne (e1.dist j i a o ⟨h1, xs, .inl h2⟩)
    | io xs => exact q.elim
    | exc _ _ => exact q.elim
    | scr _ => exact q.elim)
end
end Pu
end

-- PuD
section
set_option Elab.async false
set_option linter.all false
set_option maxRecDepth 100000
set_option maxHeartbeats 4000000
/-! PuD: names bound, loops, comprehensions, while. -/
namespace Pu
open PySem PySem.Spec PyProof.Rows L2 LamX NdefX BlkX
section
variable {g : Gx} {c : Cfg} {W : WX} {F F' : Addr → Prop} {ρ : Env} {σ : L2.St} {H H' : Hp}
theorem own_set2 {i : Nat} {s : S} {o : Option V} (hs : ∀ xs, s ≠ .own xs ∧ s ≠ .io xs) {j : Nat} {b : Addr} (h : OwnAt (ρ.set i s) (σ.set i o) j b) : j ≠ i ∧ OwnAt ρ σ j b := by
  obtain ⟨h1, xs, h2⟩ := h
  have ne : j ≠ i := fun z => by
    subst z
    rw [List.getElem?_set] at h2
    rw [if_pos rfl] at h2
    split at h2
    · rcases h2 with h2 | h2
      · exact (hs xs).1 (Option.some.inj h2)
      · exact (hs xs).2 (Option.some.inj h2)
    · rcases h2 with h2 | h2 <;> cases h2
  rw [List.getElem?_set_ne (Ne.symm ne)] at h2 h1
  exact ⟨ne, h1, xs, h2⟩
theorem lt_of_set {i : Nat} {s u : S} (h : (ρ.set i s)[i]? = some u) : i < ρ.length := by
  have := (List.getElem?_eq_some_iff.mp h).1
  rwa [List.length_set] at this
theorem ER.setV (e : ER c F ρ σ H) {i : Nat} {d : D} {v : V} (hi : c.ioA i = none) (rv : Rv c.g.cm F H v d) : ER c F (ρ.set i (.v d)) (σ.set i (some v)) H := by
  have no : ∀ ys, S.v d ≠ .own ys ∧ S.v d ≠ .io ys := fun ys => ⟨(fun z => nomatch z), (fun z => nomatch z)⟩
  refine ER.mk (by rw [List.length_set, List.length_set]; exact e.len) (fun j s h => ?_) (fun j k b h1 h2 => ?_) (fun j b h => ?_) e.fr e.f0 e.fn e.fl (fun b us h => ?_)
  · rcases get_set h with ⟨rfl, rfl⟩ | ⟨ne, h⟩
    · have := lt_of_set h
      exact ⟨some v, by rw [List.getElem?_set, if_pos rfl, if_pos (by rw [e.len]; exact this)], v, rfl, rv⟩
    · obtain ⟨o, e1, r⟩ := e.sl j s h
      exact ⟨o, by rw [List.getElem?_set_ne (Ne.symm ne)]; exact e1, r⟩
  · exact e.dist j k b (own_set2 no h1).2 (own_set2 no h2).2
  · obtain ⟨ys, hy⟩ := e.ioK j b h
    refine ⟨ys, ?_⟩
    rw [List.getElem?_set_ne (fun z => ?_)]
    · exact hy
    · subst z
      rw [hi] at h
      cases h
  · obtain ⟨q1, q2, q3, q4⟩ := e.tp b us h
    exact ⟨q1, q2, q3, fun j o => q4 j (own_set2 no o).2⟩
theorem ER.setUn (e : ER c F ρ σ H) {i : Nat} {o : Option V} (hi : c.ioA i = none) : ER c F (ρ.set i .un) (σ.set i o) H := by
  have no : ∀ ys, S.un ≠ .own ys ∧ S.un ≠ .io ys := fun ys => ⟨(fun z => nomatch z), (fun z => nomatch z)⟩
  refine ER.mk (by rw [List.length_set, List.length_set]; exact e.len) (fun j s h => ?_) (fun j k b h1 h2 => ?_) (fun j b h => ?_) e.fr e.f0 e.fn e.fl (fun b us h => ?_)
  · rcases get_set h with ⟨rfl, rfl⟩ | ⟨ne, h⟩
    · have := lt_of_set h
      exact ⟨o, by rw [List.getElem?_set, if_pos rfl, if_pos (by rw [e.len]; exact this)], trivial⟩
    · obtain ⟨o, e1, r⟩ := e.sl j s h
      exact ⟨o, by rw [List.getElem?_set_ne (Ne.symm ne)]; exact e1, r⟩
  · exact e.dist j k b (own_set2 no h1).2 (own_set2 no h2).2
  · obtain ⟨ys, hy⟩ := e.ioK j b h
    refine ⟨ys, ?_⟩
    rw [List.getElem?_set_ne (fun z => ?_)]
    · exact hy
    · subst z
      rw [hi] at h
      cases h
  · obtain ⟨q1, q2, q3, q4⟩ := e.tp b us h
    exact ⟨q1, q2, q3, fun j o => q4 j (own_set2 no o).2⟩
theorem own_set3 {i : Nat} {s : S} {a : Addr} {j : Nat} {b : Addr} (h : OwnAt (ρ.set i s) (σ.set i (some (.ref a))) j b) : (j = i ∧ b = a) ∨ (j ≠ i ∧ OwnAt ρ σ j b) := by
  obtain ⟨h1, xs, h2⟩ := h
  by_cases ne : j = i
  · subst ne
    left
    rw [List.getElem?_set, if_pos rfl] at h1
    split at h1
    · have := Option.some.inj (Option.some.inj h1)
      injection this with z
      exact ⟨rfl, z.symm⟩
    · cases h1
  · right
    rw [List.getElem?_set_ne (Ne.symm ne)] at h2 h1
    exact ⟨ne, h1, xs, h2⟩
theorem ER.setOwn (e : ER c F ρ σ H) {i : Nat} {xs : List D} {a : Addr} {vs : List V} (hi : c.ioA i = none) (h1 : H a = some (.lst vs)) (h2 : Rvs c.g.cm F H vs xs) (h3 : ¬ F a) (h4 : c.H0 a = none) (h5 : c.tmp a = none) (h6 : ∀ j, ¬ OwnAt ρ σ j a) :
    ER c F (ρ.set i (.own xs)) (σ.set i (some (.ref a))) H := by
  refine ER.mk (by rw [List.length_set, List.length_set]; exact e.len) (fun j s h => ?_) (fun j k b q1 q2 => ?_) (fun j b h => ?_) e.fr e.f0 e.fn e.fl (fun b us h => ?_)
  · rcases get_set h with ⟨rfl, rfl⟩ | ⟨ne, h⟩
    · have := lt_of_set h
      exact ⟨some (.ref a), by rw [List.getElem?_set, if_pos rfl, if_pos (by rw [e.len]; exact this)], a, vs, rfl, h1, h2, h3, h4⟩
    · obtain ⟨o, e1, r⟩ := e.sl j s h
      exact ⟨o, by rw [List.getElem?_set_ne (Ne.symm ne)]; exact e1, r⟩
  · rcases own_set3 q1 with ⟨z1, z2⟩ | ⟨z1, z2⟩
    · rcases own_set3 q2 with ⟨y1, y2⟩ | ⟨y1, y2⟩
      · rw [z1, y1]
      · exact (h6 k (z2 ▸ y2)).elim
    · rcases own_set3 q2 with ⟨y1, y2⟩ | ⟨y1, y2⟩
      · exact (h6 j (y2 ▸ z2)).elim
      · exact e.dist j k b z2 y2
  · obtain ⟨ys, hy⟩ := e.ioK j b h
    refine ⟨ys, ?_⟩
    rw [List.getElem?_set_ne (fun z => ?_)]
    · exact hy
    · subst z
      rw [hi] at h
      cases h
  · obtain ⟨q1, q2, q3, q4⟩ := e.tp b us h
    refine ⟨q1, q2, q3, fun j o => ?_⟩
    rcases own_set3 o with ⟨_, z⟩ | ⟨_, z⟩
    · subst z; rw [h5] at h; cases h
    · exact q4 j z
def free (ρ : Env) (i : Nat) : Bool := match ρ[i]? with
  | some (.io _) => false
  | some _ => true
  | none => false
theorem ER.free (e : ER c F ρ σ H) {i : Nat} (h : free ρ i = true) : c.ioA i = none := by
  cases z : c.ioA i with
  | none => rfl
  | some a =>
    obtain ⟨xs, hx⟩ := e.ioK i a z
    unfold Pu.free at h
    rw [hx] at h
    cases h
def set1 (i : Nat) (r : Rk) (ρ : Env) : Option Env := if free ρ i then (match r with
  | .v d => some (ρ.set i (.v d))
  | .own xs => some (ρ.set i (.own xs))
  | .sl j => match ρ[j]? with
    | some (.v d) => some (ρ.set i (.v d))
    | some (.own xs) => some ((ρ.set j (.v (.list xs))).set i (.v (.list xs)))
    | _ => none) else none
theorem set1_ok (e : ER c F ρ σ H) {i : Nat} {r : Rk} {v : V} {ρ' : Env} (hr : RR c F H ρ σ r v) (h : set1 i r ρ = some ρ') : ∃ F', ER c F' ρ' (σ.set i (some v)) H ∧ Le F H F' H := by
  unfold set1 at h
  split at h
  · rename_i fr
    have fi := e.free fr
    cases r with
    | v d => cases h; exact ⟨F, e.setV fi hr, Le.refl _ _⟩
    | own xs =>
      cases h
      obtain ⟨a, vs, rfl, h1, h2, h3, h4, h5, h6⟩ := hr
      exact ⟨F, e.setOwn fi h1 h2 h3 h4 h5 h6, Le.refl _ _⟩
    | sl j =>
      obtain ⟨h1, s, h2, h3⟩ := hr
      dsimp only at h
      rw [h2] at h
      cases s with
      | un => cases h
      | v d => cases h; exact ⟨F, e.setV fi (e.at_v h2 h1), Le.refl _ _⟩
      | own xs =>
        cases h
        obtain ⟨o, e1, a, vs, rfl, e2, e3, e4, e5⟩ := e.sl j _ h2
        rw [h1] at e1
        cases e1
        obtain ⟨q1, q2⟩ := e.fixS h2 h1 e2 e3 e5
        exact ⟨_, q1.setV fi q2, Le.fz e2⟩
      | io xs => cases h
      | exc _ _ => cases h
      | scr _ => cases h
  · cases h
variable {D : Ends} {t u : TS} {f f' : Env → Ctl} {te : TE} {fe : Env → Res Rk} {tt : TT} {ft : Env → Res Bool}
def optC (o : Option Env) : Ctl := match o with | some ρ => .nx ρ | none => .no
def qSet (i : Nat) (fe : Env → Res Rk) : Env → Ctl := fun ρ => (fe ρ).toC fun r ρ' => optC (set1 i r ρ')
theorem sSet {i : Nat} (h : SimE g W te fe) : SimS g W (tAsg te (gName i)) (qSet i fe) := fun c hg F ρ σ H D e p => h c hg F ρ σ H _ e (p.bind fun F1 H1 ρ1 r e1 l1 q v hv => by
  cases z : set1 i r ρ1 with
  | none => rw [z] at q; exact q.elim
  | some ρ2 =>
    rw [z] at q
    obtain ⟨F2, e2, l2⟩ := set1_ok e1 hv z
    exact q _ _ _ e2 l2)
/-! ### targets -/
/-- only the slots at sl are another -/
def Only (sl : List Nat) (σ σ' : L2.St) : Prop := ∀ vs : List Nat, (∀ i ∈ sl, i ∈ vs) → wipe σ' vs = wipe σ vs
theorem wipe_set {i : Nat} {o : Option V} : ∀ {vs : List Nat}, i ∈ vs → wipe (σ.set i o) vs = wipe σ vs
  | [], h => by cases h
  | v :: vs, h => by
    unfold wipe
    by_cases e : v = i
    · subst e
      by_cases m : v ∈ vs
      · rw [wipe_set m]
      · have q : ∀ {vs : List Nat}, v ∉ vs → wipe (σ.set v o) vs = (wipe σ vs).set v o := by
          intro vs
          induction vs with
          | nil => intro _; rfl
          | cons w r ih =>
            intro hm
            simp only [List.mem_cons, not_or] at hm
            unfold wipe
            rw [ih hm.2, List.set_comm _ _ hm.1]
        rw [q m, List.set_set]
    · have m : i ∈ vs := by
        rcases List.mem_cons.mp h with h | h
        · exact absurd h.symm e
        · exact h
      rw [wipe_set m]
def SimG (g : Gx) (tg : TG) (fg : PyData → Env → Option Env) (sl : List Nat) : Prop := ∀ (c : Cfg), c.g = g → ∀ F ρ σ H v d (Q : L2.St → Hp → Prop), ER c F ρ σ H → Rv c.g.cm F H v d → (match fg d ρ with | some ρ' => ∀ σ', Only sl σ σ' → ER c F ρ' σ' H → Q σ' H | none => False) → tg v σ H Q
def SimGs (g : Gx) (tg : TGs) (fg : List PyData → Env → Option Env) (sl : List Nat) : Prop := ∀ (c : Cfg), c.g = g → ∀ F ρ σ H v d (Q : L2.St → Hp → Prop), ER c F ρ σ H → Rvs c.g.cm F H v d → (match fg d ρ with | some ρ' => ∀ σ', Only sl σ σ' → ER c F ρ' σ' H → Q σ' H | none => False) → tg v σ H Q
def pName (i : Nat) : PyData → Env → Option Env := fun d ρ => if free ρ i then some (ρ.set i (.v d)) else none
theorem sgName {i : Nat} : SimG g (gName i) (pName i) [i] := fun c hg F ρ σ H v d Q e r p => by
  unfold pName at p
  by_cases z : free ρ i = true
  · rw [if_pos z] at p
    exact p _ (fun vs h => wipe_set (h i (List.mem_singleton.mpr rfl))) (e.setV (e.free z) r)
  · rw [if_neg z] at p
    exact p.elim
def pNil : List PyData → Env → Option Env := fun ds ρ => match ds with | [] => some ρ | _ => none
def pCons (f : PyData → Env → Option Env) (fs : List PyData → Env → Option Env) : List PyData → Env → Option Env := fun ds ρ => match ds with | d :: r => (f d ρ).bind (fs r) | [] => none
theorem sgNil : SimGs g gNil pNil [] := fun c hg F ρ σ H v d Q e r p => by
  cases r with
  | nil => exact ⟨rfl, p _ (fun _ _ => rfl) e⟩
  | cons _ _ => exact p.elim
theorem sgCons {t1 : TG} {ts : TGs} {p1 : PyData → Env → Option Env} {ps : List PyData → Env → Option Env} {s1 s2 : List Nat} (h : SimG g t1 p1 s1) (hs : SimGs g ts ps s2) : SimGs g (gCons t1 ts) (pCons p1 ps) (s1 ++ s2) := fun c hg F ρ σ H v d Q e r p => by
  cases r with
  | nil => exact p.elim
  | cons r1 r2 =>
    refine ⟨_, _, rfl, h c hg F ρ σ H _ _ _ e r1 ?_⟩
    dsimp only [pCons] at p
    cases z : p1 _ ρ with
    | none => rw [z] at p; exact p.elim
    | some ρ1 =>
      rw [z] at p
      intro σ1 o1 e1
      refine hs c hg F ρ1 σ1 H _ _ _ e1 r2 ?_
      dsimp only [Option.bind] at p
      split at p
      · exact fun σ2 o2 e2 => p σ2 (fun vs h => (o2 vs fun i m => h i (List.mem_append_right _ m)).trans (o1 vs fun i m => h i (List.mem_append_left _ m))) e2
      · exact p.elim
def pTup (n : Nat) (ps : List PyData → Env → Option Env) : PyData → Env → Option Env := fun d ρ => match d with
  | .tuple ds => if ds.length = n then ps ds ρ else none
  | _ => none
theorem sgTup {K : PySem.W.Frag} {n : Nat} {ts : TGs} {ps : List PyData → Env → Option Env} {sl : List Nat} (hs : SimGs g ts ps sl) : SimG g (gTup K n ts) (pTup n ps) sl := fun c hg F ρ σ H v d Q e r p => by
  cases r with
  | tup h r =>
    dsimp only [pTup] at p
    split at p
    · rename_i z
      split at z
      · rename_i n1
        exact ⟨_, _, rfl, TZ.sq h, by rw [r.length]; exact n1, hs c hg F ρ σ H _ _ _ e r (by rw [z]; exact p)⟩
      · cases z
    · exact p.elim
  | _ => exact p.elim
def qAsg (fe : Env → Res Rk) (pg : PyData → Env → Option Env) : Env → Ctl := fun ρ => (qV fe ρ).toC fun d ρ' => optC (pg d ρ')
theorem sAsg {tg : TG} {pg : PyData → Env → Option Env} {sl : List Nat} (h : SimE g W te fe) (hg' : SimG g tg pg sl) : SimS g W (tAsg te tg) (qAsg fe pg) := fun c hg F ρ σ H D e p => sV h c hg F ρ σ H _ e (p.bind fun F1 H1 ρ1 d e1 l1 q v hv => by
  refine hg' c hg F1 ρ1 σ H1 v d _ e1 hv ?_
  cases z : pg d ρ1 with
  | none => rw [z] at q; exact q
  | some ρ2 => rw [z] at q; exact fun σ' _ e' => q _ _ _ e' (Le.refl _ _))
/-! ### two names at once -/
def qPar (i j : Nat) (fa fb : Env → Res Rk) : Env → Ctl := fun ρ => (fa ρ).toC fun r ρ1 => match r with
  | .own xs => (fb ρ1).toC fun r2 ρ2 => match set1 i (.own xs) ρ2 with
    | some ρ3 => (match r2 with
      | .sl k => if k = i then .no else optC (set1 j r2 ρ3)
      | _ => optC (set1 j r2 ρ3))
    | none => .no
  | r => (esc r ρ1).toC fun d ρ2 => (fb ρ2).toC fun r2 ρ3 => match r2 with
    | .sl k => if k = i then .no else (match set1 i (.v d) ρ3 with | some ρ4 => optC (set1 j r2 ρ4) | none => .no)
    | _ => match set1 i (.v d) ρ3 with | some ρ4 => optC (set1 j r2 ρ4) | none => .no
/-! ### loops -/
def SimI (g : Gx) (W : WX) (wi : TI) (fi : Env → Res (List PyData)) : Prop := ∀ (c : Cfg), c.g = g → ∀ F ρ σ H (R : It → Hp → Prop), ER c F ρ σ H → Post c W F H σ (fun F' H' ρ' ds => ∀ J G Y, Walk J ds.length G Y → (∀ F2 H2, Le F' H' F2 H2 → G H2) →
  (∀ (c2 : Cfg) F2 ρ2 σ2 H2 i x H3, ER c2 F2 ρ2 σ2 H2 → Le F' H' F2 H2 → i < ds.length → Y i H2 x H3 → ∃ d, ds[i]? = some d ∧ ER c2 F2 ρ2 σ2 H3 ∧ Le F2 H2 F2 H3 ∧ (∀ b, H2 b ≠ none → H3 b = H2 b) ∧ Rv c.g.cm F2 H3 x d) → R J H') (fi ρ) → wi σ H R
def qIl (fe : Env → Res Rk) : Env → Res (List PyData) := fun ρ => (qV fe ρ).bind fun d ρ' => match d with | .list ds => .ok ds ρ' | _ => .no
def qIt (fe : Env → Res Rk) : Env → Res (List PyData) := fun ρ => (qV fe ρ).bind fun d ρ' => match d with | .tuple ds => .ok ds ρ' | _ => .no
theorem sIl {K : PySem.W.Frag} (h : SimE g W te fe) : SimI g W (iList K te) (qIl fe) := fun c hg F ρ σ H R e p => sV h c hg F ρ σ H _ e (p.bind fun F1 H1 ρ1 d e1 l1 q v hv => by
  cases hv with
  | lst f h r =>
    refine ⟨_, rfl, ⟨_, SqL.of h⟩, q _ _ e1 (Le.refl _ _) _ _ _ (by rw [← r.length]; exact walk_list) (fun F2 H2 l => SqL.of (l.h _ _ f h)) fun c2 F2 ρ2 σ2 H2 i x H3 e2 l hi y => ?_⟩
    obtain ⟨rfl, hx⟩ := y
    obtain ⟨d, hd, rd⟩ := r.get hx
    exact ⟨d, hd, e2, Le.refl _ _, fun _ _ => rfl, rd.mono l⟩
  | _ => exact q.elim)
theorem sIt {K : PySem.W.Frag} (h : SimE g W te fe) : SimI g W (iTup K te) (qIt fe) := fun c hg F ρ σ H R e p => sV h c hg F ρ σ H _ e (p.bind fun F1 H1 ρ1 d e1 l1 q v hv => by
  cases hv with
  | tup h r =>
    refine ⟨_, rfl, ⟨_, TZ.sq h⟩, q _ _ e1 (Le.refl _ _) _ _ _ (by rw [← r.length]; exact walk_tup) (fun F2 H2 l => (l.tz h).sq) fun c2 F2 ρ2 σ2 H2 i x H3 e2 l hi y => ?_⟩
    obtain ⟨rfl, hx⟩ := y
    obtain ⟨d, hd, rd⟩ := r.get hx
    exact ⟨d, hd, e2, Le.refl _ _, fun _ _ => rfl, rd.mono l⟩
  | _ => exact q.elim)
def iot (lo : Int) (n : Nat) : List PyData := (List.range n).map fun (i : Nat) => .int (lo + i)
theorem iot_get {lo : Int} {n i : Nat} (h : i < n) : (iot lo n)[i]? = some (.int (lo + i)) := by
  unfold iot
  rw [List.getElem?_map, List.getElem?_range h] <;> rfl
theorem iot_len {lo : Int} {n : Nat} : (iot lo n).length = n := by unfold iot; simp
def qR1 (fe : Env → Res Rk) : Env → Res (List PyData) := fun ρ => (qB fe ρ).bind fun d ρ' => match d with | .int j => if -(2 ^ 62) ≤ j ∧ j < 2 ^ 62 then .ok (iot 0 j.toNat) ρ' else .no | _ => .no
theorem sR1 (h : SimE g W te fe) : SimI g W (iRng1 (tCons te tNil)) (qR1 fe) := fun c hg F ρ σ H R e p => sB h c hg F ρ σ H (fun x H1 => ∃ j : Int, [x] = [V.int j] ∧ -(2 ^ 62) ≤ j ∧ j < 2 ^ 62 ∧ R (Itr 0 j.toNat) H1) e (p.bind fun F1 H1 ρ1 d e1 l1 q v hv => by
  cases d with
  | int j =>
    obtain rfl := hv.int
    dsimp only at q
    split at q
    · rename_i z
      refine ⟨j, rfl, z.1, z.2, q _ _ e1 (Le.refl _ _) _ _ _ (by rw [iot_len]; exact walk_range) (fun _ _ _ => trivial) fun c2 F2 ρ2 σ2 H2 i x H3 e2 l hi y => ?_⟩
      obtain ⟨rfl, rfl⟩ := y
      rw [iot_len] at hi
      exact ⟨_, iot_get hi, e2, Le.refl _ _, fun _ _ => rfl, .int _⟩
    · exact q.elim
  | _ => exact q.elim)
def qR2 (fa fb : Env → Res Rk) : Env → Res (List PyData) := fun ρ => (qB2 fa fb ρ).bind fun d ρ' => match d with | (.int i, .int j) => if -(2 ^ 62) ≤ i ∧ i < 2 ^ 62 ∧ -(2 ^ 62) ≤ j ∧ j < 2 ^ 62 then .ok (iot i (j - i).toNat) ρ' else .no | _ => .no
theorem sR2 {ta tb : TE} {fa fb : Env → Res Rk} (h : SimE g W ta fa) (h' : SimE g W tb fb) : SimI g W (iRng2 (tCons ta (tCons tb tNil))) (qR2 fa fb) := fun c hg F ρ σ H R e p =>
  sB2 h h' c hg F ρ σ H (fun x y H1 => ∃ i j : Int, [x, y] = [V.int i, V.int j] ∧ (-(2 ^ 62) ≤ i ∧ i < 2 ^ 62 ∧ -(2 ^ 62) ≤ j ∧ j < 2 ^ 62) ∧ R (Itr i (j - i).toNat) H1) e (p.bind fun F1 H1 ρ1 d e1 l1 q v u hv hu => by
  obtain ⟨d1, d2⟩ := d
  cases d1 with
  | int i =>
    cases d2 with
    | int j =>
      obtain rfl := Bv.int hv
      obtain rfl := Bv.int hu
      dsimp only at q
      split at q
      · rename_i z
        refine ⟨i, j, rfl, z, q _ _ e1 (Le.refl _ _) _ _ _ (by rw [iot_len]; exact walk_range) (fun _ _ _ => trivial) fun c2 F2 ρ2 σ2 H2 k x H3 e2 l hi y => ?_⟩
        obtain ⟨rfl, rfl⟩ := y
        rw [iot_len] at hi
        exact ⟨_, iot_get hi, e2, Le.refl _ _, fun _ _ => rfl, .int _⟩
      · exact q.elim
    | _ => exact q.elim
  | _ => exact q.elim)
def forC (pg : PyData → Env → Option Env) (fb : Env → Ctl) : List PyData → Env → Ctl
  | [], ρ => .nx ρ
  | d :: ds, ρ => match pg d ρ with
    | none => .no
    | some ρ1 => match fb ρ1 with
      | .nx ρ2 => forC pg fb ds ρ2
      | .ct ρ2 => forC pg fb ds ρ2
      | .bk ρ2 => .nx ρ2
      | x => x
def qFor (fi : Env → Res (List PyData)) (pg : PyData → Env → Option Env) (fb : Env → Ctl) : Env → Ctl := fun ρ => (fi ρ).toC fun ds ρ' => forC pg fb ds ρ'
theorem sFor {wi : TI} {tg : TG} {tb : TS} {fi : Env → Res (List PyData)} {pg : PyData → Env → Option Env} {fb : Env → Ctl} {sl : List Nat} (hi : SimI g W wi fi) (hg' : SimG g tg pg sl) (hb : SimS g W tb fb) : SimS g W (tFor wi tg tb) (qFor fi pg fb) := fun c hg F ρ σ H D e p =>
  hi c hg F ρ σ H _ e (p.bind fun F1 H1 ρ1 ds e1 l1 q J G Y w hG hY => by
    refine for_it w (fun i σ' H' => ∃ F2 ρ2, ER c F2 ρ2 σ' H' ∧ Le F1 H1 F2 H' ∧ PostS c W F2 H' D (forC pg fb (ds.drop i) ρ2)) ⟨F1, ρ1, e1, Le.refl _ _, q⟩ (fun i σ' H' _ ⟨F2, ρ2, e2, l2, _⟩ => hG F2 H' l2) ?_ ?_
    · rintro i x σ2 H2 H3 hi ⟨F2, ρ2, e2, l2, p2⟩ y
      obtain ⟨d, hd, e3, l3, _, rd⟩ := hY c F2 ρ2 σ2 H2 i x H3 e2 l2 hi y
      have ed : ds.drop i = d :: ds.drop (i + 1) := by
        rw [List.drop_eq_getElem_cons hi]
        rw [List.getElem?_eq_getElem hi] at hd
        rw [Option.some.inj hd]
      rw [ed] at p2
      dsimp only [forC] at p2
      refine hg' c hg F2 ρ2 σ2 H3 x d _ e3 rd ?_
      cases z : pg d ρ2 with
      | none => rw [z] at p2; exact p2
      | some ρ3 =>
        rw [z] at p2
        dsimp only at p2
        intro σ3 _ e4
        refine hb c hg F2 ρ3 σ3 H3 _ e4 ?_
        have p3 := p2.rebase l3
        cases y : fb ρ3 with
        | nx ρ4 => rw [y] at p3; exact fun F' σ' H' e' l' => ⟨F', ρ4, e', (l2.trans l3).trans l', PostS.rebase l' p3⟩
        | ct ρ4 => rw [y] at p3; exact fun F' σ' H' e' l' => ⟨F', ρ4, e', (l2.trans l3).trans l', PostS.rebase l' p3⟩
        | bk ρ4 => rw [y] at p3; exact p3
        | rt r ρ4 => rw [y] at p3; exact p3
        | ex cl w' ρ4 => rw [y] at p3; exact p3
        | no => rw [y] at p3; exact p3
    · rintro σ2 H2 ⟨F2, ρ2, e2, l2, p2⟩
      rw [List.drop_length] at p2
      exact p2 _ _ _ e2 (Le.refl _ _))
end
end Pu
end

-- PuE
section
set_option Elab.async false
set_option linter.all false
set_option maxRecDepth 100000
set_option maxHeartbeats 4000000
/-! PuE: comprehensions, while, lists of one's own, calls. -/
namespace Pu
open PySem PySem.Spec PyProof.Rows L2 LamX NdefX BlkX
section
variable {g : Gx} {c : Cfg} {W : WX} {F F' : Addr → Prop} {ρ : Env} {σ : L2.St} {H H' : Hp}
/-! ### a new list held for a moment -/
def tmpD (c : Cfg) (p : Addr) (vs : List V) : Cfg := { c with tmp := fun b => if b = p then some vs else c.tmp b }
theorem tmpD_g {p : Addr} {vs : List V} : (tmpD c p vs).g = c.g := rfl
theorem ER.addT (e : ER c F ρ σ H) {p : Addr} {vs : List V} (h1 : H p = some (.lst vs)) (h2 : ¬ F p) (h3 : c.H0 p = none) (h4 : ∀ i, ¬ OwnAt ρ σ i p) : ER (tmpD c p vs) F ρ σ H :=
  ER.mk e.len (fun i s h => by
    obtain ⟨o, e1, r⟩ := e.sl i s h
    exact ⟨o, e1, by cases s <;> exact r⟩) e.dist e.ioK e.fr e.f0 e.fn e.fl fun b us h => by
    by_cases z : b = p
    · subst z
      have : us = vs := by
        dsimp only [tmpD] at h
        rw [if_pos rfl] at h
        exact (Option.some.inj h).symm
      subst this
      exact ⟨h1, h2, h3, h4⟩
    · dsimp only [tmpD] at h
      rw [if_neg z] at h
      exact e.tp b us h
theorem ER.dropT {p : Addr} {vs : List V} (e : ER (tmpD c p vs) F ρ σ H) (n : c.tmp p = none) : ER c F ρ σ H ∧ H p = some (.lst vs) ∧ ¬ F p ∧ c.H0 p = none ∧ ∀ i, ¬ OwnAt ρ σ i p := by
  have q := e.tp p vs (by dsimp only [tmpD]; rw [if_pos rfl])
  refine ⟨ER.mk e.len (fun i s h => ?_) e.dist e.ioK e.fr e.f0 e.fn e.fl fun b us h => ?_, q⟩
  · obtain ⟨o, e1, r⟩ := e.sl i s h
    exact ⟨o, e1, by cases s <;> exact r⟩
  · refine e.tp b us ?_
    dsimp only [tmpD]
    rw [if_neg (fun z => by subst z; rw [n] at h; cases h)]
    exact h
theorem Le.mutU {p : Addr} {vs : List V} {o : HO} (h1 : H p = some (.lst vs)) (h2 : ¬ F p) : Le F H F (upd H p o) := ⟨fun _ h => h, fun b u k h => by
    by_cases z : b = p
    · subst z
      rw [h1] at h
      cases h
      exact (h2 k).elim
    · rw [upd_ne z]; exact h⟩
/-- a list that no slot owns is changed -/
theorem ER.mutU (e : ER c F ρ σ H) {p : Addr} {vs ws : List V} (h1 : H p = some (.lst vs)) (h2 : ¬ F p) (h3 : c.H0 p = none) (h4 : ∀ i, ¬ OwnAt ρ σ i p) (n : c.tmp p = none) : ER c F ρ σ (upd H p (.lst ws)) := by
  have ne : ∀ i a, OwnAt ρ σ i a → a ≠ p := fun i a o z => h4 i (z ▸ o)
  refine ER.mk e.len (fun i s h => ?_) e.dist e.ioK (e.fr.mutL (.inl h3) h1) e.f0 e.fn (fun b h => ?_) fun b us h => ?_
  · obtain ⟨o, e1, r⟩ := e.sl i s h
    refine ⟨o, e1, r.mono (Le.mutU h1 h2) fun a ha ⟨xs, hs⟩ => ?_⟩
    have oa : OwnAt ρ σ i a := ⟨by rw [e1, ha], xs, by rcases hs with hs | hs <;> (subst hs; simp [h])⟩
    obtain ⟨_, _, _, _, q, _⟩ := oa.get e
    exact ⟨q, upd_ne (ne i a oa)⟩
  · obtain ⟨us, hu⟩ := e.fl b h
    exact ⟨us, by rw [upd_ne (fun z => by subst z; exact h2 h)]; exact hu⟩
  · obtain ⟨q1, q2, q3, q4⟩ := e.tp b us h
    exact ⟨by rw [upd_ne (fun z => by subst z; rw [n] at h; cases h)]; exact q1, q2, q3, q4⟩
/-! ### comprehensions -/
def unE (ρ : Env) : List Nat → Env
  | [] => ρ
  | v :: vs => (unE ρ vs).set v .un
def backE (ρ0 ρ : Env) : List Nat → Env
  | [] => ρ
  | v :: vs => (backE ρ0 ρ vs).set v (match ρ0[v]? with | some (.v d) => .v d | _ => .un)
theorem ER.unE (e : ER c F ρ σ H) : ∀ {own : List Nat}, (∀ i ∈ own, c.ioA i = none) → ER c F (unE ρ own) (wipe σ own) H
  | [], _ => e
  | v :: vs, h => (ER.unE e fun i m => h i (List.mem_cons_of_mem _ m)).setUn (h v List.mem_cons_self)
def putB (σ τ : L2.St) : List Nat → L2.St
  | [] => τ
  | v :: vs => (putB σ τ vs).set v (σ[v]?.getD none)
theorem putB_len {τ : L2.St} : ∀ {vs : List Nat}, (putB σ τ vs).length = τ.length
  | [] => rfl
  | v :: vs => by unfold putB; rw [List.length_set, putB_len]
theorem putB_get {τ : L2.St} (l : τ.length = σ.length) : ∀ {vs : List Nat} {i : Nat}, (i ∈ vs ∨ τ[i]? = σ[i]?) → (putB σ τ vs)[i]? = σ[i]?
  | [], i, h => by
    rcases h with h | h
    · cases h
    · exact h
  | v :: vs, i, h => by
    unfold putB
    by_cases e : v = i
    · subst e
      by_cases b : v < σ.length
      · rw [List.getElem?_set_self (by rw [putB_len, l]; exact b), List.getElem?_eq_getElem b] <;> rfl
      · rw [List.getElem?_eq_none (by rw [List.length_set, putB_len, l]; omega), List.getElem?_eq_none (by omega)]
    · rw [List.getElem?_set_ne e]
      refine putB_get l ?_
      rcases h with h | h
      · rcases List.mem_cons.mp h with h | h
        · exact absurd h.symm e
        · exact .inl h
      · exact .inr h
theorem wipe_get : ∀ {vs : List Nat} {i : Nat}, i ∉ vs → (wipe σ vs)[i]? = σ[i]?
  | [], _, _ => rfl
  | v :: vs, i, h => by
    simp only [List.mem_cons, not_or] at h
    unfold wipe
    rw [List.getElem?_set_ne (Ne.symm h.1), wipe_get h.2]
theorem putB_wipe {own : List Nat} : putB σ (wipe σ own) own = σ := by
  refine List.ext_getElem? fun i => putB_get (wipe_length σ own) ?_
  by_cases m : i ∈ own
  · exact .inl m
  · exact .inr (wipe_get m)
theorem ER.back {F0 : Addr → Prop} {ρ0 : Env} {τ : L2.St} {H0' : Hp} {c0 : Cfg} (hc : c0.g = c.g) (e0 : ER c0 F0 ρ0 σ H0') (l : Le F0 H0' F H) (e : ER c F ρ τ H) : ∀ {own : List Nat}, (∀ i ∈ own, c.ioA i = none) → ER c F (backE ρ0 ρ own) (putB σ τ own) H
  | [], _ => e
  | v :: vs, h => by
    have q := ER.back hc e0 l e (own := vs) fun i m => h i (List.mem_cons_of_mem _ m)
    have hv := h v List.mem_cons_self
    unfold backE putB
    cases z : ρ0[v]? with
    | none => exact q.setUn hv
    | some s =>
      cases s with
      | v d =>
        obtain ⟨o, e1, w, rfl, r⟩ := e0.sl v _ z
        rw [e1]
        exact q.setV hv (hc ▸ r.mono l)
      | un => exact q.setUn hv
      | own xs => exact q.setUn hv
      | io xs => exact q.setUn hv
      | exc _ _ => exact q.setUn hv
      | scr _ => exact q.setUn hv
def lcC (pg : PyData → Env → Option Env) (ft : Env → Res Bool) (fe : Env → Res PyData) (own : List Nat) : List PyData → Env → List PyData → Res Rk
  | [], ρ, acc => .ok (.own acc) ρ
  | d :: ds, ρ, acc => match pg d ρ with
    | none => .no
    | some ρ1 => match ft ρ1 with
      | .ok true ρ2 => (match fe ρ2 with
        | .ok x ρ3 => if acc.length < sizeLine then lcC pg ft fe own ds (unE ρ3 own) (acc ++ [x]) else .no
        | _ => .no)
      | .ok false ρ2 => lcC pg ft fe own ds (unE ρ2 own) acc
      | _ => .no
def qLc (fi : Env → Res (List PyData)) (pg : PyData → Env → Option Env) (ft : Env → Res Bool) (fe : Env → Res Rk) (own : List Nat) : Env → Res Rk := fun ρ =>
  (fi ρ).bind fun ds ρ1 => if own.all (free ρ1) = true then (match lcC pg ft (qV fe) own ds (unE ρ1 own) [] with | .ok r ρ2 => .ok r (backE ρ1 ρ2 own) | _ => .no) else .no
abbrev W0 : WX := fun _ _ _ _ => False
theorem sLc {wi : TI} {tg : TG} {tt : TT} {te : TE} {fi : Env → Res (List PyData)} {pg : PyData → Env → Option Env} {ft : Env → Res Bool} {fe : Env → Res Rk} {own sl : List Nat} (hi : SimI g W wi fi) (hg' : SimG g tg pg sl) (ht : SimT g W0 tt ft) (he : SimE g W0 te fe)
    (hs : ∀ i ∈ sl, i ∈ own) : SimE g W (tLc wi tg tt te own) (qLc fi pg ft fe own) := fun c hg F ρ σ H Q e p =>
  hi c hg F ρ σ H _ e (p.bind fun F1 H1 ρ1 ds e1 l1 q J G Y w hG hY D hD => by
    split at q
    · rename_i hfree
      have fr : ∀ i ∈ own, c.ioA i = none := fun i m => e1.free (List.all_eq_true.mp hfree i m)
      have nD := e1.tn hD
      have eA : ER (tmpD c D []) F1 (unE ρ1 own) (wipe σ own) (upd H1 D (.lst [])) :=
        ((e1.new hD).unE fr).addT upd_same (e1.nf hD) (e1.h0 hD) fun i o => by
          obtain ⟨_, _, z, _⟩ := o.get ((e1).unE fr)
          rw [hD] at z; cases z
      refine lc_it w (fun i H' => ∃ F2 ρ2 acc vs, ER (tmpD c D vs) F2 ρ2 (wipe σ own) H' ∧ Le F1 H1 F2 H' ∧ Rvs c.g.cm F2 H' vs acc ∧
        (match lcC pg ft (qV fe) own (ds.drop i) ρ2 acc with | .ok r ρ3 => Post c W F1 H1 σ (fun F' H' ρ' r => ∀ v, RR c F' H' ρ' σ r v → Q v H') (.ok r (backE ρ1 ρ3 own)) | _ => False))
        ⟨F1, unE ρ1 own, [], [], eA, Le.new hD, .nil, ?_⟩ (fun i H' _ ⟨F2, ρ2, acc, vs, e2, l2, _⟩ => hG F2 H' l2) ?_ ?_
      · rw [List.drop_zero]
        cases z : lcC pg ft (qV fe) own ds (unE ρ1 own) [] with
        | ok r ρ3 => rw [z] at q; exact q
        | ex _ _ _ => rw [z] at q; exact q.elim
        | no => rw [z] at q; exact q.elim
      · rintro i x H2 H3 hi ⟨F2, ρ2, acc, vs, e2, l2, rv, p2⟩ y
        obtain ⟨d, hd, e3, l3, _, rd⟩ := hY (tmpD c D vs) F2 ρ2 _ H2 i x H3 e2 l2 hi y
        have ed : ds.drop i = d :: ds.drop (i + 1) := by
          rw [List.drop_eq_getElem_cons hi]
          rw [List.getElem?_eq_getElem hi] at hd
          rw [Option.some.inj hd]
        rw [ed] at p2
        dsimp only [lcC] at p2
        refine hg' (tmpD c D vs) hg F2 ρ2 _ H3 x d _ e3 rd ?_
        cases z : pg d ρ2 with
        | none => rw [z] at p2; exact p2
        | some ρ3 =>
          rw [z] at p2
          dsimp only at p2
          intro σ3 o3 e4
          have wp : wipe σ3 own = wipe σ own := by
            rw [o3 own hs]
            have idem : ∀ vs : List Nat, ∀ τ : L2.St, (∀ i ∈ vs, τ[i]? = none ∨ τ[i]? = some none) → wipe τ vs = τ := by
              intro vs τ h
              induction vs with
              | nil => rfl
              | cons v r ih =>
                unfold wipe
                rw [ih fun i m => h i (List.mem_cons_of_mem _ m)]
                refine List.ext_getElem? fun k => ?_
                by_cases ek : v = k
                · subst ek
                  rw [List.getElem?_set, if_pos rfl]
                  rcases h v List.mem_cons_self with hv | hv
                  · rw [if_neg (by have := List.getElem?_eq_none_iff.mp hv; omega), hv]
                  · rw [if_pos (List.getElem?_eq_some_iff.mp hv).1, hv]
                · rw [List.getElem?_set_ne ek]
            refine idem own _ fun i m => ?_
            cases hv : (wipe σ own)[i]? with
            | none => exact .inl rfl
            | some o =>
              cases o with
              | none => exact .inr rfl
              | some u => exact ((wipe_some hv).2 m).elim
          refine ⟨wp, ?_⟩
          refine ht (tmpD c D vs) hg F2 ρ3 σ3 H3 _ e4 ?_
          cases zt : ft ρ3 with
          | no => rw [zt] at p2; exact p2
          | ex _ _ _ => rw [zt] at p2; exact p2.elim
          | ok b ρ4 =>
            rw [zt] at p2
            intro F4 H4 e5 l5
            cases b with
            | false =>
              refine iteF ⟨F4, unE ρ4 own, acc, vs, wp ▸ e5.unE fr, (l2.trans l3).trans l5, rv.mono (l3.trans l5), p2⟩
            | true =>
              refine iteT ?_
              refine sV he (tmpD c D vs) hg F4 ρ4 σ3 H4 _ e5 ?_
              dsimp only at p2
              cases zx : qV fe ρ4 with
              | no => rw [zx] at p2; exact p2
              | ex _ _ _ => rw [zx] at p2; exact p2.elim
              | ok x' ρ5 =>
                rw [zx] at p2
                intro F5 H5 e6 l6 v hv
                dsimp only at p2
                by_cases hl : acc.length < sizeLine
                · rw [if_pos hl] at p2
                  have r5 : Rvs c.g.cm F5 H5 vs acc := rv.mono ((l3.trans l5).trans l6)
                  obtain ⟨e7, h1, h2, h3, h4⟩ := e6.dropT nD
                  refine ⟨vs, h1, by rw [r5.length]; exact hl, ?_⟩
                  have lm : Le F5 H5 F5 (upd H5 D (.lst (vs ++ [v]))) := Le.mutU h1 h2
                  have e8 := e7.mutU (ws := vs ++ [v]) h1 h2 h3 h4 nD
                  refine ⟨F5, unE ρ5 own, acc ++ [x'], vs ++ [v], ?_, (((l2.trans l3).trans l5).trans l6).trans lm, (r5.append (.cons hv .nil)).mono lm, p2⟩
                  rw [← wp]
                  refine (e8.unE fr).addT upd_same h2 h3 fun i o => ?_
                  obtain ⟨z1, xs, z2⟩ := o
                  have q9 := e6.unE fr
                  exact (q9.tp D vs (by dsimp only [tmpD]; rw [if_pos rfl])).2.2.2 i ⟨z1, xs, z2⟩
                · rw [if_neg hl] at p2
                  exact p2.elim
      · rintro H2 ⟨F2, ρ2, acc, vs, e2, l2, rv, p2⟩
        rw [List.drop_length] at p2
        dsimp only [lcC] at p2
        have e3 := ER.back (c := tmpD c D vs) (c0 := c) rfl e1 l2 e2 (own := own) fr
        rw [putB_wipe] at e3
        obtain ⟨e4, h1, h2, h3, h4⟩ := e3.dropT nD
        exact p2 F2 H2 e4 l2 _ ⟨D, vs, rfl, h1, rv, h2, h3, nD, h4⟩
    · exact q.elim)
end
end Pu
end

-- PuF
section
set_option Elab.async false
set_option linter.all false
set_option maxRecDepth 100000
set_option maxHeartbeats 4000000
/-! PuF: two names at once, while, lists of one's own, calls. -/
namespace Pu
open PySem PySem.Spec PyProof.Rows L2 LamX NdefX BlkX
section
variable {g : Gx} {c : Cfg} {W : WX} {F F' : Addr → Prop} {ρ : Env} {σ : L2.St} {H H' : Hp}
theorem qset_ok {D : Ends} {j : Nat} {r : Rk} {v : V} (e : ER c F ρ σ H) (hr : RR c F H ρ σ r v) (q : PostS c W F H D (optC (set1 j r ρ))) : D.nx (σ.set j (some v)) H := by
  cases z : set1 j r ρ with
  | none => rw [z] at q; exact q.elim
  | some ρ2 =>
    rw [z] at q
    obtain ⟨F2, e2, l2⟩ := set1_ok e hr z
    exact q _ _ _ e2 l2
theorem get_set_ne {i k : Nat} {s : S} {o : Option V} (h : k ≠ i) : (ρ.set i s)[k]? = ρ[k]? ∧ (σ.set i o)[k]? = σ[k]? := ⟨List.getElem?_set_ne (Ne.symm h), List.getElem?_set_ne (Ne.symm h)⟩
theorem set1_v {i : Nat} {d : PyData} {ρ3 : Env} (h : set1 i (.v d) ρ = some ρ3) : free ρ i = true ∧ ρ3 = ρ.set i (.v d) := by
  unfold set1 at h
  split at h
  · rename_i z; exact ⟨z, by cases h; rfl⟩
  · cases h
theorem set1_own {i : Nat} {d : List PyData} {ρ3 : Env} (h : set1 i (.own d) ρ = some ρ3) : free ρ i = true ∧ ρ3 = ρ.set i (.own d) := by
  unfold set1 at h
  split at h
  · rename_i z; exact ⟨z, by cases h; rfl⟩
  · cases h
theorem sPar {i j : Nat} {ta tb : TE} {fa fb : Env → Res Rk} (ha : SimE g W ta fa) (hb : SimE g W tb fb) : SimS g W (tPar i j (tCons ta (tCons tb tNil))) (qPar i j fa fb) := fun c hg F ρ σ H D e p =>
  ha c hg F ρ σ H _ e (p.bind fun F1 H1 ρ1 r e1 l1 q v hv => by
    -- a fixed first value, then the second
    have fixed : ∀ F1 ρ1 d, ER c F1 ρ1 σ H1 → Rv c.g.cm F1 H1 v d → PostS c W F1 H1 D ((fb ρ1).toC fun r2 ρ3 => match r2 with
        | .sl k => if k = i then .no else (match set1 i (.v d) ρ3 with | some ρ4 => optC (set1 j r2 ρ4) | none => .no)
        | _ => match set1 i (.v d) ρ3 with | some ρ4 => optC (set1 j r2 ρ4) | none => .no) →
        tCons tb tNil σ H1 fun xs H2 => ∃ v' w, v :: xs = [v', w] ∧ D.nx ((σ.set i (some v')).set j (some w)) H2 := fun F1 ρ1 d e1 rd q =>
      hb c hg F1 ρ1 σ H1 _ e1 (q.bind fun F2 H2 ρ2 r2 e2 l2 q2 u hu => ⟨v, u, rfl, by
        have rd2 := rd.mono l2
        cases r2 with
        | v d2 =>
          cases z : set1 i (.v d) ρ2 with
          | none => dsimp only at q2; rw [z] at q2; exact q2.elim
          | some ρ3 =>
            dsimp only at q2; rw [z] at q2
            obtain ⟨z1, rfl⟩ := set1_v z
            exact qset_ok (e2.setV (e2.free z1) rd2) (r := .v d2) hu q2
        | own xs =>
          cases z : set1 i (.v d) ρ2 with
          | none => dsimp only at q2; rw [z] at q2; exact q2.elim
          | some ρ3 =>
            dsimp only at q2; rw [z] at q2
            obtain ⟨z1, rfl⟩ := set1_v z
            obtain ⟨a, vs, rfl, h1, h2, h3, h4, h5, h6⟩ := hu
            exact qset_ok (e2.setV (e2.free z1) rd2) (r := .own xs) ⟨a, vs, rfl, h1, h2, h3, h4, h5, fun k o => h6 k (own_set2 (s := .v d) (fun ys => ⟨(fun z => nomatch z), (fun z => nomatch z)⟩) o).2⟩ q2
        | sl k =>
          dsimp only at q2
          by_cases ki : k = i
          · rw [if_pos ki] at q2; exact q2.elim
          · rw [if_neg ki] at q2
            cases z : set1 i (.v d) ρ2 with
            | none => rw [z] at q2; exact q2.elim
            | some ρ3 =>
              rw [z] at q2
              obtain ⟨z1, rfl⟩ := set1_v z
              obtain ⟨h1, s, h2, h3⟩ := hu
              exact qset_ok (e2.setV (e2.free z1) rd2) (r := .sl k) ⟨(get_set_ne (ρ := ρ2) (s := .un) ki).2.trans h1, s, (get_set_ne (σ := σ) (o := none) ki).1.trans h2, h3⟩ q2⟩)
    cases r with
    | own xs =>
      obtain ⟨a, vs, rfl, h1, h2, h3, h4, h5, h6⟩ := hv
      dsimp only at q
      have et := e1.addT h1 h3 h4 h6
      refine hb (tmpD c a vs) hg F1 ρ1 σ H1 _ et ?_
      cases zb : fb ρ1 with
      | no => rw [zb] at q; exact q
      | ex cl w ρ2 =>
        rw [zb] at q
        exact fun F2 H2 d C v e2 l2 => q F2 σ H2 d C v (e2.dropT h5).1 l2
      | ok r2 ρ2 =>
        rw [zb] at q
        intro F2 H2 e2' l2 u hu
        obtain ⟨e2, k1, k2, k3, k4⟩ := e2'.dropT h5
        have q2 := PostS.rebase l2 q
        dsimp only [Res.toC] at q2
        refine ⟨.ref a, u, rfl, ?_⟩
        cases z : set1 i (.own xs) ρ2 with
        | none => rw [z] at q2; exact q2.elim
        | some ρ3 =>
          rw [z] at q2
          obtain ⟨z1, rfl⟩ := set1_own z
          have e3 := e2.setOwn (e2.free z1) k1 (h2.mono l2) k2 k3 h5 k4
          cases r2 with
          | v d2 => exact qset_ok e3 (r := .v d2) hu q2
          | own ys =>
            obtain ⟨b, us, rfl, m1, m2, m3, m4, m5, m6⟩ := hu
            have ab : b ≠ a := fun z => by
              subst z
              dsimp only [tmpD] at m5
              rw [if_pos rfl] at m5
              cases m5
            refine qset_ok e3 (r := .own ys) ⟨b, us, rfl, m1, m2, m3, m4, ?_, fun k o => ?_⟩ q2
            · dsimp only [tmpD] at m5
              rw [if_neg ab] at m5
              exact m5
            · rcases own_set3 o with ⟨_, y⟩ | ⟨_, y⟩
              · exact ab y
              · exact m6 k y
          | sl k =>
            dsimp only at q2
            by_cases ki : k = i
            · rw [if_pos ki] at q2; exact q2.elim
            · rw [if_neg ki] at q2
              obtain ⟨m1, s, m2, m3⟩ := hu
              exact qset_ok e3 (r := .sl k) ⟨(get_set_ne (ρ := ρ2) (s := .un) ki).2.trans m1, s, (get_set_ne (σ := σ) (o := none) ki).1.trans m2, m3⟩ q2
    | v d =>
      refine fixed F1 ρ1 d e1 hv ?_
      exact q
    | sl k =>
      dsimp only at q
      · obtain ⟨h1, s, h2, h3⟩ := hv
        dsimp only [esc] at q
        rw [h2] at q
        cases s with
        | un => exact q.elim
        | v d => exact fixed F1 ρ1 d e1 (e1.at_v h2 h1) q
        | own xs =>
          obtain ⟨o, z1, a, vs, rfl, z2, z3, z4, z5⟩ := e1.sl k _ h2
          rw [h1] at z1
          cases z1
          obtain ⟨y1, y2⟩ := e1.fixS h2 h1 z2 z3 z5
          exact fixed _ _ _ y1 y2 (PostS.rebase (Le.fz z2) q)
        | io xs => exact q.elim
        | exc _ _ => exact q.elim
        | scr _ => exact q.elim)
end
end Pu
end

-- PuG
section
set_option Elab.async false
set_option linter.all false
set_option maxRecDepth 100000
set_option maxHeartbeats 4000000
/-! PuG: while, lists of one's own, calls. -/
namespace Pu
open PySem PySem.Spec PyProof.Rows L2 LamX NdefX BlkX
/-! ### while -/
def whileC (ft : Env → Res Bool) (fb : Env → Ctl) : Nat → Env → Ctl
  | 0, _ => .no
  | n + 1, ρ => (ft ρ).toC fun b ρ1 => if b then (match fb ρ1 with
      | .nx ρ2 => whileC ft fb n ρ2
      | .ct ρ2 => whileC ft fb n ρ2
      | .bk ρ2 => .nx ρ2
      | x => x) else .nx ρ1
theorem whileC_mono (ft : Env → Res Bool) (fb : Env → Ctl) : ∀ (n m : Nat) (ρ : Env), n ≤ m → whileC ft fb n ρ ≠ .no → whileC ft fb m ρ = whileC ft fb n ρ := by
  intro n
  induction n with
  | zero => intro m ρ _ h; exact (h rfl).elim
  | succ n ih =>
    intro m ρ hm h
    obtain ⟨m, rfl⟩ : ∃ k, m = k + 1 := ⟨m - 1, by omega⟩
    unfold whileC at h ⊢
    cases z : ft ρ with
    | no => rfl
    | ex _ _ _ => rfl
    | ok b ρ1 =>
      rw [z] at h
      cases b with
      | false => rfl
      | true =>
        simp only [Res.toC, if_true] at h ⊢
        cases y : fb ρ1 with
        | nx ρ2 => rw [y] at h; exact ih m ρ2 (by omega) h
        | ct ρ2 => rw [y] at h; exact ih m ρ2 (by omega) h
        | _ => rfl
open Classical in
noncomputable def qWhile (ft : Env → Res Bool) (fb : Env → Ctl) : Env → Ctl := fun ρ => if h : ∃ n, whileC ft fb n ρ ≠ .no then whileC ft fb (choose h) ρ else .no
theorem qWhile_eq {ft : Env → Res Bool} {fb : Env → Ctl} {ρ : Env} {x : Ctl} (n : Nat) (h : whileC ft fb n ρ = x) (hx : x ≠ .no) : qWhile ft fb ρ = x := by
  have e : ∃ n, whileC ft fb n ρ ≠ .no := ⟨n, by rw [h]; exact hx⟩
  unfold qWhile
  rw [dif_pos e]
  have q := Classical.choose_spec e
  rcases Nat.le_total (Classical.choose e) n with l | l
  · rw [← whileC_mono ft fb _ n ρ l q, h]
  · rw [whileC_mono ft fb n _ ρ l (by rw [h]; exact hx), h]
section
variable {g : Gx} {c : Cfg} {W : WX} {F F' : Addr → Prop} {ρ : Env} {σ : L2.St} {H H' : Hp}
theorem sWhile {tt : TT} {tb : TS} {ft : Env → Res Bool} {fb : Env → Ctl} (ht : SimT g W tt ft) (hb : SimS g W tb fb) : SimS g W (tWhile tt tb) (qWhile ft fb) := fun c hg F ρ σ H D e p => by
  unfold qWhile at p
  split at p
  · rename_i h
    generalize Classical.choose h = n at p
    refine ⟨fun m σ' H' => ∃ F2 ρ2, ER c F2 ρ2 σ' H' ∧ Le F H F2 H' ∧ PostS c W F2 H' D (whileC ft fb m ρ2), ⟨n, F, ρ, e, Le.refl _ _, p⟩, ?_⟩
    rintro m σ2 H2 ⟨F2, ρ2, e2, l2, p2⟩
    cases m with
    | zero => exact p2.elim
    | succ m =>
      refine ht c hg F2 ρ2 σ2 H2 _ e2 (PostS.bind p2 fun F3 H3 ρ3 b e3 l3 q => ?_)
      cases b with
      | false => exact iteF (q _ _ _ e3 (Le.refl _ _))
      | true =>
        refine iteT ⟨fun σ' H' => ∃ F4 ρ4, ER c F4 ρ4 σ' H' ∧ Le F H F4 H' ∧ PostS c W F4 H' D (whileC ft fb m ρ4), fun σ' H' h => ⟨m, Nat.lt_succ_self m, h⟩, ?_⟩
        refine hb c hg F3 ρ3 σ2 H3 _ e3 ?_
        simp only [if_true] at q
        cases y : fb ρ3 with
        | nx ρ4 => rw [y] at q; exact fun F' σ' H' e' l' => ⟨F', ρ4, e', (l2.trans l3).trans l', PostS.rebase l' q⟩
        | ct ρ4 => rw [y] at q; exact fun F' σ' H' e' l' => ⟨F', ρ4, e', (l2.trans l3).trans l', PostS.rebase l' q⟩
        | bk ρ4 => rw [y] at q; exact q
        | rt r ρ4 => rw [y] at q; exact q
        | ex cl w' ρ4 => rw [y] at q; exact q
        | no => rw [y] at q; exact q
  · exact p.elim
/-! ### a list of one's own is changed -/
def lstAt (ρ : Env) (i : Nat) : Option (List D) := match ρ[i]? with
  | some (.own xs) => some xs
  | some (.io xs) => some xs
  | _ => none
def mutS (ρ : Env) (i : Nat) (xs : List D) : Env := match ρ[i]? with
  | some (.own _) => ρ.set i (.own xs)
  | some (.io _) => ρ.set i (.io xs)
  | _ => ρ
theorem lstAt_get {i : Nat} {xs : List D} (h : lstAt ρ i = some xs) : ρ[i]? = some (.own xs) ∨ ρ[i]? = some (.io xs) := by
  unfold lstAt at h
  split at h
  · rename_i z; cases h; exact .inl z
  · rename_i z; cases h; exact .inr z
  · cases h
theorem mutS_own {i : Nat} {xs ys : List D} (h : lstAt ρ i = some xs) {j : Nat} {b : Addr} (o : OwnAt (mutS ρ i ys) σ j b) : OwnAt ρ σ j b := by
  obtain ⟨h1, zs, h2⟩ := o
  refine ⟨h1, ?_⟩
  rcases lstAt_get h with z | z
  · unfold mutS at h2
    rw [z] at h2
    dsimp only at h2
    by_cases e : j = i
    · subst e; exact ⟨xs, .inl z⟩
    · rw [List.getElem?_set_ne (Ne.symm e)] at h2; exact ⟨zs, h2⟩
  · unfold mutS at h2
    rw [z] at h2
    dsimp only at h2
    by_cases e : j = i
    · subst e; exact ⟨xs, .inr z⟩
    · rw [List.getElem?_set_ne (Ne.symm e)] at h2; exact ⟨zs, h2⟩
theorem mutS_get {i : Nat} {xs ys : List D} (h : lstAt ρ i = some xs) {j : Nat} {s : S} (q : (mutS ρ i ys)[j]? = some s) : (j = i ∧ ((s = .own ys ∧ ρ[i]? = some (.own xs)) ∨ (s = .io ys ∧ ρ[i]? = some (.io xs)))) ∨ (j ≠ i ∧ ρ[j]? = some s) := by
  rcases lstAt_get h with z | z
  · unfold mutS at q
    rw [z] at q
    rcases get_set q with ⟨e1, e2⟩ | q
    · exact .inl ⟨e1, .inl ⟨e2, z⟩⟩
    · exact .inr q
  · unfold mutS at q
    rw [z] at q
    rcases get_set q with ⟨e1, e2⟩ | q
    · exact .inl ⟨e1, .inr ⟨e2, z⟩⟩
    · exact .inr q
theorem mutS_len {i : Nat} {xs : List D} : (mutS ρ i xs).length = ρ.length := by
  unfold mutS
  split <;> simp
theorem ER.mut (e : ER c F ρ σ H) {i : Nat} {xs ys : List D} {a : Addr} {vs us : List V} (h : lstAt ρ i = some xs) (hs : σ[i]? = some (some (.ref a))) (ha : H a = some (.lst vs)) (hr : Rvs c.g.cm F H us ys) :
    ER c F (mutS ρ i ys) σ (upd H a (.lst us)) ∧ Le F H F (upd H a (.lst us)) := by
  obtain ⟨b, ws, q1, q2, q3, q4, q5, q6⟩ := e.own_at (lstAt_get h)
  rw [hs] at q1
  cases q1
  have l : Le F H F (upd H a (.lst us)) := Le.mutU ha q4
  refine ⟨ER.mk (by rw [mutS_len]; exact e.len) (fun j s hj => ?_) (fun j k b h1 h2 => e.dist j k b (mutS_own h h1) (mutS_own h h2)) (fun j b hb => ?_) (e.fr.mutL q5 ha) e.f0 e.fn (fun b hb => ?_) fun b zs hb => ?_, l⟩
  · rcases mutS_get h hj with ⟨rfl, ⟨rfl, z⟩ | ⟨rfl, z⟩⟩ | ⟨ne, hj⟩
    · obtain ⟨o, e1, a', vs', rfl, e2, e3, e4, e5⟩ := e.sl j _ z
      rw [hs] at e1
      cases e1
      exact ⟨_, hs, a, us, rfl, upd_same, hr.mono l, q4, e5⟩
    · obtain ⟨o, e1, a', vs', rfl, e2, e3, e4, e5⟩ := e.sl j _ z
      rw [hs] at e1
      cases e1
      exact ⟨_, hs, a, us, rfl, upd_same, hr.mono l, q4, e5⟩
    · obtain ⟨o, e1, r⟩ := e.sl j s hj
      refine ⟨o, e1, r.mono l fun b hb ⟨zs, hz⟩ => ?_⟩
      have ob : OwnAt ρ σ j b := ⟨by rw [e1, hb], zs, by rcases hz with hz | hz <;> (subst hz; simp [hj])⟩
      obtain ⟨_, _, _, _, q, _⟩ := ob.get e
      exact ⟨q, upd_ne fun z => by subst z; exact ne (e.dist j i b ob q6)⟩
  · obtain ⟨zs, hz⟩ := e.ioK j b hb
    by_cases ej : j = i
    · subst ej
      refine ⟨ys, ?_⟩
      unfold mutS
      rw [hz]
      dsimp only
      rw [List.getElem?_set, if_pos rfl, if_pos (List.getElem?_eq_some_iff.mp hz).1]
    · refine ⟨zs, ?_⟩
      unfold mutS
      split <;> first | (rw [List.getElem?_set_ne (Ne.symm ej)]; exact hz) | exact hz
  · obtain ⟨zs, hz⟩ := e.fl b hb
    exact ⟨zs, by rw [upd_ne fun z => by subst z; exact q4 hb]; exact hz⟩
  · obtain ⟨z1, z2, z3, z4⟩ := e.tp b zs hb
    exact ⟨by rw [upd_ne fun z => by subst z; exact z4 i q6]; exact z1, z2, z3, fun j o => z4 j (mutS_own h o)⟩
/-- xs.append(e) -/
def qApp (i : Nat) (fa : Env → Res Rk) : Env → Res Rk := fun ρ => match lstAt ρ i with
  | none => .no
  | some _ => (qV fa ρ).bind fun d ρ1 => match lstAt ρ1 i with
    | some xs => if xs.length < sizeLine then .ok (.v .none) (mutS ρ1 i (xs ++ [d])) else .no
    | none => .no
theorem sApp {K : PySem.W.Frag} {i : Nat} {ta : TE} {fa : Env → Res Rk} (ha : SimE g W ta fa) : SimE g W (tBM K "list" rAppend (tVar i) (tCons ta tNil)) (qApp i fa) := fun c hg F ρ σ H Q e p => by
  unfold qApp at p
  split at p
  · exact p.elim
  · rename_i zs h0
    obtain ⟨a, vs, q1, q2, q3, q4, q5, q6⟩ := e.own_at (lstAt_get h0)
    refine ⟨.ref a, q1, .inl ⟨rfl, vs, SqL.of q2⟩, sV ha c hg F ρ σ H (fun x H1 => rAppend (.ref a) [x] H1 Q) e (p.bind fun F1 H1 ρ1 d e1 l1 q v hv => ?_)⟩
    cases z : lstAt ρ1 i with
    | none => rw [z] at q; exact q.elim
    | some xs =>
      rw [z] at q
      dsimp only at q
      by_cases hl : xs.length < sizeLine
      · rw [if_pos hl] at q
        obtain ⟨b, ws, k1, k2, k3, k4, k5, k6⟩ := e1.own_at (lstAt_get z)
        rw [q1] at k1
        cases k1
        obtain ⟨e2, l2⟩ := e1.mut z q1 k2 (k3.append (.cons hv .nil))
        exact ⟨a, ws, v, rfl, rfl, k2, by rw [k3.length]; exact hl, q _ _ e2 l2 _ .non⟩
      · rw [if_neg hl] at q; exact q.elim
/-- xs.pop(e) -/
def qPopAt (i : Nat) (fa : Env → Res Rk) : Env → Res Rk := fun ρ => match lstAt ρ i with
  | none => .no
  | some _ => (qB fa ρ).bind fun d ρ1 => match lstAt ρ1 i, d with
    | some xs, .int k => if -(2 ^ 63) ≤ k ∧ k < 2 ^ 63 then (match seqIndex? k xs.length with
      | some n => (match xs[n]? with
        | some x => .ok (.v x) (mutS ρ1 i (xs.eraseIdx n))
        | none => .no)
      | none => .no) else .no
    | _, _ => .no
theorem sPopAt {K : PySem.W.Frag} {i : Nat} {ta : TE} {fa : Env → Res Rk} (ha : SimE g W ta fa) : SimE g W (tBM K "list" rPopAt (tVar i) (tCons ta tNil)) (qPopAt i fa) := fun c hg F ρ σ H Q e p => by
  unfold qPopAt at p
  split at p
  · exact p.elim
  · rename_i zs h0
    obtain ⟨a, vs, q1, q2, q3, q4, q5, q6⟩ := e.own_at (lstAt_get h0)
    refine ⟨.ref a, q1, .inl ⟨rfl, vs, SqL.of q2⟩, sB ha c hg F ρ σ H (fun x H1 => rPopAt (.ref a) [x] H1 Q) e (p.bind fun F1 H1 ρ1 d e1 l1 q v hv => ?_)⟩
    cases z : lstAt ρ1 i with
    | none => rw [z] at q; exact q.elim
    | some xs =>
      rw [z] at q
      cases d with
      | int k =>
        obtain rfl := hv.int
        dsimp only at q
        by_cases hk : -(2 ^ 63) ≤ k ∧ k < 2 ^ 63
        · rw [if_pos hk] at q
          obtain ⟨b, ws, k1, k2, k3, k4, k5, k6⟩ := e1.own_at (lstAt_get z)
          rw [q1] at k1
          cases k1
          cases y : seqIndex? k xs.length with
          | none => rw [y] at q; exact q.elim
          | some n =>
            rw [y] at q
            cases x : xs[n]? with
            | none => dsimp only at q; rw [x] at q; exact q.elim
            | some d =>
              dsimp only at q; rw [x] at q
              obtain ⟨w, hw, rw_⟩ := k3.getD x
              obtain ⟨e2, l2⟩ := e1.mut z q1 k2 (k3.erase n)
              exact ⟨a, ws, k, n, w, rfl, rfl, k2, hk.1, hk.2, by rw [k3.length]; exact y, hw, q _ _ e2 l2 _ (rw_.mono l2)⟩
        · rw [if_neg hk] at q; exact q.elim
      | _ => exact q.elim
/-- xs.pop() -/
def qPop (i : Nat) : Env → Res Rk := fun ρ => match lstAt ρ i with
  | some xs => (match xs[xs.length - 1]? with
    | some x => .ok (.v x) (mutS ρ i xs.dropLast)
    | none => .no)
  | none => .no
theorem Rvs.dropLast {cm : Str → Option Addr} {vs : List V} {ds : List D} (h : Rvs cm F H vs ds) : Rvs cm F H vs.dropLast ds.dropLast := by
  rw [List.dropLast_eq_take, List.dropLast_eq_take, h.length]
  exact h.take _
theorem sPop {K : PySem.W.Frag} {i : Nat} : SimE g W (tBM0 K "list" rPop (tVar i)) (qPop i) := fun c hg F ρ σ H Q e p => by
  unfold qPop at p
  cases z : lstAt ρ i with
  | none => rw [z] at p; exact p.elim
  | some xs =>
    rw [z] at p
    dsimp only at p
    obtain ⟨a, vs, q1, q2, q3, q4, q5, q6⟩ := e.own_at (lstAt_get z)
    refine ⟨.ref a, q1, .inl ⟨rfl, vs, SqL.of q2⟩, ?_⟩
    cases x : xs[xs.length - 1]? with
    | none => rw [x] at p; exact p.elim
    | some d =>
      rw [x] at p
      obtain ⟨w, hw, rw_⟩ := q3.getD x
      obtain ⟨e2, l2⟩ := e.mut z q1 q2 q3.dropLast
      exact ⟨a, vs, w, rfl, rfl, q2, by rw [q3.length]; exact hw, p _ _ e2 l2 _ (rw_.mono l2)⟩
/-- xs[e] = v -/
def qSto (i : Nat) (fx fv : Env → Res Rk) : Env → Ctl := fun ρ => (qV fv ρ).toC fun d ρ1 => match lstAt ρ1 i with
  | none => .no
  | some _ => (qB fx ρ1).toC fun k ρ2 => match lstAt ρ2 i, k with
    | some xs, .int k => (match ixN xs.length k with
      | some n => .nx (mutS ρ2 i (xs.set n d))
      | none => .no)
    | _, _ => .no
theorem sSto {i : Nat} {tx tv : TE} {fx fv : Env → Res Rk} (hx : SimE g W tx fx) (hv : SimE g W tv fv) : SimS g W (tAsg tv (gSub (tVar i) tx rSetL)) (qSto i fx fv) := fun c hg F ρ σ H D e p =>
  sV hv c hg F ρ σ H (fun v H1 => gSub (tVar i) tx rSetL v σ H1 D.nx) e (p.bind fun F1 H1 ρ1 d e1 l1 q v hv => by
    cases h0 : lstAt ρ1 i with
    | none => rw [h0] at q; exact q.elim
    | some zs =>
      rw [h0] at q
      obtain ⟨a, vs, q1, q2, q3, q4, q5, q6⟩ := e1.own_at (lstAt_get h0)
      refine ⟨.ref a, q1, sB hx c hg F1 ρ1 σ H1 (fun x H2 => rSetL (.ref a) x v H2 fun H3 => D.nx σ H3) e1 (PostS.bind q fun F2 H2 ρ2 k e2 l2 q2 u hu => ?_)⟩
      cases z : lstAt ρ2 i with
      | none => rw [z] at q2; exact q2.elim
      | some xs =>
        rw [z] at q2
        cases k with
        | int k =>
          obtain rfl := hu.int
          dsimp only at q2
          obtain ⟨b, ws, k1, k2, k3, k4, k5, k6⟩ := e2.own_at (lstAt_get z)
          rw [q1] at k1
          cases k1
          cases y : ixN xs.length k with
          | none => rw [y] at q2; exact q2.elim
          | some n =>
            rw [y] at q2
            obtain ⟨e3, l3⟩ := e2.mut z q1 k2 (Rvs.set (hv.mono l2) n k3)
            exact ⟨a, ws, k, n, rfl, rfl, k2, by rw [k3.length]; exact y, q2 _ _ _ e3 l3⟩
        | _ => exact q2.elim)
end
end Pu
end

-- PuH
section
set_option Elab.async false
set_option linter.all false
set_option maxRecDepth 100000
set_option maxHeartbeats 4000000
/-! PuH: defs and calls. -/
namespace Pu
open PySem PySem.Spec PyProof.Rows L2 LamX NdefX BlkX
/-- what a def does, as a plain function of its arguments says -/
def spFn (g : Gx) (Fn : List S → Res Rk) : Sp := fun vs H Q E => ∃ (c : Cfg) (F : Addr → Prop) (args : List S), c.g = g ∧ c.H0 = H ∧ c.F0 = F ∧ (∀ a, c.tmp a = none) ∧ ER c F args (vs.map some) H ∧
  match Fn args with
  | .ok r ρ' => ∀ F' σ' H' v, ER c F' ρ' σ' H' → Le F H F' H' → RR c F' H' ρ' σ' r v → Q v H'
  | .ex cl w ρ' => ∀ F' σ' H' d C v, ER c F' ρ' σ' H' → Le F H F' H' → g.cm cl = some C → H' d = some (.xd [("what", v)]) → Rv g.cm F' H' v w → E (.ref C) (some d) H'
  | .no => False
def qDef (m n : Nat) (body : Env → Ctl) : List S → Res Rk := fun args => if args.length = m then (match body (args ++ List.replicate (n - args.length) .un) with
  | .rt r ρ => .ok r ρ
  | .nx ρ => .ok (.v .none) ρ
  | .ex c w ρ => .ex c w ρ
  | _ => .no) else .no
theorem spFn_len {g : Gx} {m n : Nat} {body : Env → Ctl} {vs : List V} {H : Hp} {Q : VK} {E : XK} (h : spFn g (qDef m n body) vs H Q E) : vs.length = m := by
  obtain ⟨c, F, args, _, _, _, _, e, p⟩ := h
  have l := e.len
  rw [List.length_map] at l
  unfold qDef at p
  by_cases z : args.length = m
  · rw [l]; exact z
  · rw [if_neg z] at p; exact p.elim
section
variable {g : Gx} {c : Cfg} {W : WX} {F F' : Addr → Prop} {ρ : Env} {σ : L2.St} {H H' : Hp}
theorem get_app_un {args : List S} {k : Nat} {i : Nat} {s : S} (h : (args ++ List.replicate k S.un)[i]? = some s) : args[i]? = some s ∨ (s = .un ∧ args.length ≤ i) := by
  by_cases l : i < args.length
  · rw [List.getElem?_append_left l] at h; exact .inl h
  · rw [List.getElem?_append_right (by omega)] at h
    have := List.getElem?_eq_some_iff.mp h
    obtain ⟨h1, h2⟩ := this
    rw [List.getElem_replicate] at h2
    exact .inr ⟨h2.symm, by omega⟩
theorem own_start {args : List S} {vs : List V} {k m : Nat} (l : vs.length = args.length) {i : Nat} {a : Addr} (o : OwnAt (args ++ List.replicate k S.un) (vs.map some ++ List.replicate m none) i a) : OwnAt args (vs.map some) i a := by
  obtain ⟨h1, xs, h2⟩ := o
  have q : ∀ s, (args ++ List.replicate k S.un)[i]? = some s → s ≠ .un → i < args.length ∧ args[i]? = some s := fun s h n => by
    by_cases l : i < args.length
    · rw [List.getElem?_append_left l] at h; exact ⟨l, h⟩
    · rcases get_app_un h with h | h
      · exact ⟨(List.getElem?_eq_some_iff.mp h).1, h⟩
      · exact (n h.1).elim
  have z : i < args.length ∧ ∃ xs, args[i]? = some (.own xs) ∨ args[i]? = some (.io xs) := by
    rcases h2 with h2 | h2
    · obtain ⟨z1, z2⟩ := q _ h2 (fun z => nomatch z); exact ⟨z1, xs, .inl z2⟩
    · obtain ⟨z1, z2⟩ := q _ h2 (fun z => nomatch z); exact ⟨z1, xs, .inr z2⟩
  rw [List.getElem?_append_left (by rw [List.length_map]; omega)] at h1
  exact ⟨h1, z.2⟩
theorem ER.start {args : List S} {vs : List V} {N : List Str} (e : ER c F args (vs.map some) H) : ER c F (args ++ List.replicate (N.length - args.length) .un) (L2.start N vs) H := by
  have l := e.len
  rw [List.length_map] at l
  unfold L2.start
  refine ER.mk (by simp only [List.length_append, List.length_map, List.length_replicate, l]) (fun i s h => ?_) (fun i j a o1 o2 => e.dist i j a (own_start l o1) (own_start l o2)) (fun i a h => ?_) e.fr e.f0 e.fn e.fl (fun a us h => ?_)
  · rcases get_app_un h with h | ⟨rfl, hi⟩
    · obtain ⟨o, e1, r⟩ := e.sl i s h
      exact ⟨o, by rw [List.getElem?_append_left (List.getElem?_eq_some_iff.mp e1).1]; exact e1, r⟩
    · have := (List.getElem?_eq_some_iff.mp h).1
      simp only [List.length_append, List.length_replicate] at this
      refine ⟨none, ?_, trivial⟩
      rw [List.getElem?_append_right (by rw [List.length_map]; omega), List.getElem?_replicate, if_pos (by rw [List.length_map]; omega)]
  · obtain ⟨xs, hx⟩ := e.ioK i a h
    exact ⟨xs, by rw [List.getElem?_append_left (List.getElem?_eq_some_iff.mp hx).1]; exact hx⟩
  · obtain ⟨q1, q2, q3, q4⟩ := e.tp a us h
    exact ⟨q1, q2, q3, fun i o => q4 i (own_start l o)⟩
/-- a def's body does what is promised -/
theorem fn_run {m : Nat} {N : List Str} {body : Env → Ctl} {t : TS} {vs : List V} {Q : VK} {E : XK} (s : SimS g (fun cls d _ H => E cls d H) t body) (h : spFn g (qDef m N.length body) vs H Q E) : t { nx := fun _ H' => Q .non H', rt := Q } (L2.start N vs) H := by
  obtain ⟨c, F, args, hg, h0, hF, _, e, p⟩ := h
  unfold qDef at p
  by_cases z : args.length = m
  · rw [if_pos z] at p
    refine s c hg F _ _ H _ (e.start (N := N)) ?_
    cases y : body (args ++ List.replicate (N.length - args.length) .un) with
    | nx ρ' => rw [y] at p; exact fun F' σ' H' e' l' => p F' σ' H' _ e' l' .non
    | rt r ρ' => rw [y] at p; exact p
    | bk ρ' => rw [y] at p; exact p.elim
    | ct ρ' => rw [y] at p; exact p.elim
    | ex cl w ρ' => rw [y] at p; exact fun F' σ' H' d C v e' l' hC hd rv => p F' σ' H' d C v e' l' (hg ▸ hC) hd (hg ▸ rv)
    | no => rw [y] at p; exact p.elim
  · rw [if_neg z] at p; exact p.elim
/-! ### arguments -/
def AR (c : Cfg) (F : Addr → Prop) (H : Hp) (ρ : Env) (σ : L2.St) (io : Option (Nat × Nat)) (args : List S) (vs : List V) : Prop :=
  args.length = vs.length ∧ (∀ i s, args[i]? = some s → ∃ v, vs[i]? = some v ∧ ((∃ d, s = .v d ∧ Rv c.g.cm F H v d ∧ ∀ j, io ≠ some (i, j)) ∨ ∃ j xs a, io = some (i, j) ∧ s = .io xs ∧ v = .ref a ∧ σ[j]? = some (some (.ref a)) ∧ lstAt ρ j = some xs)) ∧
  ∀ k j, io = some (k, j) → ∃ xs, args[k]? = some (.io xs)
def SimAs (g : Gx) (W : WX) (io : Option (Nat × Nat)) (t : TA) (f : Env → Res (List S)) : Prop := ∀ (c : Cfg), c.g = g → ∀ F ρ σ H Q, ER c F ρ σ H → Post c W F H σ (fun F' H' ρ' as => ∀ vs, AR c F' H' ρ' σ io as vs → Q vs H') (f ρ) → t σ H Q
def qaNil : Env → Res (List S) := fun ρ => .ok [] ρ
def qaV (f : Env → Res Rk) (h : Env → Res (List S)) : Env → Res (List S) := fun ρ => (qV f ρ).bind fun d ρ1 => (h ρ1).bind fun as ρ2 => .ok (.v d :: as) ρ2
def qaIo (j : Nat) (h : Env → Res (List S)) : Env → Res (List S) := fun ρ => match lstAt ρ j with
  | none => .no
  | some _ => (h ρ).bind fun as ρ2 => match lstAt ρ2 j with
    | some xs => .ok (.io xs :: as) ρ2
    | none => .no
theorem saNil : SimAs g W none tNil qaNil := fun c hg F ρ σ H Q e p => p _ _ e (Le.refl _ _) _ ⟨rfl, fun i s h => by simp at h, fun k j h => nomatch h⟩
def shift (io : Option (Nat × Nat)) : Option (Nat × Nat) := io.map fun p => (p.1 + 1, p.2)
theorem saV {ta : TE} {tr : TA} {f : Env → Res Rk} {h : Env → Res (List S)} {io : Option (Nat × Nat)} (hf : SimE g W ta f) (hr : SimAs g W io tr h) : SimAs g W (shift io) (tCons ta tr) (qaV f h) := fun c hg F ρ σ H Q e p =>
  sV hf c hg F ρ σ H _ e (p.bind fun F1 H1 ρ1 d e1 l1 q v hv => hr c hg F1 ρ1 σ H1 _ e1 (q.bind fun F2 H2 ρ2 as e2 l2 q2 vs hvs => by
    refine q2 _ _ e2 (Le.refl _ _) _ ⟨by rw [List.length_cons, List.length_cons, hvs.1], fun i s hi => ?_, fun k j hk => ?_⟩
    · cases i with
      | zero =>
        simp at hi
        subst hi
        exact ⟨v, rfl, .inl ⟨d, rfl, hv.mono l2, fun j z => by
          unfold shift at z
          cases io with
          | none => cases z
          | some p => simp at z⟩⟩
      | succ i =>
        simp at hi
        obtain ⟨w, hw, r⟩ := hvs.2.1 i s hi
        refine ⟨w, by simpa using hw, ?_⟩
        rcases r with ⟨d', r1, r2, r3⟩ | ⟨j, xs, a, r1, r2⟩
        · exact .inl ⟨d', r1, r2, fun j z => by
            unfold shift at z
            cases io with
            | none => cases z
            | some pp =>
              simp at z
              exact r3 j (by rw [← z.1, ← z.2])⟩
        · exact .inr ⟨j, xs, a, by rw [r1]; rfl, r2⟩
    · unfold shift at hk
      cases io with
      | none => cases hk
      | some pp =>
        simp at hk
        obtain ⟨xs, hx⟩ := hvs.2.2 pp.1 pp.2 rfl
        exact ⟨xs, by rw [← hk.1]; simpa using hx⟩))
theorem saIo {j : Nat} {tr : TA} {h : Env → Res (List S)} (hr : SimAs g W none tr h) : SimAs g W (some (0, j)) (tCons (tVar j) tr) (qaIo j h) := fun c hg F ρ σ H Q e p => by
  unfold qaIo at p
  cases z : lstAt ρ j with
  | none => rw [z] at p; exact p.elim
  | some zs =>
    rw [z] at p
    obtain ⟨a, vs, q1, q2, q3, q4, q5, q6⟩ := e.own_at (lstAt_get z)
    refine ⟨.ref a, q1, hr c hg F ρ σ H _ e (p.bind fun F2 H2 ρ2 as e2 l2 q2 us hus => ?_)⟩
    cases y : lstAt ρ2 j with
    | none => rw [y] at q2; exact q2.elim
    | some xs =>
      rw [y] at q2
      refine q2 _ _ e2 (Le.refl _ _) _ ⟨by rw [List.length_cons, List.length_cons, hus.1], fun i s hi => ?_, fun k j' hk => ?_⟩
      · cases i with
        | zero =>
          simp at hi
          subst hi
          exact ⟨_, rfl, .inr ⟨j, xs, a, rfl, rfl, rfl, q1, y⟩⟩
        | succ i =>
          simp at hi
          obtain ⟨w, hw, r⟩ := hus.2.1 i s hi
          refine ⟨w, by simpa using hw, ?_⟩
          rcases r with ⟨d', r1, r2, r3⟩ | ⟨j', xs', a', r1, r2⟩
          · exact .inl ⟨d', r1, r2, fun j' z => by cases z⟩
          · cases r1
      · cases hk; exact ⟨xs, rfl⟩
/-! ### calls -/
def updIo (io : Option (Nat × Nat)) (ρ ρc : Env) : Option Env := match io with
  | none => some ρ
  | some (k, j) => match ρc[k]? with
    | some (.io xs) => some (mutS ρ j xs)
    | _ => none
def okR (r : Rk) : Bool := match r with | .sl _ => false | _ => true
def qCall (Fn : List S → Res Rk) (io : Option (Nat × Nat)) (fas : Env → Res (List S)) : Env → Res Rk := fun ρ => (fas ρ).bind fun as ρ1 => match Fn as with
  | .ok r ρc => if okR r then (match updIo io ρ1 ρc with | some ρ2 => .ok r ρ2 | none => .no) else .no
  | .ex cl w ρc => (match updIo io ρ1 ρc with | some ρ2 => .ex cl w ρ2 | none => .no)
  | .no => .no
/-- as qCall, where nothing may be raised -/
def qCall0 (Fn : List S → Res Rk) (io : Option (Nat × Nat)) (fas : Env → Res (List S)) : Env → Res Rk := fun ρ => (fas ρ).bind fun as ρ1 => match Fn as with
  | .ok r ρc => if okR r then (match updIo io ρ1 ρc with | some ρ2 => .ok r ρ2 | none => .no) else .no
  | _ => .no
def ioAd (io : Option (Nat × Nat)) (σ : L2.St) (i : Nat) : Option Addr := match io with
  | none => none
  | some (k, j) => if i = k then (match σ[j]? with | some (some (.ref a)) => some a | _ => none) else none
def subC (c : Cfg) (F : Addr → Prop) (H : Hp) (io : Option (Nat × Nat)) (σ : L2.St) (ht : TabsN c.g.TT H) : Cfg := ⟨c.g.base, H, F, ioAd io σ, ht, fun _ => none⟩
theorem ER.sub {ht : TabsN c.g.TT H} {io : Option (Nat × Nat)} {args : List S} {vs : List V} (e : ER c F ρ σ H) (h : AR c F H ρ σ io args vs) : ER (subC c F H io σ ht) F args (vs.map some) H := by
  obtain ⟨h1, h2, h3⟩ := h
  have own : ∀ i a, OwnAt args (vs.map some) i a → ∃ j, io = some (i, j) := fun i a o => by
    obtain ⟨_, xs, o2⟩ := o
    rcases o2 with o2 | o2
    · obtain ⟨v, _, r⟩ := h2 i _ o2
      rcases r with ⟨d, r1, _⟩ | ⟨j, xs', a', r1, r2, _⟩
      · cases r1
      · cases r2
    · obtain ⟨v, _, r⟩ := h2 i _ o2
      rcases r with ⟨d, r1, _⟩ | ⟨j, xs', a', r1, r2, _⟩
      · cases r1
      · exact ⟨j, r1⟩
  refine ER.mk (by rw [List.length_map]; exact h1.symm) (fun i s hs => ?_) (fun i j a o1 o2 => ?_) (fun i a hi => ?_) (Fr.refl ..) (fun _ h => h) (fun a h => .inl h) e.fl (fun a us h => nomatch h)
  · obtain ⟨v, hv, r⟩ := h2 i s hs
    refine ⟨some v, by rw [List.getElem?_map, hv] <;> rfl, ?_⟩
    rcases r with ⟨d, rfl, r, _⟩ | ⟨j, xs, a, hio, rfl, rfl, hj, hl⟩
    · exact ⟨v, rfl, r⟩
    · obtain ⟨b, ws, q1, q2, q3, q4, q5, q6⟩ := e.own_at (lstAt_get hl)
      rw [hj] at q1
      cases q1
      refine ⟨a, ws, rfl, q2, q3, q4, ?_⟩
      show ioAd io σ i = some a
      unfold ioAd
      rw [hio]
      dsimp only
      rw [if_pos rfl, hj]
  · obtain ⟨j1, e1⟩ := own i a o1
    obtain ⟨j2, e2⟩ := own j a o2
    rw [e1] at e2
    cases e2
    rfl
  · have hi : ioAd io σ i = some a := hi
    unfold ioAd at hi
    cases io with
    | none => cases hi
    | some p =>
      dsimp only at hi
      split at hi
      · rename_i z; subst z; exact h3 p.1 p.2 rfl
      · cases hi
/-- back at the caller -/
theorem ER.ret {ht : TabsN c.g.TT H} {io : Option (Nat × Nat)} {args : List S} {vs : List V} {F2 : Addr → Prop} {H2 : Hp} {ρc ρ2 : Env} {σc : L2.St} (e : ER c F ρ σ H) (h : AR c F H ρ σ io args vs) (ec : ER (subC c F H io σ ht) F2 ρc σc H2) (l : Le F H F2 H2) (u : updIo io ρ ρc = some ρ2) :
    ER c F2 ρ2 σ H2 := by
  obtain ⟨h1, h2, h3⟩ := h
  have fn : ∀ a, F2 a → c.F0 a ∨ c.H0 a = none := fun a q => by
    rcases ec.fn a q with q | q
    · exact e.fn a q
    · exact .inr (e.h0 q)
  have nf : ∀ a vs, H a = some (.lst vs) → ¬ F a → ¬ F2 a := fun a vs q n q2 => by
    rcases ec.fn a q2 with q3 | q3
    · exact n q3
    · have q3 : H a = none := q3
      rw [q] at q3
      cases q3
  cases io with
  | none =>
    cases u
    have nio : ∀ a, ¬ (subC c F H none σ ht).io a := fun a ⟨i, z⟩ => nomatch z
    have keep : ∀ a vs, H a = some (.lst vs) → H2 a = some (.lst vs) := fun a vs q => ec.fr.kp a _ (nio a) R.lst_nt q
    refine e.step l ⟨fun b o _ t q => ec.fr.kp b o (nio b) t q, ec.fr.tb, ec.fr.fr⟩ (fun i a o => ?_) (fun a q => ?_) ec.fl (fun a us q => ?_)
    · obtain ⟨xs, ws, q1, _, q2, _⟩ := o.get e
      exact ⟨nf a ws q1 q2, by rw [q1]; exact keep a ws q1⟩
    · rcases ec.fn a q with q | q
      · exact .inl q
      · exact .inr (e.h0 q)
    · obtain ⟨q1, q2, _⟩ := e.tp a us q
      exact ⟨nf a us q1 q2, by rw [q1]; exact keep a us q1⟩
  | some p =>
    obtain ⟨k, j⟩ := p
    obtain ⟨xs, hx⟩ := h3 k j rfl
    obtain ⟨v, hv, r⟩ := h2 k _ hx
    rcases r with ⟨d, r1, _⟩ | ⟨j', xs', a, r1, r2, rfl, hj, hl⟩
    · cases r1
    cases r1
    cases r2
    unfold updIo at u
    dsimp only at u
    split at u
    · rename_i ys hy
      cases u
      obtain ⟨b, ws, q1, q2, q3, q4, q5, q6⟩ := e.own_at (lstAt_get hl)
      rw [hj] at q1
      cases q1
      -- the callee's list
      obtain ⟨o, s1, a', ws', rfl, s2, s3, s4, s5⟩ := ec.sl k _ hy
      have s5 : ioAd (some (k, j)) σ k = some a' := s5
      unfold ioAd at s5
      dsimp only at s5
      rw [if_pos rfl, hj] at s5
      cases s5
      have nio : ∀ b, b ≠ a → ¬ (subC c F H (some (k, j)) σ ht).io b := fun b n ⟨i, z⟩ => by
        have z : ioAd (some (k, j)) σ i = some b := z
        unfold ioAd at z
        dsimp only at z
        split at z
        · rw [hj] at z; cases z; exact n rfl
        · cases z
      have keep : ∀ b o, b ≠ a → (∀ ps, o ≠ .tbl ps) → H b = some o → H2 b = some o := fun b o n t q => ec.fr.kp b o (nio b n) t q
      refine ER.mk (by rw [mutS_len]; exact e.len) (fun i s hs => ?_) (fun i i' b o1 o2 => e.dist i i' b (mutS_own hl o1) (mutS_own hl o2)) (fun i b hi => ?_) ⟨fun b o n t q => ?_, fun q => ec.fr.tb (e.fr.tb q), fun b q => e.fr.fr b (ec.fr.fr b q)⟩ (fun b q => l.f b (e.f0 b q)) fn ec.fl (fun b us q => ?_)
      · rcases mutS_get hl hs with ⟨rfl, ⟨rfl, z⟩ | ⟨rfl, z⟩⟩ | ⟨ne, hs⟩
        · obtain ⟨o, e1, a', vs', rfl, e2, e3, e4, e5⟩ := e.sl i _ z
          rw [hj] at e1
          cases e1
          exact ⟨_, hj, a, ws', rfl, s2, s3, s4, e5⟩
        · obtain ⟨o, e1, a', vs', rfl, e2, e3, e4, e5⟩ := e.sl i _ z
          rw [hj] at e1
          cases e1
          exact ⟨_, hj, a, ws', rfl, s2, s3, s4, e5⟩
        · obtain ⟨o, e1, r⟩ := e.sl i s hs
          refine ⟨o, e1, r.mono l fun b hb ⟨zs, hz⟩ => ?_⟩
          have ob : OwnAt ρ σ i b := ⟨by rw [e1, hb], zs, by rcases hz with hz | hz <;> (subst hz; simp [hs])⟩
          obtain ⟨_, ws2, q7, _, q8, _⟩ := ob.get e
          exact ⟨nf b ws2 q7 q8, by rw [q7]; exact keep b _ (fun z => by subst z; exact ne (e.dist i j b ob q6)) R.lst_nt q7⟩
      · obtain ⟨zs, hz⟩ := e.ioK i b hi
        by_cases ei : i = j
        · subst ei
          refine ⟨ys, ?_⟩
          unfold mutS
          rw [hz]
          dsimp only
          rw [List.getElem?_set, if_pos rfl, if_pos (List.getElem?_eq_some_iff.mp hz).1]
        · refine ⟨zs, ?_⟩
          unfold mutS
          split <;> first | (rw [List.getElem?_set_ne (Ne.symm ei)]; exact hz) | exact hz
      · have q' := e.fr.kp b o n t q
        refine keep b o (fun z => ?_) t q'
        subst z
        rcases q5 with q5 | q5
        · rw [q] at q5; cases q5
        · exact n q5
      · obtain ⟨z1, z2, z3, z4⟩ := e.tp b us q
        exact ⟨keep b _ (fun z => by subst z; exact z4 j q6) R.lst_nt z1, nf b us z1 z2, z3, fun i o => z4 i (mutS_own hl o)⟩
    · cases u
theorem RR.ret {ht : TabsN c.g.TT H} {io : Option (Nat × Nat)} {F2 : Addr → Prop} {H2 : Hp} {ρc ρ2 : Env} {σc : L2.St} {r : Rk} {v : V} {ρ1 : Env} (e1 : ER c F ρ1 σ H) (e : ER c F2 ρ2 σ H2) (hr : RR (subC c F H io σ ht) F2 H2 ρc σc r v) (ok : okR r = true) (o : ∀ i a, OwnAt ρ2 σ i a → OwnAt ρ1 σ i a) : RR c F2 H2 ρ2 σ r v := by
  cases r with
  | v d => exact hr
  | sl i => cases ok
  | own xs =>
    obtain ⟨a, vs, rfl, h1, h2, h3, h4, h5, h6⟩ := hr
    have h4 : H a = none := h4
    exact ⟨a, vs, rfl, h1, h2, h3, e1.h0 h4, e1.tn h4, fun i q => by
      obtain ⟨_, _, z, _⟩ := (o i a q).get e1
      rw [h4] at z
      cases z⟩
theorem updIo_own {io : Option (Nat × Nat)} {args : List S} {vs : List V} {ρc ρ2 : Env} (h : AR c F H ρ σ io args vs) (u : updIo io ρ ρc = some ρ2) : ∀ i a, OwnAt ρ2 σ i a → OwnAt ρ σ i a := by
  intro i a o
  cases io with
  | none => cases u; exact o
  | some p =>
    obtain ⟨k, j⟩ := p
    obtain ⟨xs, hx⟩ := h.2.2 k j rfl
    obtain ⟨v, hv, r⟩ := h.2.1 k _ hx
    rcases r with ⟨d, r1, _⟩ | ⟨j', xs', a', r1, r2, rfl, hj, hl⟩
    · cases r1
    cases r1
    unfold updIo at u
    dsimp only at u
    split at u
    · cases u; exact mutS_own hl o
    · cases u
theorem call_ok {Fn : List S → Res Rk} {io : Option (Nat × Nat)} {args : List S} {vs : List V} {Q : VK} {E : XK} (e : ER c F ρ σ H) (h : AR c F H ρ σ io args vs)
    (p : match Fn args with
      | .ok r ρc => okR r = true ∧ ∃ ρ2, updIo io ρ ρc = some ρ2 ∧ ∀ F' H' v, ER c F' ρ2 σ H' → Le F H F' H' → RR c F' H' ρ2 σ r v → Q v H'
      | .ex cl w ρc => ∃ ρ2, updIo io ρ ρc = some ρ2 ∧ ∀ F' H' d C v, ER c F' ρ2 σ H' → Le F H F' H' → c.g.cm cl = some C → H' d = some (.xd [("what", v)]) → Rv c.g.cm F' H' v w → E (.ref C) (some d) H'
      | .no => False) : spFn c.g.base Fn vs H Q E := by
  refine ⟨subC c F H io σ (e.fr.tb c.tt), F, args, rfl, rfl, rfl, fun _ => rfl, e.sub h, ?_⟩
  cases z : Fn args with
  | no => rw [z] at p; exact p
  | ok r ρc =>
    rw [z] at p
    obtain ⟨ok, ρ2, u, k⟩ := p
    exact fun F' σ' H' v ec l hr => k F' H' v (e.ret h ec l u) l (RR.ret e (e.ret h ec l u) hr ok (updIo_own h u))
  | ex cl w ρc =>
    rw [z] at p
    obtain ⟨ρ2, u, k⟩ := p
    exact fun F' σ' H' d C v ec l hC hd rv => k F' H' d C v (e.ret h ec l u) l hC hd rv
theorem sCall {g' : Gx} {Fn : List S → Res Rk} {io : Option (Nat × Nat)} {ta : TA} {fas : Env → Res (List S)} (ha : SimAs g W io ta fas) (hb : g.base = g' := by rfl) : SimE g W (tCallSD (spFn g' Fn) [] (fun σ cls d H => W cls d σ H) ta) (qCall Fn io fas) := fun c hg F ρ σ H Q e p => by
  subst hb
  subst hg
  refine ha c rfl F ρ σ H _ e (p.bind fun F1 H1 ρ1 as e1 l1 q vs hvs => ?_)
  rw [List.append_nil]
  refine call_ok e1 hvs ?_
  cases z : Fn as with
  | no => rw [z] at q; exact q
  | ok r ρc =>
    rw [z] at q
    dsimp only at q
    by_cases ok : okR r = true
    · rw [if_pos ok] at q
      cases u : updIo io ρ1 ρc with
      | none => rw [u] at q; exact q.elim
      | some ρ2 => rw [u] at q; exact ⟨ok, ρ2, u, fun F' H' v e' l' rr => q F' H' e' l' v rr⟩
    · rw [if_neg ok] at q; exact q.elim
  | ex cl w ρc =>
    rw [z] at q
    dsimp only at q
    cases u : updIo io ρ1 ρc with
    | none => rw [u] at q; exact q.elim
    | some ρ2 => rw [u] at q; exact ⟨ρ2, u, fun F' H' d C v e' l' => q F' H' d C v e' l'⟩
theorem sCall0 {g' : Gx} {Fn : List S → Res Rk} {io : Option (Nat × Nat)} {ta : TA} {fas : Env → Res (List S)} {E : XK} (ha : SimAs g W io ta fas) (hb : g.base = g' := by rfl) : SimE g W (tCall (spFn g' Fn) [] E ta) (qCall0 Fn io fas) := fun c hg F ρ σ H Q e p => by
  subst hb
  subst hg
  refine ha c rfl F ρ σ H _ e (p.bind fun F1 H1 ρ1 as e1 l1 q vs hvs => ?_)
  rw [List.append_nil]
  refine call_ok e1 hvs ?_
  cases z : Fn as with
  | no => rw [z] at q; exact q
  | ok r ρc =>
    rw [z] at q
    dsimp only at q
    by_cases ok : okR r = true
    · rw [if_pos ok] at q
      cases u : updIo io ρ1 ρc with
      | none => rw [u] at q; exact q.elim
      | some ρ2 => rw [u] at q; exact ⟨ok, ρ2, u, fun F' H' v e' l' rr => q F' H' e' l' v rr⟩
    · rw [if_neg ok] at q; exact q.elim
  | ex cl w ρc => rw [z] at q; exact q.elim
end
end Pu
end

-- TupSum
section
set_option Elab.async false
set_option linter.all false
set_option maxRecDepth 100000
set_option maxHeartbeats 4000000
/-! TupSum: sum(t), t a tuple of whole numbers; a tuple behind a tuple; data of rows of numbers. -/
namespace TupX
open PySem PySem.Spec PyProof.Rows L2 NdefX R
def rSumT (K : PySem.W.Frag) : List V → Hp → VK → Prop := fun vs H Q => ∃ (t : Addr) (ns : List Int), vs = [V.ref t] ∧ SqT K H t (ns.map V.int) ∧ Q (.int ns.sum) H
theorem csumT {X : Cx} (K : PySem.W.Frag) (hc : X.calm = true := by rfl) (hK : X.K = K := by rfl) : CallR X (.builtin "sum") (rSumT K) := by
  subst hK
  rintro pins s σ H vs us Q I r ⟨t, ns, rfl, ht, q⟩
  obtain ⟨its, vi, at_, _⟩ := I.tuple ht
  cases Vals.ref1 r
  obtain ⟨prs, e⟩ := (Vals.ints vi).allInts.items
  have total : numsOf (intItems prs).toList = ns := by
    rw [← e]
    exact (Vals.ints vi).numsOf
  rw [nums_intItems] at total
  have tup : s.heap.IsTuple t (intItems prs) := by
    rw [← e]
    obtain ⟨o, h1, h2, n, h3⟩ := at_
    exact ⟨o, h1, h2, n, h3⟩
  refine PySem.W.ktm_sumG (I.ok.hd hc) tup (fun h' tk t' up => ⟨.int ns.sum, H, I.kept up, ⟨t', ?_⟩, q⟩)
  rw [preSum_eq, List.take_of_length_le (by simp), total]
/-- a row of whole numbers, as data -/
def rowD (r : List Nat) : PyData := .tuple (r.map fun (n : Nat) => .int (n : Int))
def rowsD (L : List (List Nat)) : List PyData := L.map rowD
theorem tps_nats {H : Hp} : ∀ {vs : List V} {r : List Nat}, Tps H vs (r.map fun (n : Nat) => PyData.int (n : Int)) → vs = (r.map Int.ofNat).map V.int
  | _, [], h => by
    cases h
    rfl
  | _, n :: r, h => by
    cases h with
    | cons h1 h2 =>
      cases h1
      rw [tps_nats h2] <;> rfl
theorem nats_tps {H : Hp} : ∀ r : List Nat, Tps H ((r.map Int.ofNat).map V.int) (r.map fun (n : Nat) => PyData.int (n : Int))
  | [] => .nil
  | n :: r => .cons (.int _) (nats_tps r)
theorem row_at {H : Hp} {v : V} {r : List Nat} (h : Tp H v (rowD r)) : ∃ a, v = .ref a ∧ TZ H a ((r.map Int.ofNat).map V.int) := by
  cases h with
  | tup h t =>
    rw [tps_nats t] at h
    exact ⟨_, rfl, h⟩
theorem row_tp {H : Hp} {a : Addr} {r : List Nat} (h : TZ H a ((r.map Int.ofNat).map V.int)) : Tp H (.ref a) (rowD r) := .tup h (nats_tps r)
theorem sum_nats : ∀ r : List Nat, (r.map Int.ofNat).sum = ((r.sum : Nat) : Int)
  | [] => rfl
  | n :: r => by
    rw [List.map_cons, List.sum_cons, sum_nats r, List.sum_cons, Int.natCast_add] <;> rfl
/-- a row of whole numbers of any sign, as data -/
def rowI (r : List Int) : PyData := .tuple (r.map PyData.int)
def rowsI' (L : List (List Int)) : List PyData := L.map rowI
theorem rowI_at {H : Hp} {v : V} {r : List Int} (h : Tp H v (rowI r)) : ∃ a, v = .ref a ∧ TZ H a (r.map V.int) := by
  cases h with
  | tup h t =>
    rw [Tps.ints_of t] at h
    exact ⟨_, rfl, h⟩
theorem rowI_tp {H : Hp} {a : Addr} {r : List Int} (h : TZ H a (r.map V.int)) : Tp H (.ref a) (rowI r) := .tup h (Tps.ints r)
/-- a list of such rows -/
def IsRowsI (H : Hp) (l : Addr) (L : List (List Int)) : Prop := ∃ vs, H l = some (.lst vs) ∧ Tps H vs (rowsI' L)
theorem rowsI_len {H : Hp} {vs : List V} {L : List (List Int)} (h : Tps H vs (rowsI' L)) : vs.length = L.length := by
  rw [h.length]
  unfold rowsI'
  rw [List.length_map]
theorem rowsI_get {H : Hp} {vs : List V} {L : List (List Int)} {j : Nat} {x : V} (h : Tps H vs (rowsI' L)) (e : vs[j]? = some x) : ∃ r, L[j]? = some r ∧ Tp H x (rowI r) := by
  obtain ⟨d, h1, h2⟩ := h.get e
  unfold rowsI' at h1
  rw [List.getElem?_map] at h1
  cases er : L[j]? with
  | none => rw [er] at h1; cases h1
  | some r =>
    rw [er] at h1
    cases h1
    exact ⟨r, rfl, h2⟩
theorem rowsI_append (A B : List (List Int)) : rowsI' (A ++ B) = rowsI' A ++ rowsI' B := by
  unfold rowsI'
  rw [List.map_append]
/-- t + u, whichever is empty -/
def rCatK (K : PySem.W.Frag) : R2 := rCatZ K
theorem catAK {X : Cx} (K : PySem.W.Frag) (h : X.K = K := by rfl) : OpR X (binaryOp .Add) (rCatZ K) := h ▸ op_catZ
/-- a tuple and a tuple behind it: whichever way, a tuple of both -/
theorem cat_tup {K : PySem.W.Frag} {TT : List NTab} {H : Hp} {l b : Addr} {xs zs : List V} {Q : VK} (hx : TZ H l xs) (hz : TZ H b zs) (small : xs.length + zs.length ≤ sizeLine)
    (h : ∀ q G, Ext TT none H G → TZ G q (xs ++ zs) → Q (.ref q) G) : rCatZ K (.ref l) (.ref b) H Q := by
  refine ⟨l, b, xs, zs, rfl, rfl, TZ.sq hx, TZ.sq hz, small, fun e => ?_, fun _ e => ?_, fun _ _ p o np zo => ?_⟩
  · subst e
    exact h b H (Ext.refl ..) hz
  · subst e
    rw [List.append_nil] at h
    exact h l H (Ext.refl ..) hx
  · exact h p _ (Ext.new np) (TZ.new zo)
end TupX
end

-- TupCut
section
set_option Elab.async false
set_option linter.all false
set_option maxRecDepth 100000
set_option maxHeartbeats 4000000
/-! TupCut: t[:n], t[n:], t a tuple, whether the whole or a part. -/
namespace TupX
open PySem PySem.Spec PyProof.Rows L2 NdefX R
theorem cut_to (xs : List V) (m : Nat) : cutV xs none (some (m : Int)) = xs.take m := by
  unfold cutV
  rw [HT.sIx_nat, HT.sIx_none, List.drop_zero, Nat.sub_zero]
  rcases Nat.le_total m xs.length with h | h
  · rw [Nat.min_eq_left h]
  · rw [Nat.min_eq_right h, List.take_of_length_le (Nat.le_refl _), List.take_of_length_le h]
theorem cut_from (xs : List V) (m : Nat) : cutV xs (some (m : Int)) none = xs.drop m := by
  unfold cutV
  rw [HT.sIx_nat, HT.sIx_none]
  rcases Nat.le_total m xs.length with h | h
  · rw [Nat.min_eq_left h, List.take_of_length_le (by rw [List.length_drop]; exact Nat.le_refl _)]
  · rw [Nat.min_eq_right h, List.drop_of_length_le (Nat.le_refl _), List.drop_of_length_le h, List.take_nil]
theorem sl_any {K : PySem.W.Frag} {TT : List NTab} {H : Hp} {l : Addr} {xs : List V} {lo hi : Option Int} {Q : VK} (hx : TZ H l xs)
    (h : ∀ q G, Ext TT none H G → TZ G q (cutV xs lo hi) → Q (.ref q) G) : rSlZ K (.ref l) lo hi H Q := by
  refine ⟨l, xs, rfl, TZ.sq hx, fun e => h l H (Ext.refl ..) ?_, fun _ p o np zo => h p _ (Ext.new np) (TZ.new zo)⟩
  have e2 : cutV xs lo hi = xs := by
    unfold cutV
    rw [e.1, e.2, List.drop_zero, Nat.sub_zero, List.take_of_length_le (Nat.le_refl _)]
  rw [e2]
  exact hx
end TupX
end

-- SortT
section
set_option Elab.async false
set_option linter.all false
set_option maxRecDepth 100000
set_option maxHeartbeats 4000000
/-! SortT: sorted(t), t a tuple whose items are pairs of whole numbers. -/
namespace SrtT
open PySem PyProof.Rows Srt SrtO
variable {prog : Program} {w : World} {A : Around} {E : Value → Shared → Prop} {s : Shared}
/-- what sorted(t) leaves: a new list d of t's items, in their order, and every object that was there -/
structure Laid (s : Shared) (key : Value → Int × Int) (vs : List Value) (g : Heap) (d : Addr) (out : List Value) : Prop where
  up : Srtd (fun a b => lexB (key a) (key b)) out
  of_ : Stb (fun a b => lexB (key a) (key b)) out vs
  kept : ∀ b o, s.heap.get? b = some o → g.get? b = some o
  new : s.heap.get? d = none
  there : ∃ m, g.get? d = some (seqObj "list" out.toArray m)
/-- the last part, l the new list -/
theorem sort_last {g1 : Heap} {l : Addr} {vs : List Value} {key : Value → Int × Int} {Q : Value → Shared → Prop} (hl : g1.get? l = some (seqObj "list" vs.toArray 0)) (small : vs.length ≤ sizeLine) (pairs : ∀ v ∈ vs, IsPair g1 v (key v).1 (key v).2)
    (kept : ∀ b o, s.heap.get? b = some o → b ≠ l ∧ g1.get? b = some o) (new : s.heap.get? l = none) (h : ∀ g out, Laid s key vs g l out → Q (.ref l) { s with heap := g }) :
    wpAny (model prog w) A (holding [.ref l] (call (.builtin "list.sort") [.ref l]) >>= fun _ => ret (.ref l)) (fun fin s' => ∃ v, fin = .done (.ret v) ∧ Q v s') E { s with heap := g1 } := by
  refine wpAny_bind (wpAny_holding (wpAny_call_entry slot_list_sort ⟨_, hl, rfl⟩ entry_list_sort (list_sort_ord (swo_lex key) hl small ?cmp ?fin) (args_list_sort _)))
  case cmp =>
    intro two
    apply pairs_sortableO (by omega) pairs
    rintro ob q c
    cases (hl.symm.trans q)
    exact absurd (Value.type.inj c) (by decide)
  case fin =>
    intro out up of_
    refine ⟨_, rfl, wpAny_pure ⟨_, rfl, h _ out ⟨up, of_, fun b o q => ?_, new, sortedHeap_at hl⟩⟩⟩
    obtain ⟨ne, q1⟩ := kept b o q
    exact (sortedHeap_old ne (Heap.lt_size q1)).trans q1
theorem sorted_row {t : Addr} {o : Obj} {xs : Array Value} {n : Nat} {key : Value → Int × Int} {Q : Value → Shared → Prop} {cn : String} (kind : cn = "list" ∨ cn = "tuple") (ho : s.heap.get? t = some o) (hc : o.cls = .type cn) (hd : o.data = .seq xs n)
    (small : xs.size ≤ sizeLine) (pairs : ∀ v ∈ xs.toList, IsPair s.heap v (key v).1 (key v).2) (h : ∀ g d out, Laid s key xs.toList g d out → Q (.ref d) { s with heap := g }) :
    wpAny (model prog w) A (call (.builtin "sorted") [.ref t]) Q E s := by
  have small' : xs.toList.length ≤ sizeLine := by rw [Array.length_toList]; exact small
  refine Calls.call_function_entry kind_sorted plain_sorted entry_sorted (args_sorted1 _) ?_
  unfold Builtin.«sorted»
  refine wpAny_bind (m := checkCount "sorted" 1 1 _) (wpAny_pure (wpAny_bind (wpAny_collect_seq t kind ho hc hd (fun g1 up1 => wpAny_bind (wpAny_newList ?_ small')) small)))
  have up2 : ∀ b ob, s.heap.get? b = some ob → b ≠ g1.objs.size ∧ (g1.push (seqObj "list" xs.toList.toArray 0)).get? b = some ob := fun b ob q =>
    have q1 := up1 b ob q
    ⟨Nat.ne_of_lt (Heap.lt_size q1), Heap.get?_push_of_some _ q1⟩
  refine sort_last (s := s) (Heap.get?_push_size _ rfl) small' (fun v m => (pairs v m).keeps fun b ob q _ => (up2 b ob q).2) up2 ?_ (fun g out L => h g _ out L)
  cases q : s.heap.get? g1.objs.size with
  | none => rfl
  | some ob => exact absurd rfl (up2 _ ob q).1
end SrtT
namespace L2
open PySem PySem.Spec PyProof.Rows Srt
/-- the rule: the tuple at t holds pairs, told by key; the new list holds them sorted -/
def rSortedPB (K : PySem.W.Frag) (b : Bool) : List V → Hp → VK → Prop := fun vs H Q => ∃ (t : Addr) (xs : List V) (key : V → Int × Int), vs = [V.ref t] ∧ SqB K b H t xs ∧ (∀ x ∈ xs, ∃ q, x = V.ref q ∧ TZ H q [.int (key x).1, .int (key x).2]) ∧
  ∀ ys d, SrtO.Srtd (ltP key) ys → SrtO.Stb (ltP key) ys xs → H d = none → Q (.ref d) (upd H d (.lst ys))
theorem there {P : Program} {w : World} {H : Hp} {h : Heap} {a : Addr} : ∀ {o : HO}, ObjOk P w H h a o → ∃ ob, h.get? a = some ob
  | .lst _, x => x.2.elim fun _ y => y.elim fun _ z => ⟨_, z.2⟩
  | .tup _, x => x.2.elim fun _ y => y.2.elim fun ob z => ⟨ob, z.1⟩
  | .dK _, x => x.2.2.elim fun _ y => y.2.elim fun ob z => z.elim fun _ z => z.elim fun _ z => ⟨ob, z.1⟩
  | .dT _, x => x.2.2.elim fun _ y => y.2.elim fun ob z => z.elim fun _ z => z.elim fun _ z => ⟨ob, z.1⟩
  | .set _ _, x => x.elim fun ob z => z.elim fun _ z => z.elim fun _ z => z.elim fun _ z => ⟨ob, z.1⟩
  | .ins _ _ _, x => ⟨_, x.2.2.2.1⟩
  | .own _, x => x
  | .xd _, x => x.elim fun _ y => y.1.elim fun ob z => z.elim fun _ z => z.elim fun _ z => ⟨ob, z.1⟩
  | .rng _ _, x => x.elim fun _ y => y.elim fun _ y => y.elim fun _ y => ⟨_, y⟩
  | .frz _ _, x => ⟨_, x.1⟩
  | .tbl _, x => ⟨_, x⟩
  | .met _ _, x => ⟨_, x⟩
  | .ext _, x => x.2.1
theorem isPair_of {X : Cx} {pins : List (Addr × Obj)} {σ : L2.St} {H : Hp} {s : Shared} {q : Addr} {a b : Int} (I : Inv X pins σ H s) (h : TZ H q [.int a, .int b]) : IsPair s.heap (.ref q) a b := by
  obtain ⟨o, ho, hc, _, _, items, n, r, hd⟩ := h.obj I
  match items, r with
  | [x, y], .cons ra (.cons rb .nil) =>
    have ⟨ta, ea⟩ := ra
    have ⟨tb, eb⟩ := rb
    rw [ea, eb] at hd
    exact ⟨q, o, ta, tb, n, rfl, ho, hc, hd⟩
theorem rowB {X : Cx} {pins : List (Addr × Obj)} {σ : L2.St} {H : Hp} {s : Shared} (I : Inv X pins σ H s) : ∀ {b : Bool} {t : Addr} {xs : List V}, SqB X.K b H t xs → ∃ (items : List Value) (o : Obj) (n : Nat) (cn : String), Vals xs items ∧ (cn = "list" ∨ cn = "tuple") ∧ s.heap.get? t = some o ∧ o.cls = .type cn ∧ o.data = .seq items.toArray n ∧ xs.length ≤ sizeLine
  | true, _, _, q => by
    obtain ⟨items, rv, ⟨o, ho, hc, n, hd⟩, z⟩ := I.tuple q
    exact ⟨items, o, n, _, rv, .inr rfl, ho, hc, hd, z⟩
  | false, _, _, q => by
    obtain ⟨items, rv, p, z⟩ := I.list q
    obtain ⟨o, ho, hc, n, hd⟩ := p.isList
    exact ⟨items, o, n, _, rv, .inl rfl, ho, hc, hd, z⟩
theorem cr_sortedPB {X : Cx} (b : Bool) : CallR X (.builtin "sorted") (rSortedPB X.K b) := by
  intro pins s σ H vs us Q I r h
  have ⟨t, xs, key, ev, hs, hx, q⟩ := h
  subst ev
  match us, r with
  | [u], .cons ru .nil =>
    cases ru
    obtain ⟨items, o, n, cn, rv, kind, ho, hc, hd, small⟩ := rowB I hs
    obtain ⟨e1, e2⟩ := refs_back rv fun x m => (hx x m).imp fun _ z => z.1
    refine SrtT.sorted_row (key := fun u => key (backV u)) kind ho hc hd (by rw [List.size_toArray, ← rv.length]; exact small) (fun v m => ?_) fun g d out L => ?_
    · have ⟨b, eb⟩ := e2 v m
      have mem : V.ref b ∈ xs := by rw [e1]; exact List.mem_map.mpr ⟨v, m, by rw [eb] <;> rfl⟩
      have ⟨b', eb', hb⟩ := hx _ mem
      cases eb'
      rw [eb]
      exact isPair_of I hb
    · have hd0 : H d = none := by
        cases z : H d with
        | none => rfl
        | some u =>
          have ⟨o', ho'⟩ := there (I.hok d u z)
          exact absurd (L.new.symm.trans ho') (by simp)
      have refs : ∀ u ∈ out, ∃ a, u = Value.ref a := fun u m => e2 u (L.of_.perm.mem_iff.mp m)
      have st : SrtO.Stb (ltP key) (out.map backV) xs := e1 ▸ SrtO.Stb.map (ltP_swo key) backV L.of_
      have ⟨m, at_⟩ := L.there
      exact ⟨.ref d, _, I.laidN (o := .lst (out.map backV)) (t' := s.toks) L.kept L.new hd0 ⟨Nat.le_trans (Nat.le_of_eq st.len) small, out, m, vals_back refs, at_⟩, rfl, q _ d (SrtO.srtd_map L.up) st hd0⟩
abbrev rSortedPT (K : PySem.W.Frag) := rSortedPB K true
abbrev rSortedPL (K : PySem.W.Frag) := rSortedPB K false
theorem cr_sortedPT {X : Cx} : CallR X (.builtin "sorted") (rSortedPT X.K) := cr_sortedPB true
end L2
end

-- PuM
section
set_option Elab.async false
set_option linter.all false
set_option maxRecDepth 100000
set_option maxHeartbeats 4000000
/-! PuM: sorted rows. -/
namespace Pu
open PySem PySem.Spec PyProof.Rows L2 LamX NdefX
open SrtO (lexB lexB_iff lexB_no)
/-! ### rows of pairs: ascending, sorted -/
abbrev Pr := Int × Int
theorem pr_ext {p q : Pr} (h1 : p.1 = q.1) (h2 : p.2 = q.2) : p = q := Prod.ext h1 h2
theorem lexB_tot {p q : Pr} (h1 : lexB p q = false) (h2 : lexB q p = false) : p = q := by
  have a := lexB_no.mp h1
  have b := lexB_no.mp h2
  exact pr_ext (by omega) (by omega)
def Asc (ps : List Pr) : Prop := ps.Pairwise fun p q => lexB p q = true
def Srt (ps : List Pr) : Prop := ps.Pairwise fun p q => lexB q p = false
theorem srt_uniq : ∀ {l m : List Pr}, Srt l → Srt m → l.Perm m → l = m
  | [], m, _, _, h => (List.Perm.eq_nil h.symm).symm
  | x :: l, [], _, _, h => absurd h.length_eq (by simp)
  | x :: l, y :: m, hl, hm, h => by
    have hl' := List.pairwise_cons.mp hl
    have hm' := List.pairwise_cons.mp hm
    have e : x = y := by
      rcases List.mem_cons.mp (h.mem_iff.mp (List.mem_cons_self (a := x) (l := l))) with e | hx
      · exact e
      · rcases List.mem_cons.mp (h.mem_iff.mpr (List.mem_cons_self (a := y) (l := m))) with e | hy
        · exact e.symm
        · exact lexB_tot (hm'.1 x hx) (hl'.1 y hy)
    subst e
    rw [srt_uniq hl'.2 hm'.2 h.cons_inv]
def srt (ps : List Pr) : List Pr := ps.mergeSort fun a b => !lexB b a
theorem srt_perm (ps : List Pr) : (srt ps).Perm ps := List.mergeSort_perm _ _
theorem srt_srt (ps : List Pr) : Srt (srt ps) := by
  have h := List.pairwise_mergeSort (le := fun a b : Pr => !lexB b a) (fun a b c h1 h2 => by
    simp only [Bool.not_eq_true'] at h1 h2 ⊢
    have a1 := lexB_no.mp h1
    have b1 := lexB_no.mp h2
    exact lexB_no.mpr (by omega)) (fun a b => by
    simp only [Bool.or_eq_true, Bool.not_eq_true']
    cases h : lexB b a with
    | false => exact .inl rfl
    | true =>
      refine .inr (lexB_no.mpr ?_)
      have := lexB_iff.mp h
      omega) ps
  exact h.imp fun h => by simpa using h
theorem srt_of {l ps : List Pr} (h : Srt l) (p : l.Perm ps) : l = srt ps := srt_uniq h (srt_srt ps) (p.trans (srt_perm ps).symm)
theorem srt_len (ps : List Pr) : (srt ps).length = ps.length := (srt_perm ps).length_eq
theorem asc_nodup {ps : List Pr} (h : Asc ps) : ps.Nodup := h.imp fun {p q} h e => by
  subst e
  have := lexB_iff.mp h
  omega
theorem asc_srt {ps : List Pr} (h : Asc ps) : Srt ps := h.imp fun {p q} h => by
  have := lexB_iff.mp h
  exact lexB_no.mpr (by omega)
theorem srt_asc {ps : List Pr} (h : Srt ps) (n : ps.Nodup) : Asc ps := by
  have q := List.pairwise_and_iff.mpr ⟨h, n⟩
  refine q.imp fun {p q} h => ?_
  cases e : lexB p q with
  | true => rfl
  | false => exact absurd (lexB_tot e h.1) h.2

/-! ### sorted numbers -/
def isort (ns : List Int) : List Int := ns.mergeSort fun a b => decide (a ≤ b)
theorem isort_perm (ns : List Int) : (isort ns).Perm ns := List.mergeSort_perm _ _
theorem isort_le (ns : List Int) : (isort ns).Pairwise (· ≤ ·) := by
  have h := List.pairwise_mergeSort (le := fun a b : Int => decide (a ≤ b)) (fun a b c h1 h2 => by
    simp only [decide_eq_true_eq] at h1 h2 ⊢; omega) (fun a b => by
    simp only [Bool.or_eq_true, decide_eq_true_eq]; omega) ns
  exact h.imp fun h => by simpa using h
theorem le_uniq : ∀ {l m : List Int}, l.Pairwise (· ≤ ·) → m.Pairwise (· ≤ ·) → l.Perm m → l = m
  | [], m, _, _, h => (List.Perm.eq_nil h.symm).symm
  | x :: l, [], _, _, h => absurd h.length_eq (by simp)
  | x :: l, y :: m, hl, hm, h => by
    have hl' := List.pairwise_cons.mp hl
    have hm' := List.pairwise_cons.mp hm
    have e : x = y := by
      rcases List.mem_cons.mp (h.mem_iff.mp (List.mem_cons_self (a := x) (l := l))) with e | hx
      · exact e
      · rcases List.mem_cons.mp (h.mem_iff.mpr (List.mem_cons_self (a := y) (l := m))) with e | hy
        · exact e.symm
        · have a := hl'.1 y hy
          have b := hm'.1 x hx
          omega
    subst e
    rw [le_uniq hl'.2 hm'.2 (List.Perm.cons_inv h)]
theorem isort_of {l ns : List Int} (h : l.Pairwise (· ≤ ·)) (p : l.Perm ns) : l = isort ns := le_uniq h (isort_le ns) (p.trans (isort_perm ns).symm)
theorem isort_len (ns : List Int) : (isort ns).length = ns.length := (isort_perm ns).length_eq
end Pu
end

-- PuI
section
set_option Elab.async false
set_option linter.all false
set_option maxRecDepth 100000
set_option maxHeartbeats 4000000
/-! PuI: operators and built-ins. -/
namespace Pu
open PySem PySem.Spec PyProof.Rows L2 LamX NdefX BlkX
def bigK : Int := 10000000000000000000000000000000000000000
def CDivZ (i j : Int) : Prop := 0 < j ∧ j < 10000000000000000000000000000000000000000
theorem noPyW {x y : Int} (h : 0 < y ∧ y < 10000000000000000000000000000000000000000) : Builtin.divisionGoesByPylong x y = false := by
  refine PyProof.noPylong_of_log2 ?_
  have h0 : y.natAbs ≠ 0 := by omega
  have h1 : y.natAbs < 2 ^ 133 := Nat.lt_of_lt_of_le (show y.natAbs < 10000000000000000000000000000000000000000 by omega) (by decide)
  have := (Nat.log2_lt h0).mpr h1
  omega
theorem op_fdivZ {X : Cx} : OpR X (binaryOp .FloorDiv) (rI CDivZ fun i j => .int (i / j)) := opI fun i j _ _ _ _ _ hc q => by
  have h1 : (0 : Int) < j := hc.1
  exact floordiv_int (by omega) (by rw [Int.fdiv_eq_ediv_of_nonneg i (by omega)]; exact q) (.inl (noPyW hc))
theorem iop_fdivZ {X : Cx} : OpR X (inplaceOp .FloorDiv) (rI CDivZ fun i j => .int (i / j)) := opI fun i j _ _ _ _ _ hc q => by
  have h1 : (0 : Int) < j := hc.1
  exact ifloordiv_int (by omega) (by rw [Int.fdiv_eq_ediv_of_nonneg i (by omega)]; exact q) (.inl (noPyW hc))
section
variable {g : Gx} {c : Cfg} {W : WX} {F F' : Addr → Prop} {ρ : Env} {σ : L2.St} {H H' : Hp}
/-! ### numbers -/
def dI (h : Int → Int → Int) : D → D → Option Rk
  | .int i, .int j => some (.v (.int (h i j)))
  | _, _ => none
def dB (h : Int → Int → Bool) : D → D → Option Rk
  | .int i, .int j => some (.v (.bool (h i j)))
  | _, _ => none
def dIC (q : Int → Int → Bool) (h : Int → Int → Int) : D → D → Option Rk
  | .int i, .int j => if q i j = true then some (.v (.int (h i j))) else none
  | _, _ => none
theorem oI {h : Int → Int → Int} : OpS g (rI0 fun i j => .int (h i j)) (dI h) := fun c hg F ρ σ H x y d1 d2 k Q e b1 b2 o q => by
  cases d1 <;> cases d2 <;> first | cases o | skip
  obtain rfl := b1.int
  obtain rfl := b2.int
  exact ⟨_, _, rfl, rfl, q _ _ e (Le.refl _ _) (.int _)⟩
theorem oB {h : Int → Int → Bool} : OpS g (rI0 fun i j => .bl (h i j)) (dB h) := fun c hg F ρ σ H x y d1 d2 k Q e b1 b2 o q => by
  cases d1 <;> cases d2 <;> first | cases o | skip
  obtain rfl := b1.int
  obtain rfl := b2.int
  exact ⟨_, _, rfl, rfl, q _ _ e (Le.refl _ _) (.bl _)⟩
theorem oIC {C : Int → Int → Prop} {q : Int → Int → Bool} {h : Int → Int → Int} (hq : ∀ i j, q i j = true → C i j) : OpS g (rI C fun i j => .int (h i j)) (dIC q h) := fun c hg F ρ σ H x y d1 d2 k Q e b1 b2 o r => by
  cases d1 <;> cases d2 <;> first | cases o | skip
  rename_i i j
  obtain rfl := b1.int
  obtain rfl := b2.int
  dsimp only [dIC] at o
  by_cases z : q i j = true
  · rw [if_pos z] at o
    cases o
    exact ⟨_, _, rfl, rfl, hq _ _ z, r _ _ e (Le.refl _ _) (.int _)⟩
  · rw [if_neg z] at o; cases o
def dAdd := dI fun i j => i + j
def dSub := dI fun i j => i - j
def mulOk (i j : Int) : Bool := decide ((-(2 ^ 64) < i ∧ i < 2 ^ 64) ∨ (-(2 ^ 64) < j ∧ j < 2 ^ 64))
def dMul := dIC mulOk fun i j => i * j
def divOk (i j : Int) : Bool := decide (0 < j ∧ j < 10000000000000000000000000000000000000000)
def dDiv := dIC divOk fun i j => i / j
def modOk (i j : Int) : Bool := decide (0 < j)
def dMod := dIC modOk fun i j => i % j
def powOk (i j : Int) : Bool := decide (0 ≤ j ∧ j ≤ 1000000 ∧ i.natAbs < 2 ^ 64)
def dPow := dIC powOk fun i j => i ^ j.toNat
def dLt := dB fun i j => decide (i < j)
def dLe := dB fun i j => decide (i ≤ j)
def dGt := dB fun i j => decide (j < i)
def dGe := dB fun i j => decide (j ≤ i)
theorem oAdd : OpS g (rI0 fun i j => .int (i + j)) dAdd := oI
theorem oSub : OpS g (rI0 fun i j => .int (i - j)) dSub := oI
theorem oMul : OpS g (rI CMul fun i j => .int (i * j)) dMul := oIC fun i j h => show ((-(2 ^ 64) < i ∧ i < 2 ^ 64) ∨ (-(2 ^ 64) < j ∧ j < 2 ^ 64)) from of_decide_eq_true h
theorem oDiv : OpS g (rI CDivZ fun i j => .int (i / j)) dDiv := oIC fun i j h => show (0 < j ∧ j < 10000000000000000000000000000000000000000) from of_decide_eq_true h
theorem oMod : OpS g (rI (fun _ j => 0 < j) fun i j => .int (i % j)) dMod := oIC fun i j h => of_decide_eq_true h
theorem oPow : OpS g (rI CPow fun i j => .int (i ^ j.toNat)) dPow := oIC fun i j h => show (0 ≤ j ∧ j ≤ 1000000 ∧ i.natAbs < 2 ^ 64) from of_decide_eq_true h
theorem oLt : OpS g (rI0 fun i j => .bl (decide (i < j))) dLt := oB
theorem oLe : OpS g (rI0 fun i j => .bl (decide (i ≤ j))) dLe := oB
theorem oGt : OpS g (rI0 fun i j => .bl (decide (j < i))) dGt := oB
theorem oGe : OpS g (rI0 fun i j => .bl (decide (j ≤ i))) dGe := oB
def dNeg : D → Option Rk
  | .int i => some (.v (.int (-i)))
  | _ => none
theorem uNeg : UnS g (rU fun i => .int (-i)) dNeg := fun c hg F ρ σ H x d k Q e b o q => by
  cases d <;> first | cases o | skip
  obtain rfl := b.int
  exact ⟨_, rfl, q _ _ e (Le.refl _ _) (.int _)⟩
def dMin := dI fun i j => if j < i then j else i
def dMax := dI fun i j => if j > i then j else i
theorem oMin : OpS g (fun x y H Q => ∃ i j, [x, y] = [V.int i, V.int j] ∧ Q (.int (if j < i then j else i)) H) dMin := fun c hg F ρ σ H x y d1 d2 k Q e b1 b2 o q => by
  cases d1 <;> cases d2 <;> first | cases o | skip
  obtain rfl := b1.int
  obtain rfl := b2.int
  exact ⟨_, _, rfl, q _ _ e (Le.refl _ _) (.int _)⟩
theorem oMax : OpS g (fun x y H Q => ∃ i j, [x, y] = [V.int i, V.int j] ∧ Q (.int (if j > i then j else i)) H) dMax := fun c hg F ρ σ H x y d1 d2 k Q e b1 b2 o q => by
  cases d1 <;> cases d2 <;> first | cases o | skip
  obtain rfl := b1.int
  obtain rfl := b2.int
  exact ⟨_, _, rfl, q _ _ e (Le.refl _ _) (.int _)⟩
def dInt : D → Option Rk
  | .int i => some (.v (.int i))
  | .bool k => some (.v (.int (if k then 1 else 0)))
  | _ => none
theorem uInt : UnS g (fun x H Q => (∃ i, [x] = [V.int i] ∧ Q (.int i) H) ∨ ∃ k, [x] = [V.bl k] ∧ Q (.int (if k then 1 else 0)) H) dInt := fun c hg F ρ σ H x d k Q e b o q => by
  cases d <;> first | cases o | skip
  · obtain rfl := b.bl
    exact .inr ⟨_, rfl, q _ _ e (Le.refl _ _) (.int _)⟩
  · obtain rfl := b.int
    exact .inl ⟨_, rfl, q _ _ e (Le.refl _ _) (.int _)⟩
/-! ### data, equal or not -/
mutual
theorem Rv.dp {cm : Str → Option Addr} {K : PySem.W.Frag} : ∀ {v : V} {d : D}, Rv cm F H v d → d.canLay0 = true → Dp K H v d
  | _, _, .non, _ => .non
  | _, _, .bl b, _ => .bl b
  | _, _, .int i, _ => .int i
  | _, _, .str x, _ => .str x
  | _, _, .tup h t, q => .tup (TZ.sq h) (Rvs.dp t q)
  | _, _, .lst f h t, q => .lst (SqL.of h) (Rvs.dp t q)
  | _, _, .ob _ _ _, q => absurd q (by simp [PyData.canLay0])
  | _, _, .fn _, q => absurd q (by simp [PyData.canLay0])
theorem Rvs.dp {cm : Str → Option Addr} {K : PySem.W.Frag} : ∀ {vs : List V} {ds : List D}, Rvs cm F H vs ds → PyData.canLayAll0 ds = true → DpAll K H vs ds
  | _, _, .nil, _ => .nil
  | _, _, .cons h t, q => .cons (Rv.dp h (Bool.and_eq_true_iff.mp q).1) (Rvs.dp t (Bool.and_eq_true_iff.mp q).2)
end
theorem Bv.dp {K : PySem.W.Frag} {v : V} {d : D} (h : Bv c F H v d) (q : SeqAt.shaped d = true) : Dp K H v d := by
  have q1 := SeqAt.canLay_of_shaped q
  rcases h with h | ⟨a, vs, ds, rfl, rfl, h1, h2⟩
  · exact h.dp q1
  · exact .lst (SqL.of h1) (h2.dp q1)
def dEq : D → D → Option Rk := fun a b => if SeqAt.shaped a = true ∧ SeqAt.shaped b = true then some (.v (.bool (PyData.eqv a b))) else none
def dNe : D → D → Option Rk := fun a b => if SeqAt.shaped a = true ∧ SeqAt.shaped b = true then some (.v (.bool (!PyData.eqv a b))) else none
theorem oEq {K : PySem.W.Frag} : OpS g (rEqD K) dEq := fun c hg F ρ σ H x y d1 d2 k Q e b1 b2 o q => by
  unfold dEq at o
  split at o
  · rename_i z
    cases o
    exact ⟨d1, d2, b1.dp z.1, b2.dp z.2, z.1, z.2, q _ _ e (Le.refl _ _) (.bl _)⟩
  · cases o
theorem oNe {K : PySem.W.Frag} : OpS g (rNeD K) dNe := fun c hg F ρ σ H x y d1 d2 k Q e b1 b2 o q => by
  unfold dNe at o
  split at o
  · rename_i z
    cases o
    exact ⟨d1, d2, b1.dp z.1, b2.dp z.2, z.1, z.2, q _ _ e (Le.refl _ _) (.bl _)⟩
  · cases o
def dIn : D → D → Option Rk
  | d, .list ds => if SeqAt.shaped d = true ∧ SeqAt.shaped (.list ds) = true then some (.v (.bool (ds.any fun z => PyData.eqv z d))) else none
  | _, _ => none
def dNin : D → D → Option Rk
  | d, .list ds => if SeqAt.shaped d = true ∧ SeqAt.shaped (.list ds) = true then some (.v (.bool (!ds.any fun z => PyData.eqv z d))) else none
  | _, _ => none
theorem oIn {K : PySem.W.Frag} : OpS g (rInD K) dIn := fun c hg F ρ σ H x y d1 d2 k Q e b1 b2 o q => by
  cases d2 <;> first | cases o | skip
  unfold dIn at o
  dsimp only at o
  split at o
  · rename_i z
    cases o
    exact ⟨_, _, b1.dp z.1, b2.dp z.2, z.1, z.2, q _ _ e (Le.refl _ _) (.bl _)⟩
  · cases o
theorem oNin {K : PySem.W.Frag} : OpS g (rNotInD K) dNin := fun c hg F ρ σ H x y d1 d2 k Q e b1 b2 o q => by
  cases d2 <;> first | cases o | skip
  unfold dNin at o
  dsimp only at o
  split at o
  · rename_i z
    cases o
    exact ⟨_, _, b1.dp z.1, b2.dp z.2, z.1, z.2, q _ _ e (Le.refl _ _) (.bl _)⟩
  · cases o
/-! flat things in a list or a tuple -/
def flatD : D → Bool
  | .none | .bool _ | .int _ | .str _ => true
  | _ => false
theorem flat_v {cm : Str → Option Addr} {v : V} {d : D} (h : Rv cm F H v d) (q : flatD d = true) : flatV v = true := by
  cases h <;> first | rfl | cases q
theorem flat_vs {cm : Str → Option Addr} : ∀ {vs : List V} {ds : List D}, Rvs cm F H vs ds → ds.all flatD = true → vs.all flatV = true
  | _, _, .nil, _ => rfl
  | _, _, .cons h t, q => by
    rw [List.all_cons, Bool.and_eq_true] at q ⊢
    exact ⟨flat_v h q.1, flat_vs t q.2⟩
theorem eq_flat {cm : Str → Option Addr} {v w : V} {d e : D} (h : Rv cm F H v d) (k : Rv cm F H w e) (q : flatD d = true) (r : flatD e = true) : eqV v w = PyData.eqv d e := by
  cases h <;> cases k <;> first | cases q | cases r | skip
  all_goals first | rfl | (simp [eqV, PyData.eqv]; done) | skip
  all_goals (unfold eqV PyData.eqv; first | rfl | (simp; done) | (rename_i a b; cases a <;> cases b <;> rfl) | (rename_i a b; cases a <;> simp) | (rename_i a b; cases b <;> simp))
theorem in_flat {cm : Str → Option Addr} {v : V} {d : D} (h : Rv cm F H v d) (q : flatD d = true) : ∀ {vs : List V} {ds : List D}, Rvs cm F H vs ds → ds.all flatD = true → inV v vs = ds.any fun z => PyData.eqv z d
  | _, _, .nil, _ => rfl
  | _, _, .cons k t, r => by
    rw [List.all_cons, Bool.and_eq_true] at r
    have ih := in_flat h q t r.2
    unfold inV at ih ⊢
    rw [List.any_cons, List.any_cons, ih, eq_flat k h r.1 q]
def dInF (neg : Bool) : D → D → Option Rk
  | d, .list ds => if flatD d = true ∧ ds.all flatD = true then some (.v (.bool (if neg then !(ds.any fun z => PyData.eqv z d) else ds.any fun z => PyData.eqv z d))) else none
  | d, .tuple ds => if flatD d = true ∧ ds.all flatD = true then some (.v (.bool (if neg then !(ds.any fun z => PyData.eqv z d) else ds.any fun z => PyData.eqv z d))) else none
  | _, _ => none
theorem Bv.flat {v : V} {d : D} (h : Bv c F H v d) (q : flatD d = true) : Rv c.g.cm F H v d := by
  rcases h with h | ⟨a, vs, ds, rfl, rfl, h1, h2⟩
  · exact h
  · cases q
theorem oInF {K : PySem.W.Frag} {neg : Bool} : OpS g (rIn K neg) (dInF neg) := fun c hg F ρ σ H x y d1 d2 k Q e b1 b2 o q => by
  cases d2 <;> first | cases o | skip
  · unfold dInF at o
    dsimp only at o
    split at o
    · rename_i z
      cases o
      obtain ⟨a, vs, rfl, h1, h2⟩ := b2.list
      refine ⟨a, vs, rfl, .inl (SqL.of h1), flat_v (b1.flat z.1) z.1, flat_vs h2 z.2, ?_⟩
      rw [in_flat (b1.flat z.1) z.1 h2 z.2]
      exact q _ _ e (Le.refl _ _) (.bl _)
    · cases o
  · unfold dInF at o
    dsimp only at o
    split at o
    · rename_i z
      cases o
      obtain ⟨a, vs, rfl, h1, h2⟩ := b2.tup
      refine ⟨a, vs, rfl, .inr (TZ.sq h1), flat_v (b1.flat z.1) z.1, flat_vs h2 z.2, ?_⟩
      rw [in_flat (b1.flat z.1) z.1 h2 z.2]
      exact q _ _ e (Le.refl _ _) (.bl _)
    · cases o
def isNon : D → Bool
  | .none => true
  | _ => false
def dIsN : D → D → Option Rk
  | d, .none => some (.v (.bool (isNon d)))
  | _, _ => none
def dNotN : D → D → Option Rk
  | d, .none => some (.v (.bool (!isNon d)))
  | _, _ => none
theorem non_iff {v : V} {d : D} (h : Bv c F H v d) : decide (v = .non) = isNon d := by
  rcases h with h | ⟨a, vs, ds, rfl, rfl, h1, h2⟩
  · cases h <;> rfl
  · rfl
theorem oIsN : OpS g (fun x y H Q => y = .non ∧ Q (.bl (decide (x = .non))) H) dIsN := fun c hg F ρ σ H x y d1 d2 k Q e b1 b2 o q => by
  cases d2 <;> first | cases o | skip
  refine ⟨b2.non, ?_⟩
  rw [non_iff b1]
  exact q _ _ e (Le.refl _ _) (.bl _)
theorem oNotN : OpS g (fun x y H Q => y = .non ∧ Q (.bl (!decide (x = .non))) H) dNotN := fun c hg F ρ σ H x y d1 d2 k Q e b1 b2 o q => by
  cases d2 <;> first | cases o | skip
  refine ⟨b2.non, ?_⟩
  rw [non_iff b1]
  exact q _ _ e (Le.refl _ _) (.bl _)
/-! ### rows -/
def dIx : D → D → Option Rk
  | .list xs, .int i => (atI xs i).map .v
  | .tuple xs, .int i => (atI xs i).map .v
  | _, _ => none
theorem Rvs.at {cm : Str → Option Addr} {vs : List V} {ds : List D} {i : Int} {d : D} (h : Rvs cm F H vs ds) (q : atI ds i = some d) : ∃ v, atI vs i = some v ∧ Rv cm F H v d := by
  unfold atI at q ⊢
  rw [h.length]
  cases z : ixN ds.length i with
  | none => rw [z] at q; cases q
  | some n => rw [z] at q; exact h.getD q
theorem oIxL {K : PySem.W.Frag} : OpS g (rIxL K) (fun a b => match a with | .list _ => dIx a b | _ => none) := fun c hg F ρ σ H x y d1 d2 k Q e b1 b2 o q => by
  cases d1 <;> first | cases o | skip
  cases d2 <;> first | cases o | skip
  obtain ⟨a, vs, rfl, h1, h2⟩ := b1.list
  obtain rfl := b2.int
  dsimp only [dIx] at o
  cases z : atI _ _ with
  | none => rw [z] at o; cases o
  | some d =>
    rw [z] at o
    cases o
    obtain ⟨v, hv, r⟩ := h2.at z
    exact ⟨a, vs, _, v, rfl, rfl, SqL.of h1, hv, q _ _ e (Le.refl _ _) r⟩
theorem oIxT {K : PySem.W.Frag} : OpS g (rIxT K) (fun a b => match a with | .tuple _ => dIx a b | _ => none) := fun c hg F ρ σ H x y d1 d2 k Q e b1 b2 o q => by
  cases d1 <;> first | cases o | skip
  cases d2 <;> first | cases o | skip
  obtain ⟨a, vs, rfl, h1, h2⟩ := b1.tup
  obtain rfl := b2.int
  dsimp only [dIx] at o
  cases z : atI _ _ with
  | none => rw [z] at o; cases o
  | some d =>
    rw [z] at o
    cases o
    obtain ⟨v, hv, r⟩ := h2.at z
    exact ⟨a, vs, _, v, rfl, rfl, TZ.sq h1, hv, q _ _ e (Le.refl _ _) r⟩
def dIxL : D → D → Option Rk := fun a b => match a with | .list _ => dIx a b | _ => none
def dIxT : D → D → Option Rk := fun a b => match a with | .tuple _ => dIx a b | _ => none
def dLen : D → Option Rk
  | .list xs => some (.v (.int xs.length))
  | .tuple xs => some (.v (.int xs.length))
  | _ => none
theorem uLen {K : PySem.W.Frag} : UnS g (fun x H Q => BlkX.rLen K [x] H Q) dLen := fun c hg F ρ σ H x d k Q e b o q => by
  cases d <;> first | cases o | skip
  · obtain ⟨a, vs, rfl, h1, h2⟩ := b.list
    exact ⟨a, vs, rfl, .inl (SqL.of h1), by rw [h2.length]; exact q _ _ e (Le.refl _ _) (.int _)⟩
  · obtain ⟨a, vs, rfl, h1, h2⟩ := b.tup
    exact ⟨a, vs, rfl, .inr (TZ.sq h1), by rw [h2.length]; exact q _ _ e (Le.refl _ _) (.int _)⟩
def asI : D → Option Int
  | .int i => some i
  | _ => none
def asInts : List D → Option (List Int)
  | [] => some []
  | d :: r => (asI d).bind fun i => (asInts r).map (i :: ·)
theorem asInts_eq : ∀ {ds : List D} {ns : List Int}, asInts ds = some ns → ds = ns.map PyData.int
  | [], ns, h => by cases h; rfl
  | d :: r, ns, h => by
    unfold asInts at h
    cases d <;> first | cases h | skip
    rename_i i
    simp only [asI, Option.bind] at h
    cases z : asInts r with
    | none => rw [z] at h; cases h
    | some ms => rw [z] at h; cases h; rw [asInts_eq z] <;> rfl
theorem asInts_map (ns : List Int) : asInts (ns.map PyData.int) = some ns := by
  induction ns with
  | nil => rfl
  | cons n r ih => simp [asInts, asI, ih]
def dSum : D → Option Rk
  | .list xs => (asInts xs).map fun ns => .v (.int ns.sum)
  | _ => none
theorem uSum {K : PySem.W.Frag} : UnS g (fun x H Q => rSum K [x] H Q) dSum := fun c hg F ρ σ H x d k Q e b o q => by
  cases d <;> first | cases o | skip
  rename_i xs
  obtain ⟨a, vs, rfl, h1, h2⟩ := b.list
  dsimp only [dSum] at o
  cases z : asInts xs with
  | none => rw [z] at o; cases o
  | some ns =>
    rw [z] at o
    cases o
    rw [asInts_eq z] at h2
    rw [Rvs.ints_of h2] at h1
    exact ⟨a, ns, rfl, SqL.of h1, q _ _ e (Le.refl _ _) (.int _)⟩
def asBs : List D → Option (List Bool)
  | [] => some []
  | d :: r => (asB d).bind fun i => (asBs r).map (i :: ·)
theorem asBs_of {cm : Str → Option Addr} : ∀ {vs : List V} {ds : List D} {bs : List Bool}, Rvs cm F H vs ds → asBs ds = some bs → vs = bs.map V.bl
  | _, _, bs, .nil, h => by cases h; rfl
  | _, _, bs, .cons (d := d) r t, h => by
    unfold asBs at h
    cases y : asB d with
    | none => rw [y] at h; cases h
    | some b =>
      rw [y] at h
      have := asB_some y
      subst this
      cases r
      simp only [Option.bind] at h
      cases z : asBs _ with
      | none => rw [z] at h; cases h
      | some ms => rw [z] at h; cases h; rw [asBs_of t z] <;> rfl
def dAll : D → Option Rk
  | .list xs => (asBs xs).map fun bs => .v (.bool (bs.all id))
  | _ => none
theorem uAll {K : PySem.W.Frag} : UnS g (fun x H Q => rAll K [x] H Q) dAll := fun c hg F ρ σ H x d k Q e b o q => by
  cases d <;> first | cases o | skip
  rename_i xs
  obtain ⟨a, vs, rfl, h1, h2⟩ := b.list
  dsimp only [dAll] at o
  cases z : asBs xs with
  | none => rw [z] at o; cases o
  | some bs =>
    rw [z] at o
    cases o
    rw [asBs_of h2 z] at h1
    exact ⟨a, bs, rfl, SqL.of h1, q _ _ e (Le.refl _ _) (.bl _)⟩
def dAny : D → Option Rk
  | .list xs => (asBs xs).map fun bs => .v (.bool (bs.any id))
  | _ => none
theorem uAny {K : PySem.W.Frag} : UnS g (fun x H Q => rAny K [x] H Q) dAny := fun c hg F ρ σ H x d k Q e b o q => by
  cases d <;> first | cases o | skip
  rename_i xs
  obtain ⟨a, vs, rfl, h1, h2⟩ := b.list
  dsimp only [dAny] at o
  cases z : asBs xs with
  | none => rw [z] at o; cases o
  | some bs =>
    rw [z] at o
    cases o
    rw [asBs_of h2 z] at h1
    exact ⟨a, bs, rfl, SqL.of h1, q _ _ e (Le.refl _ _) (.bl _)⟩
/-! new rows -/
def dCat : D → D → Option Rk
  | .list xs, .list ys => if xs.length + ys.length ≤ sizeLine then some (.own (xs ++ ys)) else none
  | _, _ => none
theorem oCat : OpS g rCat dCat := fun c hg F ρ σ H x y d1 d2 k Q e b1 b2 o q => by
  cases d1 <;> first | cases o | skip
  cases d2 <;> first | cases o | skip
  obtain ⟨a, vs, rfl, h1, h2⟩ := b1.list
  obtain ⟨b, ws, rfl, h3, h4⟩ := b2.list
  dsimp only [dCat] at o
  split at o
  · rename_i z
    cases o
    exact ⟨a, b, vs, ws, rfl, rfl, h1, h3, by rw [h2.length, h4.length]; exact z, fun p np => q _ _ (e.new np) (Le.new np) (newOwn e np (h2.append h4))⟩
  · cases o
def dRep : D → D → Option Rk
  | .list xs, .int k => if -(2 ^ 63) ≤ k ∧ k < 2 ^ 63 ∧ xs.length * k.toNat ≤ sizeLine then some (.own ((List.replicate k.toNat xs).flatten)) else none
  | _, _ => none
def dList : D → Option Rk
  | .list xs => some (.own xs)
  | .tuple xs => some (.own xs)
  | _ => none
theorem uList {K : PySem.W.Frag} : UnS g (fun x H Q => ∃ p ys, [x] = [V.ref p] ∧ (SqL K H p ys ∨ SqT K H p ys) ∧ ∀ l, H l = none → Q (.ref l) (upd H l (.lst ys))) dList := fun c hg F ρ σ H x d k Q e b o q => by
  cases d <;> first | cases o | skip
  · obtain ⟨a, vs, rfl, h1, h2⟩ := b.list
    exact ⟨a, vs, rfl, .inl (SqL.of h1), fun p np => q _ _ (e.new np) (Le.new np) (newOwn e np h2)⟩
  · obtain ⟨a, vs, rfl, h1, h2⟩ := b.tup
    exact ⟨a, vs, rfl, .inr (TZ.sq h1), fun p np => q _ _ (e.new np) (Le.new np) (newOwn e np h2)⟩
def dTuple : D → Option Rk
  | .list xs => some (.v (.tuple xs))
  | .tuple xs => some (.v (.tuple xs))
  | _ => none
theorem uTuple {K : PySem.W.Frag} : UnS g (fun x H Q => rTupO K [x] H Q) dTuple := fun c hg F ρ σ H x d k Q e b o q => by
  cases d <;> first | cases o | skip
  · obtain ⟨a, vs, rfl, h1, h2⟩ := b.list
    exact ⟨a, vs, rfl, .inl ⟨SqL.of h1, fun p o np zo => q _ _ (e.new np) (Le.new np) (.tup (TZ.new zo) (h2.mono (Le.new np)))⟩⟩
  · obtain ⟨a, vs, rfl, h1, h2⟩ := b.tup
    exact ⟨a, vs, rfl, .inr ⟨TZ.sq h1, q _ _ e (Le.refl _ _) (.tup h1 h2)⟩⟩
def dSortI : D → Option Rk
  | .list xs => (asInts xs).map fun ns => .own ((isort ns).map .int)
  | _ => none
theorem uSortI {K : PySem.W.Frag} : UnS g (fun x H Q => rSortedI K [x] H Q) dSortI := fun c hg F ρ σ H x d k Q e b o q => by
  cases d <;> first | cases o | skip
  rename_i xs
  obtain ⟨a, vs, rfl, h1, h2⟩ := b.list
  dsimp only [dSortI] at o
  cases z : asInts xs with
  | none => rw [z] at o; cases o
  | some ns =>
    rw [z] at o
    cases o
    rw [asInts_eq z] at h2
    rw [Rvs.ints_of h2] at h1
    refine ⟨a, ns, rfl, SqL.of h1, fun ns' p pm le np => ?_⟩
    have e2 := isort_of le pm
    subst e2
    exact q _ _ (e.new np) (Le.new np) (newOwn e np (Rvs.ints _))
def prD (p : Pr) : D := .tuple [.int p.1, .int p.2]
def asP : D → Option Pr
  | .tuple [.int i, .int j] => some (i, j)
  | _ => none
def asPs : List D → Option (List Pr)
  | [] => some []
  | d :: r => (asP d).bind fun i => (asPs r).map (i :: ·)
theorem asP_eq {d : D} {p : Pr} (h : asP d = some p) : d = prD p := by
  unfold asP at h
  split at h
  · cases h; rfl
  · cases h
theorem asPs_eq : ∀ {ds : List D} {ps : List Pr}, asPs ds = some ps → ds = ps.map prD
  | [], ns, h => by cases h; rfl
  | d :: r, ns, h => by
    unfold asPs at h
    cases y : asP d with
    | none => rw [y] at h; cases h
    | some b =>
      rw [y] at h
      simp only [Option.bind] at h
      cases z : asPs r with
      | none => rw [z] at h; cases h
      | some ms => rw [z] at h; cases h; rw [asPs_eq z, asP_eq y] <;> rfl
theorem asPs_map (ps : List Pr) : asPs (ps.map prD) = some ps := by
  induction ps with
  | nil => rfl
  | cons n r ih => simp [asPs, asP, prD, ih]
def prOf (H : Hp) (v : V) : Pr := match v with
  | .ref t => match H t with
    | some (.frz _ (.tup [.int i, .int j])) => (i, j)
    | _ => (0, 0)
  | _ => (0, 0)
theorem pr_of {cm : Str → Option Addr} {v : V} {p : Pr} (h : Rv cm F H v (prD p)) : prOf H v = p ∧ ∃ t, v = V.ref t ∧ TZ H t [.int p.1, .int p.2] := by
  unfold prD at h
  cases h with
  | tup h t =>
    have e := Rvs.ints_of (ns := [p.1, p.2]) t
    subst e
    exact ⟨by obtain ⟨ob, _, hz⟩ := h; simp only [prOf, hz]; rfl, _, rfl, h⟩
theorem prs_of {cm : Str → Option Addr} : ∀ {vs : List V} {ps : List Pr}, Rvs cm F H vs (ps.map prD) → vs.map (prOf H) = ps ∧ ∀ x ∈ vs, ∃ t, x = V.ref t ∧ TZ H t [.int (prOf H x).1, .int (prOf H x).2]
  | _, [], h => by
    cases h
    exact ⟨rfl, fun x m => by cases m⟩
  | _, p :: r, h => by
    cases h with
    | cons h t =>
      obtain ⟨a, b⟩ := pr_of h
      obtain ⟨a2, b2⟩ := prs_of t
      refine ⟨by rw [List.map_cons, a, a2], fun x m => ?_⟩
      rcases List.mem_cons.mp m with m | m
      · subst m; rw [a]; exact b
      · exact b2 x m
theorem rvs_prs {cm : Str → Option Addr} : ∀ {vs : List V}, (∀ x ∈ vs, ∃ t, x = V.ref t ∧ TZ H t [.int (prOf H x).1, .int (prOf H x).2]) → Rvs cm F H vs ((vs.map (prOf H)).map prD)
  | [], _ => .nil
  | v :: r, h => by
    obtain ⟨t, e, ht⟩ := h v List.mem_cons_self
    refine .cons ?_ (rvs_prs fun x m => h x (List.mem_cons_of_mem _ m))
    rw [e]
    rw [e] at ht
    exact .tup ht (.cons (.int _) (.cons (.int _) .nil))
def dSortP : D → Option Rk
  | .list xs => (asPs xs).map fun ps => .own ((srt ps).map prD)
  | _ => none
theorem uSortP {K : PySem.W.Frag} : UnS g (fun x H Q => rSortedPL K [x] H Q) dSortP := fun c hg F ρ σ H x d k Q e b o q => by
  cases d <;> first | cases o | skip
  rename_i xs
  obtain ⟨a, vs, rfl, h1, h2⟩ := b.list
  dsimp only [dSortP] at o
  cases z : asPs xs with
  | none => rw [z] at o; cases o
  | some ps =>
    rw [z] at o
    cases o
    rw [asPs_eq z] at h2
    obtain ⟨k1, k2⟩ := prs_of h2
    refine ⟨a, vs, prOf H, rfl, SqL.of h1, k2, fun ys p g1 g2 np => ?_⟩
    have ey : ys.map (prOf H) = srt ps := by
      refine srt_of ?_ ?_
      · exact List.pairwise_map.mpr g1
      · rw [← k1]; exact g2.perm.map _
    have r : Rvs c.g.cm F H ys ((srt ps).map prD) := by
      rw [← ey]
      exact rvs_prs fun x m => k2 x (g2.perm.mem_iff.mp m)
    exact q _ _ (e.new np) (Le.new np) (newOwn e np r)
/-! ### isinstance of a built-in class -/
def tyN : D → Option String
  | .none => some "NoneType" | .bool _ => some "bool" | .int _ => some "int" | .str _ => some "str"
  | .list _ => some "list" | .tuple _ => some "tuple" | .dict _ => none
def dIsi (n : String) : D → Option Rk := fun d => (tyN d).bind fun t => (kitB t n).map fun b => .v (.bool b)
theorem ty_of {K : PySem.W.Frag} {v : V} {d : D} {n : String} (h : Bv c F H v d) (o : tyN d = some n) : TyX K H v (.type n) := by
  cases d with
  | none => obtain rfl := h.non; cases o; exact .base .non
  | bool k => obtain rfl := h.bl; cases o; exact .base (.bl _)
  | int i => obtain rfl := h.int; cases o; exact .base (.int _)
  | str x => obtain rfl := h.str; cases o; exact .base (.str _)
  | list xs =>
    obtain ⟨a, vs, rfl, h1, h2⟩ := h.list
    cases o; exact .base (.lst h1)
  | tuple xs =>
    obtain ⟨a, vs, rfl, h1, h2⟩ := h.tup
    cases o; exact h1.ty
  | dict kvs => cases o
theorem sIsi {K : PySem.W.Frag} {n : String} {ta : TE} {fa : Env → Res Rk} (ha : SimE g W ta fa) : SimE g W (tCB (rIsi K) (tCons ta (tCons (tC (.ty n)) tNil))) (qUn (dIsi n) fa) := fun c hg F ρ σ H Q e p =>
  sUn' (r := fun x H Q => rIsi K [x, .ty n] H Q) (op := dIsi n) (fun c hg F ρ σ H x d k Q e b o q => by
    unfold dIsi at o
    cases z : tyN d with
    | none => rw [z] at o; cases o
    | some t =>
      rw [z] at o
      simp only [Option.bind] at o
      cases y : kitB t n with
      | none => rw [y] at o; cases o
      | some r =>
        rw [y] at o
        cases o
        exact ⟨x, .ty n, .type t, .type n, r, rfl, .ty n, ty_of b z, kit_ty y, q _ _ e (Le.refl _ _) (.bl _)⟩) ha hg e p
/-! ### fields -/
def fldD : List (D × D) → Str → Option D
  | (.str y, d) :: r, f => if y = f then some d else fldD r f
  | _ :: r, f => fldD r f
  | [], _ => none
def qFld (cl f : Str) (fa : Env → Res Rk) : Env → Res Rk := fun ρ => (qB fa ρ).bind fun d ρ' => match d with
  | .dict ((.none, .str c2) :: fs) => if c2 = cl then opt ((fldD fs f).map .v) ρ' else .no
  | _ => .no
theorem fld_ok {cm : Str → Option Addr} : ∀ {fs : List (Str × V)} {ds : List (D × D)} {f : Str} {d : D}, Rfs cm F H fs ds → fldD ds f = some d → ∃ v, fs.lookup f = some v ∧ Rv cm F H v d
  | _, _, f, d, .nil, h => by cases h
  | _, _, f, d, .cons (x := x) r t, h => by
    unfold fldD at h
    by_cases z : x = f
    · subst z
      rw [if_pos rfl] at h
      cases h
      exact ⟨_, by simp [List.lookup], r⟩
    · rw [if_neg z] at h
      obtain ⟨v, h1, h2⟩ := fld_ok t h
      exact ⟨v, by rw [List.lookup, show (f == x) = false from by simpa using Ne.symm z]; exact h1, h2⟩
theorem sFld' {K : PySem.W.Frag} {cl f : Str} {ta : TE} {fa : Env → Res Rk} (hC : ∀ C, g.cm cl = some C → Cls K C ∧ NoAttr K C f) (ha : SimE g W ta fa) : SimE g W (tFld K ta f) (qFld cl f fa) := fun c hg F ρ σ H Q e p =>
  sB ha c hg F ρ σ H _ e (p.bind fun F1 H1 ρ1 d e1 l1 q v hv => by
    split at q
    · rename_i c2 fs
      split at q
      · rename_i z
        subst z
        rcases hv with hv | ⟨_, _, _, _, h, _⟩
        · cases hv with
          | ob hc h r =>
            cases y : fldD fs f with
            | none => rw [y] at q; exact q.elim
            | some d =>
              rw [y] at q
              obtain ⟨w, hw, rw_⟩ := fld_ok r y
              obtain ⟨k1, k2⟩ := hC _ (hg ▸ hc)
              exact ⟨_, _, _, _, w, rfl, h, k1, k2, hw, q _ _ e1 (Le.refl _ _) _ rw_⟩
        · cases h
      · exact q.elim
    · exact q.elim)
/-! ### more rows to walk -/
def qEn (tu : Bool) (fe : Env → Res Rk) : Env → Res (List D) := fun ρ => (qV fe ρ).bind fun d ρ' => match tu, d with
  | false, .list ds => .ok (ds.mapIdx fun i x => .tuple [.int (i : Nat), x]) ρ'
  | true, .tuple ds => .ok (ds.mapIdx fun i x => .tuple [.int (i : Nat), x]) ρ'
  | _, _ => .no
theorem sEnL {K : PySem.W.Frag} {te : TE} {fe : Env → Res Rk} (h : SimE g W te fe) : SimI g W (iEnumB K false (tCons te tNil)) (qEn false fe) := fun c hg F ρ σ H R e p =>
  sV h c hg F ρ σ H (fun x H1 => ∃ a xs, [x] = [V.ref a] ∧ SqL K H1 a xs ∧ R (IteB K false a) H1) e (p.bind fun F1 H1 ρ1 d e1 l1 q v hv => by
  cases hv with
  | lst f h r =>
    refine ⟨_, _, rfl, SqL.of h, q _ _ e1 (Le.refl _ _) _ _ _ (by rw [List.length_mapIdx, ← r.length]; exact walk_enumB) (fun F2 H2 l => SqL.of (l.h _ _ f h)) fun c2 F2 ρ2 σ2 H2 i x H3 e2 l hi y => ?_⟩
    obtain ⟨T, y1, y2, rfl, nT, ⟨ob, zo, rfl⟩, h1, h2⟩ := y
    cases h1
    obtain ⟨d, hd, rd⟩ := r.get h2
    have ln := Le.new (F := F2) (o := zT ob [.int (i : Nat), y2]) nT
    refine ⟨.tuple [.int (i : Nat), d], by rw [List.getElem?_mapIdx, hd] <;> rfl, e2.new nT, ln, fun b nb => upd_ne (fun z => nb (z ▸ nT)), .tup (TZ.new zo) (.cons (.int _) (.cons ((rd.mono l).mono ln) .nil))⟩
  | _ => exact q.elim)
end
end Pu
end

-- PuJ
section
set_option Elab.async false
set_option linter.all false
set_option maxRecDepth 100000
set_option maxHeartbeats 4000000
/-! PuJ: chains of comparisons, slices, rows put together, raising; rules of the layer with K said. -/
namespace Pu
open PySem PySem.Spec PyProof.Rows L2 LamX NdefX BlkX
section
variable {g : Gx} {c : Cfg} {W : WX} {F F' : Addr → Prop} {ρ : Env} {σ : L2.St} {H H' : Hp}
variable {ta tb tc : TE} {fa fb fc : Env → Res Rk}
/-- a op b op' c, of numbers -/
def qChain (p q : Int → Int → Bool) (fa fb fc : Env → Res Rk) : Env → Res Rk := fun ρ => (qB2 fa fb ρ).bind fun d ρ1 => match d with
  | (.int i, .int j) => if p i j then (qB fc ρ1).bind fun e ρ2 => (match e with
      | .int k => .ok (.v (.bool (q j k))) ρ2
      | _ => .no) else .ok (.v (.bool false)) ρ1
  | _ => .no
theorem sChain {p q : Int → Int → Bool} (ha : SimE g W ta fa) (hb : SimE g W tb fb) (hc : SimE g W tc fc) : SimE g W (tChain (rI0 fun i j => .bl (p i j)) (rI0 fun i j => .bl (q i j)) ta tb tc) (qChain p q fa fb fc) := fun c hg F ρ σ H Q e P =>
  sB2 ha hb c hg F ρ σ H (fun x y H2 => (rI0 fun i j => .bl (p i j)) x y H2 fun z H3 => ∃ k, z = .bl k ∧ (if k = true then tc σ H3 fun w H4 => (rI0 fun i j => .bl (q i j)) y w H4 Q else Q (.bl false) H3)) e (P.bind fun F1 H1 ρ1 d e1 l1 r v u hv hu => by
    obtain ⟨d1, d2⟩ := d
    cases d1 <;> first | exact r.elim | skip
    cases d2 <;> first | exact r.elim | skip
    rename_i i j
    obtain rfl := Bv.int hv
    obtain rfl := Bv.int hu
    refine ⟨i, j, rfl, rfl, _, rfl, ?_⟩
    dsimp only at r
    cases z : p i j with
    | false =>
      rw [z] at r
      exact iteF (r _ _ e1 (Le.refl _ _) _ (.bl _))
    | true =>
      rw [z] at r
      refine iteT (sB hc c hg F1 ρ1 σ H1 (fun w H4 => (rI0 fun i j => .bl (q i j)) (.int j) w H4 Q) e1 (Post.bind r fun F2 H2 ρ2 d e2 l2 r2 w hw => ?_))
      cases d <;> first | exact r2.elim | skip
      obtain rfl := Bv.int hw
      exact ⟨_, _, rfl, rfl, r2 _ _ e2 (Le.refl _ _) _ (.bl _)⟩)
def pLt (i j : Int) : Bool := decide (i < j)
def pLe (i j : Int) : Bool := decide (i ≤ j)
def pGt (i j : Int) : Bool := decide (j < i)
def pGe (i j : Int) : Bool := decide (j ≤ i)
/-- tuples, one behind the other -/
def dCatT : D → D → Option Rk
  | .tuple xs, .tuple ys => if xs.length + ys.length ≤ sizeLine then some (.v (.tuple (xs ++ ys))) else none
  | _, _ => none
theorem oRep : OpS g rRep dRep := fun c hg F ρ σ H x y d1 d2 k Q e b1 b2 o q => by
  cases d1 <;> first | cases o | skip
  cases d2 <;> first | cases o | skip
  rename_i xs k
  obtain ⟨a, vs, rfl, h1, h2⟩ := b1.list
  obtain rfl := b2.int
  dsimp only [dRep] at o
  split at o
  · rename_i z
    cases o
    refine ⟨a, k, vs, rfl, rfl, h1, z.1, z.2.1, by rw [h2.length]; exact z.2.2, fun p np => q _ _ (e.new np) (Le.new np) (newOwn e np ?_)⟩
    have rep : ∀ n : Nat, Rvs c.g.cm F H (List.replicate n vs).flatten (List.replicate n xs).flatten := fun n => by
      induction n with
      | zero => exact .nil
      | succ n ih => simp only [List.replicate_succ, List.flatten_cons]; exact h2.append ih
    exact rep _
  · cases o
/-! ### slices -/
def SimO (g : Gx) (W : WX) (t : TO) (f : Env → Res (Option Int)) : Prop := ∀ (c : Cfg), c.g = g → ∀ F ρ σ H Q, ER c F ρ σ H → Post c W F H σ (fun _ H' _ o => Q o H') (f ρ) → t σ H Q
def qoNo : Env → Res (Option Int) := fun ρ => .ok none ρ
def qoSome (fa : Env → Res Rk) : Env → Res (Option Int) := fun ρ => (qB fa ρ).bind fun d ρ' => match d with | .int i => .ok (some i) ρ' | _ => .no
theorem soNo : SimO g W tNoPart qoNo := fun c hg F ρ σ H Q e p => p _ _ e (Le.refl _ _)
theorem soSome (h : SimE g W ta fa) : SimO g W (tPart ta) (qoSome fa) := fun c hg F ρ σ H Q e p => sB h c hg F ρ σ H _ e (p.bind fun F1 H1 ρ1 d e1 l1 q v hv => by
  cases d <;> first | exact q.elim | skip
  obtain rfl := hv.int
  exact ⟨_, rfl, q _ _ e1 (Le.refl _ _)⟩)
def cutD (xs : List D) (lo hi : Option Int) : List D := (xs.drop (HT.sIx xs.length 0 lo)).take (HT.sIx xs.length xs.length hi - HT.sIx xs.length 0 lo)
theorem Rvs.cut {cm : Str → Option Addr} {vs : List V} {ds : List D} (h : Rvs cm F H vs ds) (lo hi : Option Int) : Rvs cm F H (cutV vs lo hi) (cutD ds lo hi) := by
  unfold cutV cutD
  rw [h.length]
  exact (h.drop _).take _
def qSl (tu : Bool) (fa : Env → Res Rk) (fl fh : Env → Res (Option Int)) : Env → Res Rk := fun ρ => (fa ρ).bind fun r ρ1 => (fl ρ1).bind fun lo ρ2 => (fh ρ2).bind fun hi ρ3 => match tu, bor (nz r) ρ3 with
  | false, some (.list xs) => .ok (.own (cutD xs lo hi)) ρ3
  | true, some (.tuple xs) => .ok (.v (.tuple (cutD xs lo hi))) ρ3
  | _, _ => .no
theorem sSlL {K : PySem.W.Frag} {tl th : TO} {fl fh : Env → Res (Option Int)} (ha : SimE g W ta fa) (hl : SimO g W tl fl) (hh : SimO g W th fh) : SimE g W (tSl (rSlL K) ta tl th) (qSl false fa fl fh) := fun c hg F ρ σ H Q e p =>
  ha c hg F ρ σ H _ e (p.bind fun F1 H1 ρ1 r e1 l1 q v hv => by
    obtain ⟨F2, e2, l2, r2⟩ := nz_ok e1 hv
    refine hl c hg F2 ρ1 σ H1 _ e2 ((q.rebase l2).bind fun F3 H3 ρ3 lo e3 l3 q3 => hh c hg F3 ρ3 σ H3 _ e3 (q3.bind fun F4 H4 ρ4 hi e4 l4 q4 => ?_))
    cases b : bor (nz r) ρ4 with
    | none => rw [b] at q4; exact q4.elim
    | some d =>
      rw [b] at q4
      cases d <;> first | exact q4.elim | skip
      have bv := bor_ok e4 (nz_keep r2 (l3.trans l4) b) b
      obtain ⟨a, vs, rfl, h1, h2⟩ := bv.list
      exact ⟨a, vs, rfl, SqL.of h1, fun p np => q4 _ _ (e4.new np) (Le.new np) _ (newOwn e4 np (h2.cut lo hi))⟩)
/-! ### raising -/
def tErr (C : Addr) (ta : TA) : L2.St → Hp → XK → Prop := fun σ H Q => ta σ H fun vs H1 => ∃ v, vs = [v] ∧ ∀ d, H1 d = none → Q (.ref C) (some d) (upd H1 d (.xd [("what", v)]))
def qRaise (cl : Str) (fa : Env → Res Rk) : Env → Ctl := fun ρ => (qV fa ρ).toC fun d ρ' => .ex cl d ρ'
theorem sRaise {cl : Str} {C : Addr} {E : XK} (hC : g.cm cl = some C) (ha : SimE g (fun cls d _ H => E cls d H) ta fa) : SimS g (fun cls d _ H => E cls d H) (fun _ σ H => tErr C (tCons ta tNil) σ H fun cls d H' => E cls d H') (qRaise cl fa) := fun c hg F ρ σ H D e p =>
  sV ha c hg F ρ σ H (fun x H1 => ∃ v, [x] = [v] ∧ ∀ d, H1 d = none → E (.ref C) (some d) (upd H1 d (.xd [("what", v)]))) e (p.bind fun F1 H1 ρ1 d e1 l1 q v hv => ⟨v, rfl, fun b nb => q F1 σ _ b C v (e1.new nb) (Le.new nb) (hg ▸ hC) upd_same (hv.mono (Le.new nb))⟩)
theorem sCallE {g' : Gx} {Fn : List S → Res Rk} {io : Option (Nat × Nat)} {t : TA} {fas : Env → Res (List S)} {E : XK} (ha : SimAs g (fun cls d _ H => E cls d H) io t fas) (hb : g.base = g' := by rfl) : SimE g (fun cls d _ H => E cls d H) (tCall (spFn g' Fn) [] E t) (qCall Fn io fas) := sCall (W := fun cls d _ H => E cls d H) ha hb
/-! ### a name counted up -/
def IpS (g : Gx) (ti : TIp) (op : D → D → Option D) : Prop := ∀ (c : Cfg), c.g = g → ∀ F H x y d1 d2 d Q, Bv c F H x d1 → Bv c F H y d2 → op d1 d2 = some d → (∀ v, Rv c.g.cm F H v d → Q v H) → ti x y H Q
def qAug (i : Nat) (op : D → D → Option D) (fe : Env → Res Rk) : Env → Ctl := fun ρ => match ρ[i]? with
  | some (.v (.int n)) => (qB fe ρ).toC fun d2 ρ1 => match op (.int n) d2 with
    | some d => if free ρ1 i then .nx (ρ1.set i (.v d)) else .no
    | _ => .no
  | _ => .no
theorem sAug {i : Nat} {ti : TIp} {op : D → D → Option D} (ho : IpS g ti op) (h : SimE g W ta fa) : SimS g W (tAug i ta ti) (qAug i op fa) := fun c hg F ρ σ H D e p => by
  unfold qAug at p
  split at p
  · rename_i n y
    obtain ⟨o, e1, v, rfl, r⟩ := e.sl i _ y
    refine ⟨v, e1, sB h c hg F ρ σ H (fun y H1 => ti v y H1 fun z H2 => D.nx (σ.set i (some z)) H2) e (PostS.bind p fun F1 H1 ρ1 d2 e2 l2 q u hu => ?_)⟩
    cases w : op (.int n) d2 with
    | none => rw [w] at q; exact q.elim
    | some d =>
      rw [w] at q
      dsimp only at q
      cases f : free ρ1 i with
      | false => rw [f] at q; exact q.elim
      | true =>
        rw [f] at q
        exact ho c hg F1 H1 v u _ _ d _ (.inl (r.mono l2)) hu w fun v' r' => q _ _ _ (e2.setV (e2.free f) r') (Le.refl _ _)
  · exact p.elim
def ipAdd : D → D → Option D
  | .int i, .int j => some (.int (i + j))
  | _, _ => none
def ipSub : D → D → Option D
  | .int i, .int j => some (.int (i - j))
  | _, _ => none
end
end Pu
end

-- PuK
section
set_option Elab.async false
set_option linter.all false
set_option maxRecDepth 100000
set_option maxHeartbeats 4000000
/-! PuK: rules of the layer with K said. -/
namespace Pu
open PySem PySem.Spec PyProof.Rows L2 LamX NdefX BlkX
section
variable {X : Cx} (K : PySem.W.Frag)
theorem xin (h : X.K = K := by rfl) : OpR X (compareOp .In) (rIn K false) := h ▸ op_in_seq
theorem xnin (h : X.K = K := by rfl) : OpR X (compareOp .NotIn) (rIn K true) := h ▸ op_notIn_seq
theorem xinD (hu : X.A.units + 65 < cLine) (h : X.K = K := by rfl) : OpR X (compareOp .In) (rInD K) := h ▸ op_inD hu
theorem xninD (hu : X.A.units + 65 < cLine) (h : X.K = K := by rfl) : OpR X (compareOp .NotIn) (rNotInD K) := h ▸ op_notInD hu
theorem xeq (hu : X.A.units + 64 < cLine) (h : X.K = K := by rfl) : OpR X (compareOp .Eq) (rEqD K) := h ▸ op_eqD hu
theorem xne (hu : X.A.units + 64 < cLine) (h : X.K = K := by rfl) : OpR X (compareOp .NotEq) (rNeD K) := h ▸ op_neD hu
def rListO : List V → Hp → VK → Prop := fun xs H Q => ∃ p ys, xs = [.ref p] ∧ (SqL K H p ys ∨ SqT K H p ys) ∧ ∀ l, H l = none → Q (.ref l) (upd H l (.lst ys))
theorem xlist (h : X.K = K := by rfl) : CallR X (.type "list") (rListO K) := by
  subst h
  exact call_list_of
theorem xsortI (h : X.K = K := by rfl) : CallR X (.builtin "sorted") (rSortedI K) := h ▸ cr_sortedI
theorem xsortP (h : X.K = K := by rfl) : CallR X (.builtin "sorted") (rSortedPL K) := h ▸ cr_sortedPB false
theorem xisi (h : X.K = K := by rfl) : CallR X (.builtin "isinstance") (rIsi K) := h ▸ call_isi
theorem xfld {e : Expr} {ta : TE} {f : Str} {pos : Pos} (he : PE X e ta) (hb : attributeBase e f X.env (eval e X.env) = eval e X.env := by rfl) (h : X.K = K := by rfl) : PE X (.Attribute e f pos) (tFld K ta f) := h ▸ pe_fld he hb
theorem xenum {e : Expr} {ta : TA} {p pos tpos : Pos} {elts : List Expr} {kk : Nat} (hg : Gl X "enumerate") (hm : X.mg "enumerate" = none) (ha : PA X [e] ta) (hs : starEach [e] X.env = [(false, eval e X.env)] := by rfl) (h : X.K = K := by rfl) : PI X (.Tuple elts kk tpos) (.Call (.Name "enumerate" p) [e] [] pos) (iEnumB K false ta) := h ▸ pi_enumB false hg hm ha hs
end
section
variable {g : Gx} {K : PySem.W.Frag}
theorem uListO : UnS g (fun x H Q => rListO K [x] H Q) dList := uList
theorem iAdd : IpS g (ipI fun i j => i + j) ipAdd := fun c hg F H x y d1 d2 d Q b1 b2 o q => by
  cases d1 <;> first | cases o | skip
  cases d2 <;> first | cases o | skip
  obtain rfl := b1.int
  obtain rfl := b2.int
  exact ⟨_, _, rfl, rfl, q _ (.int _)⟩
theorem iSub : IpS g (ipI fun i j => i - j) ipSub := fun c hg F H x y d1 d2 d Q b1 b2 o q => by
  cases d1 <;> first | cases o | skip
  cases d2 <;> first | cases o | skip
  obtain rfl := b1.int
  obtain rfl := b2.int
  exact ⟨_, _, rfl, rfl, q _ (.int _)⟩
end
end Pu
end

-- TryB
section
set_option Elab.async false
set_option linter.all false
set_option maxRecDepth 100000
set_option maxHeartbeats 4000000
/-! TryB: try with several clauses, `except C as n` (one name n for all of them, place i) or `except C`. -/
namespace TryB
open PySem PySem.Spec PyProof.Rows L2
abbrev Suite := Addr → Value → Option Addr → TS
theorem iteT_of {A B : Prop} (h : if (true = true) then A else B) : A := by simpa using h
theorem iteF_of {A B : Prop} (h : if (false = true) then A else B) : B := by simpa using h
/-- behind a clause the name is gone -/
def gone (i : Nat) (D : Ends) : Ends := ⟨fun σ H => D.nx (σ.set i none) H, D.rt, fun σ H => D.bk (σ.set i none) H, fun σ H => D.ct (σ.set i none) H⟩
def wClauses (K : PySem.W.Frag) (i : Nat) (Wout : WX) (D : Ends) : List (Value × Bool × Suite) → WX
  | [] => Wout
  | k :: r => fun cls d σ H => ∃ b, PySem.W.exmOne K cls k.1 = some b ∧ (b = true → ∀ a, H a = none → if k.2.1 = true then k.2.2 a cls d (gone i D) (σ.set i (some (.ref a))) H else k.2.2 a cls d D σ H) ∧ (b = false → wClauses K i Wout D r cls d σ H)
inductive Clauses (X : Cx) (n : Str) : List ExceptHandler → List (Value × Bool × Suite) → Prop
  | none : Clauses X n [] []
  | one {x : Str} {c : Value} {ts : Suite} {b₀ : Stmt} {suite : List Stmt} {np hp : Pos} {hds : List ExceptHandler} {l : List (Value × Bool × Suite)} (names : Names X x c)
      (reads : ∀ a oe cls d pn, Zc cls d oe → (∃ vs, oe.data = .fields vs) → PSs (X.suite a ((a, oe) :: pn)) (b₀ :: suite) (ts a cls d)) (rest : Clauses X n hds l) : Clauses X n (.ExceptHandler (some (.Name x np)) (some n) (b₀ :: suite) hp :: hds) ((c, true, ts) :: l)
  | bare {x : Str} {c : Value} {ts : Suite} {b₀ : Stmt} {suite : List Stmt} {np hp : Pos} {hds : List ExceptHandler} {l : List (Value × Bool × Suite)} (names : Names X x c)
      (reads : ∀ a oe cls d pn, Zc cls d oe → (∃ vs, oe.data = .fields vs) → PSs (X.suite a ((a, oe) :: pn)) (b₀ :: suite) (ts a cls d)) (rest : Clauses X n hds l) : Clauses X n (.ExceptHandler (some (.Name x np)) none (b₀ :: suite) hp :: hds) ((c, false, ts) :: l)
section
variable {X : Cx} {i : Nat} {n : Str} {Wout : WX} {pins : List (Addr × Obj)} {σ : L2.St} {H : Hp} {S : Shared} {D : Ends} {a : Addr} {cls : Value} {d : Option Addr}
/-- the clauses, one after the other, in the state S in which the exception at a is caught -/
theorem clauses_run (ok : X.Ok) (hN : X.N.Nodup) (hi : X.N[i]? = some n) (hln : X.env.kindOf n = some .local) (isNew : H a = none)
    (look : ∀ {c b}, PySem.W.exmOne X.K cls c = some b → PySem.W.Looks (model X.prog X.w) S.heap (excMatches (.ref a) c) b)
    (name : ∀ {x c np}, Names X x c → ∀ {Q : Value → Shared → Prop} {E : Value → Shared → Prop}, Q c S → wpAny (model X.prog X.w) (X.A.mark (some (.ref a))) (eval (.Name x np) X.env) Q E S)
    (enter : ∀ {A : Around} {E : Value → Shared → Prop} {Q : Unit → Shared → Prop}, (∀ oe s4, Zc cls d oe → (∃ vs, oe.data = .fields vs) → Inv (X.suite a ((a, oe) :: (X.pn ++ pins))) [] σ H s4 → Q () s4) → wpAny (model X.prog X.w) A (setFlight (.ref a) none) Q E S)
    (out : Wout cls d σ H → wpAny (model X.prog X.w) X.A (handleBy (.ref a) X.env []) (SP X pins D) X.xe S) :
    ∀ {hds l}, Clauses X n hds l → wClauses X.K i Wout D l cls d σ H → wpAny (model X.prog X.w) X.A (handleBy (.ref a) X.env hds) (SP X pins D) X.xe S := by
  intro hds l cs
  induction cs with
  | none => exact out
  | one names reads _ next =>
    rintro ⟨b, is, yes, no⟩
    refine wpAny_handleBy_cons (codeAny_handlers_test (name names ((look is).here ?_))) (fun z => nomatch z)
    cases b
    · exact next (no rfl)
    · refine codeAny_handlers_suite_as (enter fun oe s4 hz hf I4 => ?_)
      refine store_ok (X := X.suite a ((a, oe) :: (X.pn ++ pins))) (v := .ref a) I4 hN hi (.inl hln) rfl (fun s5 I5 => ?_) (.inr hln)
      refine wpAny_mono ((reads a oe cls d (X.pn ++ pins) hz hf).run [] s5 _ H _ I5 (iteT_of (yes rfl a isNew))) (fun f s6 left => ?_) fun _ _ z => z.elim
      cases f
      case ret =>
        obtain ⟨v, σ6, H6, I6, r, q⟩ := left
        exact gone_ok (I6.unsuite ok) hN hi hln fun s7 I7 => ⟨v, _, H6, I7, r, q⟩
      all_goals
        obtain ⟨σ6, H6, I6, q⟩ := left
        exact gone_ok (I6.unsuite ok) hN hi hln fun s7 I7 => ⟨_, H6, I7, q⟩
  | bare names reads _ next =>
    rintro ⟨b, is, yes, no⟩
    refine wpAny_handleBy_cons (codeAny_handlers_test (name names ((look is).here ?_))) (fun z => nomatch z)
    cases b
    · exact next (no rfl)
    · refine codeAny_handlers_suite (enter fun oe s4 hz hf I4 => ?_)
      refine wpAny_mono ((reads a oe cls d (X.pn ++ pins) hz hf).run [] s4 _ H _ I4 (iteF_of (yes rfl a isNew))) (fun f s6 left => ?_) fun _ _ z => z.elim
      cases f
      case ret =>
        obtain ⟨v, σ6, H6, I6, r, q⟩ := left
        exact ⟨v, _, _, I6.unsuite ok, r, q⟩
      all_goals
        obtain ⟨σ6, H6, I6, q⟩ := left
        exact ⟨_, _, I6.unsuite ok, q⟩
theorem ps_try_clauses {body : List Stmt} {h₀ : ExceptHandler} {hds : List ExceptHandler} {l : List (Value × Bool × Suite)} {pos : Pos} {tb : WX → TS} (hs : X.stack = X.env :: X.outer) (hf : X.env.frame = some X.env.locals) (hN : X.N.Nodup) (hi : X.N[i]? = some n) (hln : X.env.kindOf n = some .local)
    (tk : Takes X Wout) (hb : ∀ (W : WX) (pn : List (Addr × Obj)) (xe : Value → Shared → Prop), Takes (X.tr pn xe) W → PassesOwn (model X.prog X.w) X.A X.env xe → PSs (X.tr pn xe) body (tb W)) (cs : Clauses X n (h₀ :: hds) l) :
    PS X (.Try body (h₀ :: hds) [] [] pos) (fun D σ H => tb (wClauses X.K i Wout D l) D σ H) := by
  constructor
  intro pins s σ H D I h
  have ok := I.ok
  have frames : X.A.frames = some (X.env :: X.outer) := ok.frames.trans (congrArg some hs)
  let caught : Value → Shared → Prop := fun e s₁ => wpAny (model X.prog X.w) X.A (noteFrame e X.env) (fun _ s₂ => wpAny (model X.prog X.w) X.A (setFlight e none) (fun _ s₃ => wpAny (model X.prog X.w) X.A (handleBy e X.env (h₀ :: hds)) (SP X pins D) X.xe s₃) X.xe s₂) X.xe s₁
  have run := (hb (wClauses X.K i Wout D l) (X.pn ++ pins) caught ?taken PassesOwn.looking).run [] s σ H D (I.toTry _) h
  · refine wpAny_Try_except (wpAny_mono run (fun f s1 left => ?_) fun _ _ z => z)
    cases f
    case ret =>
      obtain ⟨v, σ1, H1, I1, r, q⟩ := left
      exact ⟨v, σ1, H1, I1.ofTry ok, r, q⟩
    case next =>
      obtain ⟨σ1, H1, I1, q⟩ := left
      exact wpAny_execs_nil ⟨σ1, H1, I1.ofTry ok, q⟩
    all_goals
      obtain ⟨σ1, H1, I1, q⟩ := left
      exact ⟨σ1, H1, I1.ofTry ok, q⟩
  case taken =>
    rintro e s' ⟨a, B, sI, pins', σ', H', cls, d, rfl, J', nb, up, sky, isNew, os, bare, wish⟩
    have J : Inv X pins σ' H' sI := J'.ofTry ok
    rw [show (X.tr (X.pn ++ pins) caught).stack = X.env :: X.outer from hs] at sky
    refine Sky.land Zc.steady frames hf sky fun h3 fly up3 => ?_
    have J3 := J.landed (s' := { s' with heap := h3 }) nb fly.1 (up.trans up3) os bare
    obtain ⟨oe, vs, at_, hz, hd⟩ := fly.there
    have apart : a ∉ frs (X.env :: X.outer) := fun m => by
      obtain ⟨_, o, e1, hno⟩ := fly.2.2.1.mem m
      cases at_.symm.trans e1
      exact hno _ hd
    have notL : a ≠ X.env.locals := fun z => apart (List.mem_filterMap.mpr ⟨X.env, List.mem_cons_self, z ▸ hf⟩)
    have notF : a ∉ X.fs := fun m => by
      obtain ⟨e, he, q⟩ := List.mem_filterMap.mp m
      exact apart (List.mem_filterMap.mpr ⟨e, List.mem_cons_of_mem _ he, q⟩)
    have S3 := J3.suite at_ hd isNew notL notF
    refine clauses_run ok hN hi hln isNew (fun is => ?_) (fun names Q E q => ?_) (fun k => ?_) (fun q => ?_) cs wish
    · exact PySem.W.exm_one J3.kIn (fun _ _ _ _ k q => wpAny_typeOf_ref (k _ _ at_) (by rw [hz.1]; exact q)) is
    · rcases names with ⟨g, dbg, m | ⟨m, v, nn⟩⟩
      · exact ld_glob (X := X.suite a ((a, oe) :: (X.pn ++ pins))) S3 g m q dbg
      · exact ld_blt (X := X.suite a ((a, oe) :: (X.pn ++ pins))) S3 g m v q nn dbg
    · refine HandSPX.lands_againZ fly fun h4 fly4 up4 => ?_
      obtain ⟨oe4, vs4, at4, hz4, hd4⟩ := fly4.there
      have J4 : Inv X pins σ' H' { s' with heap := h4 } := J.landed nb fly4.1 ((up.trans up3).trans up4) os bare
      exact k oe4 _ hz4 ⟨_, hd4⟩ (J4.suite at4 hd4 isNew notL notF)
    · obtain ⟨_, _, _, o, fs, T, _, _, at2, _, hd2, first, _⟩ := id fly
      refine wpAny_handleBy_nil ?_
      unfold PySem.passOn
      refine wpAny_bind (wpAny_field at2 hd2 first ?_)
      rw [if_neg (show ¬ ((Value.ref T == Value.none) = true) from by simp)]
      have last : wpAny (model X.prog X.w) X.A (setFlight (.ref a) X.env.frame) (fun _ s4 => wpAny (model X.prog X.w) X.A (throw (.ref a) : Sem Flow) (SP X pins D) X.xe s4) X.xe { s' with heap := h3 } := by
        rw [hf]
        refine HandSPX.setFlight_upZ fly fun h4 h4sky up4 => wpAny_throw (tk _ _ ?_)
        exact ⟨a, B, sI, pins, σ', H', cls, d, rfl, J, nb, (up.trans up3).trans up4, .inr (.inr (hs.symm ▸ h4sky)), isNew, os, bare, q⟩
      first
        | exact wpAny_bind (wpAny_pure (wpAny_bind last))
        | exact wpAny_bind last
end
end TryB
end

-- PuL
section
set_option Elab.async false
set_option linter.all false
set_option maxRecDepth 100000
set_option maxHeartbeats 4000000
/-! PuL: try .. except. -/
namespace Pu
open PySem PySem.Spec PyProof.Rows L2 LamX NdefX BlkX TryB
def isErr (n : Str) : Bool := decide (n ≠ "Web") && decide (n ≠ "World") && decide (n ≠ "House") && decide (n ≠ "RingRun") && decide (n.cps.toList.take 4 ≠ [100, 101, 102, 32])
def esub (cl h : Str) : Bool := decide (cl = h) || decide (h = "Refused")
def noExc (ρ : Env) : Bool := ρ.all fun s => match s with | .exc _ _ => false | _ => true
def goneC (nm : Bool) (i : Nat) (x : Ctl) : Ctl :=
  let un := fun (ρ : Env) => if nm then ρ.set i .un else ρ
  match x with
  | .nx ρ => if noExc (un ρ) then .nx (un ρ) else .no
  | .rt r ρ => if okR r && noExc (un ρ) then .rt r (un ρ) else .no
  | .bk ρ => if noExc (un ρ) then .bk (un ρ) else .no
  | .ct ρ => if noExc (un ρ) then .ct (un ρ) else .no
  | _ => .no
def handle (i : Nat) (cl : Str) (w : D) (ρ : Env) : List (Str × Bool × (Env → Ctl)) → Ctl
  | [] => .ex cl w ρ
  | (h, nm, f) :: r => if isErr cl then (if esub cl h then (if nm then (if free ρ i then goneC true i (f (ρ.set i (.exc cl w))) else .no) else goneC false i (f ρ)) else handle i cl w ρ r) else .no
def qTry (i : Nat) (fb : Env → Ctl) (hs : List (Str × Bool × (Env → Ctl))) : Env → Ctl := fun ρ => match fb ρ with
  | .ex cl w ρ' => handle i cl w ρ' hs
  | x => x
def withE (g : Gx) (a : Addr) (cls : Value) (d : Option Addr) : Gx := { g with exc := some (a, cls, d) }
inductive SimC (g : Gx) (K : PySem.W.Frag) : List (Value × Bool × Suite) → List (Str × Bool × (Env → Ctl)) → Prop
  | nil : SimC g K [] []
  | cons {k : Value} {nm : Bool} {ts : Suite} {h : Str} {f : Env → Ctl} {l : List (Value × Bool × Suite)} {fs : List (Str × Bool × (Env → Ctl))} (sub : ∀ cl C, isErr cl = true → g.cm cl = some C → PySem.W.exmOne K (.ref C) k = some (esub cl h))
      (hs : ∀ a cls d, SimS (withE g a cls d) W0 (ts a cls d) f) (r : SimC g K l fs) : SimC g K ((k, nm, ts) :: l) ((h, nm, f) :: fs)
section
variable {g : Gx} {c : Cfg} {W : WX} {F F' : Addr → Prop} {ρ : Env} {σ : L2.St} {H H' : Hp}
def cE (c : Cfg) (a : Addr) (cls : Value) (d : Option Addr) : Cfg := { c with g := withE c.g a cls d, tt := c.tt }
theorem ER.toE {a : Addr} {cls : Value} {d : Option Addr} (e : ER c F ρ σ H) (h0 : c.g.exc = none) : ER (cE c a cls d) F ρ σ H :=
  ER.mk e.len (fun i s h => by
    obtain ⟨o, e1, r⟩ := e.sl i s h
    refine ⟨o, e1, ?_⟩
    cases s with
    | exc cl w =>
      obtain ⟨_, _, _, _, z, _⟩ := r
      rw [h0] at z
      cases z
    | un => exact r
    | v d => exact r
    | own xs => exact r
    | io xs => exact r
    | scr _ => exact r) e.dist e.ioK e.fr e.f0 e.fn e.fl e.tp
theorem ER.ofE {a : Addr} {cls : Value} {d : Option Addr} (e : ER (cE c a cls d) F ρ σ H) (h : noExc ρ = true) : ER c F ρ σ H :=
  ER.mk e.len (fun i s hs => by
    obtain ⟨o, e1, r⟩ := e.sl i s hs
    refine ⟨o, e1, ?_⟩
    cases s with
    | exc cl w =>
      have := List.all_eq_true.mp h _ (List.mem_of_getElem? hs)
      cases this
    | un => exact r
    | v d => exact r
    | own xs => exact r
    | io xs => exact r
    | scr _ => exact r) e.dist e.ioK e.fr e.f0 e.fn e.fl e.tp
theorem ER.setE {a C dd : Addr} {cl : Str} {v : V} {w : PyData} {i : Nat} (e : ER (cE c a (.ref C) (some dd)) F ρ σ H) (hi : c.ioA i = none) (hC : c.g.cm cl = some C) (hd : H dd = some (.xd [("what", v)])) (rv : Rv c.g.cm F H v w) : ER (cE c a (.ref C) (some dd)) F (ρ.set i (.exc cl w)) (σ.set i (some (.ref a))) H := by
  have no : ∀ ys, S.exc cl w ≠ .own ys ∧ S.exc cl w ≠ .io ys := fun ys => ⟨(fun z => nomatch z), (fun z => nomatch z)⟩
  refine ER.mk (by rw [List.length_set, List.length_set]; exact e.len) (fun j s h => ?_) (fun j k b h1 h2 => ?_) (fun j b h => ?_) e.fr e.f0 e.fn e.fl (fun b us h => ?_)
  · rcases get_set h with ⟨rfl, rfl⟩ | ⟨ne, h⟩
    · have := lt_of_set h
      exact ⟨some (.ref a), by rw [List.getElem?_set, if_pos rfl, if_pos (by rw [e.len]; exact this)], a, C, dd, v, rfl, hC, rfl, hd, rv⟩
    · obtain ⟨o, e1, r⟩ := e.sl j s h
      exact ⟨o, by rw [List.getElem?_set_ne (Ne.symm ne)]; exact e1, r⟩
  · exact e.dist j k b (own_set2 no h1).2 (own_set2 no h2).2
  · obtain ⟨ys, hy⟩ := e.ioK j b h
    refine ⟨ys, ?_⟩
    rw [List.getElem?_set_ne (fun z => ?_)]
    · exact hy
    · subst z
      have h : c.ioA i = some b := h
      rw [hi] at h
      cases h
  · obtain ⟨q1, q2, q3, q4⟩ := e.tp b us h
    exact ⟨q1, q2, q3, fun j o => q4 j (own_set2 no o).2⟩
theorem RR.un {r : Rk} {v : V} {i : Nat} {o : Option V} (h : RR c F H ρ σ r v) (ok : okR r = true) : RR c F H (ρ.set i .un) (σ.set i o) r v := by
  cases r with
  | v d => exact h
  | sl i => cases ok
  | own xs =>
    obtain ⟨a, vs, h1, h2, h3, h4, h5, h6, h7⟩ := h
    exact ⟨a, vs, h1, h2, h3, h4, h5, h6, fun j q => h7 j (own_set2 (s := .un) (fun ys => ⟨(fun z => nomatch z), (fun z => nomatch z)⟩) q).2⟩
theorem RR.ofE {a : Addr} {cls : Value} {d : Option Addr} {r : Rk} {v : V} (h : RR (cE c a cls d) F H ρ σ r v) : RR c F H ρ σ r v := by
  cases r with
  | v d => exact h
  | sl i => exact h
  | own xs => exact h
theorem handle_ok {K : PySem.W.Frag} {i : Nat} {D : Ends} {a0 : Unit} {cl : Str} {w : PyData} {C dd : Addr} {v : V} (hg : c.g = g) (h0 : g.exc = none) (e : ER c F ρ σ H) (hC : c.g.cm cl = some C) (hd : H dd = some (.xd [("what", v)])) (rv : Rv c.g.cm F H v w) :
    ∀ {l : List (Value × Bool × Suite)} {fs : List (Str × Bool × (Env → Ctl))}, SimC g K l fs → PostS c W F H D (handle i cl w ρ fs) → wClauses K i W D l (.ref C) (some dd) σ H := by
  intro l fs s
  induction s with
  | nil => exact fun p => p F σ H dd C v e (Le.refl _ _) hC hd rv
  | @cons k nm ts h f l fs sub hs r ih =>
    intro p
    unfold handle at p
    have nun : ∀ ys, S.un ≠ .own ys ∧ S.un ≠ .io ys := fun ys => ⟨(fun z => nomatch z), (fun z => nomatch z)⟩
    by_cases q : isErr cl = true
    · rw [if_pos q] at p
      refine ⟨esub cl h, sub cl C q (hg ▸ hC), fun y a na => ?_, fun y => ?_⟩
      · rw [if_pos y] at p
        have eE : ER (cE c a (.ref C) (some dd)) F ρ σ H := e.toE (by rw [hg]; exact h0)
        cases nm with
        | true =>
          refine iteT ?_
          rw [if_pos rfl] at p
          cases z : free ρ i with
          | false => rw [z] at p; exact p.elim
          | true =>
            rw [z] at p
            have fi := e.free z
            refine hs a (.ref C) (some dd) (cE c a (.ref C) (some dd)) (by rw [← hg]; rfl) F _ _ H _ (eE.setE fi hC hd rv) ?_
            simp only [if_true] at p
            generalize f (ρ.set i (.exc cl w)) = x at p
            cases x with
            | nx ρ1 =>
              intro F' σ' H' e' l'
              simp only [goneC, if_true] at p
              split at p
              · rename_i n
                exact p F' _ H' (ER.ofE (e'.setUn fi) n) l'
              · exact p.elim
            | rt r ρ1 =>
              intro F' σ' H' v' e' l' rr
              simp only [goneC, if_true] at p
              split at p
              · rename_i n
                obtain ⟨n1, n2⟩ := Bool.and_eq_true_iff.mp n
                exact p F' (σ'.set i none) H' v' (ER.ofE (e'.setUn fi) n2) l' (RR.un (RR.ofE rr) n1)
              · exact p.elim
            | bk ρ1 =>
              intro F' σ' H' e' l'
              simp only [goneC, if_true] at p
              split at p
              · rename_i n
                exact p F' _ H' (ER.ofE (e'.setUn fi) n) l'
              · exact p.elim
            | ct ρ1 =>
              intro F' σ' H' e' l'
              simp only [goneC, if_true] at p
              split at p
              · rename_i n
                exact p F' _ H' (ER.ofE (e'.setUn fi) n) l'
              · exact p.elim
            | ex _ _ _ => exact p.elim
            | no => exact p.elim
        | false =>
          refine iteF ?_
          rw [if_neg (fun z => nomatch z)] at p
          refine hs a (.ref C) (some dd) (cE c a (.ref C) (some dd)) (by rw [← hg]; rfl) F _ _ H _ eE ?_
          generalize f ρ = x at p
          cases x with
          | nx ρ1 =>
            intro F' σ' H' e' l'
            simp only [goneC, Bool.false_eq_true, if_false] at p
            split at p
            · rename_i n
              exact p F' _ H' (ER.ofE e' n) l'
            · exact p.elim
          | rt r ρ1 =>
            intro F' σ' H' v' e' l' rr
            simp only [goneC, Bool.false_eq_true, if_false] at p
            split at p
            · rename_i n
              obtain ⟨n1, n2⟩ := Bool.and_eq_true_iff.mp n
              exact p F' _ H' v' (ER.ofE e' n2) l' (RR.ofE rr)
            · exact p.elim
          | bk ρ1 =>
            intro F' σ' H' e' l'
            simp only [goneC, Bool.false_eq_true, if_false] at p
            split at p
            · rename_i n
              exact p F' _ H' (ER.ofE e' n) l'
            · exact p.elim
          | ct ρ1 =>
            intro F' σ' H' e' l'
            simp only [goneC, Bool.false_eq_true, if_false] at p
            split at p
            · rename_i n
              exact p F' _ H' (ER.ofE e' n) l'
            · exact p.elim
          | ex _ _ _ => exact p.elim
          | no => exact p.elim
      · rw [if_neg (by rw [y]; exact fun z => nomatch z)] at p
        exact ih p
    · rw [if_neg q] at p
      exact p.elim
theorem sTry {K : PySem.W.Frag} {i : Nat} {tb : WX → TS} {fb : Env → Ctl} {l : List (Value × Bool × Suite)} {fs : List (Str × Bool × (Env → Ctl))} (h0 : g.exc = none) (hb : ∀ W : WX, SimS g W (tb W) fb) (hc : SimC g K l fs) :
    SimS g W (fun D σ H => tb (wClauses K i W D l) D σ H) (qTry i fb fs) := fun c hg F ρ σ H D e p => by
  refine hb (wClauses K i W D l) c hg F ρ σ H D e ?_
  unfold qTry at p
  cases z : fb ρ with
  | nx ρ' => rw [z] at p; exact p
  | rt r ρ' => rw [z] at p; exact p
  | bk ρ' => rw [z] at p; exact p
  | ct ρ' => rw [z] at p; exact p
  | no => rw [z] at p; exact p
  | ex cl w ρ' =>
    rw [z] at p
    exact fun F' σ' H' d C v e' l' hC hd rv => handle_ok (a0 := ()) hg h0 e' hC hd rv hc (p.rebase l')
/-- e.what -/
def qXf (cl : Str) (i : Nat) : Env → Res Rk := fun ρ => match ρ[i]? with
  | some (.exc c2 w) => if c2 = cl then .ok (.v w) ρ else .no
  | _ => .no
theorem sXf {i : Nat} {cl : Str} {C a : Addr} {cls : Value} {d : Option Addr} (hC : g.cm cl = some C) : SimE (withE g a cls d) W (tXf a cls d C "what" (tVar i)) (qXf cl i) := fun c hg F ρ σ H Q e p => by
  unfold qXf at p
  split at p
  · rename_i c2 w h
    split at p
    · rename_i z
      subst z
      obtain ⟨o, e1, a', C', dd, v, q1, q2, rfl, q4, q5⟩ := e.sl i _ h
      rw [hg] at q1 q2
      have q1 : some (a, cls, d) = some (a', Value.ref C', some dd) := q1
      cases q1
      have q2 : g.cm c2 = some C' := q2
      rw [hC] at q2
      cases q2
      exact ⟨_, e1, rfl, rfl, dd, _, v, rfl, q4, rfl, p _ _ e (Le.refl _ _) v q5⟩
    · exact p.elim
  · exact p.elim
end
end Pu
end

-- PuN
section
set_option Elab.async false
set_option linter.all false
set_option maxRecDepth 100000
set_option maxHeartbeats 4000000
/-! PuN: objects of the program: methods that were read by hand, makings. -/
namespace Pu
open PySem PySem.Spec PyProof.Rows L2 LamX NdefX BlkX
/-- what a def tells of things that nobody changes -/
inductive MR where
  | ok (d : D) | ex (cl : Str) (w : D) | no
section
variable {g : Gx} {c : Cfg} {W : WX} {F F' : Addr → Prop} {ρ : Env} {σ : L2.St} {H H' : Hp}
theorem ER.ofExt (e : ER c F ρ σ H) (x : R.Ext c.g.TT none H H') : ER c F ρ σ H' ∧ Le F H F H' := by
  have l : Le F H F H' := ⟨fun _ h => h, fun a o k h => x.kp a o (fun z => nomatch z) (fun ps z => by subst z; exact k) h⟩
  refine ⟨e.step l (Fr.ofExt x) (fun i a o => ?_) (fun a h => .inl h) (fun a h => ?_) fun a vs h => ?_, l⟩
  · obtain ⟨xs, vs, h1, _, h2, _⟩ := o.get e
    exact ⟨h2, by rw [h1]; exact x.lst h1⟩
  · obtain ⟨vs, h1⟩ := e.fl a h
    exact ⟨vs, x.lst h1⟩
  · obtain ⟨h1, h2, _⟩ := e.tp a vs h
    exact ⟨h2, by rw [h1]; exact x.lst h1⟩
/-! things of tuples alone -/
mutual
def tupD : D → Bool
  | .none | .bool _ | .int _ | .str _ => true
  | .tuple xs => tupDs xs
  | _ => false
def tupDs : List D → Bool
  | [] => true
  | x :: xs => tupD x && tupDs xs
end
mutual
theorem Rv.tp {cm : Str → Option Addr} : ∀ {v : V} {d : D}, Rv cm F H v d → tupD d = true → R.Tp H v d
  | _, _, .non, _ => .non
  | _, _, .bl b, _ => .bl b
  | _, _, .int i, _ => .int i
  | _, _, .str x, _ => .str x
  | _, _, .tup h t, q => .tup h (Rvs.tp t q)
  | _, _, .lst _ _ _, q => absurd q (by simp [tupD])
  | _, _, .ob _ _ _, q => absurd q (by simp [tupD])
  | _, _, .fn _, q => absurd q (by simp [tupD])
theorem Rvs.tp {cm : Str → Option Addr} : ∀ {vs : List V} {ds : List D}, Rvs cm F H vs ds → tupDs ds = true → R.Tps H vs ds
  | _, _, .nil, _ => .nil
  | _, _, .cons h t, q => .cons (Rv.tp h (Bool.and_eq_true_iff.mp q).1) (Rvs.tp t (Bool.and_eq_true_iff.mp q).2)
end
mutual
theorem tp_rv {cm : Str → Option Addr} : ∀ {v : V} {d : D}, R.Tp H v d → Rv cm F H v d
  | _, _, .non => .non
  | _, _, .bl b => .bl b
  | _, _, .int i => .int i
  | _, _, .str x => .str x
  | _, _, .tup h t => .tup h (tps_rv t)
theorem tps_rv {cm : Str → Option Addr} : ∀ {vs : List V} {ds : List D}, R.Tps H vs ds → Rvs cm F H vs ds
  | _, _, .nil => .nil
  | _, _, .cons h t => .cons (tp_rv h) (tps_rv t)
end
theorem tupDs_map {α : Type} {f : α → D} (h : ∀ a, tupD (f a) = true) (xs : List α) : tupDs (xs.map f) = true := by
  induction xs with
  | nil => rfl
  | cons a r ih => simp [tupDs, h a, ih]
/-! ### methods -/
def MethOk (g : Gx) (sp : Sp) (Fm : List D → MR) : Prop := ∀ (c : Cfg), c.g = g → ∀ F ρ σ H vs ds Q E, ER c F ρ σ H → Rvs c.g.cm F H vs ds → (match Fm ds with
  | .ok d => ∀ H' v, ER c F ρ σ H' → Le F H F H' → Rv c.g.cm F H' v d → Q v H'
  | .ex cl w => ∀ H' d C v, ER c F ρ σ H' → Le F H F H' → c.g.cm cl = some C → H' d = some (.xd [("what", v)]) → Rv c.g.cm F H' v w → E (.ref C) (some d) H'
  | .no => False) → sp vs H Q E
def asV : List S → Option (List D)
  | [] => some []
  | .v d :: r => (asV r).map (d :: ·)
  | _ => none
theorem asV_ok : ∀ {as : List S} {vs : List V} {ds : List D}, as.length = vs.length → (∀ i s, as[i]? = some s → ∃ v, vs[i]? = some v ∧ ((∃ d, s = .v d ∧ Rv c.g.cm F H v d ∧ ∀ j, (none : Option (Nat × Nat)) ≠ some (i, j)) ∨ ∃ j xs a, (none : Option (Nat × Nat)) = some (i, j) ∧ s = .io xs ∧ v = .ref a ∧ σ[j]? = some (some (.ref a)) ∧ lstAt ρ j = some xs)) → asV as = some ds → Rvs c.g.cm F H vs ds
  | [], [], ds, _, _, h => by cases h; exact .nil
  | [], _ :: _, _, l, _, _ => absurd l (by simp)
  | _ :: _, [], _, l, _, _ => absurd l (by simp)
  | s :: as, v :: vs, ds, l, k, h => by
    obtain ⟨w, hw, r⟩ := k 0 s rfl
    have hw : some v = some w := hw
    cases hw
    rcases r with ⟨d, rfl, rv, _⟩ | ⟨j, _, _, z, _⟩
    · dsimp only [asV] at h
      cases y : asV as with
      | none => rw [y] at h; cases h
      | some es =>
        rw [y] at h
        cases h
        exact .cons rv (asV_ok (by simpa using l) (fun i s hs => by
          obtain ⟨u, hu, q⟩ := k (i + 1) s (by simpa using hs)
          refine ⟨u, by simpa using hu, ?_⟩
          rcases q with ⟨d, q1, q2, _⟩ | ⟨j, _, _, z, _⟩
          · exact .inl ⟨d, q1, q2, fun j z => nomatch z⟩
          · cases z) y)
    · cases z
def qMeth (cl m : Str) (Fm : List D → MR) (fo : Env → Res Rk) (fas : Env → Res (List S)) : Env → Res Rk := fun ρ => (qV fo ρ).bind fun o ρ1 => match o with
  | .dict ((.none, .str c2) :: fs) => if c2 = cl ∧ fldD fs m = none then (fas ρ1).bind fun as ρ2 => (match asV as with
      | some ds => (match Fm (o :: ds) with
        | .ok d => .ok (.v d) ρ2
        | .ex cl w => .ex cl w ρ2
        | .no => .no)
      | none => .no) else .no
  | _ => .no
def noEx {α : Type} (r : Res α) : Res α := match r with
  | .ok a ρ => .ok a ρ
  | _ => .no
theorem fld_none {cm : Str → Option Addr} : ∀ {fs : List (Str × V)} {ds : List (D × D)} {f : Str}, Rfs cm F H fs ds → fldD ds f = none → fs.lookup f = none
  | _, _, f, .nil, h => rfl
  | _, _, f, .cons (x := x) r t, h => by
    unfold fldD at h
    by_cases z : x = f
    · rw [if_pos z] at h; cases h
    · rw [if_neg z] at h
      rw [List.lookup, show (f == x) = false from by simpa using Ne.symm z]
      exact fld_none t h
theorem sMeth' {sp : Sp} {Fm : List D → MR} {C : Addr} {cl m : Str} {E : L2.St → XK} {ta : TE} {ts : TA} {fo : Env → Res Rk} {fas : Env → Res (List S)} (hm : MethOk g sp Fm) (hC : g.cm cl = some C) (ho : SimE g W ta fo) (ha : SimAs g W none ts fas) (hE : ∀ σ, E σ = fun cls d H => W cls d σ H) :
    SimE g W (fun σ H Q => ta σ H fun x H1 => ∃ a dx fs, x = .ref a ∧ H1 a = some (.ins C dx fs) ∧ fs.lookup m = none ∧ ts σ H1 fun vs H2 => sp (x :: (vs ++ [])) H2 Q (E σ)) (qMeth cl m Fm fo fas) := fun c hg F ρ σ H Q e p =>
  sV ho c hg F ρ σ H _ e (p.bind fun F1 H1 ρ1 o e1 l1 q v hv => by
    split at q
    · rename_i c2 fs
      by_cases z : c2 = cl ∧ fldD fs m = none
      · rw [if_pos z] at q
        obtain ⟨z1, z2⟩ := z
        subst z1
        cases hv with
        | ob hc h r =>
          rw [hg, hC] at hc
          cases hc
          refine ⟨_, _, _, rfl, h, fld_none r z2, ha c hg F1 ρ1 σ H1 _ e1 (q.bind fun F2 H2 ρ2 as e2 l2 q2 vs hvs => ?_)⟩
          rw [List.append_nil]
          cases y : asV as with
          | none => rw [y] at q2; exact q2.elim
          | some ds =>
            rw [y] at q2
            dsimp only at q2
            have rs := asV_ok (ρ := ρ2) (σ := σ) hvs.1 hvs.2.1 y
            refine hm c hg F2 ρ2 σ H2 _ _ Q (E σ) e2 (.cons ((Rv.ob (by rw [hg]; exact hC) h r).mono l2) rs) ?_
            cases x : Fm _ with
            | ok d => rw [x] at q2; exact fun H' v' e' l' rv => q2 F2 H' e' l' v' rv
            | ex cl w => rw [x] at q2; rw [hE]; exact fun H' d C v' e' l' => q2 F2 H' d C v' e' l'
            | no => rw [x] at q2; exact q2.elim
      · rw [if_neg z] at q; exact q.elim
    · exact q.elim)
def qMeth0 (cl m : Str) (Fm : List D → MR) (fo : Env → Res Rk) (fas : Env → Res (List S)) : Env → Res Rk := fun ρ => (qV fo ρ).bind fun o ρ1 => match o with
  | .dict ((.none, .str c2) :: fs) => if c2 = cl ∧ fldD fs m = none then (fas ρ1).bind fun as ρ2 => (match asV as with
      | some ds => (match Fm (o :: ds) with
        | .ok d => .ok (.v d) ρ2
        | _ => .no)
      | none => .no) else .no
  | _ => .no
theorem sMeth0 {sp : Sp} {Fm : List D → MR} {C : Addr} {cl m : Str} {E : XK} {ta : TE} {ts : TA} {fo : Env → Res Rk} {fas : Env → Res (List S)} (hm : MethOk g sp Fm) (hC : g.cm cl = some C) (ho : SimE g W ta fo) (ha : SimAs g W none ts fas) :
    SimE g W (tMeth C m sp [] E ta ts) (qMeth0 cl m Fm fo fas) := fun c hg F ρ σ H Q e p =>
  sV ho c hg F ρ σ H _ e (p.bind fun F1 H1 ρ1 o e1 l1 q v hv => by
    split at q
    · rename_i c2 fs
      by_cases z : c2 = cl ∧ fldD fs m = none
      · rw [if_pos z] at q
        obtain ⟨z1, z2⟩ := z
        subst z1
        cases hv with
        | ob hc h r =>
          rw [hg, hC] at hc
          cases hc
          refine ⟨_, _, _, rfl, h, fld_none r z2, ha c hg F1 ρ1 σ H1 _ e1 (q.bind fun F2 H2 ρ2 as e2 l2 q2 vs hvs => ?_)⟩
          rw [List.append_nil]
          cases y : asV as with
          | none => rw [y] at q2; exact q2.elim
          | some ds =>
            rw [y] at q2
            dsimp only at q2
            have rs := asV_ok (ρ := ρ2) (σ := σ) hvs.1 hvs.2.1 y
            refine hm c hg F2 ρ2 σ H2 _ _ Q E e2 (.cons ((Rv.ob (by rw [hg]; exact hC) h r).mono l2) rs) ?_
            cases x : Fm _ with
            | ok d => rw [x] at q2; exact fun H' v' e' l' rv => q2 F2 H' e' l' v' rv
            | ex cl w => rw [x] at q2; exact q2.elim
            | no => rw [x] at q2; exact q2.elim
      · rw [if_neg z] at q; exact q.elim
    · exact q.elim)
theorem sMethE {sp : Sp} {Fm : List D → MR} {C : Addr} {cl m : Str} {E : XK} {ta : TE} {ts : TA} {fo : Env → Res Rk} {fas : Env → Res (List S)} (hm : MethOk g sp Fm) (hC : g.cm cl = some C) (ho : SimE g (fun cls d _ H => E cls d H) ta fo) (ha : SimAs g (fun cls d _ H => E cls d H) none ts fas) :
    SimE g (fun cls d _ H => E cls d H) (tMeth C m sp [] E ta ts) (qMeth cl m Fm fo fas) := sMeth' (E := fun _ => E) hm hC ho ha fun _ => rfl
/-! ### makings -/
/-- C(..) read by hand: the heap of sp holds the new bare instance -/
def MakeOk (g : Gx) (C : Addr) (sp : Sp) (Fm : List D → MR) : Prop := ∀ (c : Cfg), c.g = g → ∀ F ρ σ H x dx vs ds (Q : VK) E, ER c F ρ σ H → H x = none → H dx = none → dx ≠ x → Rvs c.g.cm F H vs ds → (match Fm ds with
  | .ok d => ∀ H', ER c F ρ σ H' → Le F H F H' → Rv c.g.cm F H' (.ref x) d → Q (.ref x) H'
  | .ex cl w => ∀ H' d C v, ER c F ρ σ H' → Le F H F H' → c.g.cm cl = some C → H' d = some (.xd [("what", v)]) → Rv c.g.cm F H' v w → E (.ref C) (some d) H'
  | .no => False) → sp (.ref x :: vs) (upd (upd H dx (.own x)) x (.ins C dx [])) (fun v H2 => v = .non ∧ Q (.ref x) H2) E
def qMake0 (Fm : List D → MR) (fas : Env → Res (List S)) : Env → Res Rk := fun ρ => (fas ρ).bind fun as ρ2 => match asV as with
  | some ds => (match Fm ds with
    | .ok d => .ok (.v d) ρ2
    | _ => .no)
  | none => .no
def qMake (Fm : List D → MR) (fas : Env → Res (List S)) : Env → Res Rk := fun ρ => (fas ρ).bind fun as ρ2 => match asV as with
  | some ds => (match Fm ds with
    | .ok d => .ok (.v d) ρ2
    | .ex cl w => .ex cl w ρ2
    | .no => .no)
  | none => .no
theorem sMake0 {sp : Sp} {Fm : List D → MR} {C : Addr} {E : XK} {ts : TA} {fas : Env → Res (List S)} (hm : MakeOk g C sp Fm) (ha : SimAs g W none ts fas) : SimE g W (tMake C sp [] E ts) (qMake0 Fm fas) := fun c hg F ρ σ H Q e p =>
  ha c hg F ρ σ H _ e (p.bind fun F2 H2 ρ2 as e2 l2 q2 vs hvs => fun x dx nx nd ne => by
    rw [List.append_nil]
    cases y : asV as with
    | none => rw [y] at q2; exact q2.elim
    | some ds =>
      rw [y] at q2
      dsimp only at q2
      have rs := asV_ok (ρ := ρ2) (σ := σ) hvs.1 hvs.2.1 y
      refine hm c hg F2 ρ2 σ H2 x dx _ _ Q E e2 nx nd ne rs ?_
      cases z : Fm ds with
      | ok d => rw [z] at q2; exact fun H' e' l' rv => q2 F2 H' e' l' _ rv
      | ex cl w => rw [z] at q2; exact q2.elim
      | no => rw [z] at q2; exact q2.elim)
theorem sMakeE {sp : Sp} {Fm : List D → MR} {C : Addr} {E : XK} {ts : TA} {fas : Env → Res (List S)} (hm : MakeOk g C sp Fm) (ha : SimAs g (fun cls d _ H => E cls d H) none ts fas) : SimE g (fun cls d _ H => E cls d H) (tMake C sp [] E ts) (qMake Fm fas) := fun c hg F ρ σ H Q e p =>
  ha c hg F ρ σ H _ e (p.bind fun F2 H2 ρ2 as e2 l2 q2 vs hvs => fun x dx nx nd ne => by
    rw [List.append_nil]
    cases y : asV as with
    | none => rw [y] at q2; exact q2.elim
    | some ds =>
      rw [y] at q2
      dsimp only at q2
      have rs := asV_ok (ρ := ρ2) (σ := σ) hvs.1 hvs.2.1 y
      refine hm c hg F2 ρ2 σ H2 x dx _ _ Q E e2 nx nd ne rs ?_
      cases z : Fm ds with
      | ok d => rw [z] at q2; exact fun H' e' l' rv => q2 F2 H' e' l' _ rv
      | ex cl w => rw [z] at q2; exact fun H' d C v e' l' => q2 F2 H' d C v e' l'
      | no => rw [z] at q2; exact q2.elim)
end
end Pu
end

-- PuW
section
set_option Elab.async false
set_option linter.all false
set_option maxRecDepth 100000
set_option maxHeartbeats 4000000
/-! PuW: webs as things. -/
namespace Pu
open PySem PySem.Spec PyProof.Rows L2 LamX NdefX BlkX
def rowOf (ps : List Pr) (x : Int) : List Int := ps.filterMap fun p => if p.1 = x then some p.2 else if p.2 = x then some p.1 else none
def rowsD (n : Int) (ps : List Pr) : List D := (List.range n.toNat).map fun (x : Nat) => .tuple ((rowOf ps (x : Int)).map .int)
structure Valid (n : Int) (ps : List Pr) : Prop where
  lk : ∀ p ∈ ps, 0 ≤ p.1 ∧ p.1 < p.2 ∧ p.2 < n
  asc : Asc ps
/-- what Web takes -/
structure WebOk (n : Int) (ps : List Pr) : Prop where
  lo : 1 ≤ n
  hi : n ≤ 40
  len : ps.length ≤ 160
  ok : Valid n ps
def webD (n : Int) (ps : List Pr) : D := .dict [(.none, .str "Web"), (.str "size", .int n), (.str "links", .tuple (ps.map prD)), (.str "_rows", .tuple (rowsD n ps))]
theorem prD_inj {ps qs : List Pr} (h : ps.map prD = qs.map prD) : ps = qs := by
  have := congrArg asPs h
  rw [asPs_map, asPs_map] at this
  exact Option.some.inj this
theorem webD_inj {n m : Int} {ps qs : List Pr} (h : webD n ps = webD m qs) : n = m ∧ ps = qs := by
  unfold webD at h
  injection h with h
  injection h with _ h
  injection h with h1 h
  injection h with h2 h
  injection h1 with _ h1
  injection h1 with h1
  injection h2 with _ h2
  injection h2 with h2
  exact ⟨h1, prD_inj h2⟩
open Classical in
noncomputable def webOf (d : D) : Option (Int × List Pr) := if h : ∃ p : Int × List Pr, d = webD p.1 p.2 then some (choose h) else none
theorem webOf_eq (n : Int) (ps : List Pr) : webOf (webD n ps) = some (n, ps) := by
  have h : ∃ p : Int × List Pr, webD n ps = webD p.1 p.2 := ⟨(n, ps), rfl⟩
  unfold webOf
  rw [dif_pos h]
  obtain ⟨a, b⟩ := webD_inj (Classical.choose_spec h)
  rw [show Classical.choose h = (n, ps) from Prod.ext a.symm b.symm]
theorem webOf_some {d : D} {n : Int} {ps : List Pr} (h : webOf d = some (n, ps)) : d = webD n ps := by
  unfold webOf at h
  split at h
  · rename_i q
    have := Classical.choose_spec q
    rw [Option.some.inj h] at this
    exact this
  · cases h
noncomputable def M_Web_near : List D → MR
  | [w, .int x] => match webOf w with
    | some (n, ps) => if 0 ≤ x ∧ x < n then .ok (.tuple ((rowOf ps x).map .int)) else .ex "BadCell" (.int x)
    | none => .no
  | _ => .no
noncomputable def M_Web_linked : List D → MR
  | [w, .int x, .int y] => match webOf w with
    | some (n, ps) => .ok (.bool (decide (0 ≤ x) && decide (x < n) && decide (y ∈ rowOf ps x)))
    | none => .no
  | _ => .no
open Classical in
noncomputable def M_Web : List D → MR
  | [.int n, .tuple ds] => match asPs ds with
    | some ps => if WebOk n ps then .ok (webD n ps) else .no
    | none => .no
  | _ => .no
theorem M_near_eq {n x : Int} {ps : List Pr} : M_Web_near [webD n ps, .int x] = if 0 ≤ x ∧ x < n then .ok (.tuple ((rowOf ps x).map .int)) else .ex "BadCell" (.int x) := by
  simp only [M_Web_near, webOf_eq]
theorem M_linked_eq {n x y : Int} {ps : List Pr} : M_Web_linked [webD n ps, .int x, .int y] = .ok (.bool (decide (0 ≤ x) && decide (x < n) && decide (y ∈ rowOf ps x))) := by
  simp only [M_Web_linked, webOf_eq]
theorem M_Web_eq {n : Int} {ps : List Pr} (h : WebOk n ps) : M_Web [.int n, .tuple (ps.map prD)] = .ok (webD n ps) := by
  simp only [M_Web, asPs_map, if_pos h]
theorem M_near_inv {ds : List D} (h : M_Web_near ds ≠ .no) : ∃ n ps x, ds = [webD n ps, .int x] := by
  unfold M_Web_near at h
  split at h
  · rename_i w x
    cases z : webOf w with
    | none => rw [z] at h; exact (h rfl).elim
    | some q => exact ⟨q.1, q.2, x, by rw [webOf_some (n := q.1) (ps := q.2) z]⟩
  · exact (h rfl).elim
theorem M_linked_inv {ds : List D} (h : M_Web_linked ds ≠ .no) : ∃ n ps x y, ds = [webD n ps, .int x, .int y] := by
  unfold M_Web_linked at h
  split at h
  · rename_i w x y
    cases z : webOf w with
    | none => rw [z] at h; exact (h rfl).elim
    | some q => exact ⟨q.1, q.2, x, y, by rw [webOf_some (n := q.1) (ps := q.2) z]⟩
  · exact (h rfl).elim
theorem M_Web_inv {ds : List D} (h : M_Web ds ≠ .no) : ∃ n ps, ds = [.int n, .tuple (ps.map prD)] ∧ WebOk n ps := by
  unfold M_Web at h
  split at h
  · rename_i n ds'
    cases z : asPs ds' with
    | none => rw [z] at h; exact (h rfl).elim
    | some ps =>
      rw [z] at h
      dsimp only at h
      by_cases w : WebOk n ps
      · exact ⟨n, ps, by rw [asPs_eq z], w⟩
      · rw [if_neg w] at h; exact (h rfl).elim
  · exact (h rfl).elim
/-- a post over what is told is none but where something is told -/
theorem MR.not_no {A B : Prop} {m : MR} {f : D → Prop} {e : Str → D → Prop} (p : match m with | .ok d => f d | .ex cl w => e cl w | .no => False) : m ≠ .no := fun z => by
  subst z
  exact p
theorem web_size {n : Int} {ps : List Pr} : fldD [((PyData.str "size" : D), (PyData.int n : D)), (.str "links", .tuple (ps.map prD)), (.str "_rows", .tuple (rowsD n ps))] "size" = some (.int n) := by
  simp [fldD]
end Pu
end

-- PuP
section
set_option Elab.async false
set_option linter.all false
set_option maxRecDepth 100000
set_option maxHeartbeats 4000000
/-! PuP: three names at once. -/
namespace Pu
open PySem PySem.Spec PyProof.Rows L2 LamX NdefX TryB
section
variable {g : Gx} {c : Cfg} {W : WX}
def qPar3 (i j l : Nat) (gs : Env → Res (List D)) : Env → Ctl := fun ρ => (gs ρ).toC fun ds ρ' => match ds with
  | [a, b, c] => if free ρ' i = true ∧ free ρ' j = true ∧ free ρ' l = true then .nx (((ρ'.set i (.v a)).set j (.v b)).set l (.v c)) else .no
  | _ => .no
theorem sPar3 {i j l : Nat} {ta : TA} {gs : Env → Res (List D)} (h : SimVs g W ta gs) : SimS g W (tPar3 i j l ta) (qPar3 i j l gs) := fun c hg F ρ σ H D e p => h c hg F ρ σ H _ e (p.bind fun F1 H1 ρ1 ds e1 l1 q vs hvs => by
  cases hvs with
  | nil => exact q.elim
  | cons r1 t => cases t with
    | nil => exact q.elim
    | cons r2 t => cases t with
      | nil => exact q.elim
      | cons r3 t => cases t with
        | cons r4 t => exact q.elim
        | nil =>
          dsimp only at q
          by_cases z : free ρ1 i = true ∧ free ρ1 j = true ∧ free ρ1 l = true
          · rw [if_pos z] at q
            exact ⟨_, _, _, rfl, q _ _ _ (((e1.setV (e1.free z.1) r1).setV (e1.free z.2.1) r2).setV (e1.free z.2.2) r3) (Le.refl _ _)⟩
          · rw [if_neg z] at q
            exact q.elim)
/-! try, where no error gets out -/
def noExC : Ctl → Ctl | .ex _ _ _ => .no | x => x
def qTry0 (i : Nat) (fb : Env → Ctl) (hs : List (Str × Bool × (Env → Ctl))) : Env → Ctl := fun ρ => noExC (qTry i fb hs ρ)
theorem sTry0 {K : PySem.W.Frag} {i : Nat} {tb : WX → TS} {fb : Env → Ctl} {l : List (Value × Bool × Suite)} {fs : List (Str × Bool × (Env → Ctl))} (h0 : g.exc = none) (hb : ∀ W : WX, SimS g W (tb W) fb) (hc : SimC g K l fs) :
    SimS g W (fun D σ H => tb (TryB.wClauses K i W0 D l) D σ H) (qTry0 i fb fs) := fun c hg F ρ σ H D e p => by
  refine sTry (W := W0) h0 hb hc c hg F ρ σ H D e ?_
  unfold qTry0 at p
  cases z : qTry i fb fs ρ with
  | ex cl w ρ' => rw [z] at p; exact p.elim
  | nx ρ' => rw [z] at p; exact p
  | rt r ρ' => rw [z] at p; exact p
  | bk ρ' => rw [z] at p; exact p
  | ct ρ' => rw [z] at p; exact p
  | no => rw [z] at p; exact p
end
end Pu
end

-- PvA
section
set_option Elab.async false
set_option linter.all false
set_option maxRecDepth 100000
set_option maxHeartbeats 4000000
/-! PvA: the plain functions are run. -/
namespace Pu
open PySem PySem.Spec PyProof.Rows L2 LamX NdefX
noncomputable def b63 (k : Int) : Bool := @decide (-(2 ^ 63) ≤ k ∧ k < 2 ^ 63) (Classical.propDecidable _)
noncomputable def b62 (k : Int) : Bool := @decide (-(2 ^ 62) ≤ k ∧ k < 2 ^ 62) (Classical.propDecidable _)
theorem b63_of {k : Int} (h : -4000000000 ≤ k ∧ k ≤ 4000000000) : b63 k = true := @decide_eq_true _ (Classical.propDecidable _) (by omega)
theorem b62_of {k : Int} (h : -4000000000 ≤ k ∧ k ≤ 4000000000) : b62 k = true := @decide_eq_true _ (Classical.propDecidable _) (by omega)
theorem szk {n : Nat} (h : n ≤ 100000) : n ≤ sizeLine := Nat.le_trans h (by decide)
theorem sz_0 : (0 ≤ sizeLine) = True := eq_true (szk (by omega))
theorem sz_1 : (1 ≤ sizeLine) = True := eq_true (szk (by omega))
theorem sz_2 : (2 ≤ sizeLine) = True := eq_true (szk (by omega))
theorem sz_3 : (3 ≤ sizeLine) = True := eq_true (szk (by omega))
theorem sz_4 : (4 ≤ sizeLine) = True := eq_true (szk (by omega))
theorem sz_5 : (5 ≤ sizeLine) = True := eq_true (szk (by omega))
theorem sz_6 : (6 ≤ sizeLine) = True := eq_true (szk (by omega))
theorem sz_7 : (7 ≤ sizeLine) = True := eq_true (szk (by omega))
theorem sz_8 : (8 ≤ sizeLine) = True := eq_true (szk (by omega))
theorem sz_9 : (9 ≤ sizeLine) = True := eq_true (szk (by omega))
theorem sz_10 : (10 ≤ sizeLine) = True := eq_true (szk (by omega))
theorem sz_11 : (11 ≤ sizeLine) = True := eq_true (szk (by omega))
theorem sz_12 : (12 ≤ sizeLine) = True := eq_true (szk (by omega))
theorem sz_13 : (13 ≤ sizeLine) = True := eq_true (szk (by omega))
theorem sz_14 : (14 ≤ sizeLine) = True := eq_true (szk (by omega))
theorem sz_15 : (15 ≤ sizeLine) = True := eq_true (szk (by omega))
theorem sz_16 : (16 ≤ sizeLine) = True := eq_true (szk (by omega))
theorem sl_0 : (0 < sizeLine) = True := eq_true (szk (n := 0 + 1) (by omega))
theorem sl_1 : (1 < sizeLine) = True := eq_true (szk (n := 1 + 1) (by omega))
theorem sl_2 : (2 < sizeLine) = True := eq_true (szk (n := 2 + 1) (by omega))
theorem sl_3 : (3 < sizeLine) = True := eq_true (szk (n := 3 + 1) (by omega))
theorem sl_4 : (4 < sizeLine) = True := eq_true (szk (n := 4 + 1) (by omega))
theorem sl_5 : (5 < sizeLine) = True := eq_true (szk (n := 5 + 1) (by omega))
theorem sl_6 : (6 < sizeLine) = True := eq_true (szk (n := 6 + 1) (by omega))
theorem sl_7 : (7 < sizeLine) = True := eq_true (szk (n := 7 + 1) (by omega))
theorem sl_8 : (8 < sizeLine) = True := eq_true (szk (n := 8 + 1) (by omega))
/-- what a def's body tells -/
def fin : Ctl → Res Rk
  | .rt r ρ => .ok r ρ
  | .nx ρ => .ok (.v .none) ρ
  | .ex c w ρ => .ex c w ρ
  | _ => .no
inductive Out where
  | ok (r : Rk) | ex (c : Str) (w : D) | no
/-- a def that changes nothing of its caller's -/
def run0 (F : List S → Res Rk) (as : List S) : Out := match F as with
  | .ok r _ => if okR r then .ok r else .no
  | .ex c w _ => .ex c w
  | .no => .no
inductive OutL where
  | ok (r : Rk) (xs : List D) | ex (c : Str) (w : D) (xs : List D) | no
/-- a def that changes the list handed in as its k-th -/
def run1 (k : Nat) (F : List S → Res Rk) (as : List S) : OutL := match F as with
  | .ok r ρ => if okR r then (match ρ[k]? with | some (.io xs) => .ok r xs | _ => .no) else .no
  | .ex c w ρ => (match ρ[k]? with | some (.io xs) => .ex c w xs | _ => .no)
  | .no => .no
def callK (o : Out) (ρ : Env) : Res Rk := match o with | .ok r => .ok r ρ | .ex c w => .ex c w ρ | .no => .no
def callK0 (o : Out) (ρ : Env) : Res Rk := match o with | .ok r => .ok r ρ | _ => .no
def callL (j : Nat) (o : OutL) (ρ : Env) : Res Rk := match o with | .ok r xs => .ok r (mutS ρ j xs) | .ex c w xs => .ex c w (mutS ρ j xs) | .no => .no
def callL0 (j : Nat) (o : OutL) (ρ : Env) : Res Rk := match o with | .ok r xs => .ok r (mutS ρ j xs) | _ => .no
section
variable {F : List S → Res Rk} {fas : Env → Res (List S)} {ρ ρ' : Env} {k j i : Nat} {r : Rk} {xs : List D} {d : D} {c : Str} {w : D} {s : S} {a b : S} {as : List S} {α β : Type}
theorem p_call0 : qCall0 F none fas ρ = (fas ρ).bind fun as ρ1 => callK0 (run0 F as) ρ1 := by
  unfold qCall0 run0
  congr 1; funext as ρ1
  cases F as with
  | ok r ρc => dsimp only; cases okR r <;> rfl
  | ex c w ρc => rfl
  | no => rfl
theorem p_call : qCall F none fas ρ = (fas ρ).bind fun as ρ1 => callK (run0 F as) ρ1 := by
  unfold qCall run0
  congr 1; funext as ρ1
  cases F as with
  | ok r ρc => dsimp only; cases okR r <;> rfl
  | ex c w ρc => rfl
  | no => rfl
theorem p_call0L : qCall0 F (some (k, j)) fas ρ = (fas ρ).bind fun as ρ1 => callL0 j (run1 k F as) ρ1 := by
  unfold qCall0 run1
  congr 1; funext as ρ1
  cases F as with
  | ok r ρc =>
    dsimp only [updIo]
    cases okR r with
    | false => rfl
    | true =>
      rw [if_pos rfl, if_pos rfl]
      cases ρc[k]? with
      | none => rfl
      | some s => cases s <;> rfl
  | ex c w ρc =>
    dsimp only [updIo]
    cases ρc[k]? with
    | none => rfl
    | some s => cases s <;> rfl
  | no => rfl
theorem p_callL : qCall F (some (k, j)) fas ρ = (fas ρ).bind fun as ρ1 => callL j (run1 k F as) ρ1 := by
  unfold qCall run1
  congr 1; funext as ρ1
  cases F as with
  | ok r ρc =>
    dsimp only [updIo]
    cases okR r with
    | false => rfl
    | true =>
      rw [if_pos rfl, if_pos rfl]
      cases ρc[k]? with
      | none => rfl
      | some s => cases s <;> rfl
  | ex c w ρc =>
    dsimp only [updIo]
    cases ρc[k]? with
    | none => rfl
    | some s => cases s <;> rfl
  | no => rfl
theorem callK_ok : callK (.ok r) ρ = .ok r ρ := rfl
theorem callK_ex : callK (.ex c w) ρ = .ex c w ρ := rfl
theorem callK0_ok : callK0 (.ok r) ρ = .ok r ρ := rfl
theorem callL_ok : callL j (.ok r xs) ρ = .ok r (mutS ρ j xs) := rfl
theorem callL_ex : callL j (.ex c w xs) ρ = .ex c w (mutS ρ j xs) := rfl
theorem callL0_ok : callL0 j (.ok r xs) ρ = .ok r (mutS ρ j xs) := rfl
/-! what a def tells, by its body -/
theorem fin_rt : fin (.rt r ρ) = .ok r ρ := rfl
theorem fin_nx : fin (.nx ρ) = .ok (.v .none) ρ := rfl
theorem fin_ex : fin (.ex c w ρ) = .ex c w ρ := rfl
/-! posts -/
def Ctl.sat (x : Ctl) (nx : Env → Prop) (rt : Rk → Env → Prop) (bk ct : Env → Prop) (ex : Str → D → Env → Prop) : Prop := match x with
  | .nx ρ => nx ρ | .rt r ρ => rt r ρ | .bk ρ => bk ρ | .ct ρ => ct ρ | .ex c w ρ => ex c w ρ | .no => False
variable {nx bk ct : Env → Prop} {rt : Rk → Env → Prop} {ex : Str → D → Env → Prop} {x y : Ctl} {f f' : Env → Ctl}
theorem sat_nx : (Ctl.nx ρ).sat nx rt bk ct ex = nx ρ := rfl
theorem sat_rt : (Ctl.rt r ρ).sat nx rt bk ct ex = rt r ρ := rfl
theorem sat_bk : (Ctl.bk ρ).sat nx rt bk ct ex = bk ρ := rfl
theorem sat_ct : (Ctl.ct ρ).sat nx rt bk ct ex = ct ρ := rfl
theorem sat_ex : (Ctl.ex c w ρ).sat nx rt bk ct ex = ex c w ρ := rfl
theorem sat_seq : (qSeq f f' ρ).sat nx rt bk ct ex = (f ρ).sat (fun ρ' => (f' ρ').sat nx rt bk ct ex) rt bk ct ex := by
  unfold qSeq
  cases f ρ <;> rfl
theorem sat_ite {p : Prop} [Decidable p] : (if p then x else y).sat nx rt bk ct ex = ((p → x.sat nx rt bk ct ex) ∧ (¬ p → y.sat nx rt bk ct ex)) := by
  by_cases h : p <;> simp [h]
theorem Ctl.sat.imp {nx' bk' ct' : Env → Prop} {rt' : Rk → Env → Prop} {ex' : Str → D → Env → Prop} (h : x.sat nx rt bk ct ex) (h1 : ∀ ρ, nx ρ → nx' ρ) (h2 : ∀ r ρ, rt r ρ → rt' r ρ) (h3 : ∀ ρ, bk ρ → bk' ρ) (h4 : ∀ ρ, ct ρ → ct' ρ) (h5 : ∀ c w ρ, ex c w ρ → ex' c w ρ) : x.sat nx' rt' bk' ct' ex' := by
  cases x with
  | nx ρ => exact h1 _ h
  | rt r ρ => exact h2 _ _ h
  | bk ρ => exact h3 _ h
  | ct ρ => exact h4 _ h
  | ex c w ρ => exact h5 _ _ _ h
  | no => exact h
/-- a def of which the body tells r -/
theorem run0_of {B : Env → Ctl} {P : Rk → Prop} (e : F as = fin (B ρ)) (h : (B ρ).sat (fun _ => P (.v .none)) (fun r _ => okR r = true ∧ P r) (fun _ => False) (fun _ => False) (fun _ _ _ => False)) : ∃ r, run0 F as = .ok r ∧ P r := by
  unfold run0
  rw [e]
  cases z : B ρ with
  | nx ρ1 => rw [z] at h; exact ⟨_, rfl, h⟩
  | rt r ρ1 => rw [z] at h; refine ⟨r, ?_, h.2⟩; dsimp only [fin]; rw [if_pos h.1]
  | bk ρ1 => rw [z] at h; exact h.elim
  | ct ρ1 => rw [z] at h; exact h.elim
  | ex c w ρ1 => rw [z] at h; exact h.elim
  | no => rw [z] at h; exact h.elim
theorem run0_is {B : Env → Ctl} (e : F as = fin (B ρ)) (h : (B ρ).sat (fun _ => Rk.v .none = r) (fun r' _ => okR r' = true ∧ r' = r) (fun _ => False) (fun _ => False) (fun _ _ _ => False)) : run0 F as = .ok r := by
  obtain ⟨r', h1, h2⟩ := run0_of (P := fun r' => r' = r) e h
  rw [h1, h2]
/-- what is told, with errors -/
theorem run0_to {B : Env → Ctl} {P : Out → Prop} (e : F as = fin (B ρ)) (h : (B ρ).sat (fun _ => P (.ok (.v .none))) (fun r _ => okR r = true ∧ P (.ok r)) (fun _ => False) (fun _ => False) (fun c w _ => P (.ex c w))) : P (run0 F as) := by
  unfold run0
  rw [e]
  cases z : B ρ with
  | nx ρ1 => rw [z] at h; exact h
  | rt r ρ1 => rw [z] at h; dsimp only [fin]; rw [if_pos h.1]; exact h.2
  | bk ρ1 => rw [z] at h; exact h.elim
  | ct ρ1 => rw [z] at h; exact h.elim
  | ex c w ρ1 => rw [z] at h; exact h
  | no => rw [z] at h; exact h.elim
def ioAt (k : Nat) (ρ : Env) (P : List D → Prop) : Prop := match ρ[k]? with | some (.io xs) => P xs | _ => False
theorem run1_of {B : Env → Ctl} {P : Rk → List D → Prop} (e : F as = fin (B ρ)) (h : (B ρ).sat (fun ρ' => ioAt k ρ' fun xs => P (.v .none) xs) (fun r ρ' => okR r = true ∧ ioAt k ρ' fun xs => P r xs) (fun _ => False) (fun _ => False) (fun _ _ _ => False)) : ∃ r xs, run1 k F as = .ok r xs ∧ P r xs := by
  unfold run1
  rw [e]
  cases z : B ρ with
  | nx ρ1 =>
    rw [z] at h
    dsimp only [Ctl.sat, ioAt, fin] at h ⊢
    cases q : ρ1[k]? with
    | none => rw [q] at h; exact h.elim
    | some s => rw [q] at h; cases s with
      | io xs => exact ⟨_, xs, rfl, h⟩
      | _ => exact h.elim
  | rt r ρ1 =>
    rw [z] at h
    dsimp only [Ctl.sat, ioAt, fin] at h ⊢
    rw [if_pos h.1]
    replace h := h.2
    cases q : ρ1[k]? with
    | none => rw [q] at h; exact h.elim
    | some s => rw [q] at h; cases s with
      | io xs => exact ⟨_, xs, rfl, h⟩
      | _ => exact h.elim
  | bk ρ1 => rw [z] at h; exact h.elim
  | ct ρ1 => rw [z] at h; exact h.elim
  | ex c w ρ1 => rw [z] at h; exact h.elim
  | no => rw [z] at h; exact h.elim
theorem run1_is {B : Env → Ctl} (e : F as = fin (B ρ)) (h : (B ρ).sat (fun ρ' => ioAt k ρ' fun ys => Rk.v .none = r ∧ ys = xs) (fun r' ρ' => okR r' = true ∧ ioAt k ρ' fun ys => r' = r ∧ ys = xs) (fun _ => False) (fun _ => False) (fun _ _ _ => False)) : run1 k F as = .ok r xs := by
  obtain ⟨r', ys, h1, h2, h3⟩ := run1_of (P := fun r' ys => r' = r ∧ ys = xs) e h
  rw [h1, h2, h3]
theorem run1_inv {r : Rk} {xs : List D} (e : run1 k F as = .ok r xs) : ∃ ρ, F as = .ok r ρ ∧ ρ[k]? = some (.io xs) := by
  unfold run1 at e
  cases z : F as with
  | ok r' ρ =>
    rw [z] at e
    dsimp only at e
    cases o : okR r' with
    | false => rw [o] at e; cases e
    | true =>
      rw [o, if_pos rfl] at e
      cases q : ρ[k]? with
      | none => rw [q] at e; cases e
      | some sl =>
        rw [q] at e
        cases sl with
        | io ys => cases e; exact ⟨ρ, rfl, q⟩
        | _ => cases e
  | ex c w ρ =>
    rw [z] at e
    dsimp only at e
    cases q : ρ[k]? with
    | none => rw [q] at e; cases e
    | some sl => rw [q] at e; cases sl <;> cases e
  | no => rw [z] at e; cases e
theorem run0_inv {r : Rk} (e : run0 F as = .ok r) : ∃ ρ, F as = .ok r ρ := by
  unfold run0 at e
  cases z : F as with
  | ok r' ρ =>
    rw [z] at e
    dsimp only at e
    cases o : okR r' with
    | false => rw [o] at e; cases e
    | true => rw [o, if_pos rfl] at e; cases e; exact ⟨ρ, rfl⟩
  | ex c w ρ => rw [z] at e; cases e
  | no => rw [z] at e; cases e
/-! slots -/
def freeS : S → Bool | .io _ => false | _ => true
theorem free_eq : free ρ i = match ρ[i]? with | some s => freeS s | none => false := by
  unfold free
  cases ρ[i]? with
  | none => rfl
  | some s => cases s <;> rfl
theorem freeS_un : freeS .un = true := rfl
theorem freeS_v : freeS (.v d) = true := rfl
theorem freeS_own : freeS (.own xs) = true := rfl
theorem freeS_io : freeS (.io xs) = false := rfl
theorem freeS_exc : freeS (.exc c w) = true := rfl
/-! binds -/
theorem b_ok {x : α} {g : α → Env → Res β} : (Res.ok x ρ).bind g = g x ρ := rfl
theorem b_ex {g : α → Env → Res β} : (Res.ex c w ρ : Res α).bind g = .ex c w ρ := rfl
theorem b_no {g : α → Env → Res β} : (Res.no : Res α).bind g = .no := rfl
theorem c_ok {x : α} {g : α → Env → Ctl} : (Res.ok x ρ).toC g = g x ρ := rfl
theorem c_ex {g : α → Env → Ctl} : (Res.ex c w ρ : Res α).toC g = .ex c w ρ := rfl
theorem b_ite {p : Prop} [Decidable p] {x y : Res α} {g : α → Env → Res β} : (if p then x else y).bind g = if p then x.bind g else y.bind g := by by_cases h : p <;> simp [h]
theorem c_ite {p : Prop} [Decidable p] {x y : Res α} {g : α → Env → Ctl} : (if p then x else y).toC g = if p then x.toC g else y.toC g := by by_cases h : p <;> simp [h]
theorem c_no {g : α → Env → Ctl} : (Res.no : Res α).toC g = .no := rfl
theorem o_none : opt (none : Option α) ρ = .no := rfl
theorem o_some {x : α} : opt (some x) ρ = .ok x ρ := rfl
theorem o_ite {p : Prop} [Decidable p] {x y : Option α} : opt (if p then x else y) ρ = if p then opt x ρ else opt y ρ := by by_cases h : p <;> simp [h]
theorem oC_some : optC (some ρ) = .nx ρ := rfl
/-! things -/
theorem qC_ap : qC d ρ = .ok (.v d) ρ := rfl
variable {fe fa fb fc : Env → Res Rk}
theorem qV_ap : qV fe ρ = (fe ρ).bind esc := rfl
theorem qB_ap : qB fe ρ = (fe ρ).bind fun r ρ' => opt (bor r ρ') ρ' := rfl
theorem qB2_ap : qB2 fa fb ρ = (fa ρ).bind fun r ρ1 => (fb ρ1).bind fun r2 ρ2 => (opt (bor (nz r) ρ2) ρ2).bind fun d ρ3 => (opt (bor r2 ρ3) ρ3).bind fun e ρ4 => .ok (d, e) ρ4 := rfl
theorem qOp_ap {op : D → D → Option Rk} : qOp op fa fb ρ = (qB2 fa fb ρ).bind fun d ρ' => opt (op d.1 d.2) ρ' := rfl
theorem qUn_ap {op : D → Option Rk} : qUn op fa ρ = (qB fa ρ).bind fun d ρ' => opt (op d) ρ' := rfl
theorem esc_v : esc (.v d) ρ = .ok d ρ := rfl
theorem esc_own : esc (.own xs) ρ = .ok (.list xs) ρ := rfl
theorem esc_sl : esc (.sl i) ρ = match ρ[i]? with | some (.v d) => .ok d ρ | some (.own xs) => .ok (.list xs) (ρ.set i (.v (.list xs))) | _ => .no := rfl
theorem bor_v : bor (.v d) ρ = some d := rfl
theorem bor_own : bor (.own xs) ρ = some (.list xs) := rfl
theorem bor_sl : bor (.sl i) ρ = match ρ[i]? with | some s => cont s | none => none := by
  show (ρ[i]?).bind cont = _; cases ρ[i]? <;> rfl
theorem cont_v : cont (.v d) = some d := rfl
theorem cont_own : cont (.own xs) = some (.list xs) := rfl
theorem cont_io : cont (.io xs) = some (.list xs) := rfl
theorem nz_v : nz (.v d) = .v d := rfl
theorem nz_sl : nz (.sl i) = .sl i := rfl
theorem nz_own : nz (.own xs) = .v (.list xs) := rfl
theorem qVar_ap : qVar i ρ = match ρ[i]? with | none => .no | some .un => .no | some (.exc _ _) => .no | some (.scr _) => .no | some _ => .ok (.sl i) ρ := rfl
variable {q1 : Env → Res D} {gs : Env → Res (List D)}
theorem qNil_ap : qNil ρ = .ok [] ρ := rfl
theorem qCons_ap : qCons q1 gs ρ = (q1 ρ).bind fun d ρ1 => (gs ρ1).bind fun ds ρ2 => .ok (d :: ds) ρ2 := rfl
theorem qTup_ap : qTup gs ρ = (gs ρ).bind fun ds ρ' => if ds.length ≤ sizeLine then .ok (.v (.tuple ds)) ρ' else .no := rfl
theorem qLst_ap : qLst gs ρ = (gs ρ).bind fun ds ρ' => if ds.length ≤ sizeLine then .ok (.own ds) ρ' else .no := rfl
variable {f1 f2 : Env → Res Bool}
theorem qTst_ap : qTst fe ρ = (qB fe ρ).bind fun d ρ' => opt (asB d) ρ' := rfl
theorem qTru_ap : qTru fe ρ = (qB fe ρ).bind fun d ρ' => opt (truD d) ρ' := rfl
theorem qAnd_ap : qAnd f1 f2 ρ = (f1 ρ).bind fun b ρ' => if b = true then f2 ρ' else .ok false ρ' := rfl
theorem qOr_ap : qOr f1 f2 ρ = (f1 ρ).bind fun b ρ' => if b = true then .ok true ρ' else f2 ρ' := rfl
theorem qNot_ap : qNot f1 ρ = (f1 ρ).bind fun b ρ' => .ok (!b) ρ' := rfl
theorem qYes_ap : qYes ρ = .ok true ρ := rfl
theorem qAndV_ap : qAndV fa fb ρ = (qTst fa ρ).bind fun b ρ' => if b = true then fb ρ' else .ok (.v (.bool false)) ρ' := rfl
theorem qOrV_ap : qOrV fa fb ρ = (qTst fa ρ).bind fun b ρ' => if b = true then .ok (.v (.bool true)) ρ' else fb ρ' := rfl
theorem qNotV_ap : qNotV fa ρ = (qTst fa ρ).bind fun b ρ' => .ok (.v (.bool (!b))) ρ' := rfl
theorem qIfE_ap : qIfE f1 fa fb ρ = (f1 ρ).bind fun b ρ' => if b = true then fa ρ' else fb ρ' := rfl
theorem asB_bool {b : Bool} : asB (.bool b) = some b := rfl
theorem truD_bool {b : Bool} : truD (.bool b) = some b := rfl
theorem truD_int {n : Int} : truD (.int n) = some (n != 0) := rfl
theorem truD_list : truD (.list xs) = some (!xs.isEmpty) := rfl
theorem truD_tup : truD (.tuple xs) = some (!xs.isEmpty) := rfl
theorem truD_none : truD .none = some false := rfl
/-! statements -/
theorem qNext_ap : qNext ρ = .nx ρ := rfl
theorem qIf_ap {ft : Env → Res Bool} : qIf ft f f' ρ = (ft ρ).toC fun b ρ' => if b = true then f ρ' else f' ρ' := rfl
theorem qExpr_ap : qExpr fe ρ = (fe ρ).toC fun _ ρ' => .nx ρ' := rfl
theorem qBreak_ap : qBreak ρ = .bk ρ := rfl
theorem qCont_ap : qCont ρ = .ct ρ := rfl
theorem qRetN_ap : qRetN ρ = .rt (.v .none) ρ := rfl
theorem qRet_ap : qRet fe ρ = (fe ρ).toC retK := rfl
theorem retK_v : retK (.v d) ρ = .rt (.v d) ρ := rfl
theorem retK_own : retK (.own xs) ρ = .rt (.own xs) ρ := rfl
theorem retK_sl : retK (.sl i) ρ = match ρ[i]? with | some (.v d) => .rt (.v d) ρ | some (.own xs) => .rt (.own xs) (ρ.set i .un) | _ => .no := rfl
theorem okR_v : okR (.v d) = true := rfl
theorem okR_own : okR (.own xs) = true := rfl
theorem qSet_ap : qSet i fe ρ = (fe ρ).toC fun r ρ' => optC (set1 i r ρ') := rfl
theorem set1_ap : set1 i r ρ = if free ρ i = true then (match r with | .v d => some (ρ.set i (.v d)) | .own xs => some (ρ.set i (.own xs)) | .sl j => match ρ[j]? with | some (.v d) => some (ρ.set i (.v d)) | some (.own xs) => some ((ρ.set j (.v (.list xs))).set i (.v (.list xs))) | _ => none) else none := rfl
theorem pName_ap : pName i d ρ = if free ρ i = true then some (ρ.set i (.v d)) else none := rfl
variable {ds : List D} {pg : D → Env → Option Env} {ps : List D → Env → Option Env}
theorem pNil_ap : pNil [] ρ = some ρ := rfl
theorem pCons_ap : pCons pg ps (d :: ds) ρ = (pg d ρ).bind (ps ds) := rfl
theorem pTup_ap {n : Nat} : pTup n ps (.tuple ds) ρ = if ds.length = n then ps ds ρ else none := rfl
theorem pTup_pr {p : Pr} : pTup 2 ps (prD p) ρ = ps [.int p.1, .int p.2] ρ := rfl
theorem qAsg_ap : qAsg fe pg ρ = (qV fe ρ).toC fun d ρ' => optC (pg d ρ') := rfl
theorem qPar_ap : qPar i j fa fb ρ = (fa ρ).toC fun r ρ1 => match r with
  | .own xs => (fb ρ1).toC fun r2 ρ2 => match set1 i (.own xs) ρ2 with
    | some ρ3 => (match r2 with
      | .sl k => if k = i then .no else optC (set1 j r2 ρ3)
      | _ => optC (set1 j r2 ρ3))
    | none => .no
  | r => (esc r ρ1).toC fun d ρ2 => (fb ρ2).toC fun r2 ρ3 => match r2 with
    | .sl k => if k = i then .no else (match set1 i (.v d) ρ3 with | some ρ4 => optC (set1 j r2 ρ4) | none => .no)
    | _ => match set1 i (.v d) ρ3 with | some ρ4 => optC (set1 j r2 ρ4) | none => .no := rfl
theorem qPar3_ap {l : Nat} : qPar3 i j l gs ρ = (gs ρ).toC fun ds ρ' => match ds with
  | [a, b, c] => if free ρ' i = true ∧ free ρ' j = true ∧ free ρ' l = true then .nx (((ρ'.set i (.v a)).set j (.v b)).set l (.v c)) else .no
  | _ => .no := rfl
theorem qIl_ap : qIl fe ρ = (qV fe ρ).bind fun d ρ' => match d with | .list ds => .ok ds ρ' | _ => .no := rfl
theorem qIt_ap : qIt fe ρ = (qV fe ρ).bind fun d ρ' => match d with | .tuple ds => .ok ds ρ' | _ => .no := rfl
theorem qR1_ap : qR1 fe ρ = (qB fe ρ).bind fun d ρ' => match d with | .int j => if b62 j = true then .ok (iot 0 j.toNat) ρ' else .no | _ => .no := by
  unfold qR1
  congr 1; funext d ρ'
  cases d <;> first | rfl | (dsimp only; unfold b62; simp only [decide_eq_true_eq])
theorem qR2_ap : qR2 fa fb ρ = (qB2 fa fb ρ).bind fun d ρ' => match d with | (.int i, .int j) => if b62 i = true ∧ b62 j = true then .ok (iot i (j - i).toNat) ρ' else .no | _ => .no := by
  unfold qR2
  congr 1; funext d ρ'
  obtain ⟨d1, d2⟩ := d
  cases d1 <;> first | rfl | skip
  cases d2 <;> first | rfl | (dsimp only; unfold b62; simp only [decide_eq_true_eq, and_assoc])
theorem qEn_l : qEn false fe ρ = (qV fe ρ).bind fun d ρ' => match d with | .list ds => .ok (ds.mapIdx fun i x => .tuple [.int (i : Nat), x]) ρ' | _ => .no := by
  unfold qEn; congr 1; funext d ρ'; cases d <;> rfl
theorem qEn_t : qEn true fe ρ = (qV fe ρ).bind fun d ρ' => match d with | .tuple ds => .ok (ds.mapIdx fun i x => .tuple [.int (i : Nat), x]) ρ' | _ => .no := by
  unfold qEn; congr 1; funext d ρ'; cases d <;> rfl
variable {fi : Env → Res (List D)}
theorem qFor_ap : qFor fi pg f ρ = (fi ρ).toC fun ds ρ' => forC pg f ds ρ' := rfl
variable {ft : Env → Res Bool} {own : List Nat}
theorem qLc_ap : qLc fi pg ft fe own ρ = (fi ρ).bind fun ds ρ1 => if own.all (free ρ1) = true then (match lcC pg ft (qV fe) own ds (unE ρ1 own) [] with | .ok r ρ2 => .ok r (backE ρ1 ρ2 own) | _ => .no) else .no := rfl
theorem unE_nil : unE ρ [] = ρ := rfl
theorem unE_cons {is : List Nat} : unE ρ (i :: is) = (unE ρ is).set i .un := rfl
theorem backE_nil : backE ρ ρ' [] = ρ' := rfl
theorem backE_cons {is : List Nat} : backE ρ ρ' (i :: is) = (backE ρ ρ' is).set i (match ρ[i]? with | some (.v d) => .v d | _ => .un) := rfl
theorem lstAt_ap : lstAt ρ i = match ρ[i]? with | some (.own xs) => some xs | some (.io xs) => some xs | _ => none := rfl
theorem mutS_ap : mutS ρ i xs = match ρ[i]? with | some (.own _) => ρ.set i (.own xs) | some (.io _) => ρ.set i (.io xs) | _ => ρ := rfl
theorem qApp_ap : qApp i fa ρ = match lstAt ρ i with
  | none => .no
  | some _ => (qV fa ρ).bind fun d ρ1 => match lstAt ρ1 i with
    | some xs => if xs.length < sizeLine then .ok (.v .none) (mutS ρ1 i (xs ++ [d])) else .no
    | none => .no := rfl
theorem qPopAt_ap : qPopAt i fa ρ = match lstAt ρ i with
  | none => .no
  | some _ => (qB fa ρ).bind fun d ρ1 => match lstAt ρ1 i, d with
    | some xs, .int k => if b63 k = true then (match seqIndex? k xs.length with
      | some n => (match xs[n]? with
        | some x => .ok (.v x) (mutS ρ1 i (xs.eraseIdx n))
        | none => .no)
      | none => .no) else .no
    | _, _ => .no := by
  unfold qPopAt
  cases lstAt ρ i with
  | none => rfl
  | some _ =>
    dsimp only
    congr 1; funext d ρ'
    cases lstAt ρ' i with
    | none => rfl
    | some xs =>
      cases d <;> first | rfl | skip
      rename_i k
      dsimp only
      by_cases z : (-(2 ^ 63) ≤ k ∧ k < 2 ^ 63)
      · rw [if_pos z, if_pos (show b63 k = true from @decide_eq_true _ (Classical.propDecidable _) z)] <;>
          (cases seqIndex? k xs.length with
          | none => rfl
          | some n => dsimp only; cases xs[n]? <;> rfl)
      · rw [if_neg z, if_neg (show ¬ b63 k = true by unfold b63; simp only [decide_eq_true_eq]; exact z)]
theorem qSto_ap {fx fv : Env → Res Rk} : qSto i fx fv ρ = (qV fv ρ).toC fun d ρ1 => match lstAt ρ1 i with
  | none => .no
  | some _ => (qB fx ρ1).toC fun k ρ2 => match lstAt ρ2 i, k with
    | some xs, .int k => (match ixN xs.length k with
      | some n => .nx (mutS ρ2 i (xs.set n d))
      | none => .no)
    | _, _ => .no := rfl
theorem qaNil_ap : qaNil ρ = .ok [] ρ := rfl
variable {h : Env → Res (List S)}
theorem qaV_ap : qaV fe h ρ = (qV fe ρ).bind fun d ρ1 => (h ρ1).bind fun as ρ2 => .ok (.v d :: as) ρ2 := rfl
theorem qaIo_ap : qaIo j h ρ = match lstAt ρ j with
  | none => .no
  | some _ => (h ρ).bind fun as ρ2 => match lstAt ρ2 j with
    | some xs => .ok (.io xs :: as) ρ2
    | none => .no := rfl
theorem qAug_ap {op : D → D → Option D} : qAug i op fe ρ = match ρ[i]? with
  | some (.v (.int n)) => (qB fe ρ).toC fun d2 ρ1 => match op (.int n) d2 with
    | some d => if free ρ1 i = true then .nx (ρ1.set i (.v d)) else .no
    | _ => .no
  | _ => .no := rfl
theorem qRaise_ap : qRaise c fa ρ = (qV fa ρ).toC fun d ρ' => .ex c d ρ' := rfl
theorem qChain_ap {p q : Int → Int → Bool} : qChain p q fa fb fc ρ = (qB2 fa fb ρ).bind fun d ρ1 => match d with
  | (.int i, .int j) => if p i j = true then (qB fc ρ1).bind fun e ρ2 => (match e with
      | .int k => .ok (.v (.bool (q j k))) ρ2
      | _ => .no) else .ok (.v (.bool false)) ρ1
  | _ => .no := rfl
theorem qFld_ap {cl g : Str} : qFld cl g fa ρ = (qB fa ρ).bind fun d ρ' => match d with
  | .dict ((.none, .str c2) :: fs) => if c2 = cl then opt ((fldD fs g).map .v) ρ' else .no
  | _ => .no := rfl
/-! operators -/
theorem dAdd_i {a b : Int} : dAdd (.int a) (.int b) = some (.v (.int (a + b))) := rfl
theorem dSub_i {a b : Int} : dSub (.int a) (.int b) = some (.v (.int (a - b))) := rfl
theorem dMul_i {a b : Int} : dMul (.int a) (.int b) = if mulOk a b = true then some (.v (.int (a * b))) else none := rfl
theorem dDiv_i {a b : Int} : dDiv (.int a) (.int b) = if divOk a b = true then some (.v (.int (a / b))) else none := rfl
theorem dMod_i {a b : Int} : dMod (.int a) (.int b) = if modOk a b = true then some (.v (.int (a % b))) else none := rfl
theorem dPow_i {a b : Int} : dPow (.int a) (.int b) = if powOk a b = true then some (.v (.int (a ^ b.toNat))) else none := rfl
theorem dLt_i {a b : Int} : dLt (.int a) (.int b) = some (.v (.bool (decide (a < b)))) := rfl
theorem dLe_i {a b : Int} : dLe (.int a) (.int b) = some (.v (.bool (decide (a ≤ b)))) := rfl
theorem dGt_i {a b : Int} : dGt (.int a) (.int b) = some (.v (.bool (decide (b < a)))) := rfl
theorem dGe_i {a b : Int} : dGe (.int a) (.int b) = some (.v (.bool (decide (b ≤ a)))) := rfl
theorem dNeg_i {a : Int} : dNeg (.int a) = some (.v (.int (-a))) := rfl
theorem dMin_i {a b : Int} : dMin (.int a) (.int b) = some (.v (.int (if b < a then b else a))) := rfl
theorem dMax_i {a b : Int} : dMax (.int a) (.int b) = some (.v (.int (if b > a then b else a))) := rfl
theorem dInt_i {a : Int} : dInt (.int a) = some (.v (.int a)) := rfl
theorem dInt_b {k : Bool} : dInt (.bool k) = some (.v (.int (if k = true then 1 else 0))) := rfl
theorem dEq_ap {d e : D} : dEq d e = if SeqAt.shaped d = true ∧ SeqAt.shaped e = true then some (.v (.bool (PyData.eqv d e))) else none := rfl
theorem dNe_ap {d e : D} : dNe d e = if SeqAt.shaped d = true ∧ SeqAt.shaped e = true then some (.v (.bool (!PyData.eqv d e))) else none := rfl
theorem eqv_int {a b : Int} : PyData.eqv (.int a) (.int b) = decide (a = b) := by
  show (a == b) = _
  by_cases h : a = b
  · subst h; simp
  · simp [h]
theorem dEq_i {a b : Int} : dEq (.int a) (.int b) = some (.v (.bool (decide (a = b)))) := by
  have : PyData.eqv (.int a) (.int b) = decide (a = b) := eqv_int
  rw [dEq_ap, if_pos ⟨rfl, rfl⟩, this]
theorem dNe_i {a b : Int} : dNe (.int a) (.int b) = some (.v (.bool (!decide (a = b)))) := by
  have : PyData.eqv (.int a) (.int b) = decide (a = b) := eqv_int
  rw [dNe_ap, if_pos ⟨rfl, rfl⟩, this]
theorem dIsN_n : dIsN .none .none = some (.v (.bool true)) := rfl
theorem dIsN_i {a : Int} : dIsN (.int a) .none = some (.v (.bool false)) := rfl
theorem dNotN_n : dNotN .none .none = some (.v (.bool false)) := rfl
theorem dNotN_i {a : Int} : dNotN (.int a) .none = some (.v (.bool true)) := rfl
theorem dIxL_ap {k : Int} : dIxL (.list xs) (.int k) = (atI xs k).map .v := rfl
theorem dIxT_ap {k : Int} : dIxT (.tuple xs) (.int k) = (atI xs k).map .v := rfl
theorem dLen_l : dLen (.list xs) = some (.v (.int xs.length)) := rfl
theorem dLen_t : dLen (.tuple xs) = some (.v (.int xs.length)) := rfl
theorem asPs_map' : ∀ (ns : List Pr), asPs (ns.map prD) = some ns
  | [] => rfl
  | n :: r => by
    show (asP (prD n)).bind _ = _
    simp [asP, prD, asPs_map' r]
theorem asBs_map : ∀ (ns : List Bool), asBs (ns.map .bool) = some ns
  | [] => rfl
  | n :: r => by
    show (asB (.bool n)).bind _ = _
    simp [asB, asBs_map r]
theorem dSum_ap {ns : List Int} : dSum (.list (ns.map .int)) = some (.v (.int ns.sum)) := by show (asInts _).map _ = _; rw [asInts_map]; rfl
theorem dSortI_ap {ns : List Int} : dSortI (.list (ns.map .int)) = some (.own ((isort ns).map .int)) := by show (asInts _).map _ = _; rw [asInts_map]; rfl
theorem dSortP_ap {ns : List Pr} : dSortP (.list (ns.map prD)) = some (.own ((srt ns).map prD)) := by show (asPs _).map _ = _; rw [asPs_map']; rfl
theorem dAll_ap {ns : List Bool} : dAll (.list (ns.map .bool)) = some (.v (.bool (ns.all id))) := by show (asBs _).map _ = _; rw [asBs_map]; rfl
theorem dAny_ap {ns : List Bool} : dAny (.list (ns.map .bool)) = some (.v (.bool (ns.any id))) := by show (asBs _).map _ = _; rw [asBs_map]; rfl
theorem dCat_ap {ys : List D} : dCat (.list xs) (.list ys) = if xs.length + ys.length ≤ sizeLine then some (.own (xs ++ ys)) else none := rfl
theorem dCatT_ap {ys : List D} : dCatT (.tuple xs) (.tuple ys) = if xs.length + ys.length ≤ sizeLine then some (.v (.tuple (xs ++ ys))) else none := rfl
theorem dList_l : dList (.list xs) = some (.own xs) := rfl
theorem dList_t : dList (.tuple xs) = some (.own xs) := rfl
theorem dTuple_l : dTuple (.list xs) = some (.v (.tuple xs)) := rfl
theorem dTuple_t : dTuple (.tuple xs) = some (.v (.tuple xs)) := rfl
theorem any_int {ns : List Int} {n : Int} : ((ns.map PyData.int).any fun z => PyData.eqv z (.int n)) = decide (n ∈ ns) := by
  induction ns with
  | nil => rfl
  | cons m r ih =>
    rw [List.map_cons, List.any_cons, ih]
    have : PyData.eqv (.int m) (.int n) = decide (n = m) := by
      rw [eqv_int]
      exact decide_eq_decide.mpr eq_comm
    rw [this]
    simp [List.mem_cons]
theorem all_flat {ns : List Int} : (ns.map PyData.int).all flatD = true := by
  rw [List.all_eq_true]; intro x hx; obtain ⟨n, _, rfl⟩ := List.mem_map.mp hx; rfl
theorem dInF_l {ns : List Int} {n : Int} {neg : Bool} : dInF neg (.int n) (.list (ns.map .int)) = some (.v (.bool (if neg = true then !decide (n ∈ ns) else decide (n ∈ ns)))) := by
  show (if flatD (.int n) = true ∧ (ns.map PyData.int).all flatD = true then _ else none) = _
  rw [if_pos ⟨rfl, all_flat⟩, any_int]
theorem dInF_t {ns : List Int} {n : Int} {neg : Bool} : dInF neg (.int n) (.tuple (ns.map .int)) = some (.v (.bool (if neg = true then !decide (n ∈ ns) else decide (n ∈ ns)))) := by
  show (if flatD (.int n) = true ∧ (ns.map PyData.int).all flatD = true then _ else none) = _
  rw [if_pos ⟨rfl, all_flat⟩, any_int]
theorem pLt_i {a b : Int} : pLt a b = decide (a < b) := rfl
theorem pLe_i {a b : Int} : pLe a b = decide (a ≤ b) := rfl
theorem pGt_i {a b : Int} : pGt a b = decide (b < a) := rfl
theorem pGe_i {a b : Int} : pGe a b = decide (b ≤ a) := rfl
theorem ipAdd_i {a b : Int} : ipAdd (.int a) (.int b) = some (.int (a + b)) := rfl
theorem ipSub_i {a b : Int} : ipSub (.int a) (.int b) = some (.int (a - b)) := rfl
theorem dIsi_int_i {a : Int} : dIsi "int" (.int a) = some (.v (.bool true)) := by rfl
theorem dIsi_bool_i {a : Int} : dIsi "bool" (.int a) = some (.v (.bool false)) := by rfl
/-! loops -/
def stepF (pg : D → Env → Option Env) (f : Env → Ctl) (d : D) (ρ : Env) : Ctl := match pg d ρ with | some ρ1 => f ρ1 | none => .no
theorem stepF_ap : stepF pg f d ρ = match pg d ρ with | some ρ1 => f ρ1 | none => .no := rfl
/-- a for, by what holds before each turn -/
theorem for_sat (I : Nat → Env → Prop) : ∀ (ds : List D) (ρ : Env) (n : Nat) (_ : I n ρ)
    (_ : ∀ i d ρ, ds[i]? = some d → I (n + i) ρ → (stepF pg f d ρ).sat (fun ρ' => I (n + i + 1) ρ') rt nx (fun ρ' => I (n + i + 1) ρ') ex)
    (_ : ∀ ρ, I (n + ds.length) ρ → nx ρ), (forC pg f ds ρ).sat nx rt bk ct ex
  | [], ρ, n, h0, _, h2 => h2 ρ h0
  | d :: ds, ρ, n, h0, h1, h2 => by
    have h3 := h1 0 d ρ rfl h0
    unfold forC
    unfold stepF at h3
    have step : ∀ ρ2, I (n + 1) ρ2 → (forC pg f ds ρ2).sat nx rt bk ct ex := fun ρ2 h => for_sat I ds ρ2 (n + 1) h (fun i d' ρ hd hi => by
      have := h1 (i + 1) d' ρ hd (by rw [show n + (i + 1) = n + 1 + i by omega]; exact hi)
      rw [show n + (i + 1) = n + 1 + i by omega] at this
      exact this) (fun ρ h => h2 ρ (by rw [List.length_cons, show n + (ds.length + 1) = n + 1 + ds.length by omega]; exact h))
    cases y : pg d ρ with
    | none => rw [y] at h3; exact h3.elim
    | some ρ1 =>
      rw [y] at h3
      dsimp only at h3 ⊢
      cases z : f ρ1 with
      | nx ρ2 => rw [z] at h3; exact step ρ2 h3
      | ct ρ2 => rw [z] at h3; exact step ρ2 h3
      | bk ρ2 => rw [z] at h3; exact h3
      | rt r ρ2 => rw [z] at h3; exact h3
      | ex c w ρ2 => rw [z] at h3; exact h3
      | no => rw [z] at h3; exact h3.elim
theorem for0 (I : Nat → Env → Prop) {ds : List D} {ρ : Env} (h0 : I 0 ρ) (h1 : ∀ i d ρ, ds[i]? = some d → I i ρ → (stepF pg f d ρ).sat (fun ρ' => I (i + 1) ρ') rt nx (fun ρ' => I (i + 1) ρ') ex)
    (h2 : ∀ ρ, I ds.length ρ → nx ρ) : (forC pg f ds ρ).sat nx rt bk ct ex :=
  for_sat I ds ρ 0 h0 (fun i d ρ hd hi => by rw [Nat.zero_add] at hi ⊢; exact h1 i d ρ hd hi) (fun ρ h => h2 ρ (by rw [Nat.zero_add] at h; exact h))
/-- the same over things named -/
theorem forM {α : Type} (enc : α → D) (I : Nat → Env → Prop) {xs : List α} {ρ : Env} (h0 : I 0 ρ) (h1 : ∀ i x ρ, xs[i]? = some x → I i ρ → (stepF pg f (enc x) ρ).sat (fun ρ' => I (i + 1) ρ') rt nx (fun ρ' => I (i + 1) ρ') ex)
    (h2 : ∀ ρ, I xs.length ρ → nx ρ) : (forC pg f (xs.map enc) ρ).sat nx rt bk ct ex :=
  for0 I h0 (fun i d ρ hd hi => by
    rw [List.getElem?_map] at hd
    obtain ⟨x, hx, rfl⟩ := Option.map_eq_some_iff.mp hd
    exact h1 i x ρ hx hi) (fun ρ h => h2 ρ (by rw [List.length_map] at h; exact h))
def stepL (pg : D → Env → Option Env) (ft : Env → Res Bool) (fe : Env → Res D) (own : List Nat) (d : D) (ρ : Env) : Res (Option D) := match pg d ρ with
  | none => .no
  | some ρ1 => (ft ρ1).bind fun b ρ2 => if b = true then (fe ρ2).bind fun x ρ3 => .ok (some x) (unE ρ3 own) else .ok none (unE ρ2 own)
theorem stepL_ap {fe : Env → Res D} : stepL pg ft fe own d ρ = match pg d ρ with
  | none => .no
  | some ρ1 => (ft ρ1).bind fun b ρ2 => if b = true then (fe ρ2).bind fun x ρ3 => .ok (some x) (unE ρ3 own) else .ok none (unE ρ2 own) := rfl
theorem lc_cons {fe : Env → Res D} {acc : List D} : lcC pg ft fe own (d :: ds) ρ acc = match stepL pg ft fe own d ρ with
    | .ok (some x) ρ' => if acc.length < sizeLine then lcC pg ft fe own ds ρ' (acc ++ [x]) else .no
    | .ok none ρ' => lcC pg ft fe own ds ρ' acc
    | _ => .no := by
  unfold stepL
  rw [lcC]
  cases pg d ρ with
  | none => rfl
  | some ρ1 =>
    dsimp only
    cases ft ρ1 with
    | ok b ρ2 =>
      cases b with
      | false => rfl
      | true =>
        dsimp only [Res.bind]
        rw [if_pos rfl]
        cases fe ρ2 <;> rfl
    | ex _ _ _ => rfl
    | no => rfl
/-- a comprehension that leaves the slots as they are -/
theorem lc_map {α : Type} (enc : α → D) (t : α → Bool) (g : α → D) {fe : Env → Res D} {ρ : Env} : ∀ (xs : List α) (acc : List D) (_ : acc.length + xs.length ≤ sizeLine)
    (_ : ∀ x ∈ xs, stepL pg ft fe own (enc x) ρ = if t x = true then .ok (some (g x)) ρ else .ok none ρ),
    lcC pg ft fe own (xs.map enc) ρ acc = .ok (.own (acc ++ (xs.filter t).map g)) ρ
  | [], acc, _, _ => by simp [lcC]
  | x :: xs, acc, hl, h => by
    have e := h x (List.mem_cons_self ..)
    rw [List.length_cons] at hl
    rw [List.map_cons, lc_cons, e]
    cases z : t x with
    | false =>
      rw [if_neg (by simp)]
      dsimp only
      rw [lc_map enc t g xs acc (by omega) fun y hy => h y (List.mem_cons_of_mem _ hy), List.filter_cons]
      simp [z]
    | true =>
      rw [if_pos rfl]
      dsimp only
      rw [if_pos (by omega), lc_map enc t g xs (acc ++ [g x]) (by simp only [List.length_append, List.length_cons, List.length_nil]; omega) fun y hy => h y (List.mem_cons_of_mem _ hy), List.filter_cons]
      simp [z]
/-- the same, with no test -/
theorem lc_all {α : Type} (enc : α → D) (g : α → D) {fe : Env → Res D} {ρ : Env} (xs : List α) (hl : xs.length ≤ sizeLine)
    (h : ∀ x ∈ xs, stepL pg ft fe own (enc x) ρ = .ok (some (g x)) ρ) :
    lcC pg ft fe own (xs.map enc) ρ [] = .ok (.own (xs.map g)) ρ := by
  rw [lc_map enc (fun _ => true) g xs [] (by simpa using hl) (fun x hx => by rw [if_pos rfl]; exact h x hx), List.nil_append, List.filter_eq_self.mpr (fun _ _ => rfl)]
/-- a comprehension with an invariant -/
theorem lc_inv {α : Type} (enc : α → D) (I : Nat → Env → List D → Prop) {fe : Env → Res D} : ∀ (xs : List α) (ρ : Env) (acc : List D) (n : Nat) (_ : acc.length + xs.length ≤ sizeLine) (_ : I n ρ acc)
    (_ : ∀ i x ρ acc, xs[i]? = some x → I (n + i) ρ acc → ∃ o ρ', stepL pg ft fe own (enc x) ρ = .ok o ρ' ∧ I (n + i + 1) ρ' (acc ++ o.toList)),
    ∃ ρ' ds, lcC pg ft fe own (xs.map enc) ρ acc = .ok (.own ds) ρ' ∧ I (n + xs.length) ρ' ds
  | [], ρ, acc, n, _, h0, _ => ⟨ρ, acc, rfl, h0⟩
  | x :: xs, ρ, acc, n, hl, h0, h1 => by
    rw [List.length_cons] at hl
    obtain ⟨o, ρ', e, h2⟩ := h1 0 x ρ acc rfl h0
    have next : ∀ acc', acc'.length ≤ acc.length + 1 → I (n + 1) ρ' acc' → ∃ ρ2 ds, lcC pg ft fe own (xs.map enc) ρ' acc' = .ok (.own ds) ρ2 ∧ I (n + (x :: xs).length) ρ2 ds := fun acc' hc h => by
      obtain ⟨ρ2, ds, q1, q2⟩ := lc_inv enc I xs ρ' acc' (n + 1) (by omega) h fun i x ρ acc hx hi => by
        obtain ⟨o, ρ3, a, b⟩ := h1 (i + 1) x ρ acc hx (by rw [show n + (i + 1) = n + 1 + i by omega]; exact hi)
        rw [show n + (i + 1) = n + 1 + i by omega] at b
        exact ⟨o, ρ3, a, b⟩
      exact ⟨ρ2, ds, q1, by rw [List.length_cons, show n + (xs.length + 1) = n + 1 + xs.length by omega]; exact q2⟩
    rw [List.map_cons, lc_cons, e]
    cases o with
    | none =>
      dsimp only
      exact next acc (by omega) (by simpa using h2)
    | some y =>
      dsimp only
      rw [if_pos (by omega)]
      exact next (acc ++ [y]) (by simp) h2
end
def AllN (n : Int) : List Int := (List.range n.toNat).map fun (i : Nat) => (i : Int)
theorem alln_len (n : Int) : (AllN n).length = n.toNat := by unfold AllN; simp
theorem iot0 {n : Int} : iot 0 n.toNat = (AllN n).map PyData.int := by
  unfold iot AllN
  rw [List.map_map]
  refine List.map_congr_left fun i _ => ?_
  simp
theorem alln_at {n : Int} {i : Nat} (h : i < n.toNat) : (AllN n)[i]? = some (i : Int) := by
  unfold AllN; simp [h]
theorem alln_mem {n x : Int} : x ∈ AllN n ↔ 0 ≤ x ∧ x < n := by
  unfold AllN
  rw [List.mem_map]
  constructor
  · rintro ⟨i, h, rfl⟩; have := List.mem_range.mp h; omega
  · rintro ⟨h0, h1⟩; exact ⟨x.toNat, List.mem_range.mpr (by omega), by omega⟩
theorem seq_nn {n : Nat} {i : Int} (h0 : 0 ≤ i) (h : i < n) : seqIndex? i n = some i.toNat := by
  unfold seqIndex?
  have e : ¬ i < 0 := by omega
  simp only [e, if_false]
  rw [if_pos (by simp; omega)]
theorem erase_map {α β : Type} (f : α → β) : ∀ (l : List α) (j : Nat), (l.map f).eraseIdx j = (l.eraseIdx j).map f
  | [], _ => rfl
  | a :: r, 0 => rfl
  | a :: r, j + 1 => congrArg (f a :: ·) (erase_map f r j)
theorem erase_perm {α : Type} : ∀ (l : List α) (j : Nat) (h : j < l.length), (l[j] :: l.eraseIdx j).Perm l
  | [], _, h => absurd h (Nat.not_lt_zero _)
  | a :: r, 0, _ => List.Perm.refl _
  | a :: r, j + 1, h => (List.Perm.swap _ _ _).trans ((erase_perm r j (Nat.lt_of_succ_lt_succ h)).cons a)
/-- a list, one's own or fixed -/
def isL (xs : List D) (s : S) : Prop := s = .own xs ∨ s = .v (.list xs)
theorem isL_own {xs : List D} : isL xs (.own xs) := .inl rfl
theorem isL_v {xs : List D} : isL xs (.v (.list xs)) := .inr rfl
theorem iot_map {lo : Int} {n : Nat} : iot lo n = ((List.range n).map fun (i : Nat) => lo + (i : Int)).map PyData.int := by
  unfold iot; rw [List.map_map]; rfl
end Pu
end

-- MaW
section
set_option Elab.async false
set_option linter.all false
set_option maxRecDepth 100000
set_option maxHeartbeats 4000000
namespace Pu
open PySem PySem.Spec PyProof.Rows L2 LamX NdefX
open SrtO (lexB lexB_iff lexB_no)
def LkIn (n : Int) (ps : List Pr) : Prop := ∀ p ∈ ps, 0 ≤ p.1 ∧ p.1 < p.2 ∧ p.2 < n
theorem valid_nil (n : Int) : Valid n [] := ⟨(fun _ z => nomatch z), List.Pairwise.nil⟩
theorem valid_put {n : Int} {ps : List Pr} {l : Pr} (h : Valid n ps) (hl : 0 ≤ l.1 ∧ l.1 < l.2 ∧ l.2 < n) (hn : l ∉ ps) : Valid n (srt (ps ++ [l])) := by
  refine ⟨fun p hp => ?_, srt_asc (srt_srt _) ((srt_perm _).nodup_iff.mpr ?_)⟩
  · rcases List.mem_append.mp ((srt_perm _).mem_iff.mp hp) with z | z
    · exact h.lk p z
    · simp at z
      subst z
      exact hl
  · rw [List.nodup_append]
    exact ⟨asc_nodup h.asc, by simp, fun a ha b hb => by
      simp at hb
      subst hb
      exact fun z => hn (z ▸ ha)⟩
theorem valid_filter {n : Int} {ps : List Pr} (f : Pr → Bool) (h : Valid n ps) : Valid n (ps.filter f) := ⟨fun p hp => h.lk p (List.mem_filter.mp hp).1, h.asc.filter _⟩
theorem mem_rowOf {n : Int} {ps : List Pr} {x y : Int} (h : LkIn n ps) : y ∈ rowOf ps x ↔ (x, y) ∈ ps ∨ (y, x) ∈ ps := by
  unfold rowOf
  rw [List.mem_filterMap]
  constructor
  · rintro ⟨p, hp, e⟩
    split at e
    · rename_i h1
      cases e
      exact .inl (by rw [← h1]; exact hp)
    · split at e
      · rename_i h2
        cases e
        exact .inr (by rw [← h2]; exact hp)
      · cases e
  · rintro (hp | hp)
    · exact ⟨(x, y), hp, if_pos rfl⟩
    · refine ⟨(y, x), hp, ?_⟩
      have q := (h _ hp).2.1
      dsimp only at q ⊢
      rw [if_neg (by omega), if_pos rfl]
/-- a link, the lesser cell first -/
def lnk (a b : Int) : Pr := (if b < a then b else a, if b > a then b else a)
theorem lnk_comm (a b : Int) : lnk a b = lnk b a := by
  unfold lnk
  refine pr_ext ?_ ?_ <;> dsimp only <;> split <;> split <;> omega
theorem lnk_lt {a b : Int} (h : a ≠ b) : (lnk a b).1 < (lnk a b).2 := by
  unfold lnk
  dsimp only
  split <;> split <;> omega
theorem lnk_in {a b n : Int} (ha : 0 ≤ a ∧ a < n) (hb : 0 ≤ b ∧ b < n) (h : a ≠ b) : 0 ≤ (lnk a b).1 ∧ (lnk a b).1 < (lnk a b).2 ∧ (lnk a b).2 < n := by
  refine ⟨?_, lnk_lt h, ?_⟩ <;> unfold lnk <;> dsimp only <;> split <;> omega
theorem lnk_mem {n : Int} {ps : List Pr} {a b : Int} (h : LkIn n ps) (hab : a ≠ b) : lnk a b ∈ ps ↔ b ∈ rowOf ps a := by
  rw [mem_rowOf h]
  by_cases c : a < b
  · have e : lnk a b = (a, b) := by
      unfold lnk
      rw [if_neg (by omega), if_pos (by omega)]
    rw [e]
    refine ⟨.inl, fun z => z.elim id fun z => ?_⟩
    have := (h _ z).2.1
    dsimp only at this
    omega
  · have e : lnk a b = (b, a) := by
      unfold lnk
      rw [if_pos (by omega), if_neg (by omega)]
    rw [e]
    refine ⟨.inr, fun z => z.elim (fun z => ?_) id⟩
    have := (h _ z).2.1
    dsimp only at this
    omega
/-! ### a cell's near cells, from the list of links -/
theorem ints_uniq : ∀ {l m : List Int}, l.Pairwise (· ≤ ·) → m.Pairwise (· ≤ ·) → l.Perm m → l = m
  | [], m, _, _, p => (List.nil_perm.mp p).symm
  | x :: l, [], _, _, p => absurd p.length_eq (by simp)
  | x :: l, y :: m, h1, h2, p => by
    have a := List.pairwise_cons.mp h1
    have b := List.pairwise_cons.mp h2
    have xy : x = y := by
      have q1 : x ∈ y :: m := p.mem_iff.mp List.mem_cons_self
      have q2 : y ∈ x :: l := p.mem_iff.mpr List.mem_cons_self
      rcases List.mem_cons.mp q1 with z | z
      · exact z
      · rcases List.mem_cons.mp q2 with z2 | z2
        · exact z2.symm
        · exact Int.le_antisymm (a.1 _ z2) (b.1 _ z)
    subst xy
    rw [ints_uniq a.2 b.2 (List.perm_cons x |>.mp p)]
def nearL (ps : List Pr) (x : Int) : List Int := ((ps.filter fun p => decide (p.1 = x)).map (·.2)) ++ ((ps.filter fun p => decide (p.2 = x)).map (·.1))
theorem row_perm {n : Int} {x : Int} : ∀ {ps : List Pr}, LkIn n ps → (rowOf ps x).Perm (nearL ps x)
  | [], _ => List.Perm.nil
  | p :: r, h => by
    have hp := h p List.mem_cons_self
    have ih := row_perm (x := x) (ps := r) fun q m => h q (List.mem_cons_of_mem _ m)
    unfold rowOf nearL at *
    rw [List.filterMap_cons, List.filter_cons, List.filter_cons]
    by_cases a : p.1 = x
    · rw [if_pos a, if_pos (by simp [a]), if_neg (by simp; omega)]
      exact List.Perm.cons _ ih
    · by_cases b : p.2 = x
      · rw [if_neg a, if_pos b, if_neg (by simp [a]), if_pos (by simp [b])]
        exact (List.Perm.cons _ ih).trans List.perm_middle.symm
      · rw [if_neg a, if_neg b, if_neg (by simp [a]), if_neg (by simp [b])]
        exact ih
theorem row_asc {n x : Int} : ∀ {ps : List Pr}, Valid n ps → (rowOf ps x).Pairwise (· ≤ ·)
  | [], _ => List.Pairwise.nil
  | p :: r, h => by
    have hp := h.lk p List.mem_cons_self
    have ha := List.pairwise_cons.mp h.asc
    have ih := row_asc (x := x) (ps := r) ⟨fun q m => h.lk q (List.mem_cons_of_mem _ m), ha.2⟩
    have lo : ∀ y ∈ rowOf r x, ∃ q ∈ r, (q.1 = x ∧ y = q.2) ∨ (q.2 = x ∧ y = q.1) := fun y m => by
      unfold rowOf at m
      obtain ⟨q, hq, e⟩ := List.mem_filterMap.mp m
      refine ⟨q, hq, ?_⟩
      by_cases a : q.1 = x
      · rw [if_pos a] at e
        exact .inl ⟨a, (Option.some.inj e).symm⟩
      · rw [if_neg a] at e
        by_cases b : q.2 = x
        · rw [if_pos b] at e
          exact .inr ⟨b, (Option.some.inj e).symm⟩
        · rw [if_neg b] at e
          cases e
    unfold rowOf
    rw [List.filterMap_cons]
    have le : ∀ v : Int, ((p.1 = x ∧ v = p.2) ∨ (p.2 = x ∧ v = p.1)) → ∀ y ∈ rowOf r x, v ≤ y := fun v hv y m => by
      obtain ⟨q, hq, hy⟩ := lo y m
      have hl := lexB_iff.mp (ha.1 q hq)
      have hq2 := h.lk q (List.mem_cons_of_mem _ hq)
      omega
    by_cases a : p.1 = x
    · rw [if_pos a]
      exact List.pairwise_cons.mpr ⟨le _ (.inl ⟨a, rfl⟩), ih⟩
    · by_cases b : p.2 = x
      · rw [if_neg a, if_pos b]
        exact List.pairwise_cons.mpr ⟨le _ (.inr ⟨b, rfl⟩), ih⟩
      · rw [if_neg a, if_neg b]
        exact ih
theorem row_is {n x : Int} {ps : List Pr} {ns : List Int} (h : Valid n ps) (p : ns.Perm (nearL ps x)) (s : ns.Pairwise (· ≤ ·)) : ns = rowOf ps x :=
  ints_uniq s (row_asc h) (p.trans (row_perm h.lk).symm)
def deg (ps : List Pr) (x : Int) : Nat := (nearL ps x).length
theorem deg_count (ps : List Pr) (x : Int) : deg ps x = ps.countP (fun p => decide (p.1 = x)) + ps.countP (fun p => decide (p.2 = x)) := by
  unfold deg nearL
  rw [List.length_append, List.length_map, List.length_map, List.countP_eq_length_filter, List.countP_eq_length_filter]
theorem deg_perm {ps qs : List Pr} (h : ps.Perm qs) (x : Int) : deg ps x = deg qs x := by rw [deg_count, deg_count, h.countP_eq, h.countP_eq]
theorem deg_append (ps qs : List Pr) (x : Int) : deg (ps ++ qs) x = deg ps x + deg qs x := by
  rw [deg_count, deg_count, deg_count, List.countP_append, List.countP_append]
  omega
def Deg2 (n : Int) (ps : List Pr) : Prop := ∀ x, 0 ≤ x → x < n → 2 ≤ deg ps x
theorem nearL_mem {ps : List Pr} {x y : Int} (h : y ∈ nearL ps x) : (x, y) ∈ ps ∨ (y, x) ∈ ps := by
  unfold nearL at h
  rcases List.mem_append.mp h with z | z
  · obtain ⟨p, hp, rfl⟩ := List.mem_map.mp z
    obtain ⟨h1, h2⟩ := List.mem_filter.mp hp
    have : p.1 = x := by simpa using h2
    exact .inl (by rw [← this]; exact h1)
  · obtain ⟨p, hp, rfl⟩ := List.mem_map.mp z
    obtain ⟨h1, h2⟩ := List.mem_filter.mp hp
    have : p.2 = x := by simpa using h2
    exact .inr (by rw [← this]; exact h1)
theorem nearL_in {n : Int} {ps : List Pr} {x y : Int} (h : LkIn n ps) (m : y ∈ nearL ps x) : 0 ≤ y ∧ y < n ∧ y ≠ x := by
  rcases nearL_mem m with z | z <;> (have := h _ z; dsimp only at this; omega)
theorem nearL_nodup {n : Int} {ps : List Pr} {x : Int} (h : LkIn n ps) (nd : ps.Nodup) : (nearL ps x).Nodup := by
  unfold nearL
  rw [List.nodup_append]
  refine ⟨?_, ?_, fun a ha b hb e => ?_⟩
  · rw [List.nodup_iff_pairwise_ne, List.pairwise_map]
    refine (nd.filter _).imp_of_mem fun {p q} hp hq ne e => ne ?_
    have h1 : p.1 = x := by simpa using (List.mem_filter.mp hp).2
    have h2 : q.1 = x := by simpa using (List.mem_filter.mp hq).2
    exact pr_ext (h1.trans h2.symm) e
  · rw [List.nodup_iff_pairwise_ne, List.pairwise_map]
    refine (nd.filter _).imp_of_mem fun {p q} hp hq ne e => ne ?_
    have h1 : p.2 = x := by simpa using (List.mem_filter.mp hp).2
    have h2 : q.2 = x := by simpa using (List.mem_filter.mp hq).2
    exact pr_ext e (h1.trans h2.symm)
  · obtain ⟨p, hp, rfl⟩ := List.mem_map.mp ha
    obtain ⟨q, hq, rfl⟩ := List.mem_map.mp hb
    have h1 : p.1 = x := by simpa using (List.mem_filter.mp hp).2
    have h2 : q.2 = x := by simpa using (List.mem_filter.mp hq).2
    have h3 := h p (List.mem_filter.mp hp).1
    have h4 := h q (List.mem_filter.mp hq).1
    omega
theorem valid_srt {n : Int} {ps : List Pr} (h : LkIn n ps) (nd : ps.Nodup) : Valid n (srt ps) :=
  ⟨fun p m => h p ((srt_perm ps).mem_iff.mp m), srt_asc (srt_srt ps) ((srt_perm ps).nodup_iff.mpr nd)⟩
/-- one more cell, linked to x and z -/
theorem corner_ok {n : Int} {ps : List Pr} (h : Valid n ps) (d : Deg2 n ps) (n0 : 0 ≤ n) {x z : Int} (hx : 0 ≤ x ∧ x < n) (hz : 0 ≤ z ∧ z < n) (ne : x ≠ z) :
    Valid (n + 1) (srt (ps ++ [(x, n), (z, n)])) ∧ Deg2 (n + 1) (srt (ps ++ [(x, n), (z, n)])) := by
  refine ⟨valid_srt (fun p m => ?_) ?_, fun y y0 y1 => ?_⟩
  · rcases List.mem_append.mp m with m | m
    · have := h.lk p m; omega
    · simp only [List.mem_cons, List.not_mem_nil, or_false] at m
      rcases m with m | m <;> (subst m; dsimp only; omega)
  · rw [List.nodup_append]
    refine ⟨asc_nodup h.asc, ?_, fun a ha b hb e => ?_⟩
    · rw [List.nodup_cons]
      refine ⟨fun m => ?_, by simp⟩
      have := List.mem_singleton.mp m
      exact ne (congrArg Prod.fst this)
    · subst e
      have h1 := h.lk a ha
      simp only [List.mem_cons, List.not_mem_nil, or_false] at hb
      rcases hb with m | m <;> (subst m; dsimp only at h1; omega)
  · rw [deg_perm (srt_perm _), deg_append]
    by_cases e : y = n
    · subst e
      have : deg [(x, y), (z, y)] y = 2 := by
        rw [deg_count]
        have a1 : ¬ x = y := by omega
        have a2 : ¬ z = y := by omega
        simp [List.countP_cons, a1, a2]
      omega
    · have := d y y0 (by omega)
      omega
/-- one more link -/
theorem bridge_ok {n : Int} {ps : List Pr} (h : Valid n ps) (d : Deg2 n ps) {p : Pr} (hp : 0 ≤ p.1 ∧ p.1 < p.2 ∧ p.2 < n) (out : p ∉ ps) : Valid n (srt (ps ++ [p])) ∧ Deg2 n (srt (ps ++ [p])) := by
  refine ⟨valid_srt (fun q m => ?_) ?_, fun y y0 y1 => ?_⟩
  · rcases List.mem_append.mp m with m | m
    · exact h.lk q m
    · rw [List.mem_singleton.mp m]; exact hp
  · rw [List.nodup_append]
    refine ⟨asc_nodup h.asc, by simp, fun a ha b hb e => ?_⟩
    rw [List.mem_singleton.mp hb] at e
    exact out (e ▸ ha)
  · rw [deg_perm (srt_perm _), deg_append]
    have := d y y0 y1
    omega
theorem lnk_within {n a b : Int} (ha : 0 ≤ a ∧ a < n) (hb : 0 ≤ b ∧ b < n) (ne : a ≠ b) : 0 ≤ (lnk a b).1 ∧ (lnk a b).1 < (lnk a b).2 ∧ (lnk a b).2 < n := by
  unfold lnk
  dsimp only
  split <;> split <;> omega
theorem lnk_inj {a b c d : Int} (h : lnk a b = lnk c d) : (a = c ∧ b = d) ∨ (a = d ∧ b = c) := by
  unfold lnk at h
  have h1 := congrArg Prod.fst h
  have h2 := congrArg Prod.snd h
  dsimp only at h1 h2
  split at h1 <;> split at h1 <;> split at h2 <;> split at h2 <;> omega
/-- links of cells by other names -/
def ren (f : Int → Int) (ps : List Pr) : List Pr := ps.map fun p => lnk (f p.1) (f p.2)
def InjOn (n : Int) (f : Int → Int) : Prop := (∀ x, 0 ≤ x → x < n → 0 ≤ f x ∧ f x < n) ∧ ∀ x y, 0 ≤ x → x < n → 0 ≤ y → y < n → f x = f y → x = y
theorem ren_ok {n : Int} {f : Int → Int} {ps : List Pr} (hf : InjOn n f) (h : LkIn n ps) (nd : ps.Nodup) : LkIn n (ren f ps) ∧ (ren f ps).Nodup := by
  constructor
  · intro q m
    obtain ⟨p, hp, rfl⟩ := List.mem_map.mp m
    have := h p hp
    exact lnk_within (hf.1 _ (by omega) (by omega)) (hf.1 _ (by omega) (by omega)) (fun e => by
      have := hf.2 p.1 p.2 (by omega) (by omega) (by omega) (by omega) e
      omega)
  · unfold ren
    rw [List.nodup_iff_pairwise_ne, List.pairwise_map]
    refine nd.imp_of_mem fun {p q} hp hq ne e => ne ?_
    have h1 := h p hp
    have h2 := h q hq
    rcases lnk_inj e with ⟨a, b⟩ | ⟨a, b⟩
    · exact pr_ext (hf.2 _ _ (by omega) (by omega) (by omega) (by omega) a) (hf.2 _ _ (by omega) (by omega) (by omega) (by omega) b)
    · have a := hf.2 _ _ (by omega) (by omega) (by omega) (by omega) a
      have b := hf.2 _ _ (by omega) (by omega) (by omega) (by omega) b
      omega
/-- a row of all names -/
theorem names_inj {n : Int} {ns : List Int} (h : ns.Perm ((List.range n.toNat).map fun (i : Nat) => (i : Int))) : InjOn n fun x => ns.getD x.toNat 0 := by
  have len : ns.length = n.toNat := by rw [h.length_eq, List.length_map, List.length_range]
  have nd : ns.Nodup := h.nodup_iff.mpr (by
    rw [List.nodup_iff_pairwise_ne, List.pairwise_map]
    exact (List.nodup_range).imp fun {a b} ne e => ne (by omega))
  have get : ∀ x : Int, 0 ≤ x → x < n → ∃ h : x.toNat < ns.length, ns.getD x.toNat 0 = ns[x.toNat] := fun x h0 h1 => by
    have hl : x.toNat < ns.length := by omega
    exact ⟨hl, by rw [List.getD_eq_getElem?_getD, List.getElem?_eq_getElem hl] <;> rfl⟩
  refine ⟨fun x h0 h1 => ?_, fun x y x0 x1 y0 y1 e => ?_⟩
  · obtain ⟨hl, e⟩ := get x h0 h1
    dsimp only
    rw [e]
    have := h.mem_iff.mp (List.getElem_mem hl)
    obtain ⟨i, hi, e2⟩ := List.mem_map.mp this
    have := List.mem_range.mp hi
    omega
  · dsimp only at e
    obtain ⟨hx, ex⟩ := get x x0 x1
    obtain ⟨hy, ey⟩ := get y y0 y1
    rw [ex, ey] at e
    have := (List.getElem_inj nd).mp e
    omega
end Pu
end

-- PvB
section
set_option Elab.async false
set_option linter.all false
set_option maxRecDepth 100000
set_option maxHeartbeats 4000000
/-! PvB: things compared. -/
namespace Pu
open PySem PySem.Spec PyProof.Rows L2 LamX NdefX
/-- a thing without objects, at most k deep -/
structure Sh (k : Nat) (d : D) : Prop where
  lay : d.canLay0 = true
  dep : d.depth ≤ k
theorem Sh.ok {k : Nat} {d : D} (h : Sh k d) (hk : k ≤ 64 := by decide) : SeqAt.shaped d = true := by
  show (d.canLay0 && decide (d.depth ≤ 64)) = true
  rw [Bool.and_eq_true]
  exact ⟨h.lay, decide_eq_true (Nat.le_trans h.dep hk)⟩
theorem Sh.up {k m : Nat} {d : D} (h : Sh k d) (hk : k ≤ m := by decide) : Sh m d := ⟨h.lay, Nat.le_trans h.dep hk⟩
theorem sh_int {k : Nat} {i : Int} : Sh k (.int i) := ⟨rfl, by rw [PyData.depth]; omega⟩
theorem sh_bool {k : Nat} {i : Bool} : Sh k (.bool i) := ⟨rfl, by rw [PyData.depth]; omega⟩
theorem sh_none {k : Nat} : Sh k .none := ⟨rfl, by rw [PyData.depth]; omega⟩
theorem sh_str {k : Nat} {x : Str} (h : (PyData.str x).canLay0 = true) : Sh k (.str x) := ⟨h, by rw [PyData.depth]; omega⟩
theorem sh_all {k : Nat} : ∀ {ds : List D}, (∀ d ∈ ds, Sh k d) → PyData.canLayAll0 ds = true ∧ PyData.depthAll ds ≤ k
  | [], _ => ⟨rfl, by rw [PyData.depthAll]; omega⟩
  | d :: r, h => by
    obtain ⟨h1, h2⟩ := sh_all (ds := r) fun x hx => h x (List.mem_cons_of_mem _ hx)
    obtain ⟨a, b⟩ := h d List.mem_cons_self
    exact ⟨by rw [PyData.canLayAll0, a, h1]; rfl, by rw [PyData.depthAll]; exact Nat.max_le.mpr ⟨b, h2⟩⟩
theorem sh_list {k : Nat} {ds : List D} (h : ∀ d ∈ ds, Sh k d) : Sh (k + 1) (.list ds) := ⟨by rw [PyData.canLay0]; exact (sh_all h).1, by rw [PyData.depth]; have := (sh_all h).2; omega⟩
theorem sh_tup {k : Nat} {ds : List D} (h : ∀ d ∈ ds, Sh k d) : Sh (k + 1) (.tuple ds) := ⟨by rw [PyData.canLay0]; exact (sh_all h).1, by rw [PyData.depth]; have := (sh_all h).2; omega⟩
theorem sh_map {α : Type} {k : Nat} {f : α → D} (h : ∀ a, Sh k (f a)) {xs : List α} : ∀ d ∈ xs.map f, Sh k d := fun d m => by
  obtain ⟨a, _, rfl⟩ := List.mem_map.mp m
  exact h a
theorem sh_pr {k : Nat} {p : Pr} : Sh (k + 1) (prD p) := sh_tup fun d m => by
  rcases List.mem_cons.mp m with rfl | m
  · exact sh_int
  · rcases List.mem_cons.mp m with rfl | m
    · exact sh_int
    · cases m
theorem sh_ints {k : Nat} {ns : List Int} : Sh (k + 1) (.list (ns.map .int)) := sh_list (sh_map fun _ => sh_int)
theorem sh_intT {k : Nat} {ns : List Int} : Sh (k + 1) (.tuple (ns.map .int)) := sh_tup (sh_map fun _ => sh_int)
theorem sh_prs {k : Nat} {ps : List Pr} : Sh (k + 2) (.list (ps.map prD)) := sh_list (sh_map fun _ => sh_pr)
theorem sh_prT {k : Nat} {ps : List Pr} : Sh (k + 2) (.tuple (ps.map prD)) := sh_tup (sh_map fun _ => sh_pr)
theorem sh_l0 {k : Nat} : Sh (k + 1) (.list []) := sh_list fun _ m => nomatch m
theorem sh_l1 {k : Nat} {a : D} (h : Sh k a) : Sh (k + 1) (.list [a]) := sh_list fun d m => by rw [List.mem_singleton.mp m]; exact h
theorem sh_l2 {k : Nat} {a b : D} (h : Sh k a) (h2 : Sh k b) : Sh (k + 1) (.list [a, b]) := sh_list fun d m => by
  rcases List.mem_cons.mp m with rfl | m
  · exact h
  · rw [List.mem_singleton.mp m]; exact h2
theorem sh_t2 {k : Nat} {a b : D} (h : Sh k a) (h2 : Sh k b) : Sh (k + 1) (.tuple [a, b]) := sh_tup fun d m => by
  rcases List.mem_cons.mp m with rfl | m
  · exact h
  · rw [List.mem_singleton.mp m]; exact h2
theorem sh_l3 {k : Nat} {a b c : D} (h : Sh k a) (h2 : Sh k b) (h3 : Sh k c) : Sh (k + 1) (.list [a, b, c]) := sh_list fun d m => by
  rcases List.mem_cons.mp m with rfl | m
  · exact h
  · rcases List.mem_cons.mp m with rfl | m
    · exact h2
    · rw [List.mem_singleton.mp m]; exact h3
mutual
theorem eqv_refl : ∀ {d : D}, d.canLay0 = true → PyData.eqv d d = true
  | .none, _ => rfl
  | .bool _, _ => by simp [PyData.eqv]
  | .int _, _ => by simp [PyData.eqv]
  | .str _, _ => by simp [PyData.eqv]
  | .list xs, h => by rw [PyData.eqv]; exact eqvAll_refl (by rw [PyData.canLay0] at h; exact h)
  | .tuple xs, h => by rw [PyData.eqv]; exact eqvAll_refl (by rw [PyData.canLay0] at h; exact h)
  | .dict _, h => by rw [PyData.canLay0] at h; cases h
theorem eqvAll_refl : ∀ {ds : List D}, PyData.canLayAll0 ds = true → PyData.eqvAll ds ds = true
  | [], _ => rfl
  | d :: r, h => by
    rw [PyData.canLayAll0, Bool.and_eq_true] at h
    rw [PyData.eqvAll, eqv_refl h.1, eqvAll_refl h.2]
    rfl
end
theorem eqv_pr (p q : Pr) : PyData.eqv (prD p) (prD q) = decide (p = q) := by
  obtain ⟨a, b⟩ := p
  obtain ⟨c, d⟩ := q
  have e : PyData.eqv (prD (a, b)) (prD (c, d)) = ((a == c) && ((b == d) && true)) := by simp only [prD, PyData.eqv, PyData.eqvAll]
  rw [e]
  by_cases h1 : a = c
  · by_cases h2 : b = d
    · subst h1; subst h2; simp
    · simp [h2]
  · simp [h1]
theorem eqv_ints (ns ms : List Int) : PyData.eqvAll (ns.map .int) (ms.map .int) = decide (ns = ms) := by
  induction ns generalizing ms with
  | nil => cases ms <;> rfl
  | cons n r ih => cases ms with
    | nil => rfl
    | cons m t =>
      rw [List.map_cons, List.map_cons, PyData.eqvAll, ih, eqv_int]
      by_cases h1 : n = m <;> by_cases h2 : r = t <;> simp [h1, h2]
theorem any_pr {ps : List Pr} {p : Pr} : ((ps.map prD).any fun z => PyData.eqv z (prD p)) = decide (p ∈ ps) := by
  induction ps with
  | nil => rfl
  | cons m r ih =>
    rw [List.map_cons, List.any_cons, ih, eqv_pr]
    by_cases h : m = p
    · subst h; simp
    · have h' : ¬ p = m := fun z => h z.symm
      simp [h, h']
theorem dEq_self {k : Nat} {d : D} (h : Sh k d) (hk : k ≤ 64 := by decide) : dEq d d = some (.v (.bool true)) := by
  rw [dEq_ap, if_pos ⟨h.ok hk, h.ok hk⟩, eqv_refl h.lay]
theorem dNe_self {k : Nat} {d : D} (h : Sh k d) (hk : k ≤ 64 := by decide) : dNe d d = some (.v (.bool false)) := by
  rw [dNe_ap, if_pos ⟨h.ok hk, h.ok hk⟩, eqv_refl h.lay]; rfl
theorem dEq_pr {p q : Pr} : dEq (prD p) (prD q) = some (.v (.bool (decide (p = q)))) := by
  rw [dEq_ap, if_pos ⟨sh_pr.ok (k := 1), sh_pr.ok (k := 1)⟩, eqv_pr]
theorem dIn_pr {ps : List Pr} {p : Pr} : dIn (prD p) (.list (ps.map prD)) = some (.v (.bool (decide (p ∈ ps)))) := by
  show (if SeqAt.shaped (prD p) = true ∧ SeqAt.shaped (.list (ps.map prD)) = true then some (Rk.v (.bool ((ps.map prD).any fun z => PyData.eqv z (prD p)))) else none) = _
  rw [if_pos ⟨sh_pr.ok (k := 1), sh_prs.ok (k := 2)⟩, any_pr]
theorem dNin_pr {ps : List Pr} {p : Pr} : dNin (prD p) (.list (ps.map prD)) = some (.v (.bool (!decide (p ∈ ps)))) := by
  show (if SeqAt.shaped (prD p) = true ∧ SeqAt.shaped (.list (ps.map prD)) = true then some (Rk.v (.bool (!(ps.map prD).any fun z => PyData.eqv z (prD p)))) else none) = _
  rw [if_pos ⟨sh_pr.ok (k := 1), sh_prs.ok (k := 2)⟩, any_pr]
theorem dEq_ints {ns ms : List Int} : dEq (.list (ns.map .int)) (.list (ms.map .int)) = some (.v (.bool (decide (ns = ms)))) := by
  rw [dEq_ap, if_pos ⟨sh_ints.ok (k := 1), sh_ints.ok (k := 1)⟩, PyData.eqv, eqv_ints]
theorem dNe_ints {ns ms : List Int} : dNe (.list (ns.map .int)) (.list (ms.map .int)) = some (.v (.bool (!decide (ns = ms)))) := by
  rw [dNe_ap, if_pos ⟨sh_ints.ok (k := 1), sh_ints.ok (k := 1)⟩, PyData.eqv, eqv_ints]
theorem dEq_intT {ns ms : List Int} : dEq (.tuple (ns.map .int)) (.tuple (ms.map .int)) = some (.v (.bool (decide (ns = ms)))) := by
  rw [dEq_ap, if_pos ⟨sh_intT.ok (k := 1), sh_intT.ok (k := 1)⟩, PyData.eqv, eqv_ints]
theorem dNe_intT {ns ms : List Int} : dNe (.tuple (ns.map .int)) (.tuple (ms.map .int)) = some (.v (.bool (!decide (ns = ms)))) := by
  rw [dNe_ap, if_pos ⟨sh_intT.ok (k := 1), sh_intT.ok (k := 1)⟩, PyData.eqv, eqv_ints]
end Pu
end

-- PvW
section
set_option Elab.async false
set_option linter.all false
set_option maxRecDepth 100000
set_option maxHeartbeats 4000000
/-! PvW: webs, errors that are caught. -/
namespace Pu
open PySem PySem.Spec PyProof.Rows L2 LamX NdefX
section
variable {F : List S → Res Rk} {as : List S} {ρ : Env} {o : Out} {B : Env → Ctl}
theorem run0_eq (e : F as = fin (B ρ)) (h : (B ρ).sat (fun _ => Out.ok (.v .none) = o) (fun r _ => okR r = true ∧ Out.ok r = o) (fun _ => False) (fun _ => False) (fun c w _ => Out.ex c w = o)) : run0 F as = o :=
  run0_to (P := fun o' => o' = o) e h
/-! objects -/
variable {fo : Env → Res Rk} {fas : Env → Res (List S)} {Fm : List D → MR} {cl m f : Str} {d : D} {n x y : Int} {ps : List Pr} {c : Str} {w : D}
def methK0 (cl m : Str) (Fm : List D → MR) (fas : Env → Res (List S)) (o : D) (ρ1 : Env) : Res Rk := match o with
  | .dict ((.none, .str c2) :: fs) => if c2 = cl ∧ fldD fs m = none then (fas ρ1).bind fun as ρ2 => (match asV as with
      | some ds => (match Fm (o :: ds) with
        | .ok d => .ok (.v d) ρ2
        | _ => .no)
      | none => .no) else .no
  | _ => .no
def methK (cl m : Str) (Fm : List D → MR) (fas : Env → Res (List S)) (o : D) (ρ1 : Env) : Res Rk := match o with
  | .dict ((.none, .str c2) :: fs) => if c2 = cl ∧ fldD fs m = none then (fas ρ1).bind fun as ρ2 => (match asV as with
      | some ds => (match Fm (o :: ds) with
        | .ok d => .ok (.v d) ρ2
        | .ex cl w => .ex cl w ρ2
        | .no => .no)
      | none => .no) else .no
  | _ => .no
theorem qMeth0_ap : qMeth0 cl m Fm fo fas ρ = (qV fo ρ).bind (methK0 cl m Fm fas) := rfl
theorem qMeth_ap : qMeth cl m Fm fo fas ρ = (qV fo ρ).bind (methK cl m Fm fas) := rfl
theorem asV_nil : asV [] = some [] := rfl
theorem asV_cons : asV (.v d :: as) = (asV as).map (d :: ·) := rfl
def mrK (r : MR) (ρ : Env) : Res Rk := match r with | .ok d => .ok (.v d) ρ | .ex c w => .ex c w ρ | .no => .no
def mrK0 (r : MR) (ρ : Env) : Res Rk := match r with | .ok d => .ok (.v d) ρ | _ => .no
theorem mrK_ok : mrK (.ok d) ρ = .ok (.v d) ρ := rfl
theorem mrK_ex : mrK (.ex c w) ρ = .ex c w ρ := rfl
theorem mrK0_ok : mrK0 (.ok d) ρ = .ok (.v d) ρ := rfl
theorem web_no (m : Str) (h1 : "size" ≠ m) (h2 : "links" ≠ m) (h3 : "_rows" ≠ m) (n : Int) (ps : List Pr) : fldD [((.str "size" : D), (.int n : D)), (.str "links", .tuple (ps.map prD)), (.str "_rows", .tuple (rowsD n ps))] m = none := by
  simp only [fldD, if_neg h1, if_neg h2, if_neg h3]
theorem methK0_web (h1 : "size" ≠ m) (h2 : "links" ≠ m) (h3 : "_rows" ≠ m) : methK0 "Web" m Fm fas (webD n ps) ρ = (fas ρ).bind fun as ρ2 => match asV as with | some ds => mrK0 (Fm (webD n ps :: ds)) ρ2 | none => .no := by
  show (if ("Web" : Str) = "Web" ∧ fldD [((.str "size" : D), (.int n : D)), (.str "links", .tuple (ps.map prD)), (.str "_rows", .tuple (rowsD n ps))] m = none then _ else _) = _
  rw [if_pos ⟨rfl, web_no m h1 h2 h3 n ps⟩]
  rfl
theorem methK_web (h1 : "size" ≠ m) (h2 : "links" ≠ m) (h3 : "_rows" ≠ m) : methK "Web" m Fm fas (webD n ps) ρ = (fas ρ).bind fun as ρ2 => match asV as with | some ds => mrK (Fm (webD n ps :: ds)) ρ2 | none => .no := by
  show (if ("Web" : Str) = "Web" ∧ fldD [((.str "size" : D), (.int n : D)), (.str "links", .tuple (ps.map prD)), (.str "_rows", .tuple (rowsD n ps))] m = none then _ else _) = _
  rw [if_pos ⟨rfl, web_no m h1 h2 h3 n ps⟩]
  rfl
theorem methK0_near : methK0 "Web" "near" Fm fas (webD n ps) ρ = (fas ρ).bind fun as ρ2 => match asV as with | some ds => mrK0 (Fm (webD n ps :: ds)) ρ2 | none => .no := methK0_web (by decide +kernel) (by decide +kernel) (by decide +kernel)
theorem methK_near : methK "Web" "near" Fm fas (webD n ps) ρ = (fas ρ).bind fun as ρ2 => match asV as with | some ds => mrK (Fm (webD n ps :: ds)) ρ2 | none => .no := methK_web (by decide +kernel) (by decide +kernel) (by decide +kernel)
theorem methK0_linked : methK0 "Web" "linked" Fm fas (webD n ps) ρ = (fas ρ).bind fun as ρ2 => match asV as with | some ds => mrK0 (Fm (webD n ps :: ds)) ρ2 | none => .no := methK0_web (by decide +kernel) (by decide +kernel) (by decide +kernel)
theorem methK_linked : methK "Web" "linked" Fm fas (webD n ps) ρ = (fas ρ).bind fun as ρ2 => match asV as with | some ds => mrK (Fm (webD n ps :: ds)) ρ2 | none => .no := methK_web (by decide +kernel) (by decide +kernel) (by decide +kernel)
theorem M_near_in (h : 0 ≤ x ∧ x < n) : M_Web_near [webD n ps, .int x] = .ok (.tuple ((rowOf ps x).map .int)) := by rw [M_near_eq, if_pos h]
def fldK (cl f : Str) (d : D) (ρ' : Env) : Res Rk := match d with
  | .dict ((.none, .str c2) :: fs) => if c2 = cl then opt ((fldD fs f).map .v) ρ' else .no
  | _ => .no
theorem qFld_ap' {fa : Env → Res Rk} : qFld cl f fa ρ = (qB fa ρ).bind (fldK cl f) := rfl
theorem fldK_size : fldK "Web" "size" (webD n ps) ρ = .ok (.v (.int n)) ρ := by
  show (if ("Web" : Str) = "Web" then opt ((fldD [((.str "size" : D), (.int n : D)), (.str "links", .tuple (ps.map prD)), (.str "_rows", .tuple (rowsD n ps))] "size").map Rk.v) ρ else .no) = _
  rw [if_pos rfl, web_size]; rfl
theorem fldK_links : fldK "Web" "links" (webD n ps) ρ = .ok (.v (.tuple (ps.map prD))) ρ := by
  show (if ("Web" : Str) = "Web" then opt ((fldD [((.str "size" : D), (.int n : D)), (.str "links", .tuple (ps.map prD)), (.str "_rows", .tuple (rowsD n ps))] "links").map Rk.v) ρ else .no) = _
  rw [if_pos rfl]
  simp only [fldD, if_neg (show ¬ ("size" : Str) = "links" by decide +kernel), if_pos]
  rfl
theorem qMake0_ap : qMake0 Fm fas ρ = (fas ρ).bind fun as ρ2 => match asV as with | some ds => mrK0 (Fm ds) ρ2 | none => .no := by
  unfold qMake0
  congr 1
theorem qMake_ap : qMake Fm fas ρ = (fas ρ).bind fun as ρ2 => match asV as with | some ds => mrK (Fm ds) ρ2 | none => .no := by
  unfold qMake
  congr 1
/-! errors that are caught -/
variable {nx bk ct : Env → Prop} {rt : Rk → Env → Prop} {ex : Str → D → Env → Prop} {X : Ctl} {fb : Env → Ctl} {hs : List (Str × Bool × (Env → Ctl))} {i : Nat}
theorem sat_noEx : (noExC X).sat nx rt bk ct ex = X.sat nx rt bk ct (fun _ _ _ => False) := by cases X <;> rfl
theorem sat_try : (qTry i fb hs ρ).sat nx rt bk ct ex = (fb ρ).sat nx rt bk ct (fun c w ρ' => (handle i c w ρ' hs).sat nx rt bk ct ex) := by
  unfold qTry
  cases fb ρ <;> rfl
theorem sat_try0 : (qTry0 i fb hs ρ).sat nx rt bk ct ex = (fb ρ).sat nx rt bk ct (fun c w ρ' => (handle i c w ρ' hs).sat nx rt bk ct (fun _ _ _ => False)) := by
  unfold qTry0
  rw [sat_noEx, sat_try]
theorem handle_nil : handle i c w ρ [] = .ex c w ρ := rfl
theorem handle_t {h : Str} {g : Env → Ctl} : handle i c w ρ ((h, true, g) :: hs) = if isErr c = true then (if esub c h = true then (if free ρ i = true then goneC true i (g (ρ.set i (.exc c w))) else .no) else handle i c w ρ hs) else .no := rfl
theorem handle_f {h : Str} {g : Env → Ctl} : handle i c w ρ ((h, false, g) :: hs) = if isErr c = true then (if esub c h = true then goneC false i (g ρ) else handle i c w ρ hs) else .no := rfl
theorem ite_tf {p : Prop} [Decidable p] {q : Prop} : (if p then q else False) = (p ∧ q) := by by_cases h : p <;> simp [h]
theorem sat_gone_t : (goneC true i X).sat nx rt bk ct ex = X.sat (fun ρ => noExc (ρ.set i .un) = true ∧ nx (ρ.set i .un)) (fun r ρ => okR r = true ∧ noExc (ρ.set i .un) = true ∧ rt r (ρ.set i .un)) (fun ρ => noExc (ρ.set i .un) = true ∧ bk (ρ.set i .un)) (fun ρ => noExc (ρ.set i .un) = true ∧ ct (ρ.set i .un)) (fun _ _ _ => False) := by
  cases X with
  | nx ρ => show (if noExc _ = true then _ else _ : Ctl).sat _ _ _ _ _ = _; by_cases h : noExc (ρ.set i .un) = true <;> simp [h, Ctl.sat]
  | bk ρ => show (if noExc _ = true then _ else _ : Ctl).sat _ _ _ _ _ = _; by_cases h : noExc (ρ.set i .un) = true <;> simp [h, Ctl.sat]
  | ct ρ => show (if noExc _ = true then _ else _ : Ctl).sat _ _ _ _ _ = _; by_cases h : noExc (ρ.set i .un) = true <;> simp [h, Ctl.sat]
  | rt r ρ => show (if (okR r && noExc _) = true then _ else _ : Ctl).sat _ _ _ _ _ = _; by_cases h : noExc (ρ.set i .un) = true <;> cases ho : okR r <;> simp [h, ho, Ctl.sat]
  | ex c w ρ => rfl
  | no => rfl
theorem sat_gone_f : (goneC false i X).sat nx rt bk ct ex = X.sat (fun ρ => noExc ρ = true ∧ nx ρ) (fun r ρ => okR r = true ∧ noExc ρ = true ∧ rt r ρ) (fun ρ => noExc ρ = true ∧ bk ρ) (fun ρ => noExc ρ = true ∧ ct ρ) (fun _ _ _ => False) := by
  cases X with
  | nx ρ => show (if noExc _ = true then _ else _ : Ctl).sat _ _ _ _ _ = _; by_cases h : noExc ρ = true <;> simp [h, Ctl.sat]
  | bk ρ => show (if noExc _ = true then _ else _ : Ctl).sat _ _ _ _ _ = _; by_cases h : noExc ρ = true <;> simp [h, Ctl.sat]
  | ct ρ => show (if noExc _ = true then _ else _ : Ctl).sat _ _ _ _ _ = _; by_cases h : noExc ρ = true <;> simp [h, Ctl.sat]
  | rt r ρ => show (if (okR r && noExc _) = true then _ else _ : Ctl).sat _ _ _ _ _ = _; by_cases h : noExc ρ = true <;> cases ho : okR r <;> simp [h, ho, Ctl.sat]
  | ex c w ρ => rfl
  | no => rfl
def noEx1 : S → Bool | .exc _ _ => false | _ => true
theorem noExc_nil : noExc [] = true := rfl
theorem noExc_cons {s : S} {ρ : Env} : noExc (s :: ρ) = (noEx1 s && noExc ρ) := by
  unfold noExc; rw [List.all_cons]; cases s <;> rfl
theorem noEx1_v : noEx1 (.v d) = true := rfl
theorem noEx1_un : noEx1 .un = true := rfl
theorem noEx1_own {xs : List D} : noEx1 (.own xs) = true := rfl
theorem noEx1_io {xs : List D} : noEx1 (.io xs) = true := rfl
theorem qXf_ap : qXf cl i ρ = match ρ[i]? with | some (.exc c2 w) => if c2 = cl then .ok (.v w) ρ else .no | _ => .no := rfl
theorem dNotN_ap {d : D} : dNotN d .none = some (.v (.bool (!isNon d))) := rfl
theorem dIsN_ap {d : D} : dIsN d .none = some (.v (.bool (isNon d))) := rfl
theorem isNon_n : isNon .none = true := rfl
theorem isNon_i {i : Int} : isNon (.int i) = false := rfl
theorem isNon_t {xs : List D} : isNon (.tuple xs) = false := rfl
theorem isNon_l {xs : List D} : isNon (.list xs) = false := rfl
theorem isNon_b {b : Bool} : isNon (.bool b) = false := rfl
theorem isNon_s {x : Str} : isNon (.str x) = false := rfl
/-! a search: for x in xs: if p(x): return .. -/
theorem for_find {α : Type} (enc : α → D) (p : α → Bool) (mk : S → Env) (g : α → Rk × Env) {pg : D → Env → Option Env} {f : Env → Ctl} : ∀ (xs : List α) (t : S) (_ : freeS t = true) (_ : ∀ x ∈ xs, ∀ t, freeS t = true → stepF pg f (enc x) (mk t) = if p x = true then .rt (g x).1 (g x).2 else .nx (mk (.v (enc x)))),
    ∃ t', freeS t' = true ∧ forC pg f (xs.map enc) (mk t) = match xs.find? p with | some x => .rt (g x).1 (g x).2 | none => .nx (mk t')
  | [], t, ft, _ => ⟨t, ft, rfl⟩
  | x :: xs, t, ft, h => by
    have e := h x List.mem_cons_self t ft
    unfold stepF at e
    rw [List.map_cons, List.find?_cons]
    unfold forC
    cases y : pg (enc x) (mk t) with
    | none =>
      rw [y] at e
      by_cases z : p x = true
      · rw [if_pos z] at e; cases e
      · rw [if_neg z] at e; cases e
    | some ρ1 =>
      rw [y] at e
      dsimp only at e ⊢
      rw [e]
      by_cases z : p x = true
      · rw [if_pos z]
        simp only [z]
        exact ⟨t, ft, trivial⟩
      · rw [if_neg z]
        dsimp only
        obtain ⟨t', f', e'⟩ := for_find enc p mk g xs (.v (enc x)) rfl fun x m => h x (List.mem_cons_of_mem _ m)
        refine ⟨t', f', ?_⟩
        have z' : p x = false := by simpa using z
        simp only [z']
        exact e'
theorem sat_forN {pg : D → Env → Option Env} {f : Env → Ctl} : (forC pg f [] ρ).sat nx rt bk ct ex = nx ρ := rfl
theorem sat_forC {pg : D → Env → Option Env} {f : Env → Ctl} {ds : List D} : (forC pg f (d :: ds) ρ).sat nx rt bk ct ex = (stepF pg f d ρ).sat (fun ρ' => (forC pg f ds ρ').sat nx rt bk ct ex) rt nx (fun ρ' => (forC pg f ds ρ').sat nx rt bk ct ex) ex := by
  unfold stepF
  rw [forC]
  cases pg d ρ with
  | none => rfl
  | some ρ1 => dsimp only; cases f ρ1 <;> rfl
theorem dNe_nil {ns : List Int} : dNe (.list (ns.map .int)) (.list []) = some (.v (.bool (!decide (ns = [])))) := dNe_ints (ms := [])
theorem dEq_nil {ns : List Int} : dEq (.list (ns.map .int)) (.list []) = some (.v (.bool (decide (ns = [])))) := dEq_ints (ms := [])
theorem atI_all {f : Int → D} {n x : Int} (h : 0 ≤ x ∧ x < n) : atI ((AllN n).map f) x = some (f x) := by
  unfold atI ixN
  rw [if_pos h.1, if_pos (by rw [List.length_map, alln_len]; omega)]
  show ((AllN n).map f)[x.toNat]? = _
  rw [List.getElem?_map, alln_at (by omega)]
  show some (f ((x.toNat : Nat) : Int)) = _
  rw [show ((x.toNat : Nat) : Int) = x by omega]
end
end Pu
end

-- ZipX
section
set_option Elab.async false
set_option linter.all false
set_option maxRecDepth 100000
set_option maxHeartbeats 4000000
/-! ZipX: for x, y in zip(a, b), each of them a list or a tuple. -/
namespace L2
open PySem PySem.Spec PyProof.Rows
/-- at each turn a new pair of the i-th items -/
def ItzB (K : PySem.W.Frag) (t u : Bool) (a b : Addr) : It where
  go i H := ∃ (xs ys : List V) (x y : V), SqB K t H a xs ∧ SqB K u H b ys ∧ xs[i]? = some x ∧ ys[i]? = some y
  yld i H v H' := ∃ T x y, v = .ref T ∧ H T = none ∧ (∃ o, ZO o ∧ H' = upd H T (zT o [x, y])) ∧ (∀ xs, SqB K t H a xs → xs[i]? = some x) ∧ ∀ ys, SqB K u H b ys → ys[i]? = some y
  stop i H := ∃ xs ys : List V, SqB K t H a xs ∧ SqB K u H b ys ∧ i = min xs.length ys.length
structure ZpSt (t u : Bool) (N a b : Addr) (i : Nat) (h : Heap) : Prop where
  z : IsZip h (N + 4) (N + 2) (N + 3) .none
  ti : IsTupOf2 h (N + 2) (.ref N) (.ref (N + 1))
  tw : ∃ x y, IsTupOf2 h (N + 3) x y
  i1 : ItB t N a i h
  i2 : ItB u (N + 1) b i h
abbrev zpF (N : Addr) : List Addr := [N + 4, N + 2, N + 3, N, N + 1]
theorem zpF_mem {N c : Addr} : c ∈ zpF N ↔ c = N + 4 ∨ c = N + 2 ∨ c = N + 3 ∨ c = N ∨ c = N + 1 := by simp [zpF]
theorem turn_zipB {P : Program} {w : World} {K : PySem.W.Frag} {elts : List Expr} {kk : Nat} {tpos : Pos} {t u : Bool} {N a b : Addr} (la : a < N) (lb : b < N) :
    Turn P w K (.Tuple elts kk tpos) (ItzB K t u a b) (zpF N) (N + 4) (ZpSt t u N a b) where
  mem := List.mem_cons_self
  obj i h S c m := by
    rcases zpF_mem.mp m with rfl | rfl | rfl | rfl | rfl
    · exact ⟨_, S.z, fun _ y => nomatch y⟩
    · exact ⟨_, S.ti, fun _ y => nomatch y⟩
    · obtain ⟨_, _, e⟩ := S.tw
      exact ⟨_, e, fun _ y => nomatch y⟩
    · obtain ⟨o, e, d⟩ := itB_obj S.i1
      exact ⟨o, e, fun _ y => by rw [d] at y; cases y⟩
    · obtain ⟨o, e, d⟩ := itB_obj S.i2
      exact ⟨o, e, fun _ y => by rw [d] at y; cases y⟩
  keep i h h' S k := ⟨k _ (zpF_mem.mpr (.inl rfl)) _ S.z, k _ (zpF_mem.mpr (.inr (.inl rfl))) _ S.ti, S.tw.imp fun _ e => e.imp fun _ e => k _ (zpF_mem.mpr (.inr (.inr (.inl rfl)))) _ e,
    itB_at S.i1 fun o e => k _ (zpF_mem.mpr (.inr (.inr (.inr (.inl rfl))))) o e, itB_at S.i2 fun o e => k _ (zpF_mem.mpr (.inr (.inr (.inr (.inr rfl))))) o e⟩
  self A i s Q E S h := wpAny_pyIter_zip S.z h
  item := by
    intro X hP hw hK hc i pins s σ H E I own S go
    subst hP hw hK
    obtain ⟨xs, ys, x, y, q1, q2, hx, hy⟩ := go
    obtain ⟨is, r1, p1, l1⟩ := seqB I q1
    obtain ⟨js, r2, p2, l2⟩ := seqB I q2
    obtain ⟨m, hm, rm⟩ := r1.get hx
    obtain ⟨n, hn, rn⟩ := r2.get hy
    obtain ⟨u1, u2, tw⟩ := S.tw
    have sep := zip_sep2 (N := N) (fp1 := [a]) (fp2 := [b]) (by simpa using la) (by simpa using lb)
    have d1 := drawsB (prog := X.prog) (w := X.w) (A := X.A.in1) (I.ok.hd hc) t N a (Nat.ne_of_lt la) is.toArray
    have d2 := drawsB (prog := X.prog) (w := X.w) (A := X.A.in1) (I.ok.hd hc) u (N + 1) b (Nat.ne_of_lt (Nat.lt_succ_of_lt lb)) js.toArray
    have big : ∀ c ∈ zpF N, c < s.heap.objs.size := fun c m => by
      rcases zpF_mem.mp m with rfl | rfl | rfl | rfl | rfl
      · exact Heap.lt_size S.z
      · exact Heap.lt_size S.ti
      · exact Heap.lt_size tw
      · obtain ⟨_, e, _⟩ := itB_obj S.i1; exact Heap.lt_size e
      · obtain ⟨_, e, _⟩ := itB_obj S.i2; exact Heap.lt_size e
    refine wpAny_pyNext_zipD2_item sep d1 d2 S.z S.ti tw ⟨S.i1, p1⟩ ⟨S.i2, p2⟩ (by simpa using (List.getElem?_eq_some_iff.mp hm).1) (by simpa using (List.getElem?_eq_some_iff.mp hn).1) fun y1 y2 g tk e1 e2 zz tt s1 s2 here _ kept => ?_
    obtain rfl : m = y1 := Option.some.inj (hm.symm.trans (by simpa using e1))
    obtain rfl : n = y2 := Option.some.inj (hn.symm.trans (by simpa using e2))
    refine ⟨_, rfl, wpAny_letOwnedTupleGo_zip (s := { s with heap := g, toks := tk }) zz fun g2 zz2 same => ?_⟩
    have far := fun c (l : c < s.heap.objs.size) => Nat.ne_of_gt l
    have here2 := (same.2 _ (far _ (big _ (zpF_mem.mpr (.inl rfl))))).trans here
    have all : ∀ c o, c ∉ zpF N → s.heap.get? c = some o → g2.get? c = some o := fun c o nc e => by
      have nc' := fun z => nc (zpF_mem.mpr z)
      exact (same.2 c fun z => nc' (.inl z)).trans (kept c o (fun z => nc' (.inl z)) (fun z => nc' (.inr (.inr (.inl z)))) (fun z => nc' (.inr (.inr (.inr (.inl z))))) (fun z => nc' (.inr (.inr (.inr (.inr z))))) e)
    obtain ⟨ob, eb⟩ : ∃ ob : Obj, ob = { cls := .type "tuple", data := .seq #[m, n] } := ⟨_, rfl⟩
    rw [← eb] at here2
    have new : ObjOk X.prog X.w (upd H s.heap.objs.size (zT ob [x, y])) g2 s.heap.objs.size (zT ob [x, y]) := ⟨here2, by show 2 ≤ sizeLine; decide, [m, n], .cons rm (.cons rn .nil), _, here2, by rw [eb], 0, by rw [eb]⟩
    refine ⟨.ref s.heap.objs.size, _, I.turnedNew (t' := tk) all own (Nat.le_refl _) new, rfl, ⟨_, x, y, rfl, I.hok.fresh (Nat.le_refl _), ⟨ob, ⟨by rw [eb], by rw [eb]⟩, rfl⟩, fun zs q => injB I q q1 ▸ hx, fun zs q => injB I q q2 ▸ hy⟩, ⟨zz2, ?_, ⟨m, n, ?_⟩, ?_, ?_⟩, fun c cm => (upd_ne (Nat.ne_of_lt (big c cm))).trans (own c cm).1⟩
    · exact (same.2 _ sep.TIz).trans (kept _ _ sep.TIz sep.TITO sep.TIi1 sep.TIi2 S.ti)
    · exact (same.2 _ sep.TOz).trans tt
    · exact itB_at s1.1 fun o e => (same.2 _ sep.zi1.symm).trans e
    · exact itB_at s2.1 fun o e => (same.2 _ sep.zi2.symm).trans e
  done := by
    intro X hP hw hK hc i pins s σ H E I own S stop
    subst hP hw hK
    obtain ⟨xs, ys, q1, q2, rfl⟩ := stop
    obtain ⟨is, r1, p1, l1⟩ := seqB I q1
    obtain ⟨js, r2, p2, l2⟩ := seqB I q2
    have n1 : xs.length = is.toArray.size := by rw [List.size_toArray]; exact r1.length
    have n2 : ys.length = js.toArray.size := by rw [List.size_toArray]; exact r2.length
    obtain ⟨u1, u2, tw⟩ := S.tw
    have sep := zip_sep2 (N := N) (fp1 := [a]) (fp2 := [b]) (by simpa using la) (by simpa using lb)
    have d1 := drawsB (prog := X.prog) (w := X.w) (A := X.A.in1) (I.ok.hd hc) t N a (Nat.ne_of_lt la) is.toArray
    have d2 := drawsB (prog := X.prog) (w := X.w) (A := X.A.in1) (I.ok.hd hc) u (N + 1) b (Nat.ne_of_lt (Nat.lt_succ_of_lt lb)) js.toArray
    refine wpAny_pyNext_zipD2_end sep d1 d2 S.z S.ti tw ⟨S.i1, p1⟩ ⟨S.i2, p2⟩ (by omega) (by omega) (by omega) fun g tk kept => ?_
    refine ⟨rfl, I.turnedL (t' := tk) (fun c o nc e => ?_) own⟩
    have nc' := fun z => nc (zpF_mem.mpr z)
    exact kept c o (fun z => nc' (.inl z)) (fun z => nc' (.inr (.inr (.inl z)))) (fun z => nc' (.inr (.inr (.inr (.inl z))))) (fun z => nc' (.inr (.inr (.inr (.inr z))))) e
def iZipB (K : PySem.W.Frag) (t u : Bool) (ta : TA) : TI := fun σ H R => ta σ H fun vs H1 => ∃ a b xs ys, vs = [.ref a, .ref b] ∧ SqB K t H1 a xs ∧ SqB K u H1 b ys ∧ R (ItzB K t u a b) H1
theorem pi_zipB {X : Cx} (t u : Bool) {e e2 : Expr} {ta : TA} {p pos tpos : Pos} {elts : List Expr} {kk : Nat} (hg : Gl X "zip") (hm : X.mg "zip" = none) (ha : PA X [e, e2] ta)
    (hs : starEach [e, e2] X.env = (false, eval e X.env) :: starEach [e2] X.env := by rfl) (hpl : (backTo pos (starEach [e2] X.env)).any (·.1) = false := by rfl) :
    PI X (.Tuple elts kk tpos) (.Call (.Name "zip" p) [e, e2] [] pos) (iZipB X.K t u ta) := by
  refine ⟨fun pins s σ H R I h => ?_⟩
  refine Call_ (ld_blt I hg hm boot_zip (callWith_type1 (thn (ha.run pos pins s σ H _ I h) fun us s1 fin => ?_) hs hpl))
  obtain ⟨vs, H1, I1, r1, a, b, xs, ys, ex, q1, q2, q⟩ := fin
  subst ex
  match us, r1 with
  | [_, _], .cons rfl (.cons rfl .nil) =>
    obtain ⟨is, _, p1, l1⟩ := seqB I1 q1
    obtain ⟨js, _, p2, l2⟩ := seqB I1 q2
    refine zip_begins2 (beginsB t a is.toArray) (beginsB u b js.toArray) p1 p2 fun g zz ti tw g1 g2 _ kept => wpAny_pyIter_zip zz ?_
    refine ⟨_, zpF s1.heap.objs.size, _, _, H1, rfl, I1.kept (t' := s1.toks) kept, turn_zipB l1 l2, ⟨zz, ti, ⟨_, _, tw⟩, itB_new g1, itB_new g2⟩, fun c cm => ?_, q⟩
    have le : s1.heap.objs.size ≤ c := by
      rcases zpF_mem.mp cm with rfl | rfl | rfl | rfl | rfl
      all_goals first | exact Nat.le_refl _ | exact Nat.le_add_right _ _
    exact I1.fpOk le (I1.hok.fresh le)
theorem walk_zipB {K : PySem.W.Frag} {t u : Bool} {a b : Addr} {xs ys : List V} : Walk (ItzB K t u a b) (min xs.length ys.length) (fun H => SqB K t H a xs ∧ SqB K u H b ys) (YPairZ (fun i => xs[i]?) (fun i => ys[i]?)) where
  goes i _ lt q := ⟨xs, ys, xs[i]'(by omega), ys[i]'(by omega), q.1, q.2, List.getElem?_eq_getElem (by omega), List.getElem?_eq_getElem (by omega)⟩
  stops _ q := ⟨xs, ys, q.1, q.2, rfl⟩
  yields i H v H' _ q y := y.elim fun T z => z.elim fun x z => z.elim fun y ⟨h1, h2, h3, h4, h5⟩ => ⟨T, x, y, h1, h2, h3, h4 xs q.1, h5 ys q.2⟩
end L2
end

-- Kw
section
set_option Elab.async false
set_option linter.all false
set_option maxRecDepth 100000
set_option maxHeartbeats 4000000
/-! Kw: a def called by keywords alone. -/
namespace KwX
open PySem PySem.Spec PyProof.Rows L2
/-- the keywords' values, put in the parameters' order by g -/
theorem fun_kbn {K : PySem.W.Frag} {x qual : Str} {st : Stmt} {f : Addr} {fd : FuncData} (F : Fun K x qual st f fd) {ps ks : List Str} (g : List Value → List Value) (gV : List V → List V)
    (h : ∀ (kV doc pm : Value) (an : Option Addr) (cdv ct : Value) (ws : List Value), ws.length = ks.length → bindArgs (PySem.W.fnOf x qual (defArgs st) (defBody st) (defScope st) .none kV doc pm an cdv ct) ⟨[], ks.zip ws⟩ = pure (ps.zip (g ws)))
    (hv : ∀ {zs : List V} {ws : List Value}, Vals zs ws → Vals (gV zs) (g ws)) : KBn K fd ps 0 ks (fun _ ws => g ws) (fun _ zs => gV zs) := by
  obtain ⟨oc, od, kV, doc, pm, an, cdv, ct, osl, rfl, _, _⟩ := F.ex
  refine ⟨fun s us ws _ l1 l2 => ?_, fun _ r => hv r⟩
  cases us with
  | nil => exact .of_eq (h kV doc pm an cdv ct ws l2)
  | cons _ _ => cases l1
def tCallKw (m : Nat) (sp : Sp) (gV : List V → List V) (E : XK) (tk : TA) : TE := fun σ H Q => tk σ H fun zs H2 => zs.length = m ∧ sp (gV zs) H2 Q E
section
variable {X : Cx} {CX : CXT} {k : Nat} {f : Addr} {fd : FuncData} {ps ks : List Str} {sp : Sp} {E : XK} {x : Str} {p pos : Pos} {kws : List Keyword} {tk : TA} {g : List Value → List Value} {gV : List V → List V}
theorem pe_callKw (F : FnOk X.prog X.w X.K X.mg X.base CX k f fd ps sp) (hr : Room k X.A) (hg : Gl X x) (hm : X.mg x = some (.ref f)) (hk : PySem.W.keepIn X.K (.ref f) = true) (hb : KBn X.K fd ps 0 ks (fun _ ws => g ws) (fun _ zs => gV zs)) (hx : Passes CX X E)
    (args : PK X kws tk) (all : (backToKw pos (keywordEach kws X.env)).all (·.1.isSome) = true := by rfl) (names : (backToKw pos (keywordEach kws X.env)).filterMap (·.1) = ks := by rfl)
    (dbg : (x == ("__debug__" : Str)) = false := by decide) (plain : ((backTo pos (starEach [] X.env)).any (·.1) || (backToKw pos (keywordEach kws X.env)).any (·.1.isNone)) = false := by rfl) :
    PE X (.Call (.Name x p) [] kws pos) (tCallKw ks.length sp gV E tk) := by
  constructor
  intro pins s σ H Q I h
  refine wpAny_Call_Name_kw (ld_glob I hg hm ?_ dbg)
  refine PySem.W.callWith_KW0 (h₀ := X.base) I.ok.mod.kin hk all ?_ plain
  refine thn (args.run pos pins s σ H _ I h) ?_
  rintro ws s2 ⟨zs, H2, I2, rz, l2, q2⟩
  refine ⟨I2.kIn, ?_⟩
  rw [names]
  exact run_fnN (n := 0) (vs := []) F hr hb hx I2 .nil rz rfl l2 q2
end
end KwX
end

-- KwP
section
set_option Elab.async false
set_option linter.all false
set_option maxRecDepth 100000
set_option maxHeartbeats 4000000
/-! KwP: defs called with keywords, the values put in the parameters' order by a row of places. -/
namespace KwX
open PySem PySem.Spec PyProof.Rows L2
def pick {α : Type} (is : List Nat) (xs : List α) : List α := is.filterMap fun i => xs[i]?
theorem pick_vals {is : List Nat} {vs : List V} {us : List Value} (h : Vals vs us) : Vals (pick is vs) (pick is us) := by
  unfold pick
  induction is with
  | nil => exact .nil
  | cons i r ih =>
    rw [List.filterMap_cons, List.filterMap_cons]
    cases z : vs[i]? with
    | none =>
      have : us[i]? = none := by
        rw [List.getElem?_eq_none_iff] at z ⊢
        rw [← h.length]; exact z
      rw [this]
      exact ih
    | some v =>
      obtain ⟨u, e, r⟩ := h.get z
      rw [e]
      exact .cons r ih
theorem kb_pick {K : PySem.W.Frag} {x qual : Str} {st : Stmt} {f : Addr} {fd : FuncData} (F : Fun K x qual st f fd) {ps ks : List Str} (n : Nat) (is : List Nat)
    (h : ∀ (kV doc pm : Value) (an : Option Addr) (cdv ct : Value) (us ws : List Value), us.length = n → ws.length = ks.length → bindArgs (PySem.W.fnOf x qual (defArgs st) (defBody st) (defScope st) .none kV doc pm an cdv ct) ⟨us, ks.zip ws⟩ = pure (ps.zip (pick is (us ++ ws)))) :
    KBn K fd ps n ks (fun us ws => pick is (us ++ ws)) (fun vs zs => pick is (vs ++ zs)) := by
  obtain ⟨oc, od, kV, doc, pm, an, cdv, ct, osl, rfl, _, _⟩ := F.ex
  exact ⟨fun s us ws _ l1 l2 => .of_eq (h kV doc pm an cdv ct us ws l1 l2), fun r1 r2 => pick_vals (r1.append r2)⟩
def tCallKS (n m : Nat) (is : List Nat) (sp : Sp) (E : L2.St → XK) (t tk : TA) : TE := fun σ H Q => t σ H fun vs H1 => tk σ H1 fun zs H2 => vs.length = n ∧ zs.length = m ∧ sp (pick is (vs ++ zs)) H2 Q (E σ)
theorem atAll {X : Cx} {CX : CXT} {E : XK} (h : Passes CX X E) : ∀ σ, PassesAt CX X σ E := fun σ pins H s e s' I c => h pins σ H s e s' I c
section
variable {X : Cx} {CX : CXT} {k n : Nat} {f : Addr} {fd : FuncData} {ps ks : List Str} {sp : Sp} {E : L2.St → XK} {x : Str} {p pos : Pos} {kws : List Keyword} {t tk : TA} {is : List Nat} {e : Expr} {es : List Expr}
theorem run_fnKS {pins : List (Addr × Obj)} {σ : L2.St} {H : Hp} {s : Shared} {Q : VK} {us ws : List Value} {vs zs : List V} (F : FnOk X.prog X.w X.K X.mg X.base CX k f fd ps sp) (hr : Room k X.A) (hb : KBn X.K fd ps n ks (fun us ws => pick is (us ++ ws)) (fun vs zs => pick is (vs ++ zs)))
    (hx : PassesAt CX X σ (E σ)) (I : Inv X pins σ H s) (r : Vals vs us) (rz : Vals zs ws) (l1 : vs.length = n) (l2 : zs.length = ks.length) (h : sp (pick is (vs ++ zs)) H Q (E σ)) : wpAny (model X.prog X.w) X.A (call (.ref f) us (ks.zip ws)) (EP X pins σ Q) X.xe s := by
  have go := F.run X.A X.stack s H ⟨us, ks.zip ws⟩ (pick is (us ++ ws)) (pick is (vs ++ zs)) Q (E σ) hr I.env0 (hb.to s us ws I.kIn (r.length.symm.trans l1) (rz.length.symm.trans l2)) (hb.rel r rz) h
  refine wpAny_call (codeAny_mono go fun res s2 fin => ?_)
  match res, fin with
  | .error err, fin => exact hx pins H s err s2 I fin
  | .ok (.ret u), fin => exact I.after fin
theorem pe_callK0 (F : FnOk X.prog X.w X.K X.mg X.base CX k f fd ps sp) (hr : Room k X.A) (hg : Gl X x) (hm : X.mg x = some (.ref f)) (hk : PySem.W.keepIn X.K (.ref f) = true) (hb : KBn X.K fd ps 0 ks (fun us ws => pick is (us ++ ws)) (fun vs zs => pick is (vs ++ zs))) (hx : ∀ σ, PassesAt CX X σ (E σ))
    (args : PK X kws tk) (all : (backToKw pos (keywordEach kws X.env)).all (·.1.isSome) = true := by rfl) (names : (backToKw pos (keywordEach kws X.env)).filterMap (·.1) = ks := by rfl)
    (dbg : (x == ("__debug__" : Str)) = false := by decide) (plain : ((backTo pos (starEach [] X.env)).any (·.1) || (backToKw pos (keywordEach kws X.env)).any (·.1.isNone)) = false := by rfl) :
    PE X (.Call (.Name x p) [] kws pos) (tCallKS 0 ks.length is sp E tNil tk) := by
  constructor
  intro pins s σ H Q I h
  refine wpAny_Call_Name_kw (ld_glob I hg hm ?_ dbg)
  refine PySem.W.callWith_KW0 (h₀ := X.base) I.ok.mod.kin hk all ?_ plain
  refine thn (args.run pos pins s σ H _ I h) ?_
  rintro ws s2 ⟨zs, H2, I2, rz, l1, l2, q2⟩
  refine ⟨I2.kIn, ?_⟩
  rw [names]
  exact run_fnKS (vs := []) F hr hb (hx σ) I2 .nil rz rfl l2 q2
theorem pe_callK (F : FnOk X.prog X.w X.K X.mg X.base CX k f fd ps sp) (hr : Room k X.A) (hg : Gl X x) (hm : X.mg x = some (.ref f)) (hk : PySem.W.keepIn X.K (.ref f) = true) (hb : KBn X.K fd ps n ks (fun us ws => pick is (us ++ ws)) (fun vs zs => pick is (vs ++ zs))) (hx : ∀ σ, PassesAt CX X σ (E σ))
    (ha : PA X (e :: es) t) (args : PK X kws tk) (all : (backToKw pos (keywordEach kws X.env)).all (·.1.isSome) = true := by rfl) (names : (backToKw pos (keywordEach kws X.env)).filterMap (·.1) = ks := by rfl)
    (dbg : (x == ("__debug__" : Str)) = false := by decide) (first : starEach (e :: es) X.env = (false, eval e X.env) :: starEach es X.env := by rfl)
    (plain : ((backTo pos (starEach (e :: es) X.env)).any (·.1) || (backToKw pos (keywordEach kws X.env)).any (·.1.isNone)) = false := by rfl) :
    PE X (.Call (.Name x p) (e :: es) kws pos) (tCallKS n ks.length is sp E t tk) := by
  constructor
  intro pins s σ H Q I h
  refine wpAny_Call_Name_kw (ld_glob I hg hm ?_ dbg)
  refine PySem.W.callWith_KW (h₀ := X.base) I.ok.mod.kin hk all (thn (ha.run pos pins s σ H _ I h) ?_) plain first
  rintro us s1 ⟨vs, H1, I1, r, q⟩
  refine thn (args.run pos pins s1 σ H1 _ I1 q) ?_
  rintro ws s2 ⟨zs, H2, I2, rz, l1, l2, q2⟩
  refine ⟨I2.kIn, ?_⟩
  rw [names]
  exact run_fnKS F hr hb (hx σ) I2 r rz l1 l2 q2
end
end KwX
end

-- PuX
section
set_option Elab.async false
set_option linter.all false
set_option maxRecDepth 100000
set_option maxHeartbeats 4000000
/-! PuX: zip, extend, keywords. -/
namespace Pu
open PySem PySem.Spec PyProof.Rows L2 LamX NdefX BlkX
section
variable {g : Gx} {c : Cfg} {W : WX} {F F' : Addr → Prop} {ρ : Env} {σ : L2.St} {H H' : Hp}
/-! ### zip -/
def seqD : Bool → D → Option (List D)
  | true, .tuple xs => some xs
  | false, .list xs => some xs
  | _, _ => none
def qZp (t u : Bool) (gs : Env → Res (List D)) : Env → Res (List D) := fun ρ => (gs ρ).bind fun ds ρ' => match ds with
  | [d, e] => (match seqD t d, seqD u e with
    | some xs, some ys => .ok ((xs.zip ys).map fun p => .tuple [p.1, p.2]) ρ'
    | _, _ => .no)
  | _ => .no
theorem seqD_at {K : PySem.W.Frag} : ∀ {t : Bool} {v : V} {d : D} {xs : List D}, Rv c.g.cm F H v d → seqD t d = some xs → ∃ a vs, v = .ref a ∧ (∀ F2 H2, Le F H F2 H2 → SqB K t H2 a vs) ∧ Rvs c.g.cm F H vs xs
  | true, _, .tuple _, _, .tup h r, rfl => ⟨_, _, rfl, fun F2 H2 l => (l.tz h).sq, r⟩
  | false, _, .list _, _, .lst f h r, rfl => ⟨_, _, rfl, fun F2 H2 l => SqL.of (l.h _ _ f h), r⟩
theorem sZp {K : PySem.W.Frag} {t u : Bool} {ts : TA} {gs : Env → Res (List D)} (h : SimVs g W ts gs) : SimI g W (iZipB K t u ts) (qZp t u gs) := fun c hg F ρ σ H R e p =>
  h c hg F ρ σ H (fun vs H1 => ∃ a b xs ys, vs = [.ref a, .ref b] ∧ SqB K t H1 a xs ∧ SqB K u H1 b ys ∧ R (ItzB K t u a b) H1) e (p.bind fun F1 H1 ρ1 ds e1 l1 q vs hv => by
    match ds, vs, hv, q with
    | [d, e'], [v, w], .cons h1 (.cons h2 .nil), q =>
      dsimp only at q
      cases z1 : seqD t d with
      | none => rw [z1] at q; exact q.elim
      | some xs =>
        cases z2 : seqD u e' with
        | none => rw [z1, z2] at q; exact q.elim
        | some ys =>
          rw [z1, z2] at q
          obtain ⟨a, as, rfl, s1, r1⟩ := seqD_at (K := K) h1 z1
          obtain ⟨b, bs, rfl, s2, r2⟩ := seqD_at (K := K) h2 z2
          refine ⟨a, b, as, bs, rfl, s1 _ _ (Le.refl _ _), s2 _ _ (Le.refl _ _), q _ _ e1 (Le.refl _ _) _ (fun H => SqB K t H a as ∧ SqB K u H b bs) _ (by rw [List.length_map, List.length_zip, ← r1.length, ← r2.length]; exact walk_zipB) (fun F2 H2 l => ⟨s1 _ _ l, s2 _ _ l⟩) fun c2 F2 ρ2 σ2 H2 i x H3 e2 l hi y => ?_⟩
          obtain ⟨T, y1, y2, rfl, nT, ⟨ob, zo, rfl⟩, k1, k2⟩ := y
          obtain ⟨d1, hd1, rd1⟩ := r1.get k1
          obtain ⟨d2, hd2, rd2⟩ := r2.get k2
          have ln := Le.new (F := F2) (o := zT ob [y1, y2]) nT
          refine ⟨.tuple [d1, d2], ?_, e2.new nT, ln, fun b nb => upd_ne (fun z => nb (z ▸ nT)), .tup (TZ.new zo) (.cons ((rd1.mono l).mono ln) (.cons ((rd2.mono l).mono ln) .nil))⟩
          have zz : (xs.zip ys)[i]? = some (d1, d2) := List.getElem?_zip_eq_some.mpr ⟨hd1, hd2⟩
          rw [List.getElem?_map, zz]
          rfl
    | [], _, _, q => exact q.elim
    | [_], _, _, q => exact q.elim
    | _ :: _ :: _ :: _, _, _, q => exact q.elim)
theorem sEnT {K : PySem.W.Frag} {te : TE} {fe : Env → Res Rk} (h : SimE g W te fe) : SimI g W (iEnumT K (tCons te tNil)) (qEn true fe) := fun c hg F ρ σ H R e p =>
  sV h c hg F ρ σ H (fun x H1 => ∃ a xs, [x] = [V.ref a] ∧ SqT K H1 a xs ∧ R (IteT K a) H1) e (p.bind fun F1 H1 ρ1 d e1 l1 q v hv => by
  cases hv with
  | tup h r =>
    refine ⟨_, _, rfl, TZ.sq h, q _ _ e1 (Le.refl _ _) _ _ _ (by rw [List.length_mapIdx, ← r.length]; exact walk_enumT) (fun F2 H2 l => (l.tz h).sq) fun c2 F2 ρ2 σ2 H2 i x H3 e2 l hi y => ?_⟩
    obtain ⟨T, y1, y2, rfl, nT, ⟨ob, zo, rfl⟩, h1, h2⟩ := y
    cases h1
    obtain ⟨d, hd, rd⟩ := r.get h2
    have ln := Le.new (F := F2) (o := zT ob [.int (i : Nat), y2]) nT
    refine ⟨.tuple [.int (i : Nat), d], by rw [List.getElem?_mapIdx, hd] <;> rfl, e2.new nT, ln, fun b nb => upd_ne (fun z => nb (z ▸ nT)), .tup (TZ.new zo) (.cons (.int _) (.cons ((rd.mono l).mono ln) .nil))⟩
  | _ => exact q.elim)
/-! ### xs.extend(ys) -/
def qExt (i : Nat) (fa : Env → Res Rk) : Env → Res Rk := fun ρ => match lstAt ρ i with
  | none => .no
  | some _ => (qV fa ρ).bind fun d ρ1 => match lstAt ρ1 i, d with
    | some xs, .list ys => if xs.length + ys.length ≤ sizeLine then .ok (.v .none) (mutS ρ1 i (xs ++ ys)) else .no
    | _, _ => .no
theorem sExt {K : PySem.W.Frag} {i : Nat} {ta : TE} {fa : Env → Res Rk} (ha : SimE g W ta fa) : SimE g W (tBM K "list" rExtend (tVar i) (tCons ta tNil)) (qExt i fa) := fun c hg F ρ σ H Q e p => by
  unfold qExt at p
  split at p
  · exact p.elim
  · rename_i zs h0
    obtain ⟨a, vs, q1, q2, q3, q4, q5, q6⟩ := e.own_at (lstAt_get h0)
    refine ⟨.ref a, q1, .inl ⟨rfl, vs, SqL.of q2⟩, sV ha c hg F ρ σ H (fun x H1 => rExtend (.ref a) [x] H1 Q) e (p.bind fun F1 H1 ρ1 d e1 l1 q v hv => ?_)⟩
    cases z : lstAt ρ1 i with
    | none => rw [z] at q; exact q.elim
    | some xs =>
      rw [z] at q
      cases hv with
      | lst f h r =>
        dsimp only at q
        rename_i b us ys
        by_cases hl : xs.length + ys.length ≤ sizeLine
        · rw [if_pos hl] at q
          obtain ⟨b', ws, k1, k2, k3, k4, k5, k6⟩ := e1.own_at (lstAt_get z)
          rw [q1] at k1
          cases k1
          obtain ⟨e2, l2⟩ := e1.mut z q1 k2 (k3.append r)
          exact ⟨a, b, ws, us, rfl, rfl, k2, h, by rw [k3.length, r.length]; exact hl, q _ _ e2 l2 _ .non⟩
        · rw [if_neg hl] at q; exact q.elim
      | _ => exact q.elim
/-! ### keywords -/
open KwX (pick tCallKS)
def qCallK (Fn : List S → Res Rk) (is : List Nat) (ga gb : Env → Res (List D)) : Env → Res Rk := fun ρ => (ga ρ).bind fun ds ρ1 => (gb ρ1).bind fun es ρ2 => match Fn ((pick is (ds ++ es)).map S.v) with
  | .ok r _ => if okR r then .ok r ρ2 else .no
  | .ex cl w _ => .ex cl w ρ2
  | .no => .no
def qCallK0 (Fn : List S → Res Rk) (is : List Nat) (ga gb : Env → Res (List D)) : Env → Res Rk := fun ρ => (ga ρ).bind fun ds ρ1 => (gb ρ1).bind fun es ρ2 => match Fn ((pick is (ds ++ es)).map S.v) with
  | .ok r _ => if okR r then .ok r ρ2 else .no
  | _ => .no
theorem Rvs.pick {cm : Str → Option Addr} {is : List Nat} {vs : List V} {ds : List D} (h : Rvs cm F H vs ds) : Rvs cm F H (pick is vs) (pick is ds) := by
  unfold KwX.pick
  induction is with
  | nil => exact .nil
  | cons i r ih =>
    rw [List.filterMap_cons, List.filterMap_cons]
    cases z : vs[i]? with
    | none =>
      have : ds[i]? = none := by
        rw [List.getElem?_eq_none_iff] at z ⊢
        rw [← h.length]; exact z
      rw [this]
      exact ih
    | some v =>
      obtain ⟨d, e, rv⟩ := h.get z
      rw [e]
      exact .cons rv ih
theorem ar_vs {vs : List V} {ds : List D} (h : Rvs c.g.cm F H vs ds) : AR c F H ρ σ none (ds.map S.v) vs :=
  ⟨by rw [List.length_map, h.length], fun i s hs => by
    rw [List.getElem?_map] at hs
    obtain ⟨d, hd, rfl⟩ := Option.map_eq_some_iff.mp hs
    obtain ⟨v, hv, r⟩ := h.getD hd
    exact ⟨v, hv, .inl ⟨d, rfl, r, fun _ z => nomatch z⟩⟩, fun k j z => nomatch z⟩
theorem sCallK {g' : Gx} {Fn : List S → Res Rk} {n m : Nat} {is : List Nat} {ta tb : TA} {ga gb : Env → Res (List D)} {E : L2.St → XK} (hE : ∀ σ cls d H, W cls d σ H → E σ cls d H) (ha : SimVs g W ta ga) (hb : SimVs g W tb gb) (la : ∀ {ρ ds ρ'}, ga ρ = .ok ds ρ' → ds.length = n) (lb : ∀ {ρ ds ρ'}, gb ρ = .ok ds ρ' → ds.length = m) (hb' : g.base = g' := by rfl) :
    SimE g W (tCallKS n m is (spFn g' Fn) E ta tb) (qCallK Fn is ga gb) := fun c hg F ρ σ H Q e p => by
  subst hb'
  subst hg
  refine ha c rfl F ρ σ H _ e ?_
  unfold qCallK at p
  cases za : ga ρ with
  | no => rw [za] at p; exact p.elim
  | ex cl w ρ1 => rw [za] at p; exact p
  | ok ds ρ1 =>
    rw [za] at p
    dsimp only [Res.bind] at p
    intro F1 H1 e1 l1 vs hvs
    refine hb c rfl F1 ρ1 σ H1 _ e1 ?_
    have p := p.rebase l1
    cases zb : gb ρ1 with
    | no => rw [zb] at p; exact p.elim
    | ex cl w ρ2 => rw [zb] at p; exact p
    | ok es ρ2 =>
      rw [zb] at p
      dsimp only [Res.bind] at p
      intro F2 H2 e2 l2 ws hws
      have all := (hvs.mono l2).append hws
      refine ⟨by rw [hvs.length]; exact la za, by rw [hws.length]; exact lb zb, call_ok e2 (ar_vs (ρ := ρ2) (σ := σ) all.pick) ?_⟩
      have p := p.rebase l2
      cases z : Fn ((pick is (ds ++ es)).map S.v) with
      | no => rw [z] at p; exact p
      | ok r ρc =>
        rw [z] at p
        dsimp only at p
        by_cases ok : okR r = true
        · rw [if_pos ok] at p
          exact ⟨ok, ρ2, rfl, fun F' H' v e' l' rr => p F' H' e' l' v rr⟩
        · rw [if_neg ok] at p; exact p.elim
      | ex cl w ρc =>
        rw [z] at p
        exact ⟨ρ2, rfl, fun F' H' d C v e' l' k1 k2 k3 => hE _ _ _ _ (p F' H' d C v e' l' k1 k2 k3)⟩
theorem sCallK0 {g' : Gx} {Fn : List S → Res Rk} {n m : Nat} {is : List Nat} {ta tb : TA} {ga gb : Env → Res (List D)} {E : L2.St → XK} (ha : SimVs g W ta ga) (hb : SimVs g W tb gb) (la : ∀ {ρ ds ρ'}, ga ρ = .ok ds ρ' → ds.length = n) (lb : ∀ {ρ ds ρ'}, gb ρ = .ok ds ρ' → ds.length = m) (hb' : g.base = g' := by rfl) :
    SimE g W (tCallKS n m is (spFn g' Fn) E ta tb) (qCallK0 Fn is ga gb) := fun c hg F ρ σ H Q e p => by
  subst hb'
  subst hg
  refine ha c rfl F ρ σ H _ e ?_
  unfold qCallK0 at p
  cases za : ga ρ with
  | no => rw [za] at p; exact p.elim
  | ex cl w ρ1 => rw [za] at p; exact p
  | ok ds ρ1 =>
    rw [za] at p
    dsimp only [Res.bind] at p
    intro F1 H1 e1 l1 vs hvs
    refine hb c rfl F1 ρ1 σ H1 _ e1 ?_
    have p := p.rebase l1
    cases zb : gb ρ1 with
    | no => rw [zb] at p; exact p.elim
    | ex cl w ρ2 => rw [zb] at p; exact p
    | ok es ρ2 =>
      rw [zb] at p
      dsimp only [Res.bind] at p
      intro F2 H2 e2 l2 ws hws
      have all := (hvs.mono l2).append hws
      refine ⟨by rw [hvs.length]; exact la za, by rw [hws.length]; exact lb zb, call_ok e2 (ar_vs (ρ := ρ2) (σ := σ) all.pick) ?_⟩
      have p := p.rebase l2
      cases z : Fn ((pick is (ds ++ es)).map S.v) with
      | no => rw [z] at p; exact p
      | ok r ρc =>
        rw [z] at p
        dsimp only at p
        by_cases ok : okR r = true
        · rw [if_pos ok] at p
          exact ⟨ok, ρ2, rfl, fun F' H' v e' l' rr => p F' H' e' l' v rr⟩
        · rw [if_neg ok] at p; exact p.elim
      | ex cl w ρc => rw [z] at p; exact p.elim
theorem qNil_len {ρ ρ' : Env} {ds : List D} (h : qNil ρ = .ok ds ρ') : ds.length = 0 := by cases h; rfl
theorem qCons_len {q1 : Env → Res D} {gs : Env → Res (List D)} {n : Nat} (hs : ∀ {ρ ds ρ'}, gs ρ = .ok ds ρ' → ds.length = n) {ρ ρ' : Env} {ds : List D} (h : qCons q1 gs ρ = .ok ds ρ') : ds.length = n + 1 := by
  unfold qCons at h
  cases z : q1 ρ with
  | no => rw [z] at h; cases h
  | ex _ _ _ => rw [z] at h; cases h
  | ok d ρ1 =>
    rw [z] at h
    dsimp only [Res.bind] at h
    cases y : gs ρ1 with
    | no => rw [y] at h; cases h
    | ex _ _ _ => rw [y] at h; cases h
    | ok es ρ2 =>
      rw [y] at h
      dsimp only at h
      cases h
      rw [List.length_cons, hs y]
end
end Pu
end

-- PvX
section
set_option Elab.async false
set_option linter.all false
set_option maxRecDepth 100000
set_option maxHeartbeats 4000000
/-! PvX: zip, extend, keywords are run. -/
namespace Pu
open PySem PySem.Spec PyProof.Rows L2 LamX NdefX
open KwX (pick)
/-- a thing whose inside is not looked at -/
theorem opq {α : Type} (a : α) : ∃ z, z = a := ⟨a, rfl⟩
section
variable {Fn : List S → Res Rk} {is : List Nat} {ga gb gs : Env → Res (List D)} {ρ : Env} {t u : Bool} {i : Nat} {fa : Env → Res Rk} {xs : List D}
theorem p_callK : qCallK Fn is ga gb ρ = (ga ρ).bind fun ds ρ1 => (gb ρ1).bind fun es ρ2 => callK (run0 Fn ((pick is (ds ++ es)).map S.v)) ρ2 := by
  unfold qCallK run0
  congr 1; funext ds ρ1
  congr 1; funext es ρ2
  cases Fn ((pick is (ds ++ es)).map S.v) with
  | ok r ρc => dsimp only; cases okR r <;> rfl
  | ex c w ρc => rfl
  | no => rfl
theorem p_callK0 : qCallK0 Fn is ga gb ρ = (ga ρ).bind fun ds ρ1 => (gb ρ1).bind fun es ρ2 => callK0 (run0 Fn ((pick is (ds ++ es)).map S.v)) ρ2 := by
  unfold qCallK0 run0
  congr 1; funext ds ρ1
  congr 1; funext es ρ2
  cases Fn ((pick is (ds ++ es)).map S.v) with
  | ok r ρc => dsimp only; cases okR r <;> rfl
  | ex c w ρc => rfl
  | no => rfl
theorem pick_nil {α : Type} {xs : List α} : pick [] xs = [] := rfl
theorem pick_cons {α : Type} {i : Nat} {is : List Nat} {xs : List α} : pick (i :: is) xs = match xs[i]? with | some x => x :: pick is xs | none => pick is xs := by
  unfold pick
  rw [List.filterMap_cons]
  cases xs[i]? <;> rfl
theorem qZp_ap : qZp t u gs ρ = (gs ρ).bind fun ds ρ' => match ds with
  | [d, e] => (match seqD t d, seqD u e with
    | some xs, some ys => .ok ((xs.zip ys).map fun p => .tuple [p.1, p.2]) ρ'
    | _, _ => .no)
  | _ => .no := rfl
theorem seqD_l : seqD false (.list xs) = some xs := rfl
theorem seqD_t : seqD true (.tuple xs) = some xs := rfl
theorem qExt_ap : qExt i fa ρ = match lstAt ρ i with
  | none => .no
  | some _ => (qV fa ρ).bind fun d ρ1 => match lstAt ρ1 i, d with
    | some xs, .list ys => if xs.length + ys.length ≤ sizeLine then .ok (.v .none) (mutS ρ1 i (xs ++ ys)) else .no
    | _, _ => .no := rfl
/-! while, by a measure -/
variable {nx bk ct : Env → Prop} {rt : Rk → Env → Prop} {ex : Str → D → Env → Prop} {ft : Env → Res Bool} {fb : Env → Ctl}
theorem while_fuel (I : Nat → Env → Prop) (step : ∀ m ρ, I m ρ → (∃ ρ1, ft ρ = .ok false ρ1 ∧ nx ρ1) ∨ (∃ ρ1, ft ρ = .ok true ρ1 ∧ (fb ρ1).sat (fun ρ' => ∃ m', m' < m ∧ I m' ρ') rt nx (fun ρ' => ∃ m', m' < m ∧ I m' ρ') ex)) :
    ∀ m ρ, I m ρ → ∃ k, (whileC ft fb k ρ).sat nx rt bk ct ex := by
  intro m
  induction m using Nat.strongRecOn with
  | ind m ih =>
    intro ρ h
    rcases step m ρ h with ⟨ρ1, e, q⟩ | ⟨ρ1, e, q⟩
    · refine ⟨1, ?_⟩
      unfold whileC
      rw [e]
      exact q
    · cases z : fb ρ1 with
      | nx ρ2 =>
        rw [z] at q
        obtain ⟨m', l, h'⟩ := q
        obtain ⟨k, hk⟩ := ih m' l ρ2 h'
        refine ⟨k + 1, ?_⟩
        unfold whileC
        rw [e]
        simp only [Res.toC, if_true, z]
        exact hk
      | ct ρ2 =>
        rw [z] at q
        obtain ⟨m', l, h'⟩ := q
        obtain ⟨k, hk⟩ := ih m' l ρ2 h'
        refine ⟨k + 1, ?_⟩
        unfold whileC
        rw [e]
        simp only [Res.toC, if_true, z]
        exact hk
      | bk ρ2 =>
        rw [z] at q
        refine ⟨1, ?_⟩
        unfold whileC
        rw [e]
        simp only [Res.toC, if_true, z]
        exact q
      | rt r ρ2 =>
        rw [z] at q
        refine ⟨1, ?_⟩
        unfold whileC
        rw [e]
        simp only [Res.toC, if_true, z]
        exact q
      | ex c w ρ2 =>
        rw [z] at q
        refine ⟨1, ?_⟩
        unfold whileC
        rw [e]
        simp only [Res.toC, if_true, z]
        exact q
      | no => rw [z] at q; exact q.elim
theorem while_sat (I : Nat → Env → Prop) {m : Nat} (h : I m ρ) (step : ∀ m ρ, I m ρ → (∃ ρ1, ft ρ = .ok false ρ1 ∧ nx ρ1) ∨ (∃ ρ1, ft ρ = .ok true ρ1 ∧ (fb ρ1).sat (fun ρ' => ∃ m', m' < m ∧ I m' ρ') rt nx (fun ρ' => ∃ m', m' < m ∧ I m' ρ') ex)) :
    (qWhile ft fb ρ).sat nx rt bk ct ex := by
  obtain ⟨k, hk⟩ := while_fuel (bk := bk) (ct := ct) I step m ρ h
  rw [qWhile_eq k rfl (fun z => by rw [z] at hk; exact hk)]
  exact hk
theorem dRep_one {x : D} {k : Int} (h : 0 ≤ k ∧ k ≤ 100000) : dRep (.list [x]) (.int k) = some (.own (List.replicate k.toNat x)) := by
  show (if -(2 ^ 63) ≤ k ∧ k < 2 ^ 63 ∧ [x].length * k.toNat ≤ sizeLine then some (Rk.own ((List.replicate k.toNat [x]).flatten)) else none) = _
  rw [if_pos ⟨by omega, by omega, by rw [List.length_singleton, Nat.one_mul]; exact szk (by omega)⟩]
  have : ∀ j : Nat, (List.replicate j [x]).flatten = List.replicate j x := fun j => by
    induction j with
    | zero => rfl
    | succ j ih => rw [List.replicate_succ, List.flatten_cons, ih]; rfl
  rw [this]
theorem set_map_int {A : List Int} {k : Nat} {v : Int} : (A.map PyData.int).set k (.int v) = (A.set k v).map PyData.int := List.map_set.symm
theorem rep_map_int {j : Nat} {v : Int} : List.replicate j (PyData.int v) = (List.replicate j v).map PyData.int := List.map_replicate.symm
theorem set_op {op : D → D → Option Rk} {fa fb : Env → Res Rk} {k : D} {r2 r : Rk} {ys : List D} (ha : fa ρ = .ok (.own ys) ρ) (hb : fb ρ = .ok r2 ρ) (hc : bor r2 ρ = some k) (h : op (.list ys) k = some r) : qSet i (qOp op fa fb) ρ = optC (set1 i r ρ) := by
  unfold qSet
  rw [qOp_ap, qB2_ap, ha, b_ok, hb, b_ok]
  show ((((opt (some (PyData.list ys)) ρ).bind fun d ρ3 => (opt (bor r2 ρ3) ρ3).bind fun e ρ4 => Res.ok (d, e) ρ4).bind fun d ρ' => opt (op d.1 d.2) ρ').toC fun r ρ' => optC (set1 i r ρ')) = _
  rw [o_some, b_ok, hc, o_some, b_ok, b_ok]
  dsimp only
  rw [h]
  rfl
end
end Pu
end

-- NrF
section
set_option Elab.async false
set_option linter.all false
set_option maxRecDepth 100000
set_option maxHeartbeats 4000000
/-! NrF: near_rows as a plain function. -/
namespace R
noncomputable section
open PySem PySem.Spec PyProof.Rows Pu
def NrOk (n : Int) (ps : List (Int × Int)) : Prop := (∀ p ∈ ps, 0 ≤ p.1 ∧ p.1 < p.2 ∧ p.2 < n) ∧ ps.length ≤ 1000 ∧ 0 ≤ n ∧ n ≤ 1000
open Classical in
def F_near_rows : List S → Res Rk
  | [.v (.int n), .v (.tuple ds)] => match asPs ds with
    | some ps => if NrOk n ps then .ok (.v (.tuple (Pu.rowsD n ps))) [.v (.int n), .v (.tuple ds)] else .no
    | none => .no
  | _ => .no
theorem nr_is {n : Int} {ps : List (Int × Int)} (h : NrOk n ps) : run0 F_near_rows [.v (.int n), .v (.tuple (ps.map Pu.prD))] = .ok (.v (.tuple (Pu.rowsD n ps))) := by
  unfold run0 F_near_rows
  dsimp only
  rw [asPs_map]
  simp only [if_pos h, okR, if_true]
theorem nr_inv {as : List S} {x : Res Rk} (h : F_near_rows as = x) (hx : x ≠ .no) : ∃ n ps, as = [.v (.int n), .v (.tuple (ps.map Pu.prD))] ∧ NrOk n ps ∧ x = .ok (.v (.tuple (Pu.rowsD n ps))) as := by
  unfold F_near_rows at h
  split at h
  · rename_i n ds
    cases z : asPs ds with
    | none => rw [z] at h; exact (hx h.symm).elim
    | some ps =>
      rw [z] at h
      dsimp only at h
      by_cases c : NrOk n ps
      · rw [if_pos c] at h
        exact ⟨n, ps, by rw [asPs_eq z], c, h.symm⟩
      · rw [if_neg c] at h; exact (hx h.symm).elim
  · exact (hx h.symm).elim
end
end R
end

-- PvO
section
set_option Elab.async false
set_option linter.all false
set_option maxRecDepth 100000
set_option maxHeartbeats 4000000
/-! PvO: & and ^ of numbers. -/
namespace Pu
open PySem PySem.Spec PyProof.Rows L2 LamX NdefX
section
variable {g : Gx}
def dAnd : D → D → Option Rk
  | .int i, .int j => some (.v (.int (Builtin.bitAnd i j)))
  | _, _ => none
def dXor : D → D → Option Rk
  | .int i, .int j => some (.v (.int (Builtin.bitXor i j)))
  | _, _ => none
theorem oAnd_ : OpS g (rI0 fun i j => .int (Builtin.bitAnd i j)) dAnd := fun c hg F ρ σ H x y d1 d2 k Q e b1 b2 o q => by
  cases d1 <;> first | cases o | skip
  cases d2 <;> first | cases o | skip
  obtain rfl := b1.int
  obtain rfl := b2.int
  exact ⟨_, _, rfl, rfl, q _ _ e (Le.refl _ _) (.int _)⟩
theorem oXor_ : OpS g (rI0 fun i j => .int (Builtin.bitXor i j)) dXor := fun c hg F ρ σ H x y d1 d2 k Q e b1 b2 o q => by
  cases d1 <;> first | cases o | skip
  cases d2 <;> first | cases o | skip
  obtain rfl := b1.int
  obtain rfl := b2.int
  exact ⟨_, _, rfl, rfl, q _ _ e (Le.refl _ _) (.int _)⟩
end
end Pu
end

-- PvT
section
set_option Elab.async false
set_option linter.all false
set_option maxRecDepth 100000
set_option maxHeartbeats 4000000
/-! PvT: ranges that go down by one. -/
namespace Pu
open PySem PySem.Spec PyProof.Rows L2 LamX NdefX
section
variable {g : Gx} {W : WX}
def iotD (lo : Int) (n : Nat) : List PyData := (List.range n).map fun (i : Nat) => .int (lo + (i : Nat) * (-1))
theorem iotD_get {lo : Int} {n i : Nat} (h : i < n) : (iotD lo n)[i]? = some (.int (lo + (i : Nat) * (-1))) := by
  unfold iotD
  rw [List.getElem?_map, List.getElem?_range h] <;> rfl
theorem iotD_len {lo : Int} {n : Nat} : (iotD lo n).length = n := by unfold iotD; simp
def qR3 (gs : Env → Res (List D)) : Env → Res (List PyData) := fun ρ => (gs ρ).bind fun ds ρ' => match ds with
  | [.int i, .int j, .int c] => if c = -1 ∧ -(2 ^ 62) ≤ i ∧ i < 2 ^ 62 ∧ -(2 ^ 62) ≤ j ∧ j < 2 ^ 62 then .ok (iotD i (i - j).toNat) ρ' else .no
  | _ => .no
theorem qR3_ap {gs : Env → Res (List D)} {ρ : Env} : qR3 gs ρ = (gs ρ).bind fun ds ρ' => match ds with
  | [.int i, .int j, .int c] => if c = -1 ∧ -(2 ^ 62) ≤ i ∧ i < 2 ^ 62 ∧ -(2 ^ 62) ≤ j ∧ j < 2 ^ 62 then .ok (iotD i (i - j).toNat) ρ' else .no
  | _ => .no := rfl
theorem sR3 {ts : TA} {gs : Env → Res (List D)} (h : SimVs g W ts gs) : SimI g W (iRng3 ts) (qR3 gs) := fun c hg F ρ σ H R e p =>
  h c hg F ρ σ H _ e (p.bind fun F1 H1 ρ1 ds e1 l1 q vs hvs => by
    split at q
    · rename_i i j k
      cases hvs with
      | cons h1 r =>
        cases r with
        | cons h2 r =>
          cases r with
          | cons h3 r =>
            cases r
            cases h1
            cases h2
            cases h3
            split at q
            · rename_i z
              obtain ⟨rfl, z1, z2, z3, z4⟩ := z
              refine ⟨i, j, -1, _, rfl, RgC.neg z1 z2 z3 z4, q _ _ e1 (Le.refl _ _) _ _ _ (by rw [iotD_len]; exact walk_rangeC) (fun _ _ _ => trivial) fun c2 F2 ρ2 σ2 H2 k x H3 e2 l hi y => ?_⟩
              obtain ⟨rfl, rfl⟩ := y
              rw [iotD_len] at hi
              exact ⟨_, iotD_get hi, e2, Le.refl _ _, fun _ _ => rfl, .int _⟩
            · exact q.elim
    · exact q.elim)
end
end Pu
end

-- PvI
section
set_option Elab.async false
set_option linter.all false
set_option maxRecDepth 100000
set_option maxHeartbeats 4000000
/-! PvI: pairs in tuples, insert, *= and //=, tuple(reversed(..)), makings with keywords, what is never reached. -/
namespace Pu
open PySem PySem.Spec PyProof.Rows L2 LamX NdefX
def rTin (K : PySem.W.Frag) (neg : Bool) : R2 := fun x y H Q => ∃ d ds, Dp K H x d ∧ Dp K H y (.tuple ds) ∧ SeqAt.shaped d = true ∧ SeqAt.shaped (.tuple ds) = true ∧ Q (.bl (if neg then !ds.any fun z => PyData.eqv z d else ds.any fun z => PyData.eqv z d)) H
section
variable {X : Cx} (K : PySem.W.Frag)
theorem op_tin (hu : X.A.units + 65 < cLine) : OpR X (compareOp .In) (rTin X.K false) := by
  intro pins s σ H x y v u Q I rx ry h
  obtain ⟨d, ds, hd, he, sd, se, q⟩ := h
  obtain ⟨as, r1⟩ := Dp.reads I d x v hd rx
  obtain ⟨bs, r2⟩ := Dp.reads I (.tuple ds) y u he ry
  exact SeqAt.in_tuple_reads r2 r1 (SeqAt.canLay_of_shaped se) (SeqAt.canLay_of_shaped sd) (room_in_shaped sd hu) ⟨.bl _, H, I, rfl, q⟩
theorem op_tnin (hu : X.A.units + 65 < cLine) : OpR X (compareOp .NotIn) (rTin X.K true) := by
  intro pins s σ H x y v u Q I rx ry h
  obtain ⟨d, ds, hd, he, sd, se, q⟩ := h
  obtain ⟨as, r1⟩ := Dp.reads I d x v hd rx
  obtain ⟨bs, r2⟩ := Dp.reads I (.tuple ds) y u he ry
  exact SeqAt.notIn_tuple_reads r2 r1 (SeqAt.canLay_of_shaped se) (SeqAt.canLay_of_shaped sd) (room_in_shaped sd hu) ⟨.bl _, H, I, rfl, q⟩
theorem xtin (hu : X.A.units + 65 < cLine) (h : X.K = K := by rfl) : OpR X (compareOp .In) (rTin K false) := h ▸ op_tin hu
theorem xtnin (hu : X.A.units + 65 < cLine) (h : X.K = K := by rfl) : OpR X (compareOp .NotIn) (rTin K true) := h ▸ op_tnin hu
theorem ip_mul : PIp X .Mult (fun x y H Q => ∃ i j, x = .int i ∧ y = .int j ∧ CMul i j ∧ Q (.int (i * j)) H) := by
  intro pins s σ H x y v u Q I r1 r2 h
  obtain ⟨i, j, e1, e2, hc, q⟩ := h
  subst e1; subst e2
  obtain ⟨t, rfl⟩ := r1
  obtain ⟨t', rfl⟩ := r2
  exact imul_int ⟨.int _, H, I.tok _, ⟨_, rfl⟩, q⟩ hc.ok
theorem ip_fdiv : PIp X .FloorDiv (fun x y H Q => ∃ i j, x = .int i ∧ y = .int j ∧ CDivZ i j ∧ Q (.int (i / j)) H) := by
  intro pins s σ H x y v u Q I r1 r2 h
  obtain ⟨i, j, rfl, rfl, hc, q⟩ := h
  exact iop_fdivZ pins s σ H (.int i) (.int j) v u Q I r1 r2 ⟨i, j, rfl, rfl, hc, q⟩
/-- an expression that is never come to -/
theorem pe_dead {e : Expr} : PE X e (fun _ _ _ => False) := ⟨fun pins s σ H Q I h => h.elim⟩
theorem xTupRev {e : Expr} {te : TE} {p p2 pos pos2 : Pos} (hc : X.calm = true) (hg : Gl X "tuple") (hm : X.mg "tuple" = none) (hg2 : Gl X "reversed") (hm2 : X.mg "reversed" = none) (he : PE X e te)
    (hs : starEach [e] X.env = (false, eval e X.env) :: starEach [] X.env := by rfl) (h : X.K = K := by rfl) : PE X (.Call (.Name "tuple" p) [.Call (.Name "reversed" p2) [e] [] pos2] [] pos) (tTupRevZ K te) := by
  subst h
  exact pe_tupRevZ hc hg hm hg2 hm2 he hs
end
section
variable {g : Gx} {W : WX} {K : PySem.W.Frag}
def dTin (neg : Bool) : D → D → Option Rk
  | d, .tuple ds => if SeqAt.shaped d = true ∧ SeqAt.shaped (.tuple ds) = true then some (.v (.bool (if neg then !ds.any fun z => PyData.eqv z d else ds.any fun z => PyData.eqv z d))) else none
  | _, _ => none
theorem oTin {neg : Bool} : OpS g (rTin K neg) (dTin neg) := fun c hg F ρ σ H x y d1 d2 k Q e b1 b2 o q => by
  cases d2 <;> first | cases o | skip
  unfold dTin at o
  dsimp only at o
  split at o
  · rename_i z
    cases o
    exact ⟨_, _, b1.dp z.1, b2.dp z.2, z.1, z.2, q _ _ e (Le.refl _ _) (.bl _)⟩
  · cases o
def ipMul : D → D → Option D
  | .int i, .int j => if mulOk i j = true then some (.int (i * j)) else none
  | _, _ => none
def ipDiv : D → D → Option D
  | .int i, .int j => if divOk i j = true then some (.int (i / j)) else none
  | _, _ => none
theorem iMul : IpS g (fun x y H Q => ∃ i j, x = .int i ∧ y = .int j ∧ CMul i j ∧ Q (.int (i * j)) H) ipMul := fun c hg F H x y d1 d2 d Q b1 b2 o q => by
  cases d1 <;> first | cases o | skip
  cases d2 <;> first | cases o | skip
  obtain rfl := b1.int
  obtain rfl := b2.int
  dsimp only [ipMul] at o
  split at o
  · rename_i h
    cases o
    exact ⟨_, _, rfl, rfl, (show ((-(2 ^ 64) < _ ∧ _ < 2 ^ 64) ∨ (-(2 ^ 64) < _ ∧ _ < 2 ^ 64)) from of_decide_eq_true h), q _ (.int _)⟩
  · cases o
theorem iDiv : IpS g (fun x y H Q => ∃ i j, x = .int i ∧ y = .int j ∧ CDivZ i j ∧ Q (.int (i / j)) H) ipDiv := fun c hg F H x y d1 d2 d Q b1 b2 o q => by
  cases d1 <;> first | cases o | skip
  cases d2 <;> first | cases o | skip
  obtain rfl := b1.int
  obtain rfl := b2.int
  dsimp only [ipDiv] at o
  split at o
  · rename_i h
    cases o
    exact ⟨_, _, rfl, rfl, (show (0 < _ ∧ _ < 10000000000000000000000000000000000000000) from of_decide_eq_true h), q _ (.int _)⟩
  · cases o
def qDead {α : Type} : Env → Res α := fun _ => .no
theorem sDead : SimE g W (fun _ _ _ => False) qDead := fun c hg F ρ σ H Q e p => p
/-- xs.insert(i, e) -/
def rIns : V → List V → Hp → VK → Prop := fun x vs H Q => ∃ (l : Addr) (xs : List V) (i : Int) (y : V), x = .ref l ∧ vs = [.int i, y] ∧ H l = some (.lst xs) ∧ xs.length < sizeLine ∧ 0 ≤ i ∧ i < 2 ^ 63 ∧ Q .non (upd H l (.lst (xs.take i.toNat ++ [y] ++ xs.drop i.toNat)))
theorem mt_ins {X : Cx} : MtR X "list.insert" rIns := mt_insert
def qIns (i : Nat) (gs : Env → Res (List D)) : Env → Res Rk := fun ρ => match lstAt ρ i with
  | none => .no
  | some _ => (gs ρ).bind fun ds ρ1 => match lstAt ρ1 i, ds with
    | some xs, [.int k, d] => if xs.length < sizeLine ∧ 0 ≤ k ∧ k < 2 ^ 63 then .ok (.v .none) (mutS ρ1 i (xs.take k.toNat ++ [d] ++ xs.drop k.toNat)) else .no
    | _, _ => .no
theorem qIns_ap {i : Nat} {gs : Env → Res (List D)} {ρ : Env} : qIns i gs ρ = match lstAt ρ i with
  | none => .no
  | some _ => (gs ρ).bind fun ds ρ1 => match lstAt ρ1 i, ds with
    | some xs, [.int k, d] => if xs.length < sizeLine ∧ 0 ≤ k ∧ k < 2 ^ 63 then .ok (.v .none) (mutS ρ1 i (xs.take k.toNat ++ [d] ++ xs.drop k.toNat)) else .no
    | _, _ => .no := rfl
theorem sIns {i : Nat} {ts : TA} {gs : Env → Res (List D)} (ha : SimVs g W ts gs) : SimE g W (tBM K "list" rIns (tVar i) ts) (qIns i gs) := fun c hg F ρ σ H Q e p => by
  unfold qIns at p
  split at p
  · exact p.elim
  · rename_i zs h0
    obtain ⟨a, vs, q1, q2, q3, q4, q5, q6⟩ := e.own_at (lstAt_get h0)
    refine ⟨.ref a, q1, .inl ⟨rfl, vs, SqL.of q2⟩, ha c hg F ρ σ H (fun xs H1 => rIns (.ref a) xs H1 Q) e (p.bind fun F1 H1 ρ1 ds e1 l1 q us hus => ?_)⟩
    cases z : lstAt ρ1 i with
    | none => rw [z] at q; exact q.elim
    | some xs =>
      rw [z] at q
      split at q
      · rename_i xs' k d hx
        cases hx
        cases hus with
        | cons hk r =>
          cases r with
          | @cons vd _ _ _ hd r =>
            cases r
            cases hk
            by_cases hl : xs.length < sizeLine ∧ 0 ≤ k ∧ k < 2 ^ 63
            · rw [if_pos hl] at q
              obtain ⟨b, ws, k1, k2, k3, k4, k5, k6⟩ := e1.own_at (lstAt_get z)
              rw [q1] at k1
              cases k1
              obtain ⟨e2, l2⟩ := e1.mut z q1 k2 (((k3.take k.toNat).append (.cons hd .nil)).append (k3.drop k.toNat))
              exact ⟨a, ws, k, vd, rfl, rfl, k2, by rw [k3.length]; exact hl.1, hl.2.1, hl.2.2, q _ _ e2 l2 _ .non⟩
            · rw [if_neg hl] at q; exact q.elim
      · exact q.elim
/-- tuple(reversed(e)) -/
def qTupRev (fa : Env → Res Rk) : Env → Res Rk := fun ρ => (qB fa ρ).bind fun d ρ' => match d with
  | .list xs => .ok (.v (.tuple xs.reverse)) ρ'
  | _ => .no
theorem qTupRev_ap {fa : Env → Res Rk} {ρ : Env} : qTupRev fa ρ = (qB fa ρ).bind fun d ρ' => match d with
  | .list xs => .ok (.v (.tuple xs.reverse)) ρ'
  | _ => .no := rfl
theorem Rvs.reverse {cm : Str → Option Addr} {F : Addr → Prop} {H : Hp} {vs : List V} {ds : List D} (h : Rvs cm F H vs ds) : Rvs cm F H vs.reverse ds.reverse := by
  induction ds generalizing vs with
  | nil => cases h; exact .nil
  | cons d r ih =>
    cases h with
    | cons h1 h2 =>
      rw [List.reverse_cons, List.reverse_cons]
      exact (ih h2).append (.cons h1 .nil)
theorem sTupRev {ta : TE} {fa : Env → Res Rk} (ha : SimE g W ta fa) : SimE g W (tTupRevZ K ta) (qTupRev fa) := fun c hg F ρ σ H Q e p =>
  sB ha c hg F ρ σ H _ e (p.bind fun F1 H1 ρ1 d e1 l1 q v hv => by
    cases d with
    | list xs =>
      have k : ∃ a vs, v = .ref a ∧ H1 a = some (.lst vs) ∧ Rvs c.g.cm F1 H1 vs xs := by
        rcases hv with hv | ⟨a, vs, ds, rfl, z, h1, h2⟩
        · cases hv with
          | lst _ h1 h2 => exact ⟨_, _, rfl, h1, h2⟩
        · cases z; exact ⟨a, vs, rfl, h1, h2⟩
      obtain ⟨a, vs, rfl, h1, h2⟩ := k
      exact ⟨a, vs, rfl, SqL.of h1, fun p o hp zo => q _ _ (e1.new hp) (Le.new hp) _ (.tup (TZ.new zo) (h2.reverse.mono (Le.new hp)))⟩
    | _ => exact q.elim)
/-! ### a making with keywords -/
def qMakeK0 (Fm : List D → MR) (ga gb : Env → Res (List D)) : Env → Res Rk := fun ρ => (ga ρ).bind fun ds ρ1 => (gb ρ1).bind fun es ρ2 => match Fm (ds ++ es) with
  | .ok d => .ok (.v d) ρ2
  | _ => .no
def qMakeK (Fm : List D → MR) (ga gb : Env → Res (List D)) : Env → Res Rk := fun ρ => (ga ρ).bind fun ds ρ1 => (gb ρ1).bind fun es ρ2 => match Fm (ds ++ es) with
  | .ok d => .ok (.v d) ρ2
  | .ex cl w => .ex cl w ρ2
  | .no => .no
theorem qMakeK0_ap {Fm : List D → MR} {ga gb : Env → Res (List D)} {ρ : Env} : qMakeK0 Fm ga gb ρ = (ga ρ).bind fun ds ρ1 => (gb ρ1).bind fun es ρ2 => match Fm (ds ++ es) with
  | .ok d => .ok (.v d) ρ2
  | _ => .no := rfl
theorem qMakeK_ap {Fm : List D → MR} {ga gb : Env → Res (List D)} {ρ : Env} : qMakeK Fm ga gb ρ = (ga ρ).bind fun ds ρ1 => (gb ρ1).bind fun es ρ2 => match Fm (ds ++ es) with
  | .ok d => .ok (.v d) ρ2
  | .ex cl w => .ex cl w ρ2
  | .no => .no := rfl
theorem sMakeK0 {sp : Sp} {Fm : List D → MR} {C : Addr} {n m : Nat} {E : XK} {ta tb : TA} {ga gb : Env → Res (List D)} {gV : List V → List V → List V} (hg2 : ∀ x vs zs, vs.length = n → zs.length = m → gV (x :: vs) zs = x :: (vs ++ zs)) (hm : MakeOk g C sp Fm) (ha : SimVs g W ta ga) (hb : SimVs g W tb gb)
    (la : ∀ {ρ ds ρ'}, ga ρ = .ok ds ρ' → ds.length = n) (lb : ∀ {ρ ds ρ'}, gb ρ = .ok ds ρ' → ds.length = m) : SimE g W (tMakeK C n m sp gV E ta tb) (qMakeK0 Fm ga gb) := fun c hg F ρ σ H Q e p => by
  refine ha c hg F ρ σ H _ e ?_
  unfold qMakeK0 at p
  cases za : ga ρ with
  | no => rw [za] at p; exact p.elim
  | ex cl w ρ1 => rw [za] at p; exact p
  | ok ds ρ1 =>
    rw [za] at p
    dsimp only [Res.bind] at p
    intro F1 H1 e1 l1 vs hvs
    refine hb c hg F1 ρ1 σ H1 _ e1 ?_
    have p := p.rebase l1
    cases zb : gb ρ1 with
    | no => rw [zb] at p; exact p.elim
    | ex cl w ρ2 => rw [zb] at p; exact p
    | ok es ρ2 =>
      rw [zb] at p
      dsimp only [Res.bind] at p
      intro F2 H2 e2 l2 ws hws
      have all := (hvs.mono l2).append hws
      refine ⟨by rw [hvs.length]; exact la za, by rw [hws.length]; exact lb zb, fun x dx nx nd ne => ?_⟩
      rw [hg2 (.ref x) vs ws (by rw [hvs.length]; exact la za) (by rw [hws.length]; exact lb zb)]
      refine hm c hg F2 ρ2 σ H2 x dx _ _ Q E e2 nx nd ne all ?_
      have p := p.rebase l2
      cases z : Fm (ds ++ es) with
      | ok d => rw [z] at p; exact fun H' e' l' rv => p F2 H' e' l' _ rv
      | ex cl w => rw [z] at p; exact p.elim
      | no => rw [z] at p; exact p.elim
theorem sMakeKE {sp : Sp} {Fm : List D → MR} {C : Addr} {n m : Nat} {E : XK} {ta tb : TA} {ga gb : Env → Res (List D)} {gV : List V → List V → List V} (hg2 : ∀ x vs zs, vs.length = n → zs.length = m → gV (x :: vs) zs = x :: (vs ++ zs)) (hm : MakeOk g C sp Fm) (hW : ∀ σ cls d H, W cls d σ H → E cls d H) (ha : SimVs g W ta ga) (hb : SimVs g W tb gb)
    (la : ∀ {ρ ds ρ'}, ga ρ = .ok ds ρ' → ds.length = n) (lb : ∀ {ρ ds ρ'}, gb ρ = .ok ds ρ' → ds.length = m) : SimE g W (tMakeK C n m sp gV E ta tb) (qMakeK Fm ga gb) := fun c hg F ρ σ H Q e p => by
  refine ha c hg F ρ σ H _ e ?_
  unfold qMakeK at p
  cases za : ga ρ with
  | no => rw [za] at p; exact p.elim
  | ex cl w ρ1 => rw [za] at p; exact p
  | ok ds ρ1 =>
    rw [za] at p
    dsimp only [Res.bind] at p
    intro F1 H1 e1 l1 vs hvs
    refine hb c hg F1 ρ1 σ H1 _ e1 ?_
    have p := p.rebase l1
    cases zb : gb ρ1 with
    | no => rw [zb] at p; exact p.elim
    | ex cl w ρ2 => rw [zb] at p; exact p
    | ok es ρ2 =>
      rw [zb] at p
      dsimp only [Res.bind] at p
      intro F2 H2 e2 l2 ws hws
      have all := (hvs.mono l2).append hws
      refine ⟨by rw [hvs.length]; exact la za, by rw [hws.length]; exact lb zb, fun x dx nx nd ne => ?_⟩
      rw [hg2 (.ref x) vs ws (by rw [hvs.length]; exact la za) (by rw [hws.length]; exact lb zb)]
      refine hm c hg F2 ρ2 σ H2 x dx _ _ Q E e2 nx nd ne all ?_
      have p := p.rebase l2
      cases z : Fm (ds ++ es) with
      | ok d => rw [z] at p; exact fun H' e' l' rv => p F2 H' e' l' _ rv
      | ex cl w => rw [z] at p; exact fun H' d C v e' l' k1 k2 k3 => hW _ _ _ _ (p F2 H' d C v e' l' k1 k2 k3)
      | no => rw [z] at p; exact p.elim
end
end Pu
namespace Pu
open PySem PySem.Spec PyProof.Rows L2 LamX NdefX TryB
section
variable {g : Gx} {c : Cfg} {W : WX}
/-- three names at once, the third a list of one's own -/
def qPar3L (i j l : Nat) (fa fb fc : Env → Res Rk) : Env → Ctl := fun ρ => (qV fa ρ).toC fun a ρ1 => (qV fb ρ1).toC fun b ρ2 => (fc ρ2).toC fun r ρ3 => match r with
  | .own xs => if free ρ3 i = true ∧ free ρ3 j = true then optC (set1 l (.own xs) ((ρ3.set i (.v a)).set j (.v b))) else .no
  | _ => .no
theorem qPar3L_ap {i j l : Nat} {fa fb fc : Env → Res Rk} {ρ : Env} : qPar3L i j l fa fb fc ρ = (qV fa ρ).toC fun a ρ1 => (qV fb ρ1).toC fun b ρ2 => (fc ρ2).toC fun r ρ3 => match r with
  | .own xs => if free ρ3 i = true ∧ free ρ3 j = true then optC (set1 l (.own xs) ((ρ3.set i (.v a)).set j (.v b))) else .no
  | _ => .no := rfl
theorem sPar3L {i j l : Nat} {ta tb tc : TE} {fa fb fc : Env → Res Rk} (ha : SimE g W ta fa) (hb : SimE g W tb fb) (hc : SimE g W tc fc) : SimS g W (tPar3 i j l (tCons ta (tCons tb (tCons tc tNil)))) (qPar3L i j l fa fb fc) := fun c hg F ρ σ H D e p =>
  sV ha c hg F ρ σ H (fun v H1 => tCons tb (tCons tc tNil) σ H1 fun vs H2 => ∃ u w z, v :: vs = [u, w, z] ∧ D.nx (((σ.set i (some u)).set j (some w)).set l (some z)) H2) e (PostS.bind p fun F1 H1 ρ1 d1 e1 l1 q1 v1 r1 =>
    sV hb c hg F1 ρ1 σ H1 (fun v H2 => tCons tc tNil σ H2 fun vs H3 => ∃ u w z, v1 :: v :: vs = [u, w, z] ∧ D.nx (((σ.set i (some u)).set j (some w)).set l (some z)) H3) e1 (PostS.bind q1 fun F2 H2 ρ2 d2 e2 l2 q2 v2 r2 =>
      hc c hg F2 ρ2 σ H2 (fun v H3 => ∃ u w z, [v1, v2, v] = [u, w, z] ∧ D.nx (((σ.set i (some u)).set j (some w)).set l (some z)) H3) e2 (PostS.bind q2 fun F3 H3 ρ3 r e3 l3 q3 u hu => by
        cases r with
        | own xs =>
          dsimp only at q3
          by_cases z : free ρ3 i = true ∧ free ρ3 j = true
          · rw [if_pos z] at q3
            obtain ⟨a, vs, rfl, h1, h2, h3, h4, h5, h6⟩ := hu
            have no : ∀ (d : PyData) ys, S.v d ≠ .own ys ∧ S.v d ≠ .io ys := fun d ys => ⟨(fun z => nomatch z), (fun z => nomatch z)⟩
            have r1' := (r1.mono l2).mono l3
            have r2' := r2.mono l3
            exact ⟨v1, v2, _, rfl, qset_ok ((e3.setV (e3.free z.1) r1').setV (e3.free z.2) r2') (r := .own xs) ⟨a, vs, rfl, h1, h2, h3, h4, h5, fun k o => h6 k (own_set2 (s := .v d1) (no _) (own_set2 (s := .v d2) (no _) o).2).2⟩ q3⟩
          · rw [if_neg z] at q3; exact q3.elim
        | _ => exact q3.elim)))
end
end Pu
namespace Pu
open PySem PySem.Spec PyProof.Rows L2 LamX NdefX TryB
section
variable {g : Gx} {W : WX}
/-! a making whose last argument is left out: None -/
def qMakeD0 (Fm : List D → MR) (ga : Env → Res (List D)) : Env → Res Rk := fun ρ => (ga ρ).bind fun ds ρ1 => match Fm (ds ++ [.none]) with
  | .ok d => .ok (.v d) ρ1
  | _ => .no
def qMakeD (Fm : List D → MR) (ga : Env → Res (List D)) : Env → Res Rk := fun ρ => (ga ρ).bind fun ds ρ1 => match Fm (ds ++ [.none]) with
  | .ok d => .ok (.v d) ρ1
  | .ex cl w => .ex cl w ρ1
  | .no => .no
theorem qMakeD0_ap {Fm : List D → MR} {ga : Env → Res (List D)} {ρ : Env} : qMakeD0 Fm ga ρ = (ga ρ).bind fun ds ρ1 => match Fm (ds ++ [.none]) with
  | .ok d => .ok (.v d) ρ1
  | _ => .no := rfl
theorem qMakeD_ap {Fm : List D → MR} {ga : Env → Res (List D)} {ρ : Env} : qMakeD Fm ga ρ = (ga ρ).bind fun ds ρ1 => match Fm (ds ++ [.none]) with
  | .ok d => .ok (.v d) ρ1
  | .ex cl w => .ex cl w ρ1
  | .no => .no := rfl
theorem sMakeD0 {sp : Sp} {Fm : List D → MR} {C : Addr} {E : XK} {ta : TA} {ga : Env → Res (List D)} (hm : MakeOk g C sp Fm) (ha : SimVs g W ta ga) : SimE g W (tMake C sp [.non] E ta) (qMakeD0 Fm ga) := fun c hg F ρ σ H Q e p =>
  ha c hg F ρ σ H _ e (p.bind fun F1 H1 ρ1 ds e1 l1 q vs hvs => fun x dx nx nd ne => by
    refine hm c hg F1 ρ1 σ H1 x dx _ _ Q E e1 nx nd ne (hvs.append (.cons .non .nil)) ?_
    cases z : Fm (ds ++ [.none]) with
    | ok d => rw [z] at q; exact fun H' e' l' rv => q F1 H' e' l' _ rv
    | ex cl w => rw [z] at q; exact q.elim
    | no => rw [z] at q; exact q.elim)
theorem sMakeDE {sp : Sp} {Fm : List D → MR} {C : Addr} {E : XK} {ta : TA} {ga : Env → Res (List D)} (hm : MakeOk g C sp Fm) (hW : ∀ σ cls d H, W cls d σ H → E cls d H) (ha : SimVs g W ta ga) : SimE g W (tMake C sp [.non] E ta) (qMakeD Fm ga) := fun c hg F ρ σ H Q e p =>
  ha c hg F ρ σ H _ e (p.bind fun F1 H1 ρ1 ds e1 l1 q vs hvs => fun x dx nx nd ne => by
    refine hm c hg F1 ρ1 σ H1 x dx _ _ Q E e1 nx nd ne (hvs.append (.cons .non .nil)) ?_
    cases z : Fm (ds ++ [.none]) with
    | ok d => rw [z] at q; exact fun H' e' l' rv => q F1 H' e' l' _ rv
    | ex cl w => rw [z] at q; exact fun H' d C v e' l' k1 k2 k3 => hW _ _ _ _ (q F1 H' d C v e' l' k1 k2 k3)
    | no => rw [z] at q; exact q.elim)
end
end Pu
end

-- MinI
section
set_option Elab.async false
set_option linter.all false
set_option maxRecDepth 100000
set_option maxHeartbeats 4000000
/-! MinI: min and max of a tuple of numbers. -/
namespace Pu
open PySem PySem.Spec PyProof.Rows L2 LamX NdefX BlkX
section
variable {prog : Program} {w : World} {A : Around} {s : Shared} {E : Value → Shared → Prop} {l : Addr} {xs : Array (Int × Tok)}
theorem fp_ok {hlt : l < s.heap.objs.size} {o : Obj} : ∀ b ∈ [s.heap.objs.size, l], b < (s.heap.push o).objs.size := fun b hb => by
  rw [Heap.size_push]
  rcases List.mem_cons.mp hb with rfl | hb
  · exact Nat.lt_succ_self _
  · rcases List.mem_cons.mp hb with rfl | hb
    · exact Nat.lt_succ_of_lt hlt
    · cases hb
theorem min_intTup {Q : Value → Shared → Prop} (hh : A.handled = none) (hl : s.heap.IsTuple l (intItems xs)) (hne : 0 < xs.size)
    (h : ∀ v h' tk, (intItems xs)[argBest (fun i j => decide (numAt xs i < numAt xs j)) (xs.size - 1)]? = some v → (∀ b o, s.heap.get? b = some o → h'.get? b = some o) → Q v { s with heap := h', toks := tk }) :
    wpAny (model prog w) A (call (.builtin "min") [.ref l]) Q E s := by
  have hlt : l < s.heap.objs.size := by obtain ⟨_, e, _⟩ := hl; exact Heap.lt_size e
  refine call_min_walk (wpAny_pyIter_tuple hl ?_)
  refine ⟨_, [_, l], [_], _, _, _, _, rfl, Walks.tuple (A := A.in1) hh _ l (Nat.ne_of_lt hlt) (intItems xs), ⟨⟨_, Heap.get?_push_size _ rfl, rfl, rfl⟩, hl.push _⟩, fp_ok (hlt := hlt), by simpa [intItems] using hne, CmpOf.ints_lt (numAt xs) (fun _ _ => intItems_at), fun v h' tk hP hk => ?_⟩
  refine h v h' tk (by simpa [intItems] using hP) fun c o e => hk c o (fun hm => ?_) (Heap.get?_push_of_some _ e)
  have := Heap.lt_size e
  rw [List.mem_singleton.mp hm] at this
  exact Nat.lt_irrefl _ this
theorem max_intTup {Q : Value → Shared → Prop} (hh : A.handled = none) (hl : s.heap.IsTuple l (intItems xs)) (hne : 0 < xs.size)
    (h : ∀ v h' tk, (intItems xs)[argBest (fun i j => decide (numAt xs i > numAt xs j)) (xs.size - 1)]? = some v → (∀ b o, s.heap.get? b = some o → h'.get? b = some o) → Q v { s with heap := h', toks := tk }) :
    wpAny (model prog w) A (call (.builtin "max") [.ref l]) Q E s := by
  have hlt : l < s.heap.objs.size := by obtain ⟨_, e, _⟩ := hl; exact Heap.lt_size e
  refine call_max_walk (wpAny_pyIter_tuple hl ?_)
  refine ⟨_, [_, l], [_], _, _, _, _, rfl, Walks.tuple (A := A.in1) hh _ l (Nat.ne_of_lt hlt) (intItems xs), ⟨⟨_, Heap.get?_push_size _ rfl, rfl, rfl⟩, hl.push _⟩, fp_ok (hlt := hlt), by simpa [intItems] using hne, CmpOf.ints_gt (numAt xs) (fun _ _ => intItems_at), fun v h' tk hP hk => ?_⟩
  refine h v h' tk (by simpa [intItems] using hP) fun c o e => hk c o (fun hm => ?_) (Heap.get?_push_of_some _ e)
  have := Heap.lt_size e
  rw [List.mem_singleton.mp hm] at this
  exact Nat.lt_irrefl _ this
end
end Pu
namespace Pu
open PySem PySem.Spec PyProof.Rows L2 LamX NdefX BlkX
def rLeast (K : PySem.W.Frag) : List V → Hp → VK → Prop := fun vs H Q => ∃ (a : Addr) (ns : List Int), vs = [V.ref a] ∧ (SqL K H a (ns.map V.int) ∨ SqT K H a (ns.map V.int)) ∧ 0 < ns.length ∧ ∀ m, m ∈ ns → (∀ y, y ∈ ns → m ≤ y) → Q (.int m) H
def rMost (K : PySem.W.Frag) : List V → Hp → VK → Prop := fun vs H Q => ∃ (a : Addr) (ns : List Int), vs = [V.ref a] ∧ (SqL K H a (ns.map V.int) ∨ SqT K H a (ns.map V.int)) ∧ 0 < ns.length ∧ ∀ m, m ∈ ns → (∀ y, y ∈ ns → y ≤ m) → Q (.int m) H
section
variable {X : Cx}
theorem cr_least (hc : X.calm = true) : CallR X (.builtin "min") (rLeast X.K) := by
  intro pins s σ H vs us Q I r h
  obtain ⟨a, ns, rfl, hs | hs, hne, q⟩ := h
  · exact cr_min hc pins s σ H _ us Q I r ⟨a, ns, rfl, hs, hne, q⟩
  · obtain ⟨its, rv, hl, _⟩ := I.tuple hs
    rw [Vals.ref1 r]
    obtain ⟨xs, e⟩ := rv.ints.allInts.items
    have hn : numsOf (intItems xs).toList = ns := by rw [← e]; exact rv.ints.numsOf
    rw [nums_intItems] at hn
    subst hn
    rw [e] at hl
    have hsz : 0 < xs.size := by simpa using hne
    refine min_intTup (I.ok.hd hc) hl hsz fun v h' tk hv hk => ?_
    obtain ⟨t, rfl⟩ := intItems_at hv
    obtain ⟨h1, h2⟩ := argBest_lt (numAt xs) (xs.size - 1)
    refine ⟨.int _, H, I.kept hk, ⟨_, rfl⟩, q _ ?_ fun y hy => ?_⟩
    · rw [numAt_eq]; exact PySem.getD_mem (by rw [List.length_map, Array.length_toList]; omega)
    · obtain ⟨j, hj, rfl⟩ := mem_getD hy
      rw [List.length_map, Array.length_toList] at hj
      rw [← numAt_eq]; exact h2 j (by omega)
theorem cr_most (hc : X.calm = true) : CallR X (.builtin "max") (rMost X.K) := by
  intro pins s σ H vs us Q I r h
  obtain ⟨a, ns, rfl, hs | hs, hne, q⟩ := h
  · exact cr_max hc pins s σ H _ us Q I r ⟨a, ns, rfl, hs, hne, q⟩
  · obtain ⟨its, rv, hl, _⟩ := I.tuple hs
    rw [Vals.ref1 r]
    obtain ⟨xs, e⟩ := rv.ints.allInts.items
    have hn : numsOf (intItems xs).toList = ns := by rw [← e]; exact rv.ints.numsOf
    rw [nums_intItems] at hn
    subst hn
    rw [e] at hl
    have hsz : 0 < xs.size := by simpa using hne
    refine max_intTup (I.ok.hd hc) hl hsz fun v h' tk hv hk => ?_
    obtain ⟨t, rfl⟩ := intItems_at hv
    obtain ⟨h1, h2⟩ := argBest_gt (numAt xs) (xs.size - 1)
    refine ⟨.int _, H, I.kept hk, ⟨_, rfl⟩, q _ ?_ fun y hy => ?_⟩
    · rw [numAt_eq]; exact PySem.getD_mem (by rw [List.length_map, Array.length_toList]; omega)
    · obtain ⟨j, hj, rfl⟩ := mem_getD hy
      rw [List.length_map, Array.length_toList] at hj
      rw [← numAt_eq]; exact h2 j (by omega)
theorem cleast (K : PySem.W.Frag) (hc : X.calm = true := by rfl) (h : X.K = K := by rfl) : CallR X (.builtin "min") (rLeast K) := h ▸ cr_least hc
theorem cmost (K : PySem.W.Frag) (hc : X.calm = true := by rfl) (h : X.K = K := by rfl) : CallR X (.builtin "max") (rMost K) := h ▸ cr_most hc
end
open Classical in
noncomputable def leastI (ns : List Int) : Int := if h : ∃ m, m ∈ ns ∧ ∀ y, y ∈ ns → m ≤ y then choose h else 0
open Classical in
noncomputable def mostI (ns : List Int) : Int := if h : ∃ m, m ∈ ns ∧ ∀ y, y ∈ ns → y ≤ m then choose h else 0
theorem leastI_eq {ns : List Int} {m : Int} (h1 : m ∈ ns) (h2 : ∀ y, y ∈ ns → m ≤ y) : leastI ns = m := by
  unfold leastI
  have h : ∃ m, m ∈ ns ∧ ∀ y, y ∈ ns → m ≤ y := ⟨m, h1, h2⟩
  rw [dif_pos h]
  obtain ⟨a, b⟩ := Classical.choose_spec h
  exact Int.le_antisymm (b m h1) (h2 _ a)
theorem mostI_eq {ns : List Int} {m : Int} (h1 : m ∈ ns) (h2 : ∀ y, y ∈ ns → y ≤ m) : mostI ns = m := by
  unfold mostI
  have h : ∃ m, m ∈ ns ∧ ∀ y, y ∈ ns → y ≤ m := ⟨m, h1, h2⟩
  rw [dif_pos h]
  obtain ⟨a, b⟩ := Classical.choose_spec h
  exact Int.le_antisymm (h2 _ a) (b m h1)
theorem leastI_is : ∀ {ns : List Int}, 0 < ns.length → leastI ns ∈ ns ∧ ∀ y, y ∈ ns → leastI ns ≤ y := fun {ns} h => by
  have ex : ∀ ns : List Int, ns ≠ [] → ∃ m, m ∈ ns ∧ ∀ y, y ∈ ns → m ≤ y := fun ns => by
    induction ns with
    | nil => exact fun z => (z rfl).elim
    | cons a r ih =>
      intro _
      by_cases z : r = []
      · subst z; exact ⟨a, List.mem_cons_self, fun y hy => by rw [List.mem_singleton.mp hy]; exact Int.le_refl _⟩
      · obtain ⟨m, m1, m2⟩ := ih z
        by_cases c : a ≤ m
        · exact ⟨a, List.mem_cons_self, fun y hy => by
            rcases List.mem_cons.mp hy with rfl | hy
            · exact Int.le_refl _
            · exact Int.le_trans c (m2 y hy)⟩
        · exact ⟨m, List.mem_cons_of_mem _ m1, fun y hy => by
            rcases List.mem_cons.mp hy with rfl | hy
            · omega
            · exact m2 y hy⟩
  obtain ⟨m, m1, m2⟩ := ex ns (fun z => by subst z; simp at h)
  rw [leastI_eq m1 m2]
  exact ⟨m1, m2⟩
theorem mostI_is : ∀ {ns : List Int}, 0 < ns.length → mostI ns ∈ ns ∧ ∀ y, y ∈ ns → y ≤ mostI ns := fun {ns} h => by
  have ex : ∀ ns : List Int, ns ≠ [] → ∃ m, m ∈ ns ∧ ∀ y, y ∈ ns → y ≤ m := fun ns => by
    induction ns with
    | nil => exact fun z => (z rfl).elim
    | cons a r ih =>
      intro _
      by_cases z : r = []
      · subst z; exact ⟨a, List.mem_cons_self, fun y hy => by rw [List.mem_singleton.mp hy]; exact Int.le_refl _⟩
      · obtain ⟨m, m1, m2⟩ := ih z
        by_cases c : m ≤ a
        · exact ⟨a, List.mem_cons_self, fun y hy => by
            rcases List.mem_cons.mp hy with rfl | hy
            · exact Int.le_refl _
            · exact Int.le_trans (m2 y hy) c⟩
        · exact ⟨m, List.mem_cons_of_mem _ m1, fun y hy => by
            rcases List.mem_cons.mp hy with rfl | hy
            · omega
            · exact m2 y hy⟩
  obtain ⟨m, m1, m2⟩ := ex ns (fun z => by subst z; simp at h)
  rw [mostI_eq m1 m2]
  exact ⟨m1, m2⟩
noncomputable def dLeast : D → Option Rk
  | .list ds => (asInts ds).bind fun ns => if 0 < ns.length then some (.v (.int (leastI ns))) else none
  | .tuple ds => (asInts ds).bind fun ns => if 0 < ns.length then some (.v (.int (leastI ns))) else none
  | _ => none
noncomputable def dMost : D → Option Rk
  | .list ds => (asInts ds).bind fun ns => if 0 < ns.length then some (.v (.int (mostI ns))) else none
  | .tuple ds => (asInts ds).bind fun ns => if 0 < ns.length then some (.v (.int (mostI ns))) else none
  | _ => none
section
variable {g : Gx} {K : PySem.W.Frag}
theorem bv_seq {c : Cfg} {F : Addr → Prop} {H : Hp} {x : V} {ns : List Int} {d : D} (b : Bv c F H x d) (h : d = .list (ns.map .int) ∨ d = .tuple (ns.map .int)) : ∃ a, x = .ref a ∧ (SqL K H a (ns.map V.int) ∨ SqT K H a (ns.map V.int)) := by
  rcases h with rfl | rfl
  · obtain ⟨a, vs, rfl, h1, h2⟩ := b.list
    rw [Rvs.ints_of h2] at h1
    exact ⟨a, rfl, .inl (SqL.of h1)⟩
  · rcases b with b | ⟨_, _, _, _, z, _⟩
    · cases b with
      | tup h1 h2 =>
        rw [Rvs.ints_of h2] at h1
        exact ⟨_, rfl, .inr (TZ.sq h1)⟩
    · cases z
theorem uLeast : UnS g (fun x H Q => rLeast K [x] H Q) dLeast := fun c hg F ρ σ H x d k Q e b o q => by
  have go : ∀ ns : List Int, (d = .list (ns.map .int) ∨ d = .tuple (ns.map .int)) → (if 0 < ns.length then some (Rk.v (.int (leastI ns))) else none) = some k → rLeast K [x] H Q := fun ns h o => by
    obtain ⟨a, rfl, hs⟩ := bv_seq (K := K) b h
    split at o
    · rename_i hl
      cases o
      exact ⟨a, ns, rfl, hs, hl, fun m m1 m2 => by
        have := leastI_eq m1 m2
        rw [this] at q
        exact q _ _ e (Le.refl _ _) (.int _)⟩
    · cases o
  cases d with
  | list ds =>
    dsimp only [dLeast] at o
    cases z : asInts ds with
    | none => rw [z] at o; cases o
    | some ns => rw [z] at o; exact go ns (.inl (by rw [asInts_eq z])) o
  | tuple ds =>
    dsimp only [dLeast] at o
    cases z : asInts ds with
    | none => rw [z] at o; cases o
    | some ns => rw [z] at o; exact go ns (.inr (by rw [asInts_eq z])) o
  | _ => cases o
theorem uMost : UnS g (fun x H Q => rMost K [x] H Q) dMost := fun c hg F ρ σ H x d k Q e b o q => by
  have go : ∀ ns : List Int, (d = .list (ns.map .int) ∨ d = .tuple (ns.map .int)) → (if 0 < ns.length then some (Rk.v (.int (mostI ns))) else none) = some k → rMost K [x] H Q := fun ns h o => by
    obtain ⟨a, rfl, hs⟩ := bv_seq (K := K) b h
    split at o
    · rename_i hl
      cases o
      exact ⟨a, ns, rfl, hs, hl, fun m m1 m2 => by
        have := mostI_eq m1 m2
        rw [this] at q
        exact q _ _ e (Le.refl _ _) (.int _)⟩
    · cases o
  cases d with
  | list ds =>
    dsimp only [dMost] at o
    cases z : asInts ds with
    | none => rw [z] at o; cases o
    | some ns => rw [z] at o; exact go ns (.inl (by rw [asInts_eq z])) o
  | tuple ds =>
    dsimp only [dMost] at o
    cases z : asInts ds with
    | none => rw [z] at o; cases o
    | some ns => rw [z] at o; exact go ns (.inr (by rw [asInts_eq z])) o
  | _ => cases o
theorem dLeast_t {ns : List Int} (h : 0 < ns.length) : dLeast (.tuple (ns.map .int)) = some (.v (.int (leastI ns))) := by
  show (asInts _).bind _ = _
  rw [asInts_map]
  show (if 0 < ns.length then some (Rk.v (.int (leastI ns))) else none) = _
  rw [if_pos h]
theorem dMost_t {ns : List Int} (h : 0 < ns.length) : dMost (.tuple (ns.map .int)) = some (.v (.int (mostI ns))) := by
  show (asInts _).bind _ = _
  rw [asInts_map]
  show (if 0 < ns.length then some (Rk.v (.int (mostI ns))) else none) = _
  rw [if_pos h]
end
end Pu
end

-- PvS
section
set_option Elab.async false
set_option linter.all false
set_option maxRecDepth 100000
set_option maxHeartbeats 4000000
/-! PvS: slices are run. -/
namespace Pu
open PySem PySem.Spec PyProof.Rows L2 LamX NdefX
section
variable {fa : Env → Res Rk} {fl fh : Env → Res (Option Int)} {ρ : Env} {xs : List D}
theorem qSl_l : qSl false fa fl fh ρ = (fa ρ).bind fun r ρ1 => (fl ρ1).bind fun lo ρ2 => (fh ρ2).bind fun hi ρ3 => match bor (nz r) ρ3 with | some (.list xs) => .ok (.own (cutD xs lo hi)) ρ3 | _ => .no := by
  unfold qSl
  congr 1; funext r ρ1
  congr 1; funext lo ρ2
  congr 1; funext hi ρ3
  cases bor (nz r) ρ3 with
  | none => rfl
  | some d => cases d <;> rfl
theorem qSl_t : qSl true fa fl fh ρ = (fa ρ).bind fun r ρ1 => (fl ρ1).bind fun lo ρ2 => (fh ρ2).bind fun hi ρ3 => match bor (nz r) ρ3 with | some (.tuple xs) => .ok (.v (.tuple (cutD xs lo hi))) ρ3 | _ => .no := by
  unfold qSl
  congr 1; funext r ρ1
  congr 1; funext lo ρ2
  congr 1; funext hi ρ3
  cases bor (nz r) ρ3 with
  | none => rfl
  | some d => cases d <;> rfl
theorem qoNo_ap : qoNo ρ = .ok none ρ := rfl
theorem qoSome_ap : qoSome fa ρ = (qB fa ρ).bind fun d ρ' => match d with | .int i => .ok (some i) ρ' | _ => .no := rfl
theorem cut_to {k : Int} (h : 0 ≤ k) : cutD xs none (some k) = xs.take k.toNat := by
  obtain ⟨m, rfl⟩ := Int.eq_ofNat_of_zero_le h
  unfold cutD
  rw [HT.sIx_nat, HT.sIx_none, List.drop_zero, Nat.sub_zero, Int.toNat_natCast]
  by_cases l : m ≤ xs.length
  · rw [Nat.min_eq_left l]
  · rw [Nat.min_eq_right (by omega), List.take_of_length_le (Nat.le_refl _), List.take_of_length_le (by omega)]
theorem cut_from {k : Int} (h : 0 ≤ k) : cutD xs (some k) none = xs.drop k.toNat := by
  obtain ⟨m, rfl⟩ := Int.eq_ofNat_of_zero_le h
  unfold cutD
  rw [HT.sIx_nat, HT.sIx_none, Int.toNat_natCast]
  by_cases l : m ≤ xs.length
  · rw [Nat.min_eq_left l, List.take_of_length_le (by rw [List.length_drop]; exact Nat.le_refl _)]
  · rw [Nat.min_eq_right (by omega), List.drop_of_length_le (Nat.le_refl _), List.drop_of_length_le (by omega), List.take_nil]
theorem cut_all : cutD xs none none = xs := by
  unfold cutD
  rw [HT.sIx_none, HT.sIx_none, List.drop_zero, Nat.sub_zero, List.take_of_length_le (Nat.le_refl _)]
end
end Pu
end

-- PvK
section
set_option Elab.async false
set_option linter.all false
set_option maxRecDepth 100000
set_option maxHeartbeats 4000000
/-! PvK: tuples one behind the other, and cut. -/
namespace Pu
open PySem PySem.Spec PyProof.Rows L2 LamX NdefX BlkX
section
variable {g : Gx} {W : WX} {K : PySem.W.Frag}
theorem bv_tup {c : Cfg} {F : Addr → Prop} {H : Hp} {x : V} {ds : List D} (b : Bv c F H x (.tuple ds)) : ∃ a vs, x = .ref a ∧ TZ H a vs ∧ Rvs c.g.cm F H vs ds := by
  rcases b with b | ⟨_, _, _, _, z, _⟩
  · cases b with
    | tup h1 h2 => exact ⟨_, _, rfl, h1, h2⟩
  · cases z
theorem rvs_nil {cm : Str → Option Addr} {F : Addr → Prop} {H : Hp} {ds : List D} (h : Rvs cm F H [] ds) : ds = [] := by cases h; rfl
theorem oCatT : OpS g (rCatZ K) dCatT := fun c hg F ρ σ H x y d1 d2 k Q e b1 b2 o q => by
  cases d1 <;> first | cases o | skip
  cases d2 <;> first | cases o | skip
  obtain ⟨a, vs, rfl, h1, h2⟩ := bv_tup b1
  obtain ⟨b, ws, rfl, h3, h4⟩ := bv_tup b2
  dsimp only [dCatT] at o
  split at o
  · rename_i z
    cases o
    refine ⟨a, b, vs, ws, rfl, rfl, TZ.sq h1, TZ.sq h3, by rw [h2.length, h4.length]; exact z, fun e1 => ?_, fun _ e2 => ?_, fun _ _ p ob np zo => ?_⟩
    · subst e1
      have := rvs_nil h2
      subst this
      exact q _ _ e (Le.refl _ _) (.tup h3 h4)
    · subst e2
      have := rvs_nil h4
      subst this
      rw [List.append_nil] at q
      exact q _ _ e (Le.refl _ _) (.tup h1 h2)
    · exact q _ _ (e.new np) (Le.new np) (.tup (TZ.new zo) ((h2.append h4).mono (Le.new np)))
  · cases o
theorem sSlT {ta : TE} {fa : Env → Res Rk} {tl th : TO} {fl fh : Env → Res (Option Int)} (ha : SimE g W ta fa) (hl : SimO g W tl fl) (hh : SimO g W th fh) : SimE g W (tSl (rSlZ K) ta tl th) (qSl true fa fl fh) := fun c hg F ρ σ H Q e p =>
  ha c hg F ρ σ H _ e (p.bind fun F1 H1 ρ1 r e1 l1 q v hv => by
    obtain ⟨F2, e2, l2, r2⟩ := nz_ok e1 hv
    refine hl c hg F2 ρ1 σ H1 _ e2 ((q.rebase l2).bind fun F3 H3 ρ3 lo e3 l3 q3 => hh c hg F3 ρ3 σ H3 _ e3 (q3.bind fun F4 H4 ρ4 hi e4 l4 q4 => ?_))
    cases b : bor (nz r) ρ4 with
    | none => rw [b] at q4; exact q4.elim
    | some d =>
      rw [b] at q4
      cases d <;> first | exact q4.elim | skip
      have bv := bor_ok e4 (nz_keep r2 (l3.trans l4) b) b
      obtain ⟨a, vs, rfl, h1, h2⟩ := bv_tup bv
      refine ⟨a, vs, rfl, TZ.sq h1, fun full => q4 _ _ e4 (Le.refl _ _) _ (.tup h1 ?_), fun _ p ob np zo => q4 _ _ (e4.new np) (Le.new np) _ (.tup (TZ.new zo) ((h2.cut lo hi).mono (Le.new np)))⟩
      have ec : cutV vs lo hi = vs := by
        unfold cutV
        rw [full.1, full.2, List.drop_zero, Nat.sub_zero, List.take_of_length_le (Nat.le_refl _)]
      have := h2.cut lo hi
      rw [ec] at this
      exact this)
end
end Pu
end

-- MinT
section
set_option Elab.async false
set_option linter.all false
set_option maxRecDepth 100000
set_option maxHeartbeats 4000000
/-! MinT: min(l), min(l, default=d), l a list of tuples of numbers. -/
namespace MinX
open PySem PySem.Spec PyProof.Rows L2 NdefX R TupX
abbrev ltL (a b : List Int) : Bool := PySem.W.listLt a b
theorem lt_cons (x y : Int) (a b : List Int) : ltL (x :: a) (y :: b) = if x = y then ltL a b else decide (x < y) := rfl
theorem lt_nil (a : List Int) : ltL a [] = false := by cases a <;> rfl
theorem ltL_total : ∀ a b : List Int, ltL a b = false → ltL b a = false → a = b
  | [], [], _, _ => rfl
  | [], y :: b, h, _ => by cases h
  | x :: a, [], _, h => by cases h
  | x :: a, y :: b, h1, h2 => by
    rw [lt_cons] at h1 h2
    by_cases e : x = y
    · subst e
      rw [if_pos rfl] at h1 h2
      rw [ltL_total a b h1 h2]
    · rw [if_neg e] at h1
      rw [if_neg (fun z => e z.symm)] at h2
      have h1 := of_decide_eq_false h1
      have h2 := of_decide_eq_false h2
      omega
theorem ltL_trans : ∀ a b c : List Int, ltL a b = true → ltL b c = true → ltL a c = true
  | a, b, [], _, h => by rw [lt_nil] at h; cases h
  | a, [], z :: c, h, _ => by rw [lt_nil] at h; cases h
  | [], y :: b, z :: c, _, _ => rfl
  | x :: a, y :: b, z :: c, h1, h2 => by
    rw [lt_cons] at h1 h2 ⊢
    by_cases e : x = y
    · subst e
      rw [if_pos rfl] at h1
      by_cases e2 : x = z
      · subst e2
        rw [if_pos rfl] at h2 ⊢
        exact ltL_trans a b c h1 h2
      · rw [if_neg e2] at h2 ⊢
        exact h2
    · rw [if_neg e] at h1
      have h1 := of_decide_eq_true h1
      by_cases e2 : y = z
      · subst e2
        rw [if_neg e]
        exact decide_eq_true h1
      · rw [if_neg e2] at h2
        have h2 := of_decide_eq_true h2
        rw [if_neg (by omega)]
        exact decide_eq_true (by omega)
theorem ltL_irr : ∀ a : List Int, ltL a a = false
  | [] => rfl
  | x :: a => by rw [lt_cons, if_pos rfl, ltL_irr a]
structure Least (m : List Int) (L : List (List Int)) : Prop where
  mem : m ∈ L
  le : ∀ r ∈ L, ltL r m = false
theorem Least.same {m m' : List Int} {L L' : List (List Int)} (h : Least m L) (h' : Least m' L') (s : ∀ x, x ∈ L ↔ x ∈ L') : m = m' :=
  ltL_total m m' (h'.le m ((s m).mp h.mem)) (h.le m' ((s m').mpr h'.mem))
abbrev TI := PySem.W.Tup Int
theorem min_least : ∀ (L : List (List Int)) (x : List Int), Least (PySem.W.minOf (⟨x⟩ : TI) (L.map PySem.W.Tup.mk)).items (x :: L)
  | [], x => ⟨List.mem_singleton.mpr rfl, fun r hr => by
    have e : r = x := List.mem_singleton.mp hr
    rw [e]
    exact ltL_irr x⟩
  | y :: L, x => by
    show Least (PySem.W.minOf (if ltL y x = true then (⟨y⟩ : TI) else ⟨x⟩) (L.map PySem.W.Tup.mk)).items _
    by_cases c : ltL y x = true
    · rw [if_pos c]
      obtain ⟨h1, h2⟩ := min_least L y
      refine ⟨List.mem_cons_of_mem _ h1, fun r hr => ?_⟩
      rcases List.mem_cons.mp hr with z | z
      · rw [z]
        cases e : ltL x (PySem.W.minOf (⟨y⟩ : TI) (L.map PySem.W.Tup.mk)).items with
        | false => rfl
        | true =>
          have := ltL_trans _ _ _ c e
          rw [h2 y List.mem_cons_self] at this
          cases this
      · exact h2 r z
    · rw [if_neg c]
      obtain ⟨h1, h2⟩ := min_least L x
      refine ⟨?_, fun r hr => ?_⟩
      · rcases List.mem_cons.mp h1 with z | z
        · rw [z]; exact List.mem_cons_self
        · exact List.mem_cons_of_mem _ (List.mem_cons_of_mem _ z)
      · rcases List.mem_cons.mp hr with z | z
        · rw [z]
          exact h2 x List.mem_cons_self
        · rcases List.mem_cons.mp z with z | z
          · rw [z]
            cases e : ltL y (PySem.W.minOf (⟨x⟩ : TI) (L.map PySem.W.Tup.mk)).items with
            | false => rfl
            | true =>
              have c : ltL y x = false := by simpa using c
              rcases List.mem_cons.mp h1 with z | z
              · rw [z, c] at e; cases e
              · -- least is not x: then least ≤ x, r < least, so r < x
                cases e2 : ltL x (PySem.W.minOf (⟨x⟩ : TI) (L.map PySem.W.Tup.mk)).items with
                | true => rw [h2 x List.mem_cons_self] at e2; cases e2
                | false =>
                  cases e3 : ltL (PySem.W.minOf (⟨x⟩ : TI) (L.map PySem.W.Tup.mk)).items x with
                  | true =>
                    rw [ltL_trans _ _ _ e e3] at c
                    cases c
                  | false =>
                    rw [← ltL_total _ _ e2 e3, c] at e
                    cases e
          · exact h2 r (List.mem_cons_of_mem _ z)
theorem lay_row : ∀ s : List Int, PyData.canLayAll0 (s.map PyData.int) = true
  | [] => by simp [PyData.canLayAll0]
  | m :: s => by
    have := lay_row s
    simp [PyData.canLayAll0, PyData.canLay0, this]
theorem lay_one (s : List Int) : PyData.canLayAll0 [rowI s] = true := by
  simp [rowI, PyData.canLay0, PyData.canLayAll0, lay_row]
theorem reads_one {h : Heap} {v : Value} {d : PyData} {as : List Addr} (r : Reads h v d as) (c : PyData.canLayAll0 [d] = true) : SeqAt.readOf h v = d := by
  have := SeqAt.readsAll_map [d] [v] _ c (ReadsAll.cons r .nil)
  exact (List.cons.inj this).1
theorem toD_map : ∀ L : List (List Int), (L.map (PySem.W.Tup.mk : List Int → TI)).map PySem.W.Datum.toD = rowsI' L
  | [] => rfl
  | r :: L => by
    have := toD_map L
    rw [List.map_cons, List.map_cons, this] <;> rfl
def rMinT (K : PySem.W.Frag) : List V → Hp → VK → Prop := fun vs H Q => ∃ (a : Addr) (xs : List V) (L : List (List Int)), vs = [.ref a] ∧ SqL K H a xs ∧ Tps H xs (rowsI' L) ∧ L ≠ [] ∧
  ∀ x m, x ∈ xs → Tp H x (rowI m) → Least m L → Q x H
def rMinDT (K : PySem.W.Frag) : List V → List V → Hp → VK → Prop := fun vs zs H Q => ∃ (a : Addr) (xs : List V) (L : List (List Int)) (d : V), vs = [.ref a] ∧ zs = [d] ∧ SqL K H a xs ∧ Tps H xs (rowsI' L) ∧
  (L = [] → Q d H) ∧ ∀ x m, x ∈ xs → Tp H x (rowI m) → Least m L → Q x H
section
variable {X : Cx}
theorem room_min (hu : X.A.units + 65 < cLine) : X.A.units + 1 + PySem.W.Datum.depth TI < cLine := by
  have : PySem.W.Datum.depth TI ≤ 10 := by decide
  omega
theorem pick {pins : List (Addr × Obj)} {σ : L2.St} {H : Hp} {s : Shared} {xs : List V} {its : List Value} {y : List Int} {L : List (List Int)} {Q : VK} {i : Nat} {v : Value} {h' : Heap} {tk : Nat}
    (I : Inv X pins σ H s) (rv : Vals xs its) (ht : Tps H xs (rowsI' (y :: L))) (q : ∀ x m, x ∈ xs → Tp H x (rowI m) → Least m (y :: L) → Q x H)
    (hi : its.toArray[i]? = some v) (hv : PySem.W.Holds h' v (PySem.W.minOf (⟨y⟩ : TI) (L.map PySem.W.Tup.mk))) (hk : ∀ b o, s.heap.get? b = some o → h'.get? b = some o) : EP X pins σ Q v { s with heap := h', toks := tk } := by
  have hi : its[i]? = some v := by simpa using hi
  have hil := (List.getElem?_eq_some_iff.mp hi).1
  have hxl : i < xs.length := by rw [rv.length]; exact hil
  obtain ⟨u, hu, ru⟩ := rv.get (List.getElem?_eq_getElem hxl)
  rw [hi] at hu
  cases hu
  obtain ⟨d, hd, htp⟩ := ht.get (List.getElem?_eq_getElem hxl)
  have hd2 : ∃ r, (y :: L)[i]? = some r ∧ d = rowI r := by
    unfold rowsI' at hd
    rw [List.getElem?_map] at hd
    cases e : (y :: L)[i]? with
    | none => rw [e] at hd; cases hd
    | some r => rw [e] at hd; cases hd; exact ⟨r, rfl, rfl⟩
  obtain ⟨r, hr, rfl⟩ := hd2
  obtain ⟨as, r1⟩ := Dp.reads I (rowI r) _ v htp.dp ru
  obtain ⟨bs, r2⟩ := hv
  have e1 := reads_one (Reads.keeps hk r1) (lay_one r)
  have e2 := reads_one r2 (lay_one _)
  have e3 : rowI r = rowI (PySem.W.minOf (⟨y⟩ : TI) (L.map PySem.W.Tup.mk)).items := e1.symm.trans e2
  refine ⟨xs[i], H, I.kept hk, ru, q _ _ (List.getElem_mem hxl) ?_ (min_least L y)⟩
  rw [← e3]
  exact htp
theorem cr_minT (hc : X.calm = true) (hu : X.A.units + 65 < cLine) : CallR X (.builtin "min") (rMinT X.K) := by
  intro pins s σ H vs us Q I r h
  obtain ⟨a, xs, L, rfl, hs, ht, hne, q⟩ := h
  obtain ⟨its, rv, hl, _⟩ := I.list hs
  rw [Vals.ref1 r]
  cases L with
  | nil => exact absurd rfl hne
  | cons y L =>
    obtain ⟨as, ra⟩ := Dp.readsAll I _ _ its ht.dp rv
    exact PySem.W.min_list_datum (α := TI) (x := ⟨y⟩) (xs := L.map PySem.W.Tup.mk) (I.ok.hd hc) hl.isList ⟨as, by rw [show ((⟨y⟩ : TI) :: L.map PySem.W.Tup.mk) = (y :: L).map PySem.W.Tup.mk from rfl, toD_map]; simpa using ra⟩ (room_min hu)
      fun i v h' tk hi hv hk => pick I rv ht q hi hv hk
theorem cr_minDT (hc : X.calm = true) (hu : X.A.units + 65 < cLine) : CallRK X (.builtin "min") ["default"] (rMinDT X.K) := by
  intro pins s σ H vs zs us ws Q I r rz h
  obtain ⟨a, xs, L, d, rfl, rfl, hs, ht, q0, q⟩ := h
  obtain ⟨its, rv, hl, _⟩ := I.list hs
  rw [Vals.ref1 r]
  cases rz with
  | cons rd rn =>
    cases rn
    obtain ⟨as, ra⟩ := Dp.readsAll I _ _ its ht.dp rv
    refine PySem.W.min_list_datum_default (α := TI) (xs := L.map PySem.W.Tup.mk) (I.ok.hd hc) hl.isList ⟨as, by rw [toD_map]; simpa using ra⟩ (room_min hu) (fun e h' tk hk => ?_) fun y ys i v h' tk e hi hv hk => ?_
    · exact ⟨d, H, I.kept hk, rd, q0 (List.map_eq_nil_iff.mp e)⟩
    · cases L with
      | nil => cases e
      | cons y L =>
        cases e
        exact pick I rv ht q hi hv hk
end
end MinX
end

-- PvC
section
set_option Elab.async false
set_option linter.all false
set_option maxRecDepth 100000
set_option maxHeartbeats 4000000
/-! PvC: the least of a list of rows of numbers. -/
namespace Pu
open PySem PySem.Spec PyProof.Rows L2 LamX NdefX BlkX MinX TupX
def asRow : D → Option (List Int)
  | .tuple xs => asInts xs
  | _ => none
def asRows : List D → Option (List (List Int))
  | [] => some []
  | d :: r => match asRow d, asRows r with
    | some x, some L => some (x :: L)
    | _, _ => none
theorem asRow_eq {d : D} {r : List Int} (h : asRow d = some r) : d = rowI r := by
  cases d <;> first | cases h | skip
  exact congrArg PyData.tuple (asInts_eq h)
theorem asRows_eq : ∀ {ds : List D} {L : List (List Int)}, asRows ds = some L → ds = rowsI' L
  | [], L, h => by cases h; rfl
  | d :: r, L, h => by
    unfold asRows at h
    cases a : asRow d with
    | none => rw [a] at h; cases h
    | some x =>
      cases b : asRows r with
      | none => rw [a, b] at h; cases h
      | some M =>
        rw [a, b] at h
        cases h
        rw [asRow_eq a, asRows_eq b]
        rfl
theorem asRows_map : ∀ {L : List (List Int)}, asRows (L.map fun r => PyData.tuple (r.map .int)) = some L
  | [] => rfl
  | r :: L => by
    rw [List.map_cons]
    unfold asRows
    have e : asRow (.tuple (r.map .int)) = some r := asInts_map _
    rw [e, asRows_map]
open Classical in
noncomputable def leastT (L : List (List Int)) : List Int := if h : ∃ m, Least m L then choose h else []
theorem leastT_eq {m : List Int} {L : List (List Int)} (h : Least m L) : leastT L = m := by
  unfold leastT
  have ex : ∃ m, Least m L := ⟨m, h⟩
  rw [dif_pos ex]
  exact (Classical.choose_spec ex).same h fun _ => Iff.rfl
theorem leastT_is {L : List (List Int)} (h : L ≠ []) : Least (leastT L) L := by
  cases L with
  | nil => exact absurd rfl h
  | cons x L =>
    have q := min_least L x
    rw [leastT_eq q]
    exact q
noncomputable def dMinT : D → Option Rk
  | .list ds => (match asRows ds with
    | some [] => none
    | some L => some (.v (.tuple ((leastT L).map .int)))
    | none => none)
  | _ => none
theorem dMinT_ap {L : List (List Int)} (h : L ≠ []) : dMinT (.list (L.map fun r => PyData.tuple (r.map .int))) = some (.v (.tuple ((leastT L).map .int))) := by
  show (match asRows (L.map fun r => PyData.tuple (r.map .int)) with | some [] => none | some L => some (Rk.v (.tuple ((leastT L).map .int))) | none => none) = _
  rw [asRows_map]
  cases L with
  | nil => exact absurd rfl h
  | cons x L => rfl
theorem tupD_row {r : List Int} : tupD (rowI r) = true := tupDs_map (fun _ => rfl) r
theorem rvs_rows {cm : Str → Option Addr} {F : Addr → Prop} {H : Hp} : ∀ {vs : List V} {L : List (List Int)}, Rvs cm F H vs (rowsI' L) → R.Tps H vs (rowsI' L)
  | _, [], h => by cases h; exact .nil
  | _, r :: L, h => by
    cases h with
    | cons h1 h2 => exact .cons (h1.tp tupD_row) (rvs_rows h2)
section
variable {g : Gx} {K : PySem.W.Frag}
theorem uMinT : UnS g (fun x H Q => rMinT K [x] H Q) dMinT := fun c hg F ρ σ H x d k Q e b o q => by
  cases d <;> first | cases o | skip
  rename_i ds
  obtain ⟨a, vs, rfl, h1, h2⟩ := b.list
  dsimp only [dMinT] at o
  cases z : asRows ds with
  | none => rw [z] at o; cases o
  | some L =>
    rw [z] at o
    rw [asRows_eq z] at h2
    cases L with
    | nil => cases o
    | cons r L =>
      cases o
      refine ⟨a, vs, r :: L, rfl, .inl (.inl h1), rvs_rows h2, (fun z => nomatch z), fun x m hx ht hm => ?_⟩
      rw [← leastT_eq hm] at ht
      exact q _ _ e (Le.refl _ _) (tp_rv ht)
end
section
variable {X : Cx} {K : PySem.W.Frag}
theorem xminT (K : PySem.W.Frag) (hu : X.A.units + 65 < cLine) (hc : X.calm = true := by rfl) (h : X.K = K := by rfl) : CallR X (.builtin "min") (rMinT K) := h ▸ cr_minT hc hu
end
end Pu
end

-- Pf
section
set_option Elab.async false
set_option linter.all false
set_option maxRecDepth 100000
set_option maxHeartbeats 4000000
namespace R
noncomputable section
open PySem PySem.Spec PyProof.Rows Pu
def B_is_number : Pu.Env → Ctl := (qRet (qAndV (qUn (dIsi "int") (qVar 0)) (qNotV (qUn (dIsi "bool") (qVar 0)))))
def F_is_number : List S → Res Rk := qDef 1 1 B_is_number
theorem E_is_number {a0 : S} : F_is_number [a0] = fin (B_is_number [a0]) := rfl
def B_is_below : Pu.Env → Ctl := (qRet (qAndV (qCall0 F_is_number none (qaV (qVar 0) qaNil)) (qChain pLe pLt (qC (.int 0)) (qVar 0) (qVar 1))))
def F_is_below : List S → Res Rk := qDef 2 2 B_is_below
theorem E_is_below {a0 a1 : S} : F_is_below [a0, a1] = fin (B_is_below [a0, a1]) := rfl
def B_check_cell : Pu.Env → Ctl := (qIf (qNot (qTru (qCall0 F_is_below none (qaV (qVar 1) (qaV (qFld "Web" "size" (qVar 0)) qaNil))))) (qRaise "BadCell" (qVar 1)) qNext)
def F_check_cell : List S → Res Rk := qDef 2 2 B_check_cell
theorem E_check_cell {a0 a1 : S} : F_check_cell [a0, a1] = fin (B_check_cell [a0, a1]) := rfl
def FB_steps_from_1 : Pu.Env → Ctl := (qIf (qTst (qOp dLt (qOp dIxL (qVar 2) (qVar 6)) (qC (.int 0)))) (qSeq (qSto 2 (qVar 6) (qOp dAdd (qOp dIxL (qVar 2) (qVar 5)) (qC (.int 1))))
  (qExpr (qApp 3 (qVar 6)))) qNext)
def FR_steps_from_1 : Pu.Env → Ctl := qFor (qIt (qOp dIxT (qVar 0) (qVar 5))) (pName 6) FB_steps_from_1
def WT_steps_from_1 : Pu.Env → Res Bool := (qTst (qOp dLt (qVar 4) (qUn dLen (qVar 3))))
def WB_steps_from_1 : Pu.Env → Ctl := (qSeq (qSet 5 (qOp dIxL (qVar 3) (qVar 4)))
  (qSeq (qAug 4 ipAdd (qC (.int 1)))
  FR_steps_from_1))
def WH_steps_from_1 : Pu.Env → Ctl := qWhile WT_steps_from_1 WB_steps_from_1
def T_steps_from_4 : Pu.Env → Ctl := (qSeq WH_steps_from_1
  (qRet (qUn dTuple (qVar 2))))
def T_steps_from_3 : Pu.Env → Ctl := (qSeq (qSet 4 (qC (.int 0)))
  (qSeq WH_steps_from_1
  (qRet (qUn dTuple (qVar 2)))))
def T_steps_from_2 : Pu.Env → Ctl := (qSeq (qSet 3 (qLst (qCons (qV (qVar 1)) qNil)))
  (qSeq (qSet 4 (qC (.int 0)))
  (qSeq WH_steps_from_1
  (qRet (qUn dTuple (qVar 2))))))
def T_steps_from_1 : Pu.Env → Ctl := (qSeq (qSto 2 (qVar 1) (qC (.int 0)))
  (qSeq (qSet 3 (qLst (qCons (qV (qVar 1)) qNil)))
  (qSeq (qSet 4 (qC (.int 0)))
  (qSeq WH_steps_from_1
  (qRet (qUn dTuple (qVar 2)))))))
def B_steps_from : Pu.Env → Ctl := (qSeq (qSet 2 (qOp dRep (qLst (qCons (qV (qUn dNeg (qC (.int 1)))) qNil)) (qUn dLen (qVar 0))))
  (qSeq (qSto 2 (qVar 1) (qC (.int 0)))
  (qSeq (qSet 3 (qLst (qCons (qV (qVar 1)) qNil)))
  (qSeq (qSet 4 (qC (.int 0)))
  (qSeq WH_steps_from_1
  (qRet (qUn dTuple (qVar 2))))))))
def F_steps_from : List S → Res Rk := qDef 2 7 B_steps_from
theorem E_steps_from {a0 a1 : S} : F_steps_from [a0, a1] = fin (B_steps_from [a0, a1, .un, .un, .un, .un, .un]) := rfl
def LC_first_row_1 : Pu.Env → Res Rk := qLc (qIt (qOp dIxT (qVar 0) (qOp dIxL (qVar 4) (qUn dNeg (qC (.int 1)))))) (pName 7) (qTst (qOp dEq (qOp dIxT (qVar 3) (qVar 7)) (qVar 5))) (qVar 7) [7]
def FB_first_row_1 : Pu.Env → Ctl := (qSeq (qSet 6 LC_first_row_1)
  (qExpr (qApp 4 (qOp dIxL (qVar 6) (qC (.int 0))))))
def FR_first_row_1 : Pu.Env → Ctl := qFor (qR3 (qCons (qV (qOp dSub (qOp dIxT (qVar 3) (qVar 1)) (qC (.int 1)))) (qCons (qV (qUn dNeg (qC (.int 1)))) (qCons (qV (qUn dNeg (qC (.int 1)))) qNil)))) (pName 5) FB_first_row_1
def T_first_row_3 : Pu.Env → Ctl := (qSeq FR_first_row_1
  (qRet (qUn dTuple (qVar 4))))
def T_first_row_2 : Pu.Env → Ctl := (qSeq (qSet 4 (qLst (qCons (qV (qVar 1)) qNil)))
  (qSeq FR_first_row_1
  (qRet (qUn dTuple (qVar 4)))))
def T_first_row_1 : Pu.Env → Ctl := (qSeq (qIf (qTst (qOp dLt (qOp dIxT (qVar 3) (qVar 1)) (qC (.int 0)))) (qRet (qC .none)) qNext)
  (qSeq (qSet 4 (qLst (qCons (qV (qVar 1)) qNil)))
  (qSeq FR_first_row_1
  (qRet (qUn dTuple (qVar 4))))))
def B_first_row : Pu.Env → Ctl := (qSeq (qSet 3 (qCall0 F_steps_from none (qaV (qVar 0) (qaV (qVar 2) qaNil))))
  (qSeq (qIf (qTst (qOp dLt (qOp dIxT (qVar 3) (qVar 1)) (qC (.int 0)))) (qRet (qC .none)) qNext)
  (qSeq (qSet 4 (qLst (qCons (qV (qVar 1)) qNil)))
  (qSeq FR_first_row_1
  (qRet (qUn dTuple (qVar 4)))))))
def F_first_row : List S → Res Rk := qDef 3 8 B_first_row
theorem E_first_row {a0 a1 a2 : S} : F_first_row [a0, a1, a2] = fin (B_first_row [a0, a1, a2, .un, .un, .un, .un, .un]) := rfl
def T_way_1 : Pu.Env → Ctl := (qSeq (qExpr (qCall F_check_cell none (qaV (qVar 0) (qaV (qVar 2) qaNil))))
  (qRet (qCall0 F_first_row none (qaV (qCall0 F_near_rows none (qaV (qFld "Web" "size" (qVar 0)) (qaV (qFld "Web" "links" (qVar 0)) qaNil))) (qaV (qVar 1) (qaV (qVar 2) qaNil))))))
def B_way : Pu.Env → Ctl := (qSeq (qExpr (qCall F_check_cell none (qaV (qVar 0) (qaV (qVar 1) qaNil))))
  (qSeq (qExpr (qCall F_check_cell none (qaV (qVar 0) (qaV (qVar 2) qaNil))))
  (qRet (qCall0 F_first_row none (qaV (qCall0 F_near_rows none (qaV (qFld "Web" "size" (qVar 0)) (qaV (qFld "Web" "links" (qVar 0)) qaNil))) (qaV (qVar 1) (qaV (qVar 2) qaNil)))))))
def F_way : List S → Res Rk := qDef 3 3 B_way
theorem E_way {a0 a1 a2 : S} : F_way [a0, a1, a2] = fin (B_way [a0, a1, a2]) := rfl
def T_Ltake_1 : Pu.Env → Ctl := (qSeq (qSto 0 (qC (.int 1)) (qOp dMod (qUn dInt (qOp dAdd (qOp dMul (qOp dIxL (qVar 0) (qC (.int 1))) (qC (.int 39373))) (qC (.int 7)))) (qC (.int 2147483647))))
  (qRet (qOp dMod (qUn dInt (qOp dDiv (qOp dMod (qUn dInt (qOp dMul (qOp dIxL (qVar 0) (qC (.int 1))) (qOp dIxL (qVar 0) (qC (.int 1))))) (qC (.int 2147483629))) (qC (.int 32)))) (qVar 1))))
def B_Ltake : Pu.Env → Ctl := (qSeq (qIf (qTst (qOp dGt (qOp dIxL (qVar 0) (qC (.int 0))) (qC (.int 0)))) (qSeq (qSet 2 (qOp dMod (qUn dInt (qOp dIxL (qVar 0) (qC (.int 0)))) (qVar 1)))
  (qSeq (qSto 0 (qC (.int 0)) (qOp dDiv (qOp dIxL (qVar 0) (qC (.int 0))) (qVar 1)))
  (qRet (qVar 2)))) qNext)
  (qSeq (qSto 0 (qC (.int 1)) (qOp dMod (qUn dInt (qOp dAdd (qOp dMul (qOp dIxL (qVar 0) (qC (.int 1))) (qC (.int 39373))) (qC (.int 7)))) (qC (.int 2147483647))))
  (qRet (qOp dMod (qUn dInt (qOp dDiv (qOp dMod (qUn dInt (qOp dMul (qOp dIxL (qVar 0) (qC (.int 1))) (qOp dIxL (qVar 0) (qC (.int 1))))) (qC (.int 2147483629))) (qC (.int 32)))) (qVar 1)))))
def F_Ltake : List S → Res Rk := qDef 2 3 B_Ltake
theorem E_Ltake {a0 a1 : S} : F_Ltake [a0, a1] = fin (B_Ltake [a0, a1, .un]) := rfl
def B_Lone : Pu.Env → Ctl := (qRet (qOp dIxL (qVar 1) (qCall0 F_Ltake (some (0, 0)) (qaIo 0 (qaV (qUn dLen (qVar 1)) qaNil)))))
def F_Lone : List S → Res Rk := qDef 2 2 B_Lone
theorem E_Lone {a0 a1 : S} : F_Lone [a0, a1] = fin (B_Lone [a0, a1]) := rfl
def LC_Lshuffled_1 : Pu.Env → Res Rk := qLc (qR1 (qVar 1)) (pName 5) qYes (qVar 5) [5]
def FB_Lshuffled_1 : Pu.Env → Ctl := (qExpr (qApp 3 (qPopAt 2 (qCall0 F_Ltake (some (0, 0)) (qaIo 0 (qaV (qUn dLen (qVar 2)) qaNil))))))
def FR_Lshuffled_1 : Pu.Env → Ctl := qFor (qR1 (qVar 1)) (pName 4) FB_Lshuffled_1
def T_Lshuffled_1 : Pu.Env → Ctl := (qSeq FR_Lshuffled_1
  (qRet (qVar 3)))
def B_Lshuffled : Pu.Env → Ctl := (qSeq (qPar 2 3 LC_Lshuffled_1 (qLst qNil))
  (qSeq FR_Lshuffled_1
  (qRet (qVar 3))))
def F_Lshuffled : List S → Res Rk := qDef 2 6 B_Lshuffled
theorem E_Lshuffled {a0 a1 : S} : F_Lshuffled [a0, a1] = fin (B_Lshuffled [a0, a1, .un, .un, .un, .un]) := rfl
def LC_Lnear_1 : Pu.Env → Res Rk := qLc (qIl (qVar 0)) (pTup 2 (pCons (pName 2) (pCons (pName 3) pNil))) (qTst (qOp dEq (qVar 2) (qVar 1))) (qVar 3) [2, 3]
def LC_Lnear_2 : Pu.Env → Res Rk := qLc (qIl (qVar 0)) (pTup 2 (pCons (pName 2) (pCons (pName 3) pNil))) (qTst (qOp dEq (qVar 3) (qVar 1))) (qVar 2) [2, 3]
def B_Lnear : Pu.Env → Ctl := (qRet (qUn dSortI (qOp dCat LC_Lnear_1 LC_Lnear_2)))
def F_Lnear : List S → Res Rk := qDef 2 4 B_Lnear
theorem E_Lnear {a0 a1 : S} : F_Lnear [a0, a1] = fin (B_Lnear [a0, a1, .un, .un]) := rfl
def B_Llink : Pu.Env → Ctl := (qRet (qTup (qCons (qV (qOp dMin (qVar 0) (qVar 1))) (qCons (qV (qOp dMax (qVar 0) (qVar 1))) qNil))))
def F_Llink : List S → Res Rk := qDef 2 2 B_Llink
theorem E_Llink {a0 a1 : S} : F_Llink [a0, a1] = fin (B_Llink [a0, a1]) := rfl
def T_Lcorner_2 : Pu.Env → Ctl := (qSeq (qSet 5 (qPopAt 3 (qCall0 F_Ltake (some (0, 0)) (qaIo 0 (qaV (qUn dLen (qVar 3)) qaNil)))))
  (qRet (qTup (qCons (qV (qOp dAdd (qVar 1) (qC (.int 1)))) (qCons (qV (qUn dSortP (qOp dCat (qVar 2) (qLst (qCons (qV (qTup (qCons (qV (qVar 4)) (qCons (qV (qVar 1)) qNil)))) (qCons (qV (qTup (qCons (qV (qVar 5)) (qCons (qV (qVar 1)) qNil)))) qNil)))))) qNil)))))
def T_Lcorner_1 : Pu.Env → Ctl := (qSeq (qSet 4 (qPopAt 3 (qCall0 F_Ltake (some (0, 0)) (qaIo 0 (qaV (qUn dLen (qVar 3)) qaNil)))))
  (qSeq (qSet 5 (qPopAt 3 (qCall0 F_Ltake (some (0, 0)) (qaIo 0 (qaV (qUn dLen (qVar 3)) qaNil)))))
  (qRet (qTup (qCons (qV (qOp dAdd (qVar 1) (qC (.int 1)))) (qCons (qV (qUn dSortP (qOp dCat (qVar 2) (qLst (qCons (qV (qTup (qCons (qV (qVar 4)) (qCons (qV (qVar 1)) qNil)))) (qCons (qV (qTup (qCons (qV (qVar 5)) (qCons (qV (qVar 1)) qNil)))) qNil)))))) qNil))))))
def B_Lcorner : Pu.Env → Ctl := (qSeq (qSet 3 (qCall0 F_Lnear none (qaV (qVar 2) (qaV (qCall0 F_Ltake (some (0, 0)) (qaIo 0 (qaV (qVar 1) qaNil))) qaNil))))
  (qSeq (qSet 4 (qPopAt 3 (qCall0 F_Ltake (some (0, 0)) (qaIo 0 (qaV (qUn dLen (qVar 3)) qaNil)))))
  (qSeq (qSet 5 (qPopAt 3 (qCall0 F_Ltake (some (0, 0)) (qaIo 0 (qaV (qUn dLen (qVar 3)) qaNil)))))
  (qRet (qTup (qCons (qV (qOp dAdd (qVar 1) (qC (.int 1)))) (qCons (qV (qUn dSortP (qOp dCat (qVar 2) (qLst (qCons (qV (qTup (qCons (qV (qVar 4)) (qCons (qV (qVar 1)) qNil)))) (qCons (qV (qTup (qCons (qV (qVar 5)) (qCons (qV (qVar 1)) qNil)))) qNil)))))) qNil)))))))
def F_Lcorner : List S → Res Rk := qDef 3 6 B_Lcorner
theorem E_Lcorner {a0 a1 a2 : S} : F_Lcorner [a0, a1, a2] = fin (B_Lcorner [a0, a1, a2, .un, .un, .un]) := rfl
def T_Lbridge_4 : Pu.Env → Ctl := (qSeq (qIf (qOr (qTst (qOp dEq (qVar 3) (qVar 5))) (qOr (qTst (qOp dEq (qVar 3) (qVar 6))) (qOr (qTst (qOp dEq (qVar 4) (qVar 6))) (qTst (qOp dIn (qCall0 F_Llink none (qaV (qVar 3) (qaV (qVar 6) qaNil))) (qVar 2)))))) (qRet (qTup (qCons (qV (qVar 1)) (qCons (qV (qVar 2)) qNil)))) qNext)
  (qRet (qTup (qCons (qV (qVar 1)) (qCons (qV (qUn dSortP (qOp dCat (qVar 2) (qLst (qCons (qV (qCall0 F_Llink none (qaV (qVar 3) (qaV (qVar 6) qaNil)))) qNil))))) qNil)))))
def T_Lbridge_3 : Pu.Env → Ctl := (qSeq (qSet 6 (qCall0 F_Lone (some (0, 0)) (qaIo 0 (qaV (qCall0 F_Lnear none (qaV (qVar 2) (qaV (qVar 5) qaNil))) qaNil))))
  (qSeq (qIf (qOr (qTst (qOp dEq (qVar 3) (qVar 5))) (qOr (qTst (qOp dEq (qVar 3) (qVar 6))) (qOr (qTst (qOp dEq (qVar 4) (qVar 6))) (qTst (qOp dIn (qCall0 F_Llink none (qaV (qVar 3) (qaV (qVar 6) qaNil))) (qVar 2)))))) (qRet (qTup (qCons (qV (qVar 1)) (qCons (qV (qVar 2)) qNil)))) qNext)
  (qRet (qTup (qCons (qV (qVar 1)) (qCons (qV (qUn dSortP (qOp dCat (qVar 2) (qLst (qCons (qV (qCall0 F_Llink none (qaV (qVar 3) (qaV (qVar 6) qaNil)))) qNil))))) qNil))))))
def T_Lbridge_2 : Pu.Env → Ctl := (qSeq (qSet 5 (qCall0 F_Lone (some (0, 0)) (qaIo 0 (qaV (qCall0 F_Lnear none (qaV (qVar 2) (qaV (qVar 4) qaNil))) qaNil))))
  (qSeq (qSet 6 (qCall0 F_Lone (some (0, 0)) (qaIo 0 (qaV (qCall0 F_Lnear none (qaV (qVar 2) (qaV (qVar 5) qaNil))) qaNil))))
  (qSeq (qIf (qOr (qTst (qOp dEq (qVar 3) (qVar 5))) (qOr (qTst (qOp dEq (qVar 3) (qVar 6))) (qOr (qTst (qOp dEq (qVar 4) (qVar 6))) (qTst (qOp dIn (qCall0 F_Llink none (qaV (qVar 3) (qaV (qVar 6) qaNil))) (qVar 2)))))) (qRet (qTup (qCons (qV (qVar 1)) (qCons (qV (qVar 2)) qNil)))) qNext)
  (qRet (qTup (qCons (qV (qVar 1)) (qCons (qV (qUn dSortP (qOp dCat (qVar 2) (qLst (qCons (qV (qCall0 F_Llink none (qaV (qVar 3) (qaV (qVar 6) qaNil)))) qNil))))) qNil)))))))
def T_Lbridge_1 : Pu.Env → Ctl := (qSeq (qSet 4 (qCall0 F_Lone (some (0, 0)) (qaIo 0 (qaV (qCall0 F_Lnear none (qaV (qVar 2) (qaV (qVar 3) qaNil))) qaNil))))
  (qSeq (qSet 5 (qCall0 F_Lone (some (0, 0)) (qaIo 0 (qaV (qCall0 F_Lnear none (qaV (qVar 2) (qaV (qVar 4) qaNil))) qaNil))))
  (qSeq (qSet 6 (qCall0 F_Lone (some (0, 0)) (qaIo 0 (qaV (qCall0 F_Lnear none (qaV (qVar 2) (qaV (qVar 5) qaNil))) qaNil))))
  (qSeq (qIf (qOr (qTst (qOp dEq (qVar 3) (qVar 5))) (qOr (qTst (qOp dEq (qVar 3) (qVar 6))) (qOr (qTst (qOp dEq (qVar 4) (qVar 6))) (qTst (qOp dIn (qCall0 F_Llink none (qaV (qVar 3) (qaV (qVar 6) qaNil))) (qVar 2)))))) (qRet (qTup (qCons (qV (qVar 1)) (qCons (qV (qVar 2)) qNil)))) qNext)
  (qRet (qTup (qCons (qV (qVar 1)) (qCons (qV (qUn dSortP (qOp dCat (qVar 2) (qLst (qCons (qV (qCall0 F_Llink none (qaV (qVar 3) (qaV (qVar 6) qaNil)))) qNil))))) qNil))))))))
def B_Lbridge : Pu.Env → Ctl := (qSeq (qSet 3 (qCall0 F_Ltake (some (0, 0)) (qaIo 0 (qaV (qVar 1) qaNil))))
  (qSeq (qSet 4 (qCall0 F_Lone (some (0, 0)) (qaIo 0 (qaV (qCall0 F_Lnear none (qaV (qVar 2) (qaV (qVar 3) qaNil))) qaNil))))
  (qSeq (qSet 5 (qCall0 F_Lone (some (0, 0)) (qaIo 0 (qaV (qCall0 F_Lnear none (qaV (qVar 2) (qaV (qVar 4) qaNil))) qaNil))))
  (qSeq (qSet 6 (qCall0 F_Lone (some (0, 0)) (qaIo 0 (qaV (qCall0 F_Lnear none (qaV (qVar 2) (qaV (qVar 5) qaNil))) qaNil))))
  (qSeq (qIf (qOr (qTst (qOp dEq (qVar 3) (qVar 5))) (qOr (qTst (qOp dEq (qVar 3) (qVar 6))) (qOr (qTst (qOp dEq (qVar 4) (qVar 6))) (qTst (qOp dIn (qCall0 F_Llink none (qaV (qVar 3) (qaV (qVar 6) qaNil))) (qVar 2)))))) (qRet (qTup (qCons (qV (qVar 1)) (qCons (qV (qVar 2)) qNil)))) qNext)
  (qRet (qTup (qCons (qV (qVar 1)) (qCons (qV (qUn dSortP (qOp dCat (qVar 2) (qLst (qCons (qV (qCall0 F_Llink none (qaV (qVar 3) (qaV (qVar 6) qaNil)))) qNil))))) qNil)))))))))
def F_Lbridge : List S → Res Rk := qDef 3 7 B_Lbridge
theorem E_Lbridge {a0 a1 a2 : S} : F_Lbridge [a0, a1, a2] = fin (B_Lbridge [a0, a1, a2, .un, .un, .un, .un]) := rfl
def LC_Lrenamed_1 : Pu.Env → Res Rk := qLc (qIl (qVar 2)) (pTup 2 (pCons (pName 4) (pCons (pName 5) pNil))) qYes (qCall0 F_Llink none (qaV (qOp dIxL (qVar 3) (qVar 4)) (qaV (qOp dIxL (qVar 3) (qVar 5)) qaNil))) [4, 5]
def LC_Lrenamed_2 : Pu.Env → Res Rk := qLc (qIl (qVar 2)) (pTup 2 (pCons (pName 4) (pCons (pName 5) pNil))) qYes (qCall0 F_Llink none (qaV (qOp dIxL (qVar 3) (qVar 4)) (qaV (qOp dIxL (qVar 3) (qVar 5)) qaNil))) [4, 5]
def B_Lrenamed : Pu.Env → Ctl := (qSeq (qSet 3 (qCall0 F_Lshuffled (some (0, 0)) (qaIo 0 (qaV (qVar 1) qaNil))))
  (qRet (qTup (qCons (qV (qVar 1)) (qCons (qV (qUn dSortP LC_Lrenamed_1)) qNil)))))
def F_Lrenamed : List S → Res Rk := qDef 3 6 B_Lrenamed
theorem E_Lrenamed {a0 a1 a2 : S} : F_Lrenamed [a0, a1, a2] = fin (B_Lrenamed [a0, a1, a2, .un, .un, .un]) := rfl
def FB_Lstout_1 : Pu.Env → Ctl := (qIf (qAnd (qTst (qOp dLt (qVar 6) (qVar 1))) (qTst (qOp dLt (qCall0 F_Ltake (some (0, 0)) (qaIo 0 (qaV (qC (.int 3)) qaNil))) (qC (.int 2))))) (qAsg (qCall0 F_Lcorner (some (0, 0)) (qaIo 0 (qaV (qVar 6) (qaV (qVar 7) qaNil)))) (pTup 2 (pCons (pName 6) (pCons (pName 7) pNil)))) (qAsg (qCall0 F_Lbridge (some (0, 0)) (qaIo 0 (qaV (qVar 6) (qaV (qVar 7) qaNil)))) (pTup 2 (pCons (pName 6) (pCons (pName 7) pNil)))))
def FR_Lstout_1 : Pu.Env → Ctl := qFor (qR1 (qCall0 F_Ltake (some (0, 0)) (qaIo 0 (qaV (qVar 1) qaNil)))) (pName 8) FB_Lstout_1
def T_Lstout_5 : Pu.Env → Ctl := (qSeq FR_Lstout_1
  (qRet (qCall0 F_Lrenamed (some (0, 0)) (qaIo 0 (qaV (qVar 6) (qaV (qVar 7) qaNil))))))
def T_Lstout_4 : Pu.Env → Ctl := (qSeq (qIf (qOr (qTst (qOp dEq (qVar 2) (qC (.int 2)))) (qAnd (qTst (qOp dEq (qVar 2) (qC (.int 3)))) (qTst (qOp dEq (qCall0 F_Ltake (some (0, 0)) (qaIo 0 (qaV (qC (.int 3)) qaNil))) (qC (.int 0)))))) (qSeq (qSet 7 (qVar 4))
  (qIf (qAnd (qTst (qOp dGe (qVar 1) (qC (.int 6)))) (qTst (qOp dEq (qCall0 F_Ltake (some (0, 0)) (qaIo 0 (qaV (qC (.int 2)) qaNil))) (qC (.int 0))))) (qPar 6 7 (qC (.int 6)) (qVar 5)) qNext)) qNext)
  (qSeq FR_Lstout_1
  (qRet (qCall0 F_Lrenamed (some (0, 0)) (qaIo 0 (qaV (qVar 6) (qaV (qVar 7) qaNil)))))))
def T_Lstout_3 : Pu.Env → Ctl := (qSeq (qPar 6 7 (qC (.int 4)) (qVar 3))
  (qSeq (qIf (qOr (qTst (qOp dEq (qVar 2) (qC (.int 2)))) (qAnd (qTst (qOp dEq (qVar 2) (qC (.int 3)))) (qTst (qOp dEq (qCall0 F_Ltake (some (0, 0)) (qaIo 0 (qaV (qC (.int 3)) qaNil))) (qC (.int 0)))))) (qSeq (qSet 7 (qVar 4))
  (qIf (qAnd (qTst (qOp dGe (qVar 1) (qC (.int 6)))) (qTst (qOp dEq (qCall0 F_Ltake (some (0, 0)) (qaIo 0 (qaV (qC (.int 2)) qaNil))) (qC (.int 0))))) (qPar 6 7 (qC (.int 6)) (qVar 5)) qNext)) qNext)
  (qSeq FR_Lstout_1
  (qRet (qCall0 F_Lrenamed (some (0, 0)) (qaIo 0 (qaV (qVar 6) (qaV (qVar 7) qaNil))))))))
def T_Lstout_2 : Pu.Env → Ctl := (qSeq (qSet 5 (qLst (qCons (qV (qTup (qCons (qV (qC (.int 0))) (qCons (qV (qC (.int 1))) qNil)))) (qCons (qV (qTup (qCons (qV (qC (.int 0))) (qCons (qV (qC (.int 2))) qNil)))) (qCons (qV (qTup (qCons (qV (qC (.int 0))) (qCons (qV (qC (.int 4))) qNil)))) (qCons (qV (qTup (qCons (qV (qC (.int 1))) (qCons (qV (qC (.int 3))) qNil)))) (qCons (qV (qTup (qCons (qV (qC (.int 1))) (qCons (qV (qC (.int 5))) qNil)))) (qCons (qV (qTup (qCons (qV (qC (.int 2))) (qCons (qV (qC (.int 3))) qNil)))) (qCons (qV (qTup (qCons (qV (qC (.int 2))) (qCons (qV (qC (.int 4))) qNil)))) (qCons (qV (qTup (qCons (qV (qC (.int 3))) (qCons (qV (qC (.int 5))) qNil)))) (qCons (qV (qTup (qCons (qV (qC (.int 4))) (qCons (qV (qC (.int 5))) qNil)))) qNil)))))))))))
  (qSeq (qPar 6 7 (qC (.int 4)) (qVar 3))
  (qSeq (qIf (qOr (qTst (qOp dEq (qVar 2) (qC (.int 2)))) (qAnd (qTst (qOp dEq (qVar 2) (qC (.int 3)))) (qTst (qOp dEq (qCall0 F_Ltake (some (0, 0)) (qaIo 0 (qaV (qC (.int 3)) qaNil))) (qC (.int 0)))))) (qSeq (qSet 7 (qVar 4))
  (qIf (qAnd (qTst (qOp dGe (qVar 1) (qC (.int 6)))) (qTst (qOp dEq (qCall0 F_Ltake (some (0, 0)) (qaIo 0 (qaV (qC (.int 2)) qaNil))) (qC (.int 0))))) (qPar 6 7 (qC (.int 6)) (qVar 5)) qNext)) qNext)
  (qSeq FR_Lstout_1
  (qRet (qCall0 F_Lrenamed (some (0, 0)) (qaIo 0 (qaV (qVar 6) (qaV (qVar 7) qaNil)))))))))
def T_Lstout_1 : Pu.Env → Ctl := (qSeq (qSet 4 (qLst (qCons (qV (qTup (qCons (qV (qC (.int 0))) (qCons (qV (qC (.int 1))) qNil)))) (qCons (qV (qTup (qCons (qV (qC (.int 0))) (qCons (qV (qC (.int 2))) qNil)))) (qCons (qV (qTup (qCons (qV (qC (.int 0))) (qCons (qV (qC (.int 3))) qNil)))) (qCons (qV (qTup (qCons (qV (qC (.int 1))) (qCons (qV (qC (.int 2))) qNil)))) (qCons (qV (qTup (qCons (qV (qC (.int 1))) (qCons (qV (qC (.int 3))) qNil)))) (qCons (qV (qTup (qCons (qV (qC (.int 2))) (qCons (qV (qC (.int 3))) qNil)))) qNil))))))))
  (qSeq (qSet 5 (qLst (qCons (qV (qTup (qCons (qV (qC (.int 0))) (qCons (qV (qC (.int 1))) qNil)))) (qCons (qV (qTup (qCons (qV (qC (.int 0))) (qCons (qV (qC (.int 2))) qNil)))) (qCons (qV (qTup (qCons (qV (qC (.int 0))) (qCons (qV (qC (.int 4))) qNil)))) (qCons (qV (qTup (qCons (qV (qC (.int 1))) (qCons (qV (qC (.int 3))) qNil)))) (qCons (qV (qTup (qCons (qV (qC (.int 1))) (qCons (qV (qC (.int 5))) qNil)))) (qCons (qV (qTup (qCons (qV (qC (.int 2))) (qCons (qV (qC (.int 3))) qNil)))) (qCons (qV (qTup (qCons (qV (qC (.int 2))) (qCons (qV (qC (.int 4))) qNil)))) (qCons (qV (qTup (qCons (qV (qC (.int 3))) (qCons (qV (qC (.int 5))) qNil)))) (qCons (qV (qTup (qCons (qV (qC (.int 4))) (qCons (qV (qC (.int 5))) qNil)))) qNil)))))))))))
  (qSeq (qPar 6 7 (qC (.int 4)) (qVar 3))
  (qSeq (qIf (qOr (qTst (qOp dEq (qVar 2) (qC (.int 2)))) (qAnd (qTst (qOp dEq (qVar 2) (qC (.int 3)))) (qTst (qOp dEq (qCall0 F_Ltake (some (0, 0)) (qaIo 0 (qaV (qC (.int 3)) qaNil))) (qC (.int 0)))))) (qSeq (qSet 7 (qVar 4))
  (qIf (qAnd (qTst (qOp dGe (qVar 1) (qC (.int 6)))) (qTst (qOp dEq (qCall0 F_Ltake (some (0, 0)) (qaIo 0 (qaV (qC (.int 2)) qaNil))) (qC (.int 0))))) (qPar 6 7 (qC (.int 6)) (qVar 5)) qNext)) qNext)
  (qSeq FR_Lstout_1
  (qRet (qCall0 F_Lrenamed (some (0, 0)) (qaIo 0 (qaV (qVar 6) (qaV (qVar 7) qaNil))))))))))
def B_Lstout : Pu.Env → Ctl := (qSeq (qSet 3 (qLst (qCons (qV (qTup (qCons (qV (qC (.int 0))) (qCons (qV (qC (.int 1))) qNil)))) (qCons (qV (qTup (qCons (qV (qC (.int 0))) (qCons (qV (qC (.int 2))) qNil)))) (qCons (qV (qTup (qCons (qV (qC (.int 1))) (qCons (qV (qC (.int 3))) qNil)))) (qCons (qV (qTup (qCons (qV (qC (.int 2))) (qCons (qV (qC (.int 3))) qNil)))) qNil))))))
  (qSeq (qSet 4 (qLst (qCons (qV (qTup (qCons (qV (qC (.int 0))) (qCons (qV (qC (.int 1))) qNil)))) (qCons (qV (qTup (qCons (qV (qC (.int 0))) (qCons (qV (qC (.int 2))) qNil)))) (qCons (qV (qTup (qCons (qV (qC (.int 0))) (qCons (qV (qC (.int 3))) qNil)))) (qCons (qV (qTup (qCons (qV (qC (.int 1))) (qCons (qV (qC (.int 2))) qNil)))) (qCons (qV (qTup (qCons (qV (qC (.int 1))) (qCons (qV (qC (.int 3))) qNil)))) (qCons (qV (qTup (qCons (qV (qC (.int 2))) (qCons (qV (qC (.int 3))) qNil)))) qNil))))))))
  (qSeq (qSet 5 (qLst (qCons (qV (qTup (qCons (qV (qC (.int 0))) (qCons (qV (qC (.int 1))) qNil)))) (qCons (qV (qTup (qCons (qV (qC (.int 0))) (qCons (qV (qC (.int 2))) qNil)))) (qCons (qV (qTup (qCons (qV (qC (.int 0))) (qCons (qV (qC (.int 4))) qNil)))) (qCons (qV (qTup (qCons (qV (qC (.int 1))) (qCons (qV (qC (.int 3))) qNil)))) (qCons (qV (qTup (qCons (qV (qC (.int 1))) (qCons (qV (qC (.int 5))) qNil)))) (qCons (qV (qTup (qCons (qV (qC (.int 2))) (qCons (qV (qC (.int 3))) qNil)))) (qCons (qV (qTup (qCons (qV (qC (.int 2))) (qCons (qV (qC (.int 4))) qNil)))) (qCons (qV (qTup (qCons (qV (qC (.int 3))) (qCons (qV (qC (.int 5))) qNil)))) (qCons (qV (qTup (qCons (qV (qC (.int 4))) (qCons (qV (qC (.int 5))) qNil)))) qNil)))))))))))
  (qSeq (qPar 6 7 (qC (.int 4)) (qVar 3))
  (qSeq (qIf (qOr (qTst (qOp dEq (qVar 2) (qC (.int 2)))) (qAnd (qTst (qOp dEq (qVar 2) (qC (.int 3)))) (qTst (qOp dEq (qCall0 F_Ltake (some (0, 0)) (qaIo 0 (qaV (qC (.int 3)) qaNil))) (qC (.int 0)))))) (qSeq (qSet 7 (qVar 4))
  (qIf (qAnd (qTst (qOp dGe (qVar 1) (qC (.int 6)))) (qTst (qOp dEq (qCall0 F_Ltake (some (0, 0)) (qaIo 0 (qaV (qC (.int 2)) qaNil))) (qC (.int 0))))) (qPar 6 7 (qC (.int 6)) (qVar 5)) qNext)) qNext)
  (qSeq FR_Lstout_1
  (qRet (qCall0 F_Lrenamed (some (0, 0)) (qaIo 0 (qaV (qVar 6) (qaV (qVar 7) qaNil)))))))))))
def F_Lstout : List S → Res Rk := qDef 3 9 B_Lstout
theorem E_Lstout {a0 a1 a2 : S} : F_Lstout [a0, a1, a2] = fin (B_Lstout [a0, a1, a2, .un, .un, .un, .un, .un, .un]) := rfl
def LC_Lround_1 : Pu.Env → Res Rk := qLc (qR1 (qOp dSub (qVar 1) (qC (.int 1)))) (pName 2) qYes (qTup (qCons (qV (qVar 2)) (qCons (qV (qOp dAdd (qVar 2) (qC (.int 1)))) qNil))) [2]
def LC_Lround_2 : Pu.Env → Res Rk := qLc (qR1 (qOp dSub (qVar 1) (qC (.int 1)))) (pName 2) qYes (qTup (qCons (qV (qVar 2)) (qCons (qV (qOp dAdd (qVar 2) (qC (.int 1)))) qNil))) [2]
def B_Lround : Pu.Env → Ctl := (qRet (qCall0 F_Lrenamed (some (0, 0)) (qaIo 0 (qaV (qVar 1) (qaV (qOp dCat LC_Lround_1 (qLst (qCons (qV (qTup (qCons (qV (qC (.int 0))) (qCons (qV (qOp dSub (qVar 1) (qC (.int 1)))) qNil)))) qNil))) qaNil)))))
def F_Lround : List S → Res Rk := qDef 2 3 B_Lround
theorem E_Lround {a0 a1 : S} : F_Lround [a0, a1] = fin (B_Lround [a0, a1, .un]) := rfl
def FB_Ltree_1 : Pu.Env → Ctl := (qExpr (qApp 2 (qTup (qCons (qV (qCall0 F_Lone (some (0, 0)) (qaIo 0 (qaV (qLst (qCons (qV (qOp dSub (qVar 3) (qC (.int 1)))) (qCons (qV (qCall0 F_Ltake (some (0, 0)) (qaIo 0 (qaV (qVar 3) qaNil)))) qNil))) qaNil)))) (qCons (qV (qVar 3)) qNil)))))
def FR_Ltree_1 : Pu.Env → Ctl := qFor (qR2 (qC (.int 1)) (qVar 1)) (pName 3) FB_Ltree_1
def T_Ltree_1 : Pu.Env → Ctl := (qSeq FR_Ltree_1
  (qRet (qCall0 F_Lrenamed (some (0, 0)) (qaIo 0 (qaV (qVar 1) (qaV (qUn dSortP (qVar 2)) qaNil))))))
def B_Ltree : Pu.Env → Ctl := (qSeq (qSet 2 (qLst qNil))
  (qSeq FR_Ltree_1
  (qRet (qCall0 F_Lrenamed (some (0, 0)) (qaIo 0 (qaV (qVar 1) (qaV (qUn dSortP (qVar 2)) qaNil)))))))
def F_Ltree : List S → Res Rk := qDef 2 4 B_Ltree
theorem E_Ltree {a0 a1 : S} : F_Ltree [a0, a1] = fin (B_Ltree [a0, a1, .un, .un]) := rfl
def FB_Lany_1 : Pu.Env → Ctl := (qIf (qTst (qOp dLt (qCall0 F_Ltake (some (0, 0)) (qaIo 0 (qaV (qC (.int 5)) qaNil))) (qC (.int 2)))) (qExpr (qApp 2 (qTup (qCons (qV (qVar 4)) (qCons (qV (qVar 3)) qNil))))) qNext)
def FR_Lany_1 : Pu.Env → Ctl := qFor (qR1 (qVar 3)) (pName 4) FB_Lany_1
def FB_Lany_2 : Pu.Env → Ctl := FR_Lany_1
def FR_Lany_2 : Pu.Env → Ctl := qFor (qR1 (qVar 1)) (pName 3) FB_Lany_2
def T_Lany_1 : Pu.Env → Ctl := (qSeq FR_Lany_2
  (qRet (qTup (qCons (qV (qVar 1)) (qCons (qV (qUn dSortP (qVar 2))) qNil)))))
def B_Lany : Pu.Env → Ctl := (qSeq (qSet 2 (qLst qNil))
  (qSeq FR_Lany_2
  (qRet (qTup (qCons (qV (qVar 1)) (qCons (qV (qUn dSortP (qVar 2))) qNil))))))
def F_Lany : List S → Res Rk := qDef 2 5 B_Lany
theorem E_Lany {a0 a1 : S} : F_Lany [a0, a1] = fin (B_Lany [a0, a1, .un, .un, .un]) := rfl
def LC_Lbeside_1 : Pu.Env → Res Rk := qLc (qIl (qOp dIxT (qVar 2) (qC (.int 1)))) (pTup 2 (pCons (pName 4) (pCons (pName 5) pNil))) qYes (qTup (qCons (qV (qOp dAdd (qVar 4) (qOp dIxT (qVar 1) (qC (.int 0))))) (qCons (qV (qOp dAdd (qVar 5) (qOp dIxT (qVar 1) (qC (.int 0))))) qNil))) [4, 5]
def B_Lbeside : Pu.Env → Ctl := (qSeq (qSet 3 (qOp dCat (qOp dIxT (qVar 1) (qC (.int 1))) LC_Lbeside_1))
  (qRet (qCall0 F_Lrenamed (some (0, 0)) (qaIo 0 (qaV (qOp dAdd (qOp dIxT (qVar 1) (qC (.int 0))) (qOp dIxT (qVar 2) (qC (.int 0)))) (qaV (qVar 3) qaNil))))))
def F_Lbeside : List S → Res Rk := qDef 3 6 B_Lbeside
theorem E_Lbeside {a0 a1 a2 : S} : F_Lbeside [a0, a1, a2] = fin (B_Lbeside [a0, a1, a2, .un, .un, .un]) := rfl
def T_Lsome_3 : Pu.Env → Ctl := (qSeq (qIf (qTst (qOp dEq (qVar 2) (qC (.int 2)))) (qRet (qCall0 F_Lround (some (0, 0)) (qaIo 0 (qaV (qOp dAdd (qC (.int 3)) (qCall0 F_Ltake (some (0, 0)) (qaIo 0 (qaV (qOp dSub (qVar 1) (qC (.int 2))) qaNil)))) qaNil)))) qNext)
  (qRet (qCall0 F_Lstout (some (0, 0)) (qaIo 0 (qaV (qVar 1) (qaV (qC (.int 3)) qaNil))))))
def T_Lsome_2 : Pu.Env → Ctl := (qSeq (qIf (qTst (qOp dEq (qVar 2) (qC (.int 1)))) (qRet (qCall0 F_Ltree (some (0, 0)) (qaIo 0 (qaV (qOp dAdd (qC (.int 1)) (qCall0 F_Ltake (some (0, 0)) (qaIo 0 (qaV (qVar 1) qaNil)))) qaNil)))) qNext)
  (qSeq (qIf (qTst (qOp dEq (qVar 2) (qC (.int 2)))) (qRet (qCall0 F_Lround (some (0, 0)) (qaIo 0 (qaV (qOp dAdd (qC (.int 3)) (qCall0 F_Ltake (some (0, 0)) (qaIo 0 (qaV (qOp dSub (qVar 1) (qC (.int 2))) qaNil)))) qaNil)))) qNext)
  (qRet (qCall0 F_Lstout (some (0, 0)) (qaIo 0 (qaV (qVar 1) (qaV (qC (.int 3)) qaNil)))))))
def T_Lsome_1 : Pu.Env → Ctl := (qSeq (qIf (qTst (qOp dEq (qVar 2) (qC (.int 0)))) (qRet (qCall0 F_Lany (some (0, 0)) (qaIo 0 (qaV (qOp dAdd (qC (.int 1)) (qCall0 F_Ltake (some (0, 0)) (qaIo 0 (qaV (qVar 1) qaNil)))) qaNil)))) qNext)
  (qSeq (qIf (qTst (qOp dEq (qVar 2) (qC (.int 1)))) (qRet (qCall0 F_Ltree (some (0, 0)) (qaIo 0 (qaV (qOp dAdd (qC (.int 1)) (qCall0 F_Ltake (some (0, 0)) (qaIo 0 (qaV (qVar 1) qaNil)))) qaNil)))) qNext)
  (qSeq (qIf (qTst (qOp dEq (qVar 2) (qC (.int 2)))) (qRet (qCall0 F_Lround (some (0, 0)) (qaIo 0 (qaV (qOp dAdd (qC (.int 3)) (qCall0 F_Ltake (some (0, 0)) (qaIo 0 (qaV (qOp dSub (qVar 1) (qC (.int 2))) qaNil)))) qaNil)))) qNext)
  (qRet (qCall0 F_Lstout (some (0, 0)) (qaIo 0 (qaV (qVar 1) (qaV (qC (.int 3)) qaNil))))))))
def B_Lsome : Pu.Env → Ctl := (qSeq (qSet 2 (qCall0 F_Ltake (some (0, 0)) (qaIo 0 (qaV (qC (.int 5)) qaNil))))
  (qSeq (qIf (qTst (qOp dEq (qVar 2) (qC (.int 0)))) (qRet (qCall0 F_Lany (some (0, 0)) (qaIo 0 (qaV (qOp dAdd (qC (.int 1)) (qCall0 F_Ltake (some (0, 0)) (qaIo 0 (qaV (qVar 1) qaNil)))) qaNil)))) qNext)
  (qSeq (qIf (qTst (qOp dEq (qVar 2) (qC (.int 1)))) (qRet (qCall0 F_Ltree (some (0, 0)) (qaIo 0 (qaV (qOp dAdd (qC (.int 1)) (qCall0 F_Ltake (some (0, 0)) (qaIo 0 (qaV (qVar 1) qaNil)))) qaNil)))) qNext)
  (qSeq (qIf (qTst (qOp dEq (qVar 2) (qC (.int 2)))) (qRet (qCall0 F_Lround (some (0, 0)) (qaIo 0 (qaV (qOp dAdd (qC (.int 3)) (qCall0 F_Ltake (some (0, 0)) (qaIo 0 (qaV (qOp dSub (qVar 1) (qC (.int 2))) qaNil)))) qaNil)))) qNext)
  (qRet (qCall0 F_Lstout (some (0, 0)) (qaIo 0 (qaV (qVar 1) (qaV (qC (.int 3)) qaNil)))))))))
def F_Lsome : List S → Res Rk := qDef 2 3 B_Lsome
theorem E_Lsome {a0 a1 : S} : F_Lsome [a0, a1] = fin (B_Lsome [a0, a1, .un]) := rfl
def B_Lnumber : Pu.Env → Ctl := (qRet (qAndV (qUn (dIsi "int") (qVar 0)) (qNotV (qUn (dIsi "bool") (qVar 0)))))
def F_Lnumber : List S → Res Rk := qDef 1 1 B_Lnumber
theorem E_Lnumber {a0 : S} : F_Lnumber [a0] = fin (B_Lnumber [a0]) := rfl
def FB_Lrow_1 : Pu.Env → Ctl := (qIf (qOr (qNot (qTru (qCall0 F_Lnumber none (qaV (qVar 2) qaNil)))) (qTst (qOp dNe (qVar 2) (qVar 3)))) (qRet (qC (.bool false))) qNext)
def FR_Lrow_1 : Pu.Env → Ctl := qFor (qZp true true (qCons (qV (qVar 0)) (qCons (qV (qVar 1)) qNil))) (pTup 2 (pCons (pName 2) (pCons (pName 3) pNil))) FB_Lrow_1
def T_Lrow_1 : Pu.Env → Ctl := (qSeq FR_Lrow_1
  (qRet (qC (.bool true))))
def B_Lrow : Pu.Env → Ctl := (qSeq (qIf (qOr (qNot (qTru (qUn (dIsi "tuple") (qVar 0)))) (qTst (qOp dNe (qUn dLen (qVar 0)) (qUn dLen (qVar 1))))) (qRet (qC (.bool false))) qNext)
  (qSeq FR_Lrow_1
  (qRet (qC (.bool true)))))
def F_Lrow : List S → Res Rk := qDef 2 4 B_Lrow
theorem E_Lrow {a0 a1 : S} : F_Lrow [a0, a1] = fin (B_Lrow [a0, a1, .un, .un]) := rfl
def B_Loutside : Pu.Env → Ctl := (qRet (qCall0 F_Lone (some (0, 0)) (qaIo 0 (qaV (qLst (qCons (qV (qVar 1)) (qCons (qV (qUn dNeg (qC (.int 1)))) (qCons (qV (qOp dAdd (qOp dAdd (qVar 1) (qC (.int 1))) (qCall0 F_Ltake (some (0, 0)) (qaIo 0 (qaV (qC (.int 90)) qaNil))))) (qCons (qV (qOp dSub (qUn dNeg (qC (.int 2))) (qCall0 F_Ltake (some (0, 0)) (qaIo 0 (qaV (qC (.int 90)) qaNil))))) (qCons (qV (qOp dPow (qC (.int 10)) (qC (.int 20)))) (qCons (qV (qUn dNeg (qOp dPow (qC (.int 10)) (qC (.int 20))))) qNil))))))) qaNil))))
def F_Loutside : List S → Res Rk := qDef 2 2 B_Loutside
theorem E_Loutside {a0 a1 : S} : F_Loutside [a0, a1] = fin (B_Loutside [a0, a1]) := rfl
def LC_Lways_1 : Pu.Env → Res Rk := qLc (qR1 (qVar 0)) (pName 3) qYes (qLst qNil) [3]
def LC_Lways_2 : Pu.Env → Res Rk := qLc (qR1 (qVar 0)) (pName 3) (qTst (qOp dEq (qOp dIxL (qVar 4) (qVar 3)) (qLst qNil))) (qVar 3) [3]
def LC_Lways_3 : Pu.Env → Res Rk := qLc (qIl (qOp dIxL (qVar 4) (qVar 8))) (pName 9) qYes (qOp dCatT (qVar 9) (qTup (qCons (qV (qVar 3)) qNil))) [9]
def FB_Lways_1 : Pu.Env → Ctl := (qIf (qTst (qOp (dInF false) (qVar 3) (qOp dIxL (qVar 1) (qVar 8)))) (qSto 4 (qVar 3) (qOp dCat (qOp dIxL (qVar 4) (qVar 3)) LC_Lways_3)) qNext)
def FR_Lways_1 : Pu.Env → Ctl := qFor (qIl (qVar 5)) (pName 8) FB_Lways_1
def FB_Lways_2 : Pu.Env → Ctl := FR_Lways_1
def FR_Lways_2 : Pu.Env → Ctl := qFor (qIl (qVar 7)) (pName 3) FB_Lways_2
def LC_Lways_4 : Pu.Env → Res Rk := qLc (qIl (qVar 7)) (pName 3) (qTst (qOp dNe (qOp dIxL (qVar 4) (qVar 3)) (qLst qNil))) (qVar 3) [3]
def FB_Lways_3 : Pu.Env → Ctl := (qSeq (qSet 7 LC_Lways_2)
  (qSeq FR_Lways_2
  (qSet 5 LC_Lways_4)))
def FR_Lways_3 : Pu.Env → Ctl := qFor (qR1 (qVar 0)) (pName 6) FB_Lways_3
def T_Lways_3 : Pu.Env → Ctl := (qSeq FR_Lways_3
  (qRet (qVar 4)))
def T_Lways_2 : Pu.Env → Ctl := (qSeq (qSet 5 (qLst (qCons (qV (qVar 2)) qNil)))
  (qSeq FR_Lways_3
  (qRet (qVar 4))))
def T_Lways_1 : Pu.Env → Ctl := (qSeq (qSto 4 (qVar 2) (qLst (qCons (qV (qTup (qCons (qV (qVar 2)) qNil))) qNil)))
  (qSeq (qSet 5 (qLst (qCons (qV (qVar 2)) qNil)))
  (qSeq FR_Lways_3
  (qRet (qVar 4)))))
def B_Lways : Pu.Env → Ctl := (qSeq (qSet 4 LC_Lways_1)
  (qSeq (qSto 4 (qVar 2) (qLst (qCons (qV (qTup (qCons (qV (qVar 2)) qNil))) qNil)))
  (qSeq (qSet 5 (qLst (qCons (qV (qVar 2)) qNil)))
  (qSeq FR_Lways_3
  (qRet (qVar 4))))))
def F_Lways : List S → Res Rk := qDef 3 10 B_Lways
theorem E_Lways {a0 a1 a2 : S} : F_Lways [a0, a1, a2] = fin (B_Lways [a0, a1, a2, .un, .un, .un, .un, .un, .un, .un]) := rfl
def TB_Lrefusal_1 : Pu.Env → Ctl := (qExpr (qCall F_way none (qaV (qVar 0) (qaV (qVar 1) (qaV (qVar 2) qaNil)))))
def TR_Lrefusal_1 : Pu.Env → Ctl := qTry0 3 TB_Lrefusal_1 (("BadCell", true, (qRet (qLst (qCons (qV (qC (.str "cell"))) (qCons (qV (qXf "BadCell" 3)) qNil))))) :: (("Refused", false, (qRet (qLst (qCons (qV (qC (.str "other"))) (qCons (qV (qC (.int 0))) qNil))))) :: []))
def B_Lrefusal : Pu.Env → Ctl := (qSeq TR_Lrefusal_1
  (qRet (qLst qNil)))
def F_Lrefusal : List S → Res Rk := qDef 3 4 B_Lrefusal
theorem E_Lrefusal {a0 a1 a2 : S} : F_Lrefusal [a0, a1, a2] = fin (B_Lrefusal [a0, a1, a2, .un]) := rfl
def T_Lway_right_1 : Pu.Env → Ctl := (qSeq (qIf (qTst (qOp dEq (qVar 3) (qLst qNil))) (qRet (qOp dIsN (qVar 4) (qC .none))) qNext)
  (qRet (qCall0 F_Lrow none (qaV (qVar 4) (qaV (qUn dMinT (qVar 3)) qaNil)))))
def B_Lway_right : Pu.Env → Ctl := (qSeq (qSet 4 (qCallK0 F_way [2, 1, 0] qNil (qCons (qV (qVar 2)) (qCons (qV (qVar 1)) (qCons (qV (qVar 0)) qNil)))))
  (qSeq (qIf (qTst (qOp dEq (qVar 3) (qLst qNil))) (qRet (qOp dIsN (qVar 4) (qC .none))) qNext)
  (qRet (qCall0 F_Lrow none (qaV (qVar 4) (qaV (qUn dMinT (qVar 3)) qaNil))))))
def F_Lway_right : List S → Res Rk := qDef 4 5 B_Lway_right
theorem E_Lway_right {a0 a1 a2 a3 : S} : F_Lway_right [a0, a1, a2, a3] = fin (B_Lway_right [a0, a1, a2, a3, .un]) := rfl
def LC_Lright_1 : Pu.Env → Res Rk := qLc (qR1 (qVar 1)) (pName 3) qYes (qVar 3) [3]
def LC_Lright_2 : Pu.Env → Res Rk := qLc (qR1 (qVar 1)) (pName 3) qYes (qVar 3) [3]
def LC_Lright_3 : Pu.Env → Res Rk := qLc (qR1 (qC (.int 4))) (pName 12) qYes (qCall0 F_Ltake (some (0, 0)) (qaIo 0 (qaV (qVar 1) qaNil))) [12]
def LC_Lright_4 : Pu.Env → Res Rk := qLc (qR1 (qVar 1)) (pName 3) qYes (qCall0 F_Lnear none (qaV (qVar 2) (qaV (qVar 3) qaNil))) [3]
def FB_Lright_1 : Pu.Env → Ctl := (qIf (qNot (qTru (qCall0 F_Lway_right none (qaV (qVar 6) (qaV (qVar 3) (qaV (qVar 9) (qaV (qOp dIxL (qVar 8) (qVar 9)) qaNil))))))) (qRet (qC (.bool false))) qNext)
def FR_Lright_1 : Pu.Env → Ctl := qFor (qIl (qVar 5)) (pName 9) FB_Lright_1
def FB_Lright_2 : Pu.Env → Ctl := (qSeq (qSet 8 (qCall0 F_Lways none (qaV (qVar 1) (qaV (qVar 7) (qaV (qVar 3) qaNil)))))
  FR_Lright_1)
def FR_Lright_2 : Pu.Env → Ctl := qFor (qIl (qVar 4)) (pName 3) FB_Lright_2
def T_Lright_7 : Pu.Env → Ctl := (qSeq (qIf (qOr (qTst (qOp dNe (qCall0 F_Lrefusal none (qaV (qVar 6) (qaV (qVar 10) (qaV (qVar 3) qaNil)))) (qLst (qCons (qV (qC (.str "cell"))) (qCons (qV (qVar 10)) qNil))))) (qTst (qOp dNe (qCall0 F_Lrefusal none (qaV (qVar 6) (qaV (qVar 3) (qaV (qVar 10) qaNil)))) (qLst (qCons (qV (qC (.str "cell"))) (qCons (qV (qVar 10)) qNil)))))) (qRet (qC (.bool false))) qNext)
  (qRet (qOp dEq (qCall0 F_Lrefusal none (qaV (qVar 6) (qaV (qVar 10) (qaV (qVar 11) qaNil)))) (qLst (qCons (qV (qC (.str "cell"))) (qCons (qV (qVar 10)) qNil))))))
def T_Lright_6 : Pu.Env → Ctl := (qSeq (qPar3 3 10 11 (qCons (qV (qCall0 F_Ltake (some (0, 0)) (qaIo 0 (qaV (qVar 1) qaNil)))) (qCons (qV (qCall0 F_Loutside (some (0, 0)) (qaIo 0 (qaV (qVar 1) qaNil)))) (qCons (qV (qCall0 F_Loutside (some (0, 0)) (qaIo 0 (qaV (qVar 1) qaNil)))) qNil))))
  (qSeq (qIf (qOr (qTst (qOp dNe (qCall0 F_Lrefusal none (qaV (qVar 6) (qaV (qVar 10) (qaV (qVar 3) qaNil)))) (qLst (qCons (qV (qC (.str "cell"))) (qCons (qV (qVar 10)) qNil))))) (qTst (qOp dNe (qCall0 F_Lrefusal none (qaV (qVar 6) (qaV (qVar 3) (qaV (qVar 10) qaNil)))) (qLst (qCons (qV (qC (.str "cell"))) (qCons (qV (qVar 10)) qNil)))))) (qRet (qC (.bool false))) qNext)
  (qRet (qOp dEq (qCall0 F_Lrefusal none (qaV (qVar 6) (qaV (qVar 10) (qaV (qVar 11) qaNil)))) (qLst (qCons (qV (qC (.str "cell"))) (qCons (qV (qVar 10)) qNil)))))))
def T_Lright_5 : Pu.Env → Ctl := (qSeq FR_Lright_2
  (qSeq (qPar3 3 10 11 (qCons (qV (qCall0 F_Ltake (some (0, 0)) (qaIo 0 (qaV (qVar 1) qaNil)))) (qCons (qV (qCall0 F_Loutside (some (0, 0)) (qaIo 0 (qaV (qVar 1) qaNil)))) (qCons (qV (qCall0 F_Loutside (some (0, 0)) (qaIo 0 (qaV (qVar 1) qaNil)))) qNil))))
  (qSeq (qIf (qOr (qTst (qOp dNe (qCall0 F_Lrefusal none (qaV (qVar 6) (qaV (qVar 10) (qaV (qVar 3) qaNil)))) (qLst (qCons (qV (qC (.str "cell"))) (qCons (qV (qVar 10)) qNil))))) (qTst (qOp dNe (qCall0 F_Lrefusal none (qaV (qVar 6) (qaV (qVar 3) (qaV (qVar 10) qaNil)))) (qLst (qCons (qV (qC (.str "cell"))) (qCons (qV (qVar 10)) qNil)))))) (qRet (qC (.bool false))) qNext)
  (qRet (qOp dEq (qCall0 F_Lrefusal none (qaV (qVar 6) (qaV (qVar 10) (qaV (qVar 11) qaNil)))) (qLst (qCons (qV (qC (.str "cell"))) (qCons (qV (qVar 10)) qNil))))))))
def T_Lright_4 : Pu.Env → Ctl := (qSeq (qPar 6 7 (qMake0 M_Web (qaV (qVar 1) (qaV (qUn dTuple (qVar 2)) qaNil))) LC_Lright_4)
  (qSeq FR_Lright_2
  (qSeq (qPar3 3 10 11 (qCons (qV (qCall0 F_Ltake (some (0, 0)) (qaIo 0 (qaV (qVar 1) qaNil)))) (qCons (qV (qCall0 F_Loutside (some (0, 0)) (qaIo 0 (qaV (qVar 1) qaNil)))) (qCons (qV (qCall0 F_Loutside (some (0, 0)) (qaIo 0 (qaV (qVar 1) qaNil)))) qNil))))
  (qSeq (qIf (qOr (qTst (qOp dNe (qCall0 F_Lrefusal none (qaV (qVar 6) (qaV (qVar 10) (qaV (qVar 3) qaNil)))) (qLst (qCons (qV (qC (.str "cell"))) (qCons (qV (qVar 10)) qNil))))) (qTst (qOp dNe (qCall0 F_Lrefusal none (qaV (qVar 6) (qaV (qVar 3) (qaV (qVar 10) qaNil)))) (qLst (qCons (qV (qC (.str "cell"))) (qCons (qV (qVar 10)) qNil)))))) (qRet (qC (.bool false))) qNext)
  (qRet (qOp dEq (qCall0 F_Lrefusal none (qaV (qVar 6) (qaV (qVar 10) (qaV (qVar 11) qaNil)))) (qLst (qCons (qV (qC (.str "cell"))) (qCons (qV (qVar 10)) qNil)))))))))
def T_Lright_3 : Pu.Env → Ctl := (qSeq (qIf (qTst (qOp dEq (qCall0 F_Ltake (some (0, 0)) (qaIo 0 (qaV (qC (.int 20)) qaNil))) (qC (.int 0)))) (qSeq (qAsg (qCall0 F_Lround (some (0, 0)) (qaIo 0 (qaV (qOp dSub (qC (.int 40)) (qCall0 F_Ltake (some (0, 0)) (qaIo 0 (qaV (qC (.int 9)) qaNil)))) qaNil))) (pTup 2 (pCons (pName 1) (pCons (pName 2) pNil))))
  (qSeq (qIf (qTst (qOp dEq (qCall0 F_Ltake (some (0, 0)) (qaIo 0 (qaV (qC (.int 2)) qaNil))) (qC (.int 0)))) (qAsg (qCall0 F_Ltree (some (0, 0)) (qaIo 0 (qaV (qVar 1) qaNil))) (pTup 2 (pCons (pName 1) (pCons (pName 2) pNil)))) qNext)
  (qSeq (qSet 4 (qLst (qCons (qV (qC (.int 0))) (qCons (qV (qCall0 F_Ltake (some (0, 0)) (qaIo 0 (qaV (qVar 1) qaNil)))) qNil))))
  (qSet 5 (qOp dCat (qLst (qCons (qV (qC (.int 0))) (qCons (qV (qOp dSub (qVar 1) (qC (.int 1)))) qNil))) LC_Lright_3))))) qNext)
  (qSeq (qPar 6 7 (qMake0 M_Web (qaV (qVar 1) (qaV (qUn dTuple (qVar 2)) qaNil))) LC_Lright_4)
  (qSeq FR_Lright_2
  (qSeq (qPar3 3 10 11 (qCons (qV (qCall0 F_Ltake (some (0, 0)) (qaIo 0 (qaV (qVar 1) qaNil)))) (qCons (qV (qCall0 F_Loutside (some (0, 0)) (qaIo 0 (qaV (qVar 1) qaNil)))) (qCons (qV (qCall0 F_Loutside (some (0, 0)) (qaIo 0 (qaV (qVar 1) qaNil)))) qNil))))
  (qSeq (qIf (qOr (qTst (qOp dNe (qCall0 F_Lrefusal none (qaV (qVar 6) (qaV (qVar 10) (qaV (qVar 3) qaNil)))) (qLst (qCons (qV (qC (.str "cell"))) (qCons (qV (qVar 10)) qNil))))) (qTst (qOp dNe (qCall0 F_Lrefusal none (qaV (qVar 6) (qaV (qVar 3) (qaV (qVar 10) qaNil)))) (qLst (qCons (qV (qC (.str "cell"))) (qCons (qV (qVar 10)) qNil)))))) (qRet (qC (.bool false))) qNext)
  (qRet (qOp dEq (qCall0 F_Lrefusal none (qaV (qVar 6) (qaV (qVar 10) (qaV (qVar 11) qaNil)))) (qLst (qCons (qV (qC (.str "cell"))) (qCons (qV (qVar 10)) qNil))))))))))
def T_Lright_2 : Pu.Env → Ctl := (qSeq (qPar 4 5 LC_Lright_1 LC_Lright_2)
  (qSeq (qIf (qTst (qOp dEq (qCall0 F_Ltake (some (0, 0)) (qaIo 0 (qaV (qC (.int 20)) qaNil))) (qC (.int 0)))) (qSeq (qAsg (qCall0 F_Lround (some (0, 0)) (qaIo 0 (qaV (qOp dSub (qC (.int 40)) (qCall0 F_Ltake (some (0, 0)) (qaIo 0 (qaV (qC (.int 9)) qaNil)))) qaNil))) (pTup 2 (pCons (pName 1) (pCons (pName 2) pNil))))
  (qSeq (qIf (qTst (qOp dEq (qCall0 F_Ltake (some (0, 0)) (qaIo 0 (qaV (qC (.int 2)) qaNil))) (qC (.int 0)))) (qAsg (qCall0 F_Ltree (some (0, 0)) (qaIo 0 (qaV (qVar 1) qaNil))) (pTup 2 (pCons (pName 1) (pCons (pName 2) pNil)))) qNext)
  (qSeq (qSet 4 (qLst (qCons (qV (qC (.int 0))) (qCons (qV (qCall0 F_Ltake (some (0, 0)) (qaIo 0 (qaV (qVar 1) qaNil)))) qNil))))
  (qSet 5 (qOp dCat (qLst (qCons (qV (qC (.int 0))) (qCons (qV (qOp dSub (qVar 1) (qC (.int 1)))) qNil))) LC_Lright_3))))) qNext)
  (qSeq (qPar 6 7 (qMake0 M_Web (qaV (qVar 1) (qaV (qUn dTuple (qVar 2)) qaNil))) LC_Lright_4)
  (qSeq FR_Lright_2
  (qSeq (qPar3 3 10 11 (qCons (qV (qCall0 F_Ltake (some (0, 0)) (qaIo 0 (qaV (qVar 1) qaNil)))) (qCons (qV (qCall0 F_Loutside (some (0, 0)) (qaIo 0 (qaV (qVar 1) qaNil)))) (qCons (qV (qCall0 F_Loutside (some (0, 0)) (qaIo 0 (qaV (qVar 1) qaNil)))) qNil))))
  (qSeq (qIf (qOr (qTst (qOp dNe (qCall0 F_Lrefusal none (qaV (qVar 6) (qaV (qVar 10) (qaV (qVar 3) qaNil)))) (qLst (qCons (qV (qC (.str "cell"))) (qCons (qV (qVar 10)) qNil))))) (qTst (qOp dNe (qCall0 F_Lrefusal none (qaV (qVar 6) (qaV (qVar 3) (qaV (qVar 10) qaNil)))) (qLst (qCons (qV (qC (.str "cell"))) (qCons (qV (qVar 10)) qNil)))))) (qRet (qC (.bool false))) qNext)
  (qRet (qOp dEq (qCall0 F_Lrefusal none (qaV (qVar 6) (qaV (qVar 10) (qaV (qVar 11) qaNil)))) (qLst (qCons (qV (qC (.str "cell"))) (qCons (qV (qVar 10)) qNil)))))))))))
def T_Lright_1 : Pu.Env → Ctl := (qSeq (qIf (qTst (qOp dEq (qCall0 F_Ltake (some (0, 0)) (qaIo 0 (qaV (qC (.int 3)) qaNil))) (qC (.int 0)))) (qAsg (qCall0 F_Lbeside (some (0, 0)) (qaIo 0 (qaV (qCall0 F_Lsome (some (0, 0)) (qaIo 0 (qaV (qC (.int 4)) qaNil))) (qaV (qCall0 F_Lsome (some (0, 0)) (qaIo 0 (qaV (qC (.int 5)) qaNil))) qaNil)))) (pTup 2 (pCons (pName 1) (pCons (pName 2) pNil)))) qNext)
  (qSeq (qPar 4 5 LC_Lright_1 LC_Lright_2)
  (qSeq (qIf (qTst (qOp dEq (qCall0 F_Ltake (some (0, 0)) (qaIo 0 (qaV (qC (.int 20)) qaNil))) (qC (.int 0)))) (qSeq (qAsg (qCall0 F_Lround (some (0, 0)) (qaIo 0 (qaV (qOp dSub (qC (.int 40)) (qCall0 F_Ltake (some (0, 0)) (qaIo 0 (qaV (qC (.int 9)) qaNil)))) qaNil))) (pTup 2 (pCons (pName 1) (pCons (pName 2) pNil))))
  (qSeq (qIf (qTst (qOp dEq (qCall0 F_Ltake (some (0, 0)) (qaIo 0 (qaV (qC (.int 2)) qaNil))) (qC (.int 0)))) (qAsg (qCall0 F_Ltree (some (0, 0)) (qaIo 0 (qaV (qVar 1) qaNil))) (pTup 2 (pCons (pName 1) (pCons (pName 2) pNil)))) qNext)
  (qSeq (qSet 4 (qLst (qCons (qV (qC (.int 0))) (qCons (qV (qCall0 F_Ltake (some (0, 0)) (qaIo 0 (qaV (qVar 1) qaNil)))) qNil))))
  (qSet 5 (qOp dCat (qLst (qCons (qV (qC (.int 0))) (qCons (qV (qOp dSub (qVar 1) (qC (.int 1)))) qNil))) LC_Lright_3))))) qNext)
  (qSeq (qPar 6 7 (qMake0 M_Web (qaV (qVar 1) (qaV (qUn dTuple (qVar 2)) qaNil))) LC_Lright_4)
  (qSeq FR_Lright_2
  (qSeq (qPar3 3 10 11 (qCons (qV (qCall0 F_Ltake (some (0, 0)) (qaIo 0 (qaV (qVar 1) qaNil)))) (qCons (qV (qCall0 F_Loutside (some (0, 0)) (qaIo 0 (qaV (qVar 1) qaNil)))) (qCons (qV (qCall0 F_Loutside (some (0, 0)) (qaIo 0 (qaV (qVar 1) qaNil)))) qNil))))
  (qSeq (qIf (qOr (qTst (qOp dNe (qCall0 F_Lrefusal none (qaV (qVar 6) (qaV (qVar 10) (qaV (qVar 3) qaNil)))) (qLst (qCons (qV (qC (.str "cell"))) (qCons (qV (qVar 10)) qNil))))) (qTst (qOp dNe (qCall0 F_Lrefusal none (qaV (qVar 6) (qaV (qVar 3) (qaV (qVar 10) qaNil)))) (qLst (qCons (qV (qC (.str "cell"))) (qCons (qV (qVar 10)) qNil)))))) (qRet (qC (.bool false))) qNext)
  (qRet (qOp dEq (qCall0 F_Lrefusal none (qaV (qVar 6) (qaV (qVar 10) (qaV (qVar 11) qaNil)))) (qLst (qCons (qV (qC (.str "cell"))) (qCons (qV (qVar 10)) qNil))))))))))))
def B_Lright : Pu.Env → Ctl := (qSeq (qAsg (qCall0 F_Lsome (some (0, 0)) (qaIo 0 (qaV (qCall0 F_Lone (some (0, 0)) (qaIo 0 (qaV (qLst (qCons (qV (qC (.int 4))) (qCons (qV (qC (.int 5))) (qCons (qV (qC (.int 6))) (qCons (qV (qC (.int 7))) (qCons (qV (qC (.int 8))) qNil)))))) qaNil))) qaNil))) (pTup 2 (pCons (pName 1) (pCons (pName 2) pNil))))
  (qSeq (qIf (qTst (qOp dEq (qCall0 F_Ltake (some (0, 0)) (qaIo 0 (qaV (qC (.int 3)) qaNil))) (qC (.int 0)))) (qAsg (qCall0 F_Lbeside (some (0, 0)) (qaIo 0 (qaV (qCall0 F_Lsome (some (0, 0)) (qaIo 0 (qaV (qC (.int 4)) qaNil))) (qaV (qCall0 F_Lsome (some (0, 0)) (qaIo 0 (qaV (qC (.int 5)) qaNil))) qaNil)))) (pTup 2 (pCons (pName 1) (pCons (pName 2) pNil)))) qNext)
  (qSeq (qPar 4 5 LC_Lright_1 LC_Lright_2)
  (qSeq (qIf (qTst (qOp dEq (qCall0 F_Ltake (some (0, 0)) (qaIo 0 (qaV (qC (.int 20)) qaNil))) (qC (.int 0)))) (qSeq (qAsg (qCall0 F_Lround (some (0, 0)) (qaIo 0 (qaV (qOp dSub (qC (.int 40)) (qCall0 F_Ltake (some (0, 0)) (qaIo 0 (qaV (qC (.int 9)) qaNil)))) qaNil))) (pTup 2 (pCons (pName 1) (pCons (pName 2) pNil))))
  (qSeq (qIf (qTst (qOp dEq (qCall0 F_Ltake (some (0, 0)) (qaIo 0 (qaV (qC (.int 2)) qaNil))) (qC (.int 0)))) (qAsg (qCall0 F_Ltree (some (0, 0)) (qaIo 0 (qaV (qVar 1) qaNil))) (pTup 2 (pCons (pName 1) (pCons (pName 2) pNil)))) qNext)
  (qSeq (qSet 4 (qLst (qCons (qV (qC (.int 0))) (qCons (qV (qCall0 F_Ltake (some (0, 0)) (qaIo 0 (qaV (qVar 1) qaNil)))) qNil))))
  (qSet 5 (qOp dCat (qLst (qCons (qV (qC (.int 0))) (qCons (qV (qOp dSub (qVar 1) (qC (.int 1)))) qNil))) LC_Lright_3))))) qNext)
  (qSeq (qPar 6 7 (qMake0 M_Web (qaV (qVar 1) (qaV (qUn dTuple (qVar 2)) qaNil))) LC_Lright_4)
  (qSeq FR_Lright_2
  (qSeq (qPar3 3 10 11 (qCons (qV (qCall0 F_Ltake (some (0, 0)) (qaIo 0 (qaV (qVar 1) qaNil)))) (qCons (qV (qCall0 F_Loutside (some (0, 0)) (qaIo 0 (qaV (qVar 1) qaNil)))) (qCons (qV (qCall0 F_Loutside (some (0, 0)) (qaIo 0 (qaV (qVar 1) qaNil)))) qNil))))
  (qSeq (qIf (qOr (qTst (qOp dNe (qCall0 F_Lrefusal none (qaV (qVar 6) (qaV (qVar 10) (qaV (qVar 3) qaNil)))) (qLst (qCons (qV (qC (.str "cell"))) (qCons (qV (qVar 10)) qNil))))) (qTst (qOp dNe (qCall0 F_Lrefusal none (qaV (qVar 6) (qaV (qVar 3) (qaV (qVar 10) qaNil)))) (qLst (qCons (qV (qC (.str "cell"))) (qCons (qV (qVar 10)) qNil)))))) (qRet (qC (.bool false))) qNext)
  (qRet (qOp dEq (qCall0 F_Lrefusal none (qaV (qVar 6) (qaV (qVar 10) (qaV (qVar 11) qaNil)))) (qLst (qCons (qV (qC (.str "cell"))) (qCons (qV (qVar 10)) qNil)))))))))))))
def F_Lright : List S → Res Rk := qDef 1 13 B_Lright
theorem E_Lright {a0 : S} : F_Lright [a0] = fin (B_Lright [a0, .un, .un, .un, .un, .un, .un, .un, .un, .un, .un, .un, .un]) := rfl
end
end R
end

-- Gen0
section
set_option Elab.async false
set_option linter.all false
set_option maxRecDepth 100000
set_option maxHeartbeats 4000000
namespace R
noncomputable section
open PySem PySem.Spec PyProof.Rows L2 LamX NdefX Pu
/-- a source of drawn numbers -/
structure Sd where
  a : Int
  b : Int
  ha : 0 ≤ a
  hb : 0 ≤ b ∧ b < 2147483647
def Sd.d (s : Sd) : List D := [.int s.a, .int s.b]
def nxb (b : Int) : Int := (b * 39373 + 7) % 2147483647
def tv (s : Sd) (t : Int) : Int := if 0 < s.a then s.a % t else (nxb s.b * nxb s.b % 2147483629 / 32) % t
def ts (s : Sd) (t : Int) (h : 0 < t) : Sd := if 0 < s.a then ⟨s.a / t, s.b, Int.ediv_nonneg s.ha (by omega), s.hb⟩ else ⟨s.a, nxb s.b, s.ha, by unfold nxb; omega⟩
theorem tv_lo {s : Sd} {t : Int} (h : 0 < t) : 0 ≤ tv s t := by unfold tv; split <;> exact Int.emod_nonneg _ (by omega)
theorem tv_hi {s : Sd} {t : Int} (h : 0 < t) : tv s t < t := by unfold tv; split <;> exact Int.emod_lt_of_pos _ h
theorem mulOk_l {i j : Int} (h : -(2 ^ 64) < i ∧ i < 2 ^ 64) : mulOk i j = true := decide_eq_true (.inl h)
theorem modOk_p {i j : Int} (h : 0 < j) : modOk i j = true := decide_eq_true h
theorem divOk_p {i j : Int} (h : 0 < j ∧ j < 10000000000000000000000000000000000000000) : divOk i j = true := decide_eq_true h
theorem ixN_nn {n : Nat} {i : Int} (h0 : 0 ≤ i) (h : i < n) : ixN n i = some i.toNat := by unfold ixN; rw [if_pos h0, if_pos h]
theorem atI_nn {α : Type} {xs : List α} {i : Int} (h0 : 0 ≤ i) (h : i < xs.length) : atI xs i = xs[i.toNat]? := by unfold atI; rw [ixN_nn h0 h]; rfl
theorem atI_0 {x : D} {r : List D} : atI (x :: r) 0 = some x := by rw [atI_nn (by omega) (by simp only [List.length_cons]; omega)]; rfl
theorem atI_1 {x y : D} {r : List D} : atI (x :: y :: r) 1 = some y := by rw [atI_nn (by omega) (by simp only [List.length_cons]; omega)]; rfl
/-- a def that draws -/
def rtQ {β : Type} (f : β → Rk) (Q : β → Prop) : Rk → Pu.Env → Prop := fun r ρ => okR r = true ∧ ioAt 0 ρ fun xs => ∃ b s', r = f b ∧ xs = Sd.d s' ∧ Q b
def nxQ {β : Type} (f : β → Rk) (Q : β → Prop) : Pu.Env → Prop := fun ρ => ioAt 0 ρ fun xs => ∃ b s', Rk.v .none = f b ∧ xs = Sd.d s' ∧ Q b
abbrev noP : Pu.Env → Prop := fun _ => False
abbrev noX : Str → D → Pu.Env → Prop := fun _ _ _ => False
theorem rtQ_ap {β : Type} {f : β → Rk} {Q : β → Prop} {r : Rk} {ρ : Pu.Env} : rtQ f Q r ρ = (okR r = true ∧ ioAt 0 ρ fun xs => ∃ b s', r = f b ∧ xs = Sd.d s' ∧ Q b) := rfl
theorem nxQ_ap {β : Type} {f : β → Rk} {Q : β → Prop} {ρ : Pu.Env} : nxQ f Q ρ = (ioAt 0 ρ fun xs => ∃ b s', Rk.v .none = f b ∧ xs = Sd.d s' ∧ Q b) := rfl
theorem run1_sd {β : Type} (f : β → Rk) {Q : β → Prop} {F : List S → Res Rk} {as : List S} {B : Pu.Env → Ctl} {ρ : Pu.Env} (e : F as = fin (B ρ))
    (h : (B ρ).sat (nxQ f Q) (rtQ f Q) noP noP noX) :
    ∃ b s', run1 0 F as = .ok (f b) (Sd.d s') ∧ Q b := by
  obtain ⟨r, xs, e1, b, s', e2, e3, q⟩ := run1_of (P := fun r xs => ∃ b s', r = f b ∧ xs = Sd.d s' ∧ Q b) e h
  exact ⟨b, s', by rw [e1, e2, e3], q⟩
theorem take_is (s : Sd) (t : Int) (h : 0 < t) (h2 : t < 10000000000000000000000000000000000000000) : run1 0 F_Ltake [.io s.d, .v (.int t)] = .ok (.v (.int (tv s t))) (ts s t h).d := by
  refine run1_is E_Ltake ?_
  have hb := s.hb
  have e1 : ∀ {n : Nat} {x y : D} (k : Int), ixN [x, y].length 0 = some 0 := fun {n x y} k => rfl
  have i0 : ixN 2 0 = some 0 := rfl
  have i1 : ixN 2 1 = some 1 := rfl
  have m1 : mulOk s.b 39373 = true := mulOk_l (by omega)
  have n1 : 0 ≤ nxb s.b ∧ nxb s.b < 2147483647 := by unfold nxb; omega
  have m2 : mulOk (nxb s.b) (nxb s.b) = true := mulOk_l (by omega)
  have q1 : ∀ i, modOk i 2147483647 = true := fun i => modOk_p (by omega)
  have q2 : ∀ i, modOk i 2147483629 = true := fun i => modOk_p (by omega)
  have q3 : ∀ i, divOk i 32 = true := fun i => divOk_p (by omega)
  have q4 : ∀ i, modOk i t = true := fun i => modOk_p h
  have q5 : ∀ i, divOk i t = true := fun i => divOk_p ⟨h, h2⟩
  unfold B_Ltake Sd.d
  by_cases z : 0 < s.a
  · simp only [p_call0, p_call, p_call0L, p_callL, callK_ok, callK_ex, callK0_ok, callL_ok, callL_ex, callL0_ok, sat_nx, sat_rt, sat_bk, sat_ct, sat_ex, sat_seq, sat_ite, free_eq, freeS_un, freeS_v, freeS_own, freeS_io, freeS_exc, b_ok, b_ex, b_no, c_no, o_none, c_ok, c_ex, b_ite, c_ite, o_some, o_ite, oC_some, qC_ap, qV_ap, qB_ap, qB2_ap, qOp_ap, qUn_ap, esc_v, esc_own, esc_sl, bor_v, bor_own, bor_sl, cont_v, cont_own, cont_io, nz_v, nz_sl, nz_own, qVar_ap, qNil_ap, qCons_ap, qTup_ap, qLst_ap, qTst_ap, qTru_ap, qAnd_ap, qOr_ap, qNot_ap, qYes_ap, qAndV_ap, qOrV_ap, qNotV_ap, qIfE_ap, asB_bool, truD_bool, truD_int, truD_list, truD_tup, truD_none, qNext_ap, qIf_ap, qExpr_ap, qBreak_ap, qCont_ap, qRetN_ap, qRet_ap, retK_v, retK_own, retK_sl, okR_v, okR_own, qSet_ap, set1_ap, pName_ap, pNil_ap, pCons_ap, pTup_ap, pTup_pr, qAsg_ap, qPar_ap, qPar3_ap, qIl_ap, qIt_ap, qR1_ap, qR2_ap, qEn_l, qEn_t, qFor_ap, qLc_ap, unE_nil, unE_cons, backE_nil, backE_cons, lstAt_ap, mutS_ap, qApp_ap, qPopAt_ap, qSto_ap, qaNil_ap, qaV_ap, qaIo_ap, qAug_ap, qRaise_ap, qChain_ap, qFld_ap', dAdd_i, dSub_i, dMul_i, dDiv_i, dMod_i, dPow_i, dLt_i, dLe_i, dGt_i, dGe_i, dNeg_i, dMin_i, dMax_i, dInt_i, dInt_b, dEq_i, dNe_i, dIsN_n, dIsN_i, dNotN_n, dNotN_i, dIxL_ap, dIxT_ap, dLen_l, dLen_t, dSum_ap, dSortI_ap, dSortP_ap, dAll_ap, dAny_ap, dCat_ap, dCatT_ap, dList_l, dList_t, dTuple_l, dTuple_t, dInF_l, dInF_t, pLt_i, pLe_i, pGt_i, pGe_i, ipAdd_i, ipSub_i, stepF_ap, stepL_ap, qMeth0_ap, qMeth_ap, asV_nil, asV_cons, mrK_ok, mrK_ex, mrK0_ok, methK0_near, methK_near, methK0_linked, methK_linked, M_linked_eq, fldK_size, fldK_links, qMake0_ap, qMake_ap, sat_noEx, sat_try, sat_try0, handle_nil, handle_t, handle_f, sat_gone_t, sat_gone_f, noExc_nil, noExc_cons, noEx1_v, noEx1_un, noEx1_own, noEx1_io, qXf_ap, dNotN_ap, dIsN_ap, isNon_n, isNon_i, isNon_t, isNon_l, isNon_b, isNon_s, eq_self, sat_forN, sat_forC, dNe_nil, dEq_nil, dIsi_int_i, dIsi_bool_i, dEq_pr, dIn_pr, dNin_pr, dEq_ints, dNe_ints, dEq_intT, dNe_intT, qZp_ap, seqD_l, seqD_t, qExt_ap, p_callK, p_callK0, qR3_ap, pick_nil, pick_cons, List.nil_append, List.cons_append, List.map_cons, List.map_nil, List.getElem?_cons_zero, List.getElem?_cons_succ, List.getElem?_nil, List.set_cons_zero, List.set_cons_succ, Option.map_some, Option.bind_some, decide_eq_true_eq, Nat.reduceAdd, Nat.reduceEqDiff, sz_0, sz_1, sz_2, sz_3, sz_4, sz_5, sz_6, sz_7, sz_8, sz_9, sz_10, sz_11, sz_12, sz_13, sz_14, sz_15, sz_16, sl_0, sl_1, sl_2, sl_3, sl_4, sl_5, sl_6, sl_7, sl_8, rtQ_ap, nxQ_ap, if_true, if_false, ite_true, ite_false, Bool.not_true, Bool.not_false, Bool.not_eq_true', decide_eq_false_iff_not, true_and, and_true, List.all_cons, List.all_nil, Bool.and_true, Bool.and_self, reduceIte, reduceCtorEq, forall_const, ioAt, implies_true, true_implies, not_true_eq_false, not_false_eq_true, false_implies, List.length_cons, List.length_nil, List.length_map, Bool.false_eq_true, atI_0, atI_1, i0, i1, z, q4, q5, tv, ts]
  · have m3 : mulOk ((s.b * 39373 + 7) % 2147483647) ((s.b * 39373 + 7) % 2147483647) = true := m2
    simp only [p_call0, p_call, p_call0L, p_callL, callK_ok, callK_ex, callK0_ok, callL_ok, callL_ex, callL0_ok, sat_nx, sat_rt, sat_bk, sat_ct, sat_ex, sat_seq, sat_ite, free_eq, freeS_un, freeS_v, freeS_own, freeS_io, freeS_exc, b_ok, b_ex, b_no, c_no, o_none, c_ok, c_ex, b_ite, c_ite, o_some, o_ite, oC_some, qC_ap, qV_ap, qB_ap, qB2_ap, qOp_ap, qUn_ap, esc_v, esc_own, esc_sl, bor_v, bor_own, bor_sl, cont_v, cont_own, cont_io, nz_v, nz_sl, nz_own, qVar_ap, qNil_ap, qCons_ap, qTup_ap, qLst_ap, qTst_ap, qTru_ap, qAnd_ap, qOr_ap, qNot_ap, qYes_ap, qAndV_ap, qOrV_ap, qNotV_ap, qIfE_ap, asB_bool, truD_bool, truD_int, truD_list, truD_tup, truD_none, qNext_ap, qIf_ap, qExpr_ap, qBreak_ap, qCont_ap, qRetN_ap, qRet_ap, retK_v, retK_own, retK_sl, okR_v, okR_own, qSet_ap, set1_ap, pName_ap, pNil_ap, pCons_ap, pTup_ap, pTup_pr, qAsg_ap, qPar_ap, qPar3_ap, qIl_ap, qIt_ap, qR1_ap, qR2_ap, qEn_l, qEn_t, qFor_ap, qLc_ap, unE_nil, unE_cons, backE_nil, backE_cons, lstAt_ap, mutS_ap, qApp_ap, qPopAt_ap, qSto_ap, qaNil_ap, qaV_ap, qaIo_ap, qAug_ap, qRaise_ap, qChain_ap, qFld_ap', dAdd_i, dSub_i, dMul_i, dDiv_i, dMod_i, dPow_i, dLt_i, dLe_i, dGt_i, dGe_i, dNeg_i, dMin_i, dMax_i, dInt_i, dInt_b, dEq_i, dNe_i, dIsN_n, dIsN_i, dNotN_n, dNotN_i, dIxL_ap, dIxT_ap, dLen_l, dLen_t, dSum_ap, dSortI_ap, dSortP_ap, dAll_ap, dAny_ap, dCat_ap, dCatT_ap, dList_l, dList_t, dTuple_l, dTuple_t, dInF_l, dInF_t, pLt_i, pLe_i, pGt_i, pGe_i, ipAdd_i, ipSub_i, stepF_ap, stepL_ap, qMeth0_ap, qMeth_ap, asV_nil, asV_cons, mrK_ok, mrK_ex, mrK0_ok, methK0_near, methK_near, methK0_linked, methK_linked, M_linked_eq, fldK_size, fldK_links, qMake0_ap, qMake_ap, sat_noEx, sat_try, sat_try0, handle_nil, handle_t, handle_f, sat_gone_t, sat_gone_f, noExc_nil, noExc_cons, noEx1_v, noEx1_un, noEx1_own, noEx1_io, qXf_ap, dNotN_ap, dIsN_ap, isNon_n, isNon_i, isNon_t, isNon_l, isNon_b, isNon_s, eq_self, sat_forN, sat_forC, dNe_nil, dEq_nil, dIsi_int_i, dIsi_bool_i, dEq_pr, dIn_pr, dNin_pr, dEq_ints, dNe_ints, dEq_intT, dNe_intT, qZp_ap, seqD_l, seqD_t, qExt_ap, p_callK, p_callK0, qR3_ap, pick_nil, pick_cons, List.nil_append, List.cons_append, List.map_cons, List.map_nil, List.getElem?_cons_zero, List.getElem?_cons_succ, List.getElem?_nil, List.set_cons_zero, List.set_cons_succ, Option.map_some, Option.bind_some, decide_eq_true_eq, Nat.reduceAdd, Nat.reduceEqDiff, sz_0, sz_1, sz_2, sz_3, sz_4, sz_5, sz_6, sz_7, sz_8, sz_9, sz_10, sz_11, sz_12, sz_13, sz_14, sz_15, sz_16, sl_0, sl_1, sl_2, sl_3, sl_4, sl_5, sl_6, sl_7, sl_8, rtQ_ap, nxQ_ap, if_true, if_false, ite_true, ite_false, Bool.not_true, Bool.not_false, Bool.not_eq_true', decide_eq_false_iff_not, true_and, and_true, List.all_cons, List.all_nil, Bool.and_true, Bool.and_self, reduceIte, reduceCtorEq, forall_const, ioAt, implies_true, true_implies, not_true_eq_false, not_false_eq_true, false_implies, List.length_cons, List.length_nil, List.length_map, Bool.false_eq_true, atI_0, atI_1, i0, i1, z, q1, q2, q3, q4, m1, m3, tv, ts, nxb]
theorem take_ok (s : Sd) (t : Int) (h : 0 < t) (h2 : t < 10000000000000000000000000000000000000000) : ∃ v s', run1 0 F_Ltake [.io s.d, .v (.int t)] = .ok (.v (.int v)) (Sd.d s') ∧ 0 ≤ v ∧ v < t := ⟨_, _, take_is s t h h2, tv_lo h, tv_hi h⟩
end
end R
end

set_option maxRecDepth 100000
local macro_rules | `(tactic| simp only [sS, $xs,*] $[$l:location]?) => `(tactic| simp only [Pu.p_call0,Pu.p_call,Pu.p_call0L,Pu.p_callL,Pu.callK_ok,Pu.callK_ex,Pu.callK0_ok,Pu.callL_ok,Pu.callL_ex,Pu.callL0_ok,Pu.sat_nx,Pu.sat_rt,Pu.sat_bk,Pu.sat_ct,Pu.sat_ex,Pu.sat_seq,Pu.sat_ite,Pu.free_eq,Pu.freeS_un,Pu.freeS_v,Pu.freeS_own,Pu.freeS_io,Pu.freeS_exc,Pu.b_ok,Pu.b_ex,Pu.b_no,Pu.c_no,Pu.o_none,Pu.c_ok,Pu.c_ex,Pu.b_ite,Pu.c_ite,Pu.o_some,Pu.o_ite,Pu.oC_some,Pu.qC_ap,Pu.qV_ap,Pu.qB_ap,Pu.qB2_ap,Pu.qOp_ap,Pu.qUn_ap,Pu.esc_v,Pu.esc_own,Pu.esc_sl,Pu.bor_v,Pu.bor_own,Pu.bor_sl,Pu.cont_v,Pu.cont_own,Pu.cont_io,Pu.nz_v,Pu.nz_sl,Pu.nz_own,Pu.qVar_ap,Pu.qNil_ap,Pu.qCons_ap,Pu.qTup_ap,Pu.qLst_ap,Pu.qTst_ap,Pu.qTru_ap,Pu.qAnd_ap,Pu.qOr_ap,Pu.qNot_ap,Pu.qYes_ap,Pu.qAndV_ap,Pu.qOrV_ap,Pu.qNotV_ap,Pu.qIfE_ap,Pu.asB_bool,Pu.truD_bool,Pu.truD_int,Pu.truD_list,Pu.truD_tup,Pu.truD_none,Pu.qNext_ap,Pu.qIf_ap,Pu.qExpr_ap,Pu.qBreak_ap,Pu.qCont_ap,Pu.qRetN_ap,Pu.qRet_ap,Pu.retK_v,Pu.retK_own,Pu.retK_sl,Pu.okR_v,Pu.okR_own,Pu.qSet_ap,Pu.set1_ap,Pu.pName_ap,Pu.pNil_ap,Pu.pCons_ap,Pu.pTup_ap,Pu.pTup_pr,Pu.qAsg_ap,Pu.qPar_ap,Pu.qPar3_ap,Pu.qIl_ap,Pu.qIt_ap,Pu.qR1_ap,Pu.qR2_ap,Pu.qEn_l,Pu.qEn_t,Pu.qFor_ap,Pu.qLc_ap,Pu.unE_nil,Pu.unE_cons,Pu.backE_nil,Pu.backE_cons,Pu.lstAt_ap,Pu.mutS_ap,Pu.qApp_ap,Pu.qPopAt_ap,Pu.qSto_ap,Pu.qaNil_ap,Pu.qaV_ap,Pu.qaIo_ap,Pu.qAug_ap,Pu.qRaise_ap,Pu.qChain_ap,Pu.qFld_ap',Pu.dAdd_i,Pu.dSub_i,Pu.dMul_i,Pu.dDiv_i,Pu.dMod_i,Pu.dPow_i,Pu.dLt_i,Pu.dLe_i,Pu.dGt_i,Pu.dGe_i,Pu.dNeg_i,Pu.dMin_i,Pu.dMax_i,Pu.dInt_i,Pu.dInt_b,Pu.dEq_i,Pu.dNe_i,Pu.dIsN_n,Pu.dIsN_i,Pu.dNotN_n,Pu.dNotN_i,Pu.dIxL_ap,Pu.dIxT_ap,Pu.dLen_l,Pu.dLen_t,Pu.dSum_ap,Pu.dSortI_ap,Pu.dSortP_ap,Pu.dAll_ap,Pu.dAny_ap,Pu.dCat_ap,Pu.dCatT_ap,Pu.dList_l,Pu.dList_t,Pu.dTuple_l,Pu.dTuple_t,Pu.dInF_l,Pu.dInF_t,Pu.pLt_i,Pu.pLe_i,Pu.pGt_i,Pu.pGe_i,Pu.ipAdd_i,Pu.ipSub_i,Pu.stepF_ap,Pu.stepL_ap,Pu.qMeth0_ap,Pu.qMeth_ap,Pu.asV_nil,Pu.asV_cons,Pu.mrK_ok,Pu.mrK_ex,Pu.mrK0_ok,Pu.methK0_near,Pu.methK_near,Pu.methK0_linked,Pu.methK_linked,Pu.M_linked_eq,Pu.fldK_size,Pu.fldK_links,Pu.qMake0_ap,Pu.qMake_ap,Pu.sat_noEx,Pu.sat_try,Pu.sat_try0,Pu.handle_nil,Pu.handle_t,Pu.handle_f,Pu.sat_gone_t,Pu.sat_gone_f,Pu.noExc_nil,Pu.noExc_cons,Pu.noEx1_v,Pu.noEx1_un,Pu.noEx1_own,Pu.noEx1_io,Pu.qXf_ap,Pu.dNotN_ap,Pu.dIsN_ap,Pu.isNon_n,Pu.isNon_i,Pu.isNon_t,Pu.isNon_l,Pu.isNon_b,Pu.isNon_s,eq_self,Pu.sat_forN,Pu.sat_forC,Pu.dNe_nil,Pu.dEq_nil,Pu.dIsi_int_i,Pu.dIsi_bool_i,Pu.dEq_pr,Pu.dIn_pr,Pu.dNin_pr,Pu.dEq_ints,Pu.dNe_ints,Pu.dEq_intT,Pu.dNe_intT,Pu.qZp_ap,Pu.seqD_l,Pu.seqD_t,Pu.qExt_ap,Pu.p_callK,Pu.p_callK0,Pu.qR3_ap,Pu.pick_nil,Pu.pick_cons,List.nil_append,List.cons_append,List.map_cons,List.map_nil,List.getElem?_cons_zero,List.getElem?_cons_succ,List.getElem?_nil,List.set_cons_zero,List.set_cons_succ,Option.map_some,Option.bind_some,decide_eq_true_eq,Nat.reduceAdd,Nat.reduceEqDiff,Pu.sz_0,Pu.sz_1,Pu.sz_2,Pu.sz_3,Pu.sz_4,Pu.sz_5,Pu.sz_6,Pu.sz_7,Pu.sz_8,Pu.sz_9,Pu.sz_10,Pu.sz_11,Pu.sz_12,Pu.sz_13,Pu.sz_14,Pu.sz_15,Pu.sz_16,Pu.sl_0,Pu.sl_1,Pu.sl_2,Pu.sl_3,Pu.sl_4,Pu.sl_5,Pu.sl_6,Pu.sl_7,Pu.sl_8,R.rtQ_ap,R.nxQ_ap,if_true,if_false,ite_true,ite_false,Bool.not_true,Bool.not_false,Bool.not_eq_true',decide_eq_false_iff_not,true_and,and_true,List.all_cons,List.all_nil,Bool.and_true,Bool.and_self,reduceIte,reduceCtorEq,forall_const,Pu.ioAt,implies_true,true_implies,not_true_eq_false,not_false_eq_true,false_implies,List.length_cons,List.length_nil,List.length_map,Bool.false_eq_true, $xs,*] $[$l]?)
local macro_rules | `(tactic| simp only [sS] $[$l:location]?) => `(tactic| simp only [Pu.p_call0,Pu.p_call,Pu.p_call0L,Pu.p_callL,Pu.callK_ok,Pu.callK_ex,Pu.callK0_ok,Pu.callL_ok,Pu.callL_ex,Pu.callL0_ok,Pu.sat_nx,Pu.sat_rt,Pu.sat_bk,Pu.sat_ct,Pu.sat_ex,Pu.sat_seq,Pu.sat_ite,Pu.free_eq,Pu.freeS_un,Pu.freeS_v,Pu.freeS_own,Pu.freeS_io,Pu.freeS_exc,Pu.b_ok,Pu.b_ex,Pu.b_no,Pu.c_no,Pu.o_none,Pu.c_ok,Pu.c_ex,Pu.b_ite,Pu.c_ite,Pu.o_some,Pu.o_ite,Pu.oC_some,Pu.qC_ap,Pu.qV_ap,Pu.qB_ap,Pu.qB2_ap,Pu.qOp_ap,Pu.qUn_ap,Pu.esc_v,Pu.esc_own,Pu.esc_sl,Pu.bor_v,Pu.bor_own,Pu.bor_sl,Pu.cont_v,Pu.cont_own,Pu.cont_io,Pu.nz_v,Pu.nz_sl,Pu.nz_own,Pu.qVar_ap,Pu.qNil_ap,Pu.qCons_ap,Pu.qTup_ap,Pu.qLst_ap,Pu.qTst_ap,Pu.qTru_ap,Pu.qAnd_ap,Pu.qOr_ap,Pu.qNot_ap,Pu.qYes_ap,Pu.qAndV_ap,Pu.qOrV_ap,Pu.qNotV_ap,Pu.qIfE_ap,Pu.asB_bool,Pu.truD_bool,Pu.truD_int,Pu.truD_list,Pu.truD_tup,Pu.truD_none,Pu.qNext_ap,Pu.qIf_ap,Pu.qExpr_ap,Pu.qBreak_ap,Pu.qCont_ap,Pu.qRetN_ap,Pu.qRet_ap,Pu.retK_v,Pu.retK_own,Pu.retK_sl,Pu.okR_v,Pu.okR_own,Pu.qSet_ap,Pu.set1_ap,Pu.pName_ap,Pu.pNil_ap,Pu.pCons_ap,Pu.pTup_ap,Pu.pTup_pr,Pu.qAsg_ap,Pu.qPar_ap,Pu.qPar3_ap,Pu.qIl_ap,Pu.qIt_ap,Pu.qR1_ap,Pu.qR2_ap,Pu.qEn_l,Pu.qEn_t,Pu.qFor_ap,Pu.qLc_ap,Pu.unE_nil,Pu.unE_cons,Pu.backE_nil,Pu.backE_cons,Pu.lstAt_ap,Pu.mutS_ap,Pu.qApp_ap,Pu.qPopAt_ap,Pu.qSto_ap,Pu.qaNil_ap,Pu.qaV_ap,Pu.qaIo_ap,Pu.qAug_ap,Pu.qRaise_ap,Pu.qChain_ap,Pu.qFld_ap',Pu.dAdd_i,Pu.dSub_i,Pu.dMul_i,Pu.dDiv_i,Pu.dMod_i,Pu.dPow_i,Pu.dLt_i,Pu.dLe_i,Pu.dGt_i,Pu.dGe_i,Pu.dNeg_i,Pu.dMin_i,Pu.dMax_i,Pu.dInt_i,Pu.dInt_b,Pu.dEq_i,Pu.dNe_i,Pu.dIsN_n,Pu.dIsN_i,Pu.dNotN_n,Pu.dNotN_i,Pu.dIxL_ap,Pu.dIxT_ap,Pu.dLen_l,Pu.dLen_t,Pu.dSum_ap,Pu.dSortI_ap,Pu.dSortP_ap,Pu.dAll_ap,Pu.dAny_ap,Pu.dCat_ap,Pu.dCatT_ap,Pu.dList_l,Pu.dList_t,Pu.dTuple_l,Pu.dTuple_t,Pu.dInF_l,Pu.dInF_t,Pu.pLt_i,Pu.pLe_i,Pu.pGt_i,Pu.pGe_i,Pu.ipAdd_i,Pu.ipSub_i,Pu.stepF_ap,Pu.stepL_ap,Pu.qMeth0_ap,Pu.qMeth_ap,Pu.asV_nil,Pu.asV_cons,Pu.mrK_ok,Pu.mrK_ex,Pu.mrK0_ok,Pu.methK0_near,Pu.methK_near,Pu.methK0_linked,Pu.methK_linked,Pu.M_linked_eq,Pu.fldK_size,Pu.fldK_links,Pu.qMake0_ap,Pu.qMake_ap,Pu.sat_noEx,Pu.sat_try,Pu.sat_try0,Pu.handle_nil,Pu.handle_t,Pu.handle_f,Pu.sat_gone_t,Pu.sat_gone_f,Pu.noExc_nil,Pu.noExc_cons,Pu.noEx1_v,Pu.noEx1_un,Pu.noEx1_own,Pu.noEx1_io,Pu.qXf_ap,Pu.dNotN_ap,Pu.dIsN_ap,Pu.isNon_n,Pu.isNon_i,Pu.isNon_t,Pu.isNon_l,Pu.isNon_b,Pu.isNon_s,eq_self,Pu.sat_forN,Pu.sat_forC,Pu.dNe_nil,Pu.dEq_nil,Pu.dIsi_int_i,Pu.dIsi_bool_i,Pu.dEq_pr,Pu.dIn_pr,Pu.dNin_pr,Pu.dEq_ints,Pu.dNe_ints,Pu.dEq_intT,Pu.dNe_intT,Pu.qZp_ap,Pu.seqD_l,Pu.seqD_t,Pu.qExt_ap,Pu.p_callK,Pu.p_callK0,Pu.qR3_ap,Pu.pick_nil,Pu.pick_cons,List.nil_append,List.cons_append,List.map_cons,List.map_nil,List.getElem?_cons_zero,List.getElem?_cons_succ,List.getElem?_nil,List.set_cons_zero,List.set_cons_succ,Option.map_some,Option.bind_some,decide_eq_true_eq,Nat.reduceAdd,Nat.reduceEqDiff,Pu.sz_0,Pu.sz_1,Pu.sz_2,Pu.sz_3,Pu.sz_4,Pu.sz_5,Pu.sz_6,Pu.sz_7,Pu.sz_8,Pu.sz_9,Pu.sz_10,Pu.sz_11,Pu.sz_12,Pu.sz_13,Pu.sz_14,Pu.sz_15,Pu.sz_16,Pu.sl_0,Pu.sl_1,Pu.sl_2,Pu.sl_3,Pu.sl_4,Pu.sl_5,Pu.sl_6,Pu.sl_7,Pu.sl_8,R.rtQ_ap,R.nxQ_ap,if_true,if_false,ite_true,ite_false,Bool.not_true,Bool.not_false,Bool.not_eq_true',decide_eq_false_iff_not,true_and,and_true,List.all_cons,List.all_nil,Bool.and_true,Bool.and_self,reduceIte,reduceCtorEq,forall_const,Pu.ioAt,implies_true,true_implies,not_true_eq_false,not_false_eq_true,false_implies,List.length_cons,List.length_nil,List.length_map,Bool.false_eq_true] $[$l]?)

-- Ers
section
set_option Elab.async false
set_option linter.all false
namespace R
open PySem PySem.Spec PyProof.Rows Pu
theorem isE_BadSize : isErr "BadSize" = true := by decide +kernel
theorem es_BadSize_BadCell : esub "BadSize" "BadCell" = false := by decide +kernel
theorem es_BadSize_Refused : esub "BadSize" "Refused" = true := by decide +kernel
theorem isE_BadLink : isErr "BadLink" = true := by decide +kernel
theorem es_BadLink_BadCell : esub "BadLink" "BadCell" = false := by decide +kernel
theorem es_BadLink_Refused : esub "BadLink" "Refused" = true := by decide +kernel
theorem isE_TooMany : isErr "TooMany" = true := by decide +kernel
theorem es_TooMany_BadCell : esub "TooMany" "BadCell" = false := by decide +kernel
theorem es_TooMany_Refused : esub "TooMany" "Refused" = true := by decide +kernel
theorem isE_BadCell : isErr "BadCell" = true := by decide +kernel
theorem es_BadCell_BadCell : esub "BadCell" "BadCell" = true := by decide +kernel
theorem es_BadCell_Refused : esub "BadCell" "Refused" = true := by decide +kernel
end R
end

-- Cell
section
set_option Elab.async false
set_option linter.all false
set_option maxRecDepth 100000
set_option maxHeartbeats 4000000
namespace R
noncomputable section
open PySem PySem.Spec PyProof.Rows L2 LamX NdefX Pu
theorem num_is {x : Int} : run0 F_is_number [.v (.int x)] = .ok (.v (.bool true)) := by
  refine run0_is E_is_number ?_
  unfold B_is_number
  simp only [sS]
theorem below_is {x n : Int} : run0 F_is_below [.v (.int x), .v (.int n)] = .ok (.v (.bool (decide (0 ≤ x ∧ x < n)))) := by
  refine run0_is E_is_below ?_
  unfold B_is_below
  by_cases h : 0 ≤ x
  · simp only [sS, num_is, eq_true h]
  · simp only [sS, num_is, h, false_and, decide_false]
theorem cell_is {n x : Int} {ps : List Pr} : run0 F_check_cell [.v (webD n ps), .v (.int x)] = if 0 ≤ x ∧ x < n then .ok (.v .none) else .ex "BadCell" (.int x) := by
  refine run0_eq E_check_cell ?_
  unfold B_check_cell
  by_cases h : 0 ≤ x ∧ x < n
  · simp only [sS, below_is, eq_true h]
  · simp only [sS, below_is, h]
end
end R
end

-- Gen1
section
set_option Elab.async false
set_option linter.all false
set_option maxRecDepth 100000
set_option maxHeartbeats 4000000
namespace R
noncomputable section
open PySem PySem.Spec PyProof.Rows L2 LamX NdefX Pu
open SrtO (lexB lexB_iff lexB_no)
abbrev lkL (ps : List Pr) : D := .list (ps.map Pu.prD)
abbrev inL (ns : List Int) : D := .list (ns.map .int)
theorem sz24 {n : Nat} (h : n ≤ 100000) : n ≤ sizeLine := Nat.le_trans h (by decide)
theorem sz24' {n : Nat} (h : n ≤ 100000) : n < sizeLine := Nat.lt_of_le_of_lt h (by decide)
theorem lnear1 {ps : List Pr} {x : Int} (h : ps.length ≤ 100000) : LC_Lnear_1 [.v (lkL ps), .v (.int x), .un, .un] = .ok (.own (((ps.filter fun p => decide (p.1 = x)).map (·.2)).map .int)) [.v (lkL ps), .v (.int x), .un, .un] := by
  unfold LC_Lnear_1
  simp only [sS]
  rw [lc_map Pu.prD (fun p => decide (p.1 = x)) (fun p => .int p.2) ps [] (by simpa using sz24 h) (fun p _ => by simp only [sS])]
  simp only [sS, List.nil_append, List.map_map]
  rfl
theorem lnear2 {ps : List Pr} {x : Int} (h : ps.length ≤ 100000) : LC_Lnear_2 [.v (lkL ps), .v (.int x), .un, .un] = .ok (.own (((ps.filter fun p => decide (p.2 = x)).map (·.1)).map .int)) [.v (lkL ps), .v (.int x), .un, .un] := by
  unfold LC_Lnear_2
  simp only [sS]
  rw [lc_map Pu.prD (fun p => decide (p.2 = x)) (fun p => .int p.1) ps [] (by simpa using sz24 h) (fun p _ => by simp only [sS])]
  simp only [sS, List.nil_append, List.map_map]
  rfl
theorem near_is {ps : List Pr} {x : Int} (h : ps.length ≤ 10000) : run0 F_Lnear [.v (lkL ps), .v (.int x)] = .ok (.own ((isort (nearL ps x)).map .int)) := by
  refine run0_is E_Lnear ?_
  unfold B_Lnear
  have l1 := sz24 (show (ps.filter fun p => decide (p.1 = x)).length + (ps.filter fun p => decide (p.2 = x)).length ≤ 100000 by
    have a := List.length_filter_le (fun p : Pr => decide (p.1 = x)) ps
    have b := List.length_filter_le (fun p : Pr => decide (p.2 = x)) ps
    omega)
  simp only [sS, lnear1 (show ps.length ≤ 100000 by omega), lnear2 (show ps.length ≤ 100000 by omega), l1, ← List.map_append]
  rfl
theorem link_is {a b : Int} : run0 F_Llink [.v (.int a), .v (.int b)] = .ok (.v (Pu.prD (lnk a b))) := by
  refine run0_is E_Llink ?_
  unfold B_Llink
  have := sz24 (show 2 ≤ 100000 by omega)
  simp only [sS, this]
  rfl
theorem one_is (s : Sd) (xs : List D) (h : 0 < xs.length) (h2 : xs.length ≤ 100000) : ∃ x s', run1 0 F_Lone [.io s.d, .v (.list xs)] = .ok (.v x) (Sd.d s') ∧ x ∈ xs := by
  obtain ⟨v, s', t1, lo, hi⟩ := take_ok s (xs.length : Int) (by omega) (by omega)
  have hx : v.toNat < xs.length := by omega
  have a1 : atI xs v = some xs[v.toNat] := by
    rw [atI_nn lo hi, List.getElem?_eq_getElem hx]
  refine run1_sd Rk.v E_Lone ?_
  unfold B_Lone
  simp only [sS, t1, a1]
  exact ⟨_, s', rfl, rfl, List.getElem_mem hx⟩
theorem lshuf1 {s : Sd} {n : Int} (h : 0 ≤ n ∧ n ≤ 1000) : LC_Lshuffled_1 [.io s.d, .v (.int n), .un, .un, .un, .un] = .ok (.own ((AllN n).map .int)) [.io s.d, .v (.int n), .un, .un, .un, .un] := by
  unfold LC_Lshuffled_1
  simp only [sS, b62_of (show -4000000000 ≤ n ∧ n ≤ 4000000000 by omega), iot0]
  rw [lc_all PyData.int PyData.int _ (sz24 (by rw [alln_len]; omega)) (fun p _ => by simp only [sS])]
  simp only [sS]
theorem shuf_is (s : Sd) {n : Int} (h : 0 ≤ n ∧ n ≤ 1000) : ∃ (ns : List Int) (s' : Sd), run1 0 F_Lshuffled [.io s.d, .v (.int n)] = .ok (.own (ns.map .int)) s'.d ∧ ns.Perm (AllN n) := by
  refine run1_sd (fun ns : List Int => Rk.own (ns.map .int)) E_Lshuffled ?_
  unfold B_Lshuffled
  simp only [sS, lshuf1 h, sz24 (show 0 ≤ 100000 by omega)]
  unfold FR_Lshuffled_1
  simp only [sS, b62_of (show -4000000000 ≤ n ∧ n ≤ 4000000000 by omega), iot0]
  refine forM PyData.int (fun i ρ => ∃ (s' : Sd) (left found : List Int) (t : S), ρ = [.io s'.d, .v (.int n), .own (left.map .int), .own (found.map .int), t, .un] ∧ freeS t = true ∧ left.length + i = n.toNat ∧ found.length = i ∧ (found ++ left).Perm (AllN n)) ⟨s, AllN n, [], .un, rfl, rfl, by rw [alln_len]; omega, rfl, by simp⟩ ?_ ?_
  · rintro i x ρ hx ⟨s', left, found, t, rfl, ft, hl, hf, hp⟩
    have hi : i < n.toNat := by have := (List.getElem?_eq_some_iff.mp hx).1; rw [alln_len] at this; exact this
    obtain ⟨v, s2, t1, lo, hi2⟩ := take_ok s' (left.length : Int) (by omega) (by omega)
    have hx2 : v.toNat < left.length := by omega
    have g1 : left[v.toNat]? = some left[v.toNat] := List.getElem?_eq_getElem hx2
    unfold FB_Lshuffled_1
    simp only [sS, ft, t1, b63_of (show -4000000000 ≤ v ∧ v ≤ 4000000000 by omega), seq_nn lo hi2, List.getElem?_map, g1, sz24' (show found.length ≤ 100000 by omega)]
    refine ⟨s2, left.eraseIdx v.toNat, found ++ [left[v.toNat]], .v (.int x), by rw [erase_map, List.map_append]; rfl, rfl, ?_, ?_, ?_⟩
    · rw [List.length_eraseIdx, if_pos hx2]; omega
    · simp [hf]
    · refine List.Perm.trans ?_ hp
      rw [List.append_assoc]
      exact List.Perm.append_left _ (erase_perm left _ hx2)
  · rintro ρ ⟨s', left, found, t, rfl, ft, hl, hf, hp⟩
    rw [alln_len] at hl
    have : left = [] := List.length_eq_zero_iff.mp (by omega)
    subst this
    simp only [sS]
    exact ⟨found, s', rfl, rfl, by simpa using hp⟩
end
end R
end

-- MaD
section
set_option Elab.async false
set_option linter.all false
set_option maxRecDepth 100000
set_option maxHeartbeats 4000000
/-! MaD: rows of links, how far cells are apart. -/
namespace Pu
open PySem PySem.Spec PyProof.Rows L2 LamX NdefX
/-- a row of k links from x to y -/
inductive Wk (ps : List Pr) (x : Int) : Nat → Int → Prop
  | zero : Wk ps x 0 x
  | step {k : Nat} {y z : Int} : Wk ps x k y → z ∈ rowOf ps y → Wk ps x (k + 1) z
theorem Wk.front {ps : List Pr} {x y z : Int} {k : Nat} (h : y ∈ rowOf ps x) (w : Wk ps y k z) : Wk ps x (k + 1) z := by
  induction w with
  | zero => exact .step .zero h
  | step w m ih => exact .step ih m
theorem Wk.trans {ps : List Pr} {x y z : Int} {j k : Nat} (a : Wk ps x j y) (b : Wk ps y k z) : Wk ps x (j + k) z := by
  induction b with
  | zero => exact a
  | step w m ih => exact .step ih m
theorem row_symm {n : Int} {ps : List Pr} (h : LkIn n ps) {x y : Int} : y ∈ rowOf ps x ↔ x ∈ rowOf ps y := by
  rw [mem_rowOf h, mem_rowOf h, or_comm]
theorem Wk.symm {n : Int} {ps : List Pr} (h : LkIn n ps) {x y : Int} {k : Nat} (w : Wk ps x k y) : Wk ps y k x := by
  induction w with
  | zero => exact .zero
  | step w m ih => exact .front ((row_symm h).mp m) ih
theorem row_within {n : Int} {ps : List Pr} (h : LkIn n ps) {x y : Int} (m : y ∈ rowOf ps x) : (0 ≤ y ∧ y < n) ∧ y ≠ x := by
  rcases (mem_rowOf h).mp m with q | q <;> (have := h _ q; dsimp only at this; omega)
theorem Wk.within {n : Int} {ps : List Pr} (h : LkIn n ps) {x y : Int} {k : Nat} (hx : 0 ≤ x ∧ x < n) (w : Wk ps x k y) : 0 ≤ y ∧ y < n := by
  cases w with
  | zero => exact hx
  | step w m => exact (row_within h m).1
theorem least_nat {p : Nat → Prop} : (∃ k, p k) → ∃ d, p d ∧ ∀ k, p k → d ≤ k := by
  rintro ⟨k, hk⟩
  induction k using Nat.strongRecOn with
  | ind k ih =>
    by_cases c : ∃ j, j < k ∧ p j
    · obtain ⟨j, hj, pj⟩ := c
      exact ih j hj pj
    · refine ⟨k, hk, fun j pj => ?_⟩
      by_cases l : k ≤ j
      · exact l
      · exact (c ⟨j, by omega, pj⟩).elim
/-- what it means to be as far apart -/
def IsD (ps : List Pr) (x y : Int) (d : Int) : Prop := (d = -1 ∧ ∀ k, ¬ Wk ps x k y) ∨ ∃ k : Nat, d = k ∧ Wk ps x k y ∧ ∀ j, Wk ps x j y → k ≤ j
theorem IsD.uniq {ps : List Pr} {x y d e : Int} (a : IsD ps x y d) (b : IsD ps x y e) : d = e := by
  rcases a with ⟨rfl, a⟩ | ⟨k, rfl, a1, a2⟩
  · rcases b with ⟨rfl, b⟩ | ⟨j, rfl, b1, b2⟩
    · rfl
    · exact (a _ b1).elim
  · rcases b with ⟨rfl, b⟩ | ⟨j, rfl, b1, b2⟩
    · exact (b _ a1).elim
    · have := a2 _ b1; have := b2 _ a1; omega
theorem IsD.some (ps : List Pr) (x y : Int) : ∃ d, IsD ps x y d := by
  by_cases c : ∃ k, Wk ps x k y
  · obtain ⟨d, h1, h2⟩ := least_nat c
    exact ⟨d, .inr ⟨d, rfl, h1, h2⟩⟩
  · exact ⟨-1, .inl ⟨rfl, fun k w => c ⟨k, w⟩⟩⟩
noncomputable def dst (ps : List Pr) (x y : Int) : Int := Classical.choose (IsD.some ps x y)
theorem dst_is (ps : List Pr) (x y : Int) : IsD ps x y (dst ps x y) := Classical.choose_spec (IsD.some ps x y)
theorem IsD.eq {ps : List Pr} {x y d : Int} (a : IsD ps x y d) : d = dst ps x y := a.uniq (dst_is ps x y)
theorem dst_symm {n : Int} {ps : List Pr} (h : LkIn n ps) (x y : Int) : dst ps x y = dst ps y x := by
  refine (IsD.eq ?_).symm
  rcases dst_is ps y x with ⟨e2, b⟩ | ⟨j, e2, b1, b2⟩
  · exact .inl ⟨e2, fun k w => b k (w.symm h)⟩
  · exact .inr ⟨j, e2, b1.symm h, fun i w => b2 _ (w.symm h)⟩
theorem dst_self (ps : List Pr) (x : Int) : dst ps x x = 0 := (IsD.eq (.inr ⟨0, rfl, .zero, fun _ _ => Nat.zero_le _⟩)).symm
theorem dst_nn {ps : List Pr} {x y : Int} : 0 ≤ dst ps x y ↔ ∃ k, Wk ps x k y := by
  rcases dst_is ps x y with ⟨e, a⟩ | ⟨k, e, a1, a2⟩
  · rw [e]; exact ⟨fun h => by omega, fun ⟨k, w⟩ => (a k w).elim⟩
  · rw [e]; exact ⟨fun _ => ⟨k, a1⟩, fun _ => by omega⟩
theorem dst_lo (ps : List Pr) (x y : Int) : -1 ≤ dst ps x y := by
  rcases dst_is ps x y with ⟨e, a⟩ | ⟨k, e, a1, a2⟩ <;> omega
theorem dst_le {ps : List Pr} {x y : Int} {k : Nat} (w : Wk ps x k y) : 0 ≤ dst ps x y ∧ dst ps x y ≤ k := by
  rcases dst_is ps x y with ⟨e, a⟩ | ⟨j, e, a1, a2⟩
  · exact (a _ w).elim
  · have := a2 _ w; omega
theorem dst_wk {ps : List Pr} {x y : Int} (h : 0 ≤ dst ps x y) : Wk ps x (dst ps x y).toNat y := by
  rcases dst_is ps x y with ⟨e, a⟩ | ⟨j, e, a1, a2⟩
  · omega
  · rw [e]; exact a1
theorem dst_zero {ps : List Pr} {x y : Int} (h : dst ps x y = 0) : y = x := by
  have w := dst_wk (ps := ps) (x := x) (y := y) (by omega)
  rw [h] at w
  cases w
  rfl
/-- a link makes a difference of one at most -/
theorem dst_link {ps : List Pr} {x y z : Int} (m : z ∈ rowOf ps y) (h : 0 ≤ dst ps x y) : 0 ≤ dst ps x z ∧ dst ps x z ≤ dst ps x y + 1 := by
  have := dst_le (.step (dst_wk h) m)
  omega
/-- one link nearer there is a cell -/
theorem dst_pred {ps : List Pr} {x z : Int} (h : 0 < dst ps x z) : ∃ y, z ∈ rowOf ps y ∧ dst ps x y = dst ps x z - 1 := by
  have w := dst_wk (ps := ps) (x := x) (y := z) (by omega)
  obtain ⟨j, hj⟩ : ∃ j : Nat, (dst ps x z).toNat = j + 1 := ⟨(dst ps x z).toNat - 1, by omega⟩
  rw [hj] at w
  cases w with
  | @step _ y _ w m =>
    refine ⟨y, m, ?_⟩
    have a := dst_le w
    have b := dst_link m a.1
    omega
/-! ### lists by cell -/
def at_ (A : List Int) (y : Int) : Int := A.getD y.toNat (-1)
theorem at_set {A : List Int} {x y v : Int} (hx : 0 ≤ x ∧ x < A.length) (hy : 0 ≤ y ∧ y < A.length) : at_ (A.set x.toNat v) y = if y = x then v else at_ A y := by
  unfold at_
  rw [List.getD_eq_getElem?_getD, List.getD_eq_getElem?_getD, List.getElem?_set]
  by_cases c : y = x
  · subst c
    rw [if_pos rfl, if_pos (by omega), if_pos rfl]
    rfl
  · rw [if_neg (by omega), if_neg c]
theorem at_get {A : List Int} {x : Int} (hx : 0 ≤ x ∧ x < A.length) : A[x.toNat]? = some (at_ A x) := by
  unfold at_
  rw [List.getD_eq_getElem?_getD, List.getElem?_eq_getElem (by omega)]
  rfl
theorem at_all {n : Int} {f : Int → Int} {x : Int} (hx : 0 ≤ x ∧ x < n) : at_ ((AllN n).map f) x = f x := by
  unfold at_
  rw [List.getD_eq_getElem?_getD, List.getElem?_map, alln_at (by omega)]
  show f ((x.toNat : Nat) : Int) = _
  rw [show ((x.toNat : Nat) : Int) = x by omega]
theorem at_ext {n : Int} {A : List Int} {f : Int → Int} (hl : A.length = n.toNat) (h : ∀ x, 0 ≤ x ∧ x < n → at_ A x = f x) : A = (AllN n).map f := by
  refine List.ext_getElem? fun i => ?_
  by_cases c : i < n.toNat
  · have e := at_get (A := A) (x := (i : Int)) (by omega)
    rw [show ((i : Int)).toNat = i by omega] at e
    rw [e, h _ (by omega), List.getElem?_map, alln_at c]
    rfl
  · rw [List.getElem?_eq_none (by omega), List.getElem?_eq_none (by rw [List.length_map, alln_len]; omega)]
/-! ### breadth first -/
structure BF (n : Int) (ps : List Pr) (s : Int) (Q A : List Int) (at1 : Nat) : Prop where
  len : A.length = n.toNat
  nd : Q.Nodup
  qin : ∀ y ∈ Q, 0 ≤ y ∧ y < n
  out : ∀ y, 0 ≤ y → y < n → y ∉ Q → at_ A y = -1
  wk : ∀ y ∈ Q, 0 ≤ at_ A y ∧ Wk ps s (at_ A y).toNat y
  st : s ∈ Q ∧ at_ A s = 0
  mono : Q.Pairwise fun a b => at_ A a ≤ at_ A b
  bnd : ∀ y ∈ Q, ∀ x ∈ Q.drop at1, at_ A y ≤ at_ A x + 1
  don : ∀ x ∈ Q.take at1, ∀ z ∈ rowOf ps x, z ∈ Q ∧ at_ A z ≤ at_ A x + 1
theorem BF.le {n : Int} {ps : List Pr} {s : Int} {Q A : List Int} {k : Nat} (b : BF n ps s Q A k) : Q.length ≤ n.toNat := by
  have : (Q.map Int.toNat).length ≤ n.toNat := by
    have go : ∀ (N : Nat) (l : List Nat), l.Nodup → (∀ x ∈ l, x < N) → l.length ≤ N := by
      intro N
      induction N with
      | zero =>
        intro l _ h
        cases l with
        | nil => exact Nat.le_refl _
        | cons a r => exact absurd (h a List.mem_cons_self) (Nat.not_lt_zero _)
      | succ N ih =>
        intro l nd h
        have q := ih (l.erase N) (nd.erase N) fun x hx => by
          have a := h x (List.mem_of_mem_erase hx)
          have b : x ≠ N := fun z => by
            subst z
            exact (List.Nodup.not_mem_erase nd) hx
          omega
        by_cases m : N ∈ l
        · rw [List.length_erase_of_mem m] at q; omega
        · rw [List.erase_of_not_mem m] at q; omega
    refine go _ _ ?_ ?_
    · rw [List.nodup_iff_pairwise_ne, List.pairwise_map]
      refine b.nd.imp_of_mem fun {x y} hx hy ne e => ne ?_
      have := b.qin x hx; have := b.qin y hy; omega
    · intro x hx
      obtain ⟨y, hy, rfl⟩ := List.mem_map.mp hx
      have := b.qin y hy; omega
  rwa [List.length_map] at this
theorem bf_start {n : Int} {ps : List Pr} {s : Int} (hs : 0 ≤ s ∧ s < n) : BF n ps s [s] ((List.replicate n.toNat (-1)).set s.toNat 0) 0 := by
  have rl : (List.replicate n.toNat (-1 : Int)).length = n.toNat := List.length_replicate
  have a0 : ∀ y, 0 ≤ y ∧ y < n → at_ (List.replicate n.toNat (-1)) y = -1 := fun y hy => by
    unfold at_
    rw [List.getD_eq_getElem?_getD, List.getElem?_replicate, if_pos (by omega)]
    rfl
  have as : at_ ((List.replicate n.toNat (-1)).set s.toNat 0) s = 0 := by rw [at_set (by omega) (by omega), if_pos rfl]
  refine ⟨by rw [List.length_set, rl], by simp, fun y hy => ?_, fun y y0 y1 hy => ?_, fun y hy => ?_, ⟨by simp, as⟩, by simp, fun y hy x hx => ?_, fun x hx => ?_⟩
  · rw [List.mem_singleton.mp hy]; exact hs
  · rw [at_set (by omega) (by omega), if_neg (fun z => hy (by rw [z]; simp)), a0 y ⟨y0, y1⟩]
  · rw [List.mem_singleton.mp hy, as]; exact ⟨by omega, .zero⟩
  · rw [List.mem_singleton.mp hy]
    have : x = s := by simpa using hx
    rw [this]; omega
  · simp at hx
/-- within a turn: x is the cell, j of its near cells are seen -/
structure BT (n : Int) (ps : List Pr) (s : Int) (Q A : List Int) (at1 : Nat) (x : Int) (j : Nat) : Prop where
  b : BF n ps s Q A at1
  hx : Q[at1]? = some x
  seen : ∀ z ∈ (rowOf ps x).take j, z ∈ Q ∧ at_ A z ≤ at_ A x + 1
theorem bt_in {n : Int} {ps : List Pr} {s : Int} {Q A : List Int} {k : Nat} {x : Int} {j : Nat} (t : BT n ps s Q A k x j) : x ∈ Q := List.mem_of_getElem? t.hx
theorem bt_drop {n : Int} {ps : List Pr} {s : Int} {Q A : List Int} {k : Nat} {x : Int} {j : Nat} (t : BT n ps s Q A k x j) : Q.drop k = x :: Q.drop (k + 1) := by
  obtain ⟨h, e⟩ := List.getElem?_eq_some_iff.mp t.hx
  rw [← e]
  exact (List.drop_eq_getElem_cons h)
theorem bt_skip {n : Int} {ps : List Pr} {s : Int} {Q A : List Int} {k : Nat} {x y : Int} {j : Nat} (t : BT n ps s Q A k x j) (hy : (rowOf ps x)[j]? = some y) (m : y ∈ Q) : BT n ps s Q A k x (j + 1) := by
  refine ⟨t.b, t.hx, fun z hz => ?_⟩
  rw [List.take_succ, hy] at hz
  rcases List.mem_append.mp hz with hz | hz
  · exact t.seen z hz
  · have : z = y := by simpa using hz
    subst this
    exact ⟨m, t.b.bnd z m x (by rw [bt_drop t]; simp)⟩
theorem bt_new {n : Int} {ps : List Pr} {s : Int} {Q A : List Int} {k : Nat} {x y : Int} {j : Nat} (h : LkIn n ps) (t : BT n ps s Q A k x j) (hy : (rowOf ps x)[j]? = some y) (m : y ∉ Q) :
    BT n ps s (Q ++ [y]) (A.set y.toNat (at_ A x + 1)) k x (j + 1) := by
  have hin := row_within h (List.mem_of_getElem? hy)
  have xq := bt_in t
  have xin := t.b.qin x xq
  have len := t.b.len
  have aset : ∀ z, 0 ≤ z ∧ z < n → at_ (A.set y.toNat (at_ A x + 1)) z = if z = y then at_ A x + 1 else at_ A z := fun z hz => at_set (by omega) (by omega)
  have ay : at_ (A.set y.toNat (at_ A x + 1)) y = at_ A x + 1 := by rw [aset y hin.1, if_pos rfl]
  have aold : ∀ z ∈ Q, at_ (A.set y.toNat (at_ A x + 1)) z = at_ A z := fun z hz => by rw [aset z (t.b.qin z hz), if_neg (fun e => m (by rw [← e]; exact hz))]
  obtain ⟨kl, ke⟩ := List.getElem?_eq_some_iff.mp t.hx
  have dr : (Q ++ [y]).drop k = Q.drop k ++ [y] := List.drop_append_of_le_length (by omega)
  have tk : (Q ++ [y]).take k = Q.take k := List.take_append_of_le_length (by omega)
  have bx : ∀ z ∈ Q, at_ A z ≤ at_ A x + 1 := fun z hz => t.b.bnd z hz x (by rw [bt_drop t]; simp)
  have lx : ∀ z ∈ Q.drop k, at_ A x ≤ at_ A z := fun z hz => by
    have pw := t.b.mono.sublist (List.drop_sublist k Q)
    rw [bt_drop t] at pw hz
    rcases List.mem_cons.mp hz with rfl | hz
    · exact Int.le_refl _
    · exact (List.pairwise_cons.mp pw).1 z hz
  refine ⟨⟨by rw [List.length_set]; exact len, ?_, ?_, ?_, ?_, ?_, ?_, ?_, ?_⟩, ?_, ?_⟩
  · rw [List.nodup_append]
    exact ⟨t.b.nd, by simp, fun a ha b hb e => by
      rw [List.mem_singleton.mp hb] at e
      exact m (e ▸ ha)⟩
  · intro z hz
    rcases List.mem_append.mp hz with hz | hz
    · exact t.b.qin z hz
    · rw [List.mem_singleton.mp hz]; exact hin.1
  · intro z z0 z1 hz
    have n1 : z ∉ Q := fun q => hz (List.mem_append_left _ q)
    have n2 : z ≠ y := fun q => hz (by rw [q]; simp)
    rw [aset z ⟨z0, z1⟩, if_neg n2]
    exact t.b.out z z0 z1 n1
  · intro z hz
    rcases List.mem_append.mp hz with hz | hz
    · rw [aold z hz]; exact t.b.wk z hz
    · rw [List.mem_singleton.mp hz, ay]
      have w := t.b.wk x xq
      refine ⟨by omega, ?_⟩
      rw [show (at_ A x + 1).toNat = (at_ A x).toNat + 1 by omega]
      exact .step w.2 (List.mem_of_getElem? hy)
  · exact ⟨List.mem_append_left _ t.b.st.1, by rw [aold s t.b.st.1]; exact t.b.st.2⟩
  · rw [List.pairwise_append]
    refine ⟨t.b.mono.imp_of_mem fun {a b} ha hb le => by rw [aold a ha, aold b hb]; exact le, by simp, fun a ha b hb => ?_⟩
    rw [List.mem_singleton.mp hb, ay, aold a ha]
    exact bx a ha
  · intro z hz w hw
    rw [dr] at hw
    have zle : at_ (A.set y.toNat (at_ A x + 1)) z ≤ at_ A x + 1 := by
      rcases List.mem_append.mp hz with hz | hz
      · rw [aold z hz]; exact bx z hz
      · rw [List.mem_singleton.mp hz, ay]; exact Int.le_refl _
    rcases List.mem_append.mp hw with hw | hw
    · rw [aold w (List.mem_of_mem_drop hw)]
      have := lx w hw
      omega
    · rw [List.mem_singleton.mp hw, ay]
      omega
  · intro w hw z hz
    rw [tk] at hw
    obtain ⟨q1, q2⟩ := t.b.don w hw z hz
    exact ⟨List.mem_append_left _ q1, by rw [aold z q1, aold w (List.mem_of_mem_take hw)]; exact q2⟩
  · rw [List.getElem?_append_left kl]; exact t.hx
  · intro z hz
    rw [List.take_succ, hy] at hz
    rcases List.mem_append.mp hz with hz | hz
    · obtain ⟨q1, q2⟩ := t.seen z hz
      exact ⟨List.mem_append_left _ q1, by rw [aold z q1, aold x xq]; exact q2⟩
    · have : z = y := by simpa using hz
      subst this
      exact ⟨by simp, by rw [ay, aold x xq]; exact Int.le_refl _⟩
theorem bt_done {n : Int} {ps : List Pr} {s : Int} {Q A : List Int} {k : Nat} {x : Int} {j : Nat} (t : BT n ps s Q A k x j) (hj : (rowOf ps x).length ≤ j) : BF n ps s Q A (k + 1) := by
  refine ⟨t.b.len, t.b.nd, t.b.qin, t.b.out, t.b.wk, t.b.st, t.b.mono, fun y hy z hz => t.b.bnd y hy z ?_, fun z hz w hw => ?_⟩
  · rw [bt_drop t]; exact List.mem_cons_of_mem _ hz
  · rw [List.take_succ, t.hx] at hz
    rcases List.mem_append.mp hz with hz | hz
    · exact t.b.don z hz w hw
    · have : z = x := by simpa using hz
      subst this
      exact t.seen w (by rw [List.take_of_length_le hj]; exact hw)
theorem bf_end {n : Int} {ps : List Pr} {s : Int} {Q A : List Int} {k : Nat} (h : LkIn n ps) (b : BF n ps s Q A k) (hk : Q.length ≤ k) : A = (AllN n).map (dst ps s) := by
  have all : ∀ j y, Wk ps s j y → y ∈ Q ∧ at_ A y ≤ j := fun j y w => by
    induction w with
    | zero => exact ⟨b.st.1, by rw [b.st.2]; omega⟩
    | step w m ih =>
      obtain ⟨q1, q2⟩ := b.don _ (by rw [List.take_of_length_le hk]; exact ih.1) _ m
      exact ⟨q1, by omega⟩
  refine at_ext b.len fun y hy => IsD.eq ?_
  by_cases c : y ∈ Q
  · have w := b.wk y c
    exact .inr ⟨(at_ A y).toNat, by omega, w.2, fun j wj => by have := (all j y wj).2; omega⟩
  · exact .inl ⟨b.out y hy.1 hy.2 c, fun j w => c (all j y w).1⟩
/-! ### by turns over all links -/
def Mk (t : Nat) (v : Int) (c : Prop) : Prop := (c ∧ v = (t : Int) + 1) ∨ (¬ c ∧ v = -1)
theorem Mk.iff {t : Nat} {v : Int} {c d : Prop} (h : Mk t v c) (e : c ↔ d) : Mk t v d := h.imp (fun q => ⟨e.mp q.1, q.2⟩) fun q => ⟨fun z => q.1 (e.mpr z), q.2⟩
/-- before turn t, j links of it seen -/
structure LT (n : Int) (ps : List Pr) (s : Int) (t : Nat) (j : Nat) (A : List Int) : Prop where
  len : A.length = n.toNat
  old : ∀ y, 0 ≤ y → y < n → dst ps s y ≤ t → at_ A y = dst ps s y
  new : ∀ y, 0 ≤ y → y < n → t < dst ps s y → Mk t (at_ A y) (dst ps s y = t + 1 ∧ ∃ p ∈ ps.take j, (p.1 = y ∧ dst ps s p.2 = t) ∨ (p.2 = y ∧ dst ps s p.1 = t))
theorem lt_start {n : Int} {ps : List Pr} {s : Int} (hs : 0 ≤ s ∧ s < n) : LT n ps s 0 0 ((List.replicate n.toNat (-1)).set s.toNat 0) := by
  have rl : (List.replicate n.toNat (-1 : Int)).length = n.toNat := List.length_replicate
  have a0 : ∀ y, 0 ≤ y ∧ y < n → at_ (List.replicate n.toNat (-1)) y = -1 := fun y hy => by
    unfold at_
    rw [List.getD_eq_getElem?_getD, List.getElem?_replicate, if_pos (by omega)]
    rfl
  refine ⟨by rw [List.length_set, rl], fun y y0 y1 h => ?_, fun y y0 y1 h => ?_⟩
  · rw [at_set (by omega) (by omega)]
    by_cases c : y = s
    · rw [if_pos c, c, dst_self]
    · rw [if_neg c, a0 y ⟨y0, y1⟩]
      have := dst_lo ps s y
      by_cases z : dst ps s y = 0
      · exact (c (dst_zero z)).elim
      · have h0 : dst ps s y ≤ 0 := h
        omega
  · rw [at_set (by omega) (by omega), if_neg (fun z => by rw [z, dst_self] at h; simp at h), a0 y ⟨y0, y1⟩]
    refine .inr ⟨?_, rfl⟩
    rintro ⟨_, p, hp, _⟩
    simp at hp
theorem lt_next {n : Int} {ps : List Pr} {s : Int} {t : Nat} {A : List Int} (h : LkIn n ps) (l : LT n ps s t ps.length A) : LT n ps s (t + 1) 0 A := by
  refine ⟨l.len, fun y y0 y1 hy => ?_, fun y y0 y1 hy => ?_⟩
  · by_cases c : dst ps s y ≤ t
    · exact l.old y y0 y1 c
    · have e : dst ps s y = t + 1 := by omega
      rcases l.new y y0 y1 (by omega) with ⟨_, q⟩ | ⟨q, _⟩
      · omega
      · refine (q ⟨e, ?_⟩).elim
        obtain ⟨z, m, dz⟩ := dst_pred (ps := ps) (x := s) (z := y) (by omega)
        rw [List.take_length]
        rcases (mem_rowOf h).mp m with q | q
        · exact ⟨_, q, .inr ⟨rfl, by dsimp only; omega⟩⟩
        · exact ⟨_, q, .inl ⟨rfl, by dsimp only; omega⟩⟩
  · rcases l.new y y0 y1 (by omega) with ⟨q, _⟩ | ⟨_, q⟩
    · omega
    · refine .inr ⟨?_, q⟩
      rintro ⟨_, p, hp, _⟩
      simp at hp
theorem lt_val {n : Int} {ps : List Pr} {s : Int} {t j : Nat} {A : List Int} (l : LT n ps s t j A) {y : Int} (y0 : 0 ≤ y) (y1 : y < n) : at_ A y = t ↔ dst ps s y = t := by
  by_cases c : dst ps s y ≤ t
  · rw [l.old y y0 y1 c]
  · rcases l.new y y0 y1 (by omega) with ⟨q, e⟩ | ⟨q, e⟩ <;> constructor <;> intro e <;> omega
/-- one end of a link is told -/
def pull (A : List Int) (t : Int) (a b : Int) : List Int := if at_ A a = t ∧ at_ A b = -1 then A.set b.toNat (t + 1) else A
def HasL (ps : List Pr) (s : Int) (t : Nat) (X : Pr → Prop) (y : Int) : Prop := ∃ q : Pr, X q ∧ ((q.1 = y ∧ dst ps s q.2 = t) ∨ (q.2 = y ∧ dst ps s q.1 = t))
theorem pull_one {n : Int} {ps : List Pr} {s : Int} {t : Nat} {B : List Int} {a b : Int} {X : Pr → Prop} (hl : B.length = n.toNat) (ha : 0 ≤ a ∧ a < n) (hb : 0 ≤ b ∧ b < n) (m : b ∈ rowOf ps a)
    (ho : ∀ y, 0 ≤ y → y < n → dst ps s y ≤ t → at_ B y = dst ps s y) (hn : ∀ y, 0 ≤ y → y < n → t < dst ps s y → Mk t (at_ B y) (dst ps s y = t + 1 ∧ HasL ps s t X y)) :
    (pull B t a b).length = n.toNat ∧ (∀ y, 0 ≤ y → y < n → dst ps s y ≤ t → at_ (pull B t a b) y = dst ps s y) ∧
      (∀ y, 0 ≤ y → y < n → t < dst ps s y → Mk t (at_ (pull B t a b) y) (dst ps s y = t + 1 ∧ (HasL ps s t X y ∨ (b = y ∧ dst ps s a = t)))) := by
  have sets : ∀ (v : Int) y, 0 ≤ y ∧ y < n → at_ (B.set b.toNat v) y = if y = b then v else at_ B y := fun v y hy => at_set (by omega) (by omega)
  have va : at_ B a = t ↔ dst ps s a = t := by
    by_cases c : dst ps s a ≤ t
    · rw [ho a ha.1 ha.2 c]
    · rcases hn a ha.1 ha.2 (by omega) with ⟨q, e⟩ | ⟨q, e⟩ <;> constructor <;> intro e <;> omega
  unfold pull
  by_cases c : at_ B a = t ∧ at_ B b = -1
  · rw [if_pos c]
    have da := va.mp c.1
    have db := dst_link m (show 0 ≤ dst ps s a by omega)
    have tb : t < dst ps s b := by
      by_cases z : dst ps s b ≤ t
      · have := ho b hb.1 hb.2 z; omega
      · omega
    refine ⟨by rw [List.length_set]; exact hl, fun y y0 y1 hy => ?_, fun y y0 y1 hy => ?_⟩
    · rw [sets _ y ⟨y0, y1⟩, if_neg (fun z => by subst z; omega)]
      exact ho y y0 y1 hy
    · rw [sets _ y ⟨y0, y1⟩]
      by_cases z : y = b
      · rw [if_pos z]
        exact .inl ⟨⟨by rw [z]; omega, .inr ⟨z.symm, da⟩⟩, rfl⟩
      · rw [if_neg z]
        exact (hn y y0 y1 hy).iff ⟨fun w => ⟨w.1, .inl w.2⟩, fun w => ⟨w.1, w.2.elim id fun w => (z w.1.symm).elim⟩⟩
  · rw [if_neg c]
    refine ⟨hl, ho, fun y y0 y1 hy => ?_⟩
    rcases hn y y0 y1 hy with ⟨q, e⟩ | ⟨q, e⟩
    · exact .inl ⟨⟨q.1, .inl q.2⟩, e⟩
    · refine .inr ⟨?_, e⟩
      rintro ⟨e1, e2 | ⟨e3, e2⟩⟩
      · exact q ⟨e1, e2⟩
      · exact c ⟨va.mpr e2, by rw [e3]; exact e⟩
theorem lt_link {n : Int} {ps : List Pr} {s : Int} {t j : Nat} {A : List Int} {p : Pr} (h : LkIn n ps) (hp : ps[j]? = some p) (l : LT n ps s t j A) : LT n ps s t (j + 1) (pull (pull A t p.1 p.2) t p.2 p.1) := by
  have pin := h p (List.mem_of_getElem? hp)
  have pm := List.mem_of_getElem? hp
  have m12 : p.2 ∈ rowOf ps p.1 := (mem_rowOf h).mpr (.inl pm)
  have m21 : p.1 ∈ rowOf ps p.2 := (mem_rowOf h).mpr (.inr pm)
  have tk : ∀ q : Pr, q ∈ ps.take (j + 1) ↔ q ∈ ps.take j ∨ q = p := fun q => by
    rw [List.take_succ, hp, List.mem_append]
    simp
  obtain ⟨l1, o1, n1⟩ := pull_one (X := fun q => q ∈ ps.take j) l.len ⟨by omega, by omega⟩ ⟨by omega, by omega⟩ m12 l.old (fun y y0 y1 hy => (l.new y y0 y1 hy).iff ⟨fun w => w, fun w => w⟩)
  obtain ⟨l2, o2, n2⟩ := pull_one (X := fun q => q ∈ ps.take j ∨ (q = p ∧ dst ps s p.1 = t)) l1 ⟨by omega, by omega⟩ ⟨by omega, by omega⟩ m21 o1 (fun y y0 y1 hy => (n1 y y0 y1 hy).iff (by
    constructor
    · rintro ⟨e, ⟨q, a, b⟩ | ⟨a, b⟩⟩
      · exact ⟨e, q, .inl a, b⟩
      · exact ⟨e, p, .inr ⟨rfl, b⟩, .inr ⟨a, b⟩⟩
    · rintro ⟨e, q, a | ⟨rfl, a⟩, b⟩
      · exact ⟨e, .inl ⟨q, a, b⟩⟩
      · rcases b with ⟨b1, b2⟩ | ⟨b1, b2⟩
        · rw [b1] at a; omega
        · exact ⟨e, .inr ⟨b1, a⟩⟩))
  refine ⟨l2, o2, fun y y0 y1 hy => (n2 y y0 y1 hy).iff ?_⟩
  constructor
  · rintro ⟨e, ⟨q, a | ⟨rfl, a⟩, b⟩ | ⟨a, b⟩⟩
    · exact ⟨e, q, (tk q).mpr (.inl a), b⟩
    · exact ⟨e, q, (tk q).mpr (.inr rfl), b⟩
    · exact ⟨e, p, (tk p).mpr (.inr rfl), .inl ⟨a, b⟩⟩
  · rintro ⟨e, q, a, b⟩
    rcases (tk q).mp a with a | rfl
    · exact ⟨e, .inl ⟨q, .inl a, b⟩⟩
    · rcases b with ⟨b1, b2⟩ | ⟨b1, b2⟩
      · exact ⟨e, .inr ⟨b1, b2⟩⟩
      · exact ⟨e, .inl ⟨q, .inr ⟨rfl, b2⟩, .inr ⟨b1, b2⟩⟩⟩
/-- levels have no gaps -/
theorem dst_levels {ps : List Pr} {s : Int} : ∀ (k : Nat) (y : Int), dst ps s y = k → ∀ j : Nat, j ≤ k → ∃ z, dst ps s z = j
  | 0, y, e, j, hj => ⟨y, by omega⟩
  | k + 1, y, e, j, hj => by
    by_cases c : j = k + 1
    · exact ⟨y, by omega⟩
    · obtain ⟨z, m, dz⟩ := dst_pred (ps := ps) (x := s) (z := y) (by omega)
      exact dst_levels k z (by omega) j (by omega)
theorem lvl_in {n : Int} {ps : List Pr} {s z : Int} (h : LkIn n ps) (hs : 0 ≤ s ∧ s < n) (d : 0 ≤ dst ps s z) : 0 ≤ z ∧ z < n := (dst_wk d).within h hs
/-- no cell is n links away -/
theorem dst_lt {n : Int} {ps : List Pr} {s y : Int} (h : LkIn n ps) (hs : 0 ≤ s ∧ s < n) : dst ps s y < n := by
  by_cases c : dst ps s y < n
  · exact c
  · exfalso
    have lv : ∀ j : Nat, j ≤ n.toNat → ∃ z, dst ps s z = j := fun j hj => dst_levels (dst ps s y).toNat y (by omega) j (by omega)
    let f : Nat → Nat := fun j => if hj : j ≤ n.toNat then (Classical.choose (lv j hj)).toNat else 0
    have fs : ∀ j (hj : j ≤ n.toNat), dst ps s ((f j : Nat) : Int) = j ∧ f j < n.toNat := fun j hj => by
      have q := Classical.choose_spec (lv j hj)
      have i := lvl_in h hs (z := Classical.choose (lv j hj)) (by omega)
      show dst ps s (((if hj : j ≤ n.toNat then (Classical.choose (lv j hj)).toNat else 0 : Nat)) : Int) = j ∧ (if hj : j ≤ n.toNat then (Classical.choose (lv j hj)).toNat else 0) < n.toNat
      rw [dif_pos hj]
      refine ⟨?_, by omega⟩
      rw [show (((Classical.choose (lv j hj)).toNat : Nat) : Int) = Classical.choose (lv j hj) by omega]
      exact q
    have go : ∀ (N : Nat) (l : List Nat), l.Nodup → (∀ x ∈ l, x < N) → l.length ≤ N := by
      intro N
      induction N with
      | zero =>
        intro l _ h
        cases l with
        | nil => exact Nat.le_refl _
        | cons a r => exact absurd (h a List.mem_cons_self) (Nat.not_lt_zero _)
      | succ N ih =>
        intro l nd h
        have q := ih (l.erase N) (nd.erase N) fun x hx => by
          have a := h x (List.mem_of_mem_erase hx)
          have b : x ≠ N := fun z => by
            subst z
            exact (List.Nodup.not_mem_erase nd) hx
          omega
        by_cases m : N ∈ l
        · rw [List.length_erase_of_mem m] at q; omega
        · rw [List.erase_of_not_mem m] at q; omega
    have := go n.toNat ((List.range (n.toNat + 1)).map f) (by
      rw [List.nodup_iff_pairwise_ne, List.pairwise_map]
      refine List.Pairwise.imp_of_mem ?_ (List.nodup_iff_pairwise_ne.mp List.nodup_range)
      intro a b ha hb ne e
      have qa := (fs a (by have := List.mem_range.mp ha; omega)).1
      have qb := (fs b (by have := List.mem_range.mp hb; omega)).1
      rw [e] at qa
      omega) (fun x hx => by
      obtain ⟨j, hj, rfl⟩ := List.mem_map.mp hx
      exact (fs j (by have := List.mem_range.mp hj; omega)).2)
    rw [List.length_map, List.length_range] at this
    omega
theorem lt_end {n : Int} {ps : List Pr} {s : Int} {t : Nat} {A : List Int} (h : LkIn n ps) (hs : 0 ≤ s ∧ s < n) (l : LT n ps s t 0 A) (hn : n ≤ t) : A = (AllN n).map (dst ps s) :=
  at_ext l.len fun y hy => l.old y hy.1 hy.2 (by have := dst_lt (y := y) h hs; omega)
theorem lt_stop {n : Int} {ps : List Pr} {s : Int} {t : Nat} {A : List Int} (h : LkIn n ps) (hs : 0 ≤ s ∧ s < n) (l : LT n ps s t ps.length A) (no : (t : Int) ∉ A) : A = (AllN n).map (dst ps s) := by
  have none : ∀ z, dst ps s z ≠ t := fun z e => no (by
    have i := lvl_in h hs (z := z) (by omega)
    have v := (lt_val l i.1 i.2).mpr e
    rw [← v]
    exact List.mem_of_getElem? (at_get (by have := l.len; omega)))
  refine at_ext l.len fun y hy => l.old y hy.1 hy.2 ?_
  by_cases c : dst ps s y ≤ t
  · exact c
  · obtain ⟨z, dz⟩ := dst_levels (ps := ps) (s := s) (dst ps s y).toNat y (by omega) t (by omega)
    exact (none z dz).elim
end Pu
end

-- Ways
section
set_option Elab.async false
set_option linter.all false
set_option maxRecDepth 100000
set_option maxHeartbeats 4000000
namespace R
noncomputable section
open PySem PySem.Spec PyProof.Rows L2 LamX NdefX Pu
/-! how far cells are apart -/
theorem atI_at {A : List Int} {x : Int} (hx : 0 ≤ x ∧ x < A.length) : atI (A.map PyData.int) x = some (.int (at_ A x)) := by
  rw [atI_nn hx.1 (by rw [List.length_map]; exact hx.2), List.getElem?_map, at_get hx]
  rfl
theorem atI_rows {n x : Int} {ps : List Pr} (hx : 0 ≤ x ∧ x < n) : atI (rowsD n ps) x = some (.tuple ((rowOf ps x).map .int)) := by
  unfold rowsD
  rw [atI_nn hx.1 (by rw [List.length_map, List.length_range]; omega), List.getElem?_map, List.getElem?_range (by omega)]
  show some (PyData.tuple ((rowOf ps ((x.toNat : Nat) : Int)).map .int)) = _
  rw [show ((x.toNat : Nat) : Int) = x by omega]
theorem rowsD_len {n : Int} {ps : List Pr} : (rowsD n ps).length = n.toNat := by unfold rowsD; simp
theorem ixN_at {A : List Int} {x : Int} (hx : 0 ≤ x ∧ x < A.length) : ixN A.length x = some x.toNat := ixN_nn hx.1 hx.2
theorem bfs_row {n s x : Int} {ps : List Pr} {Q A : List Int} {k : Nat} (h : LkIn n ps) (hn : n ≤ 1000) (a0 a1 : S) (t : S) (ft : freeS t = true) (b : BT n ps s Q A k x 0) :
    (FR_steps_from_1 [.v (.tuple (rowsD n ps)), a1, .own (A.map .int), .own (Q.map .int), .v (.int ((k : Int) + 1)), .v (.int x), t]).sat
      (fun ρ => ∃ (Q' A' : List Int) (t' : S), ρ = [.v (.tuple (rowsD n ps)), a1, .own (A'.map .int), .own (Q'.map .int), .v (.int ((k : Int) + 1)), .v (.int x), t'] ∧ freeS t' = true ∧ BF n ps s Q' A' (k + 1) ∧ k + 1 ≤ Q'.length) (fun _ _ => False) noP noP noX := by
  have xin := b.b.qin x (bt_in b)
  have row := atI_rows (ps := ps) xin
  unfold FR_steps_from_1
  simp only [sS, row]
  refine forM PyData.int (fun i ρ => ∃ (Q' A' : List Int) (t' : S), ρ = [.v (.tuple (rowsD n ps)), a1, .own (A'.map .int), .own (Q'.map .int), .v (.int ((k : Int) + 1)), .v (.int x), t'] ∧ freeS t' = true ∧ BT n ps s Q' A' k x i) ⟨Q, A, t, rfl, ft, b⟩ ?_ ?_
  · rintro i y ρ hy ⟨Q', A', t', rfl, ft', b'⟩
    have yin := (row_within h (List.mem_of_getElem? hy)).1
    have len := b'.b.len
    have ay := atI_at (A := A') (x := y) (by omega)
    have ax := atI_at (A := A') (x := x) (by omega)
    have iy := ixN_at (A := A') (x := y) (by omega)
    have ql := b'.b.le
    unfold FB_steps_from_1
    by_cases c : y ∈ Q'
    · have nn := (b'.b.wk y c).1
      have c2 : ¬ at_ A' y < 0 := by omega
      simp only [sS, ft', ay, ax, c2]
      exact ⟨Q', A', _, rfl, rfl, bt_skip b' hy c⟩
    · have c2 : at_ A' y < 0 := by rw [b'.b.out y yin.1 yin.2 c]; omega
      simp only [sS, ft', ay, ax, iy, eq_true c2, set_map_int, sz24' (show Q'.length ≤ 100000 by omega)]
      exact ⟨Q' ++ [y], A'.set y.toNat (at_ A' x + 1), _, by rw [List.map_append]; rfl, rfl, bt_new h b' hy c⟩
  · rintro ρ ⟨Q', A', t', rfl, ft', b'⟩
    exact ⟨Q', A', t', rfl, ft', bt_done b' (Nat.le_refl _), (List.getElem?_eq_some_iff.mp b'.hx).1⟩
theorem from_is {n s : Int} {ps : List Pr} (h : LkIn n ps) (hn : n ≤ 1000) (hs : 0 ≤ s ∧ s < n) : run0 F_steps_from [.v (.tuple (rowsD n ps)), .v (.int s)] = .ok (.v (.tuple (((AllN n).map (dst ps s)).map .int))) := by
  refine run0_is E_steps_from ?_
  have rp := dRep_one (x := .int (-1)) (k := (((rowsD n ps).length : Nat) : Int)) (by rw [rowsD_len]; omega)
  have e1 : ((((rowsD n ps).length : Nat) : Int)).toNat = n.toNat := by rw [rowsD_len]; omega
  rw [e1, rep_map_int] at rp
  have i0 := ixN_at (A := List.replicate n.toNat (-1 : Int)) (x := s) (by rw [List.length_replicate]; omega)
  show (qSeq _ T_steps_from_1 _).sat _ _ _ _ _
  rw [sat_seq, set_op (k := .int (((rowsD n ps).length : Nat) : Int)) (r2 := .v (.int (((rowsD n ps).length : Nat) : Int))) (by simp only [sS]) (by simp only [sS]) rfl rp]
  unfold T_steps_from_1
  simp only [sS, i0, set_map_int]
  unfold WH_steps_from_1
  refine while_sat (fun m ρ => ∃ (Q A : List Int) (k : Nat) (t u : S), ρ = [.v (.tuple (rowsD n ps)), .v (.int s), .own (A.map .int), .own (Q.map .int), .v (.int (k : Int)), t, u] ∧ freeS t = true ∧ freeS u = true ∧ BF n ps s Q A k ∧ k ≤ Q.length ∧ m = n.toNat - k) (m := n.toNat)
    ⟨[s], _, 0, .un, .un, rfl, rfl, rfl, bf_start hs, by simp, rfl⟩ ?_
  rintro m ρ ⟨Q, A, k, t, u, rfl, ft, fu, b, kl, rfl⟩
  have ql := b.le
  by_cases c : (k : Int) < ((Q.length : Nat) : Int)
  · right
    have kq : k < Q.length := by omega
    obtain ⟨x, hx⟩ : ∃ x, Q[k]? = some x := ⟨Q[k], List.getElem?_eq_getElem kq⟩
    have ax : atI (Q.map PyData.int) (k : Int) = some (.int x) := by
      rw [atI_nn (by omega) (by rw [List.length_map]; exact c), List.getElem?_map, show ((k : Int)).toNat = k by omega, hx]
      rfl
    refine ⟨[.v (.tuple (rowsD n ps)), .v (.int s), .own (A.map .int), .own (Q.map .int), .v (.int (k : Int)), t, u], by unfold WT_steps_from_1; simp only [sS, eq_true c, decide_true], ?_⟩
    unfold WB_steps_from_1
    simp only [sS, ft, ax]
    refine Ctl.sat.imp (bfs_row h hn .un (.v (.int s)) u fu ⟨b, hx, by simp⟩) ?_ (fun _ _ h => h.elim) (fun _ h => h.elim) (fun _ h => h.elim) (fun _ _ _ h => h.elim)
    rintro ρ ⟨Q', A', t', rfl, ft', b', kl'⟩
    exact ⟨n.toNat - (k + 1), by have := b'.le; omega, Q', A', k + 1, _, t', by rw [show ((k + 1 : Nat) : Int) = (k : Int) + 1 by omega], rfl, ft', b', kl', rfl⟩
  · left
    refine ⟨[.v (.tuple (rowsD n ps)), .v (.int s), .own (A.map .int), .own (Q.map .int), .v (.int (k : Int)), t, u], by unfold WT_steps_from_1; simp only [sS, c, decide_false], ?_⟩
    have e := bf_end h b (by omega)
    subst e
    simp only [sS]
end
end R
end

-- MaC
section
set_option Elab.async false
set_option linter.all false
set_option maxRecDepth 100000
set_option maxHeartbeats 4000000
/-! MaC: classes of cells that hang together by pairs. -/
namespace Pu
open PySem PySem.Spec PyProof.Rows L2 LamX NdefX
def Con (ps : List Pr) (x y : Int) : Prop := ∃ k, Wk ps x k y
theorem Con.refl {ps : List Pr} (x : Int) : Con ps x x := ⟨0, .zero⟩
theorem Con.trans {ps : List Pr} {x y z : Int} (a : Con ps x y) (b : Con ps y z) : Con ps x z := by
  obtain ⟨j, a⟩ := a
  obtain ⟨k, b⟩ := b
  exact ⟨j + k, a.trans b⟩
theorem Con.symm {n : Int} {ps : List Pr} (h : LkIn n ps) {x y : Int} (a : Con ps x y) : Con ps y x := by
  obtain ⟨j, a⟩ := a
  exact ⟨j, a.symm h⟩
theorem Con.link {ps : List Pr} {x y : Int} (h : y ∈ rowOf ps x) : Con ps x y := ⟨1, .step .zero h⟩
theorem Con.within {n : Int} {ps : List Pr} (h : LkIn n ps) {x y : Int} (hx : 0 ≤ x ∧ x < n) (a : Con ps x y) : 0 ≤ y ∧ y < n := by
  obtain ⟨j, a⟩ := a
  exact a.within h hx
theorem con_dst {ps : List Pr} {x y : Int} : Con ps x y ↔ 0 ≤ dst ps x y := dst_nn.symm
theorem Wk.first {ps : List Pr} {x z : Int} {k : Nat} (w : Wk ps x (k + 1) z) : ∃ y, y ∈ rowOf ps x ∧ Wk ps y k z := by
  generalize hm : k + 1 = m at w
  induction w generalizing k with
  | zero => omega
  | @step j y z w m ih =>
    have e : k = j := by omega
    subst e
    cases k with
    | zero =>
      cases w
      exact ⟨z, m, .zero⟩
    | succ k =>
      obtain ⟨u, hu, wu⟩ := ih rfl
      exact ⟨u, hu, .step wu m⟩
/-- the least cell of a class -/
def IsC (ps : List Pr) (x c : Int) : Prop := Con ps x c ∧ ∀ z, Con ps x z → c ≤ z
theorem IsC.uniq {ps : List Pr} {x c d : Int} (a : IsC ps x c) (b : IsC ps x d) : c = d := by
  have := a.2 d b.1
  have := b.2 c a.1
  omega
open Classical in
noncomputable def cls (ps : List Pr) (x : Int) : Int := if h : ∃ c, IsC ps x c then Classical.choose h else x
theorem IsC.eq {ps : List Pr} {x c : Int} (a : IsC ps x c) : c = cls ps x := by
  unfold cls
  have h : ∃ c, IsC ps x c := ⟨c, a⟩
  rw [dif_pos h]
  exact a.uniq (Classical.choose_spec h)
theorem cls_is {n : Int} {ps : List Pr} (h : LkIn n ps) {x : Int} (hx : 0 ≤ x ∧ x < n) : IsC ps x (cls ps x) := by
  obtain ⟨d, ⟨h1, h2⟩, h3⟩ := least_nat (p := fun d => Con ps x (d : Int) ∧ (d : Int) < n) ⟨x.toNat, by rw [show ((x.toNat : Nat) : Int) = x by omega]; exact ⟨.refl x, hx.2⟩⟩
  have a : IsC ps x (d : Int) := ⟨h1, fun z hz => by
    have i := hz.within h hx
    have := h3 z.toNat ⟨by rw [show ((z.toNat : Nat) : Int) = z by omega]; exact hz, by omega⟩
    omega⟩
  rw [← a.eq]
  exact a
theorem cls_eq {n : Int} {ps : List Pr} (h : LkIn n ps) {x y : Int} (hx : 0 ≤ x ∧ x < n) (hy : 0 ≤ y ∧ y < n) : cls ps x = cls ps y ↔ Con ps x y := by
  have a := cls_is h hx
  have b := cls_is h hy
  constructor
  · intro e
    rw [e] at a
    exact a.1.trans (b.1.symm h)
  · intro c
    exact IsC.uniq ⟨a.1, a.2⟩ ⟨c.trans b.1, fun z hz => b.2 z ((c.symm h).trans hz)⟩
/-- what has been spread after t turns -/
structure CL (n : Int) (ps : List Pr) (t : Nat) (L : List Int) : Prop where
  len : L.length = n.toNat
  con : ∀ y, 0 ≤ y → y < n → Con ps y (at_ L y)
  far : ∀ k y z, k ≤ t → 0 ≤ y → y < n → Wk ps y k z → at_ L y ≤ z
/-- within a turn that began with L0, j links of it seen -/
structure CJ (n : Int) (ps : List Pr) (L0 : List Int) (j : Nat) (L : List Int) : Prop where
  len : L.length = n.toNat
  con : ∀ y, 0 ≤ y → y < n → Con ps y (at_ L y)
  mono : ∀ y, 0 ≤ y → y < n → at_ L y ≤ at_ L0 y
  got : ∀ p ∈ ps.take j, at_ L p.1 ≤ at_ L0 p.2 ∧ at_ L p.2 ≤ at_ L0 p.1
theorem cl_start {n : Int} {ps : List Pr} : CL n ps 0 (AllN n) := by
  have e : ∀ y, 0 ≤ y ∧ y < n → at_ (AllN n) y = y := fun y hy => by
    have := at_all (f := fun x => x) hy
    rw [List.map_id'] at this
    exact this
  refine ⟨alln_len n, fun y y0 y1 => by rw [e y ⟨y0, y1⟩]; exact .refl y, fun k y z hk y0 y1 w => ?_⟩
  have : k = 0 := by omega
  subst this
  cases w
  rw [e _ ⟨y0, y1⟩]
  exact Int.le_refl _
theorem cj_start {n : Int} {ps : List Pr} {t : Nat} {L : List Int} (c : CL n ps t L) : CJ n ps L 0 L := ⟨c.len, c.con, fun _ _ _ => Int.le_refl _, fun p hp => by simp at hp⟩
theorem cj_link {n : Int} {ps : List Pr} {L0 L : List Int} {j : Nat} {p : Pr} {low : Int} (h : LkIn n ps) (hp : ps[j]? = some p) (c : CJ n ps L0 j L) (hl : low = at_ L p.1 ∨ low = at_ L p.2) (l1 : low ≤ at_ L p.1) (l2 : low ≤ at_ L p.2) :
    CJ n ps L0 (j + 1) ((L.set p.1.toNat low).set p.2.toNat low) := by
  have pm := List.mem_of_getElem? hp
  have pin := h p pm
  have len := c.len
  have m12 : p.2 ∈ rowOf ps p.1 := (mem_rowOf h).mpr (.inl pm)
  have m21 : p.1 ∈ rowOf ps p.2 := (mem_rowOf h).mpr (.inr pm)
  have vs : ∀ y, 0 ≤ y → y < n → at_ ((L.set p.1.toNat low).set p.2.toNat low) y = if y = p.2 then low else if y = p.1 then low else at_ L y := fun y y0 y1 => by
    rw [at_set (by rw [List.length_set]; omega) (by rw [List.length_set]; omega), at_set (by omega) (by omega)]
  have dec : ∀ y, 0 ≤ y → y < n → at_ ((L.set p.1.toNat low).set p.2.toNat low) y ≤ at_ L y := fun y y0 y1 => by
    rw [vs y y0 y1]
    by_cases c2 : y = p.2
    · rw [if_pos c2, c2]; exact l2
    · rw [if_neg c2]
      by_cases c1 : y = p.1
      · rw [if_pos c1, c1]; exact l1
      · rw [if_neg c1]; exact Int.le_refl _
  have c1 : Con ps p.1 low := by
    rcases hl with e | e
    · rw [e]; exact c.con _ (by omega) (by omega)
    · rw [e]; exact (Con.link m12).trans (c.con _ (by omega) (by omega))
  have c2 : Con ps p.2 low := (Con.link m21).trans c1
  refine ⟨by rw [List.length_set, List.length_set]; exact len, fun y y0 y1 => ?_, fun y y0 y1 => Int.le_trans (dec y y0 y1) (c.mono y y0 y1), fun q hq => ?_⟩
  · rw [vs y y0 y1]
    by_cases e2 : y = p.2
    · rw [if_pos e2, e2]; exact c2
    · rw [if_neg e2]
      by_cases e1 : y = p.1
      · rw [if_pos e1, e1]; exact c1
      · rw [if_neg e1]; exact c.con y y0 y1
  · rw [List.take_succ, hp] at hq
    rcases List.mem_append.mp hq with hq | hq
    · have qin := h q (List.mem_of_mem_take hq)
      obtain ⟨a, b⟩ := c.got q hq
      exact ⟨Int.le_trans (dec _ (by omega) (by omega)) a, Int.le_trans (dec _ (by omega) (by omega)) b⟩
    · have e : q = p := by simpa using hq
      subst e
      have a := c.mono q.1 (by omega) (by omega)
      have b := c.mono q.2 (by omega) (by omega)
      rw [vs q.1 (by omega) (by omega), vs q.2 (by omega) (by omega), if_neg (by omega), if_pos rfl, if_pos rfl]
      exact ⟨by omega, by omega⟩
theorem cj_next {n : Int} {ps : List Pr} {L0 L : List Int} {t : Nat} (h : LkIn n ps) (c0 : CL n ps t L0) (c : CJ n ps L0 ps.length L) : CL n ps (t + 1) L := by
  refine ⟨c.len, c.con, fun k y z hk y0 y1 w => ?_⟩
  cases k with
  | zero =>
    cases w
    have := c0.far 0 y y (by omega) y0 y1 .zero
    have := c.mono y y0 y1
    omega
  | succ k =>
    obtain ⟨u, hu, wu⟩ := w.first
    have uin := (row_within h hu).1
    have f := c0.far k u z (by omega) uin.1 uin.2 wu
    have g : at_ L y ≤ at_ L0 u := by
      rcases (mem_rowOf h).mp hu with q | q
      · exact (c.got _ (by rw [List.take_length]; exact q)).1
      · exact (c.got _ (by rw [List.take_length]; exact q)).2
    omega
theorem cl_end {n : Int} {ps : List Pr} {t : Nat} {L : List Int} (h : LkIn n ps) (c : CL n ps t L) (ht : n ≤ t) : L = (AllN n).map (cls ps) :=
  at_ext c.len fun y hy => IsC.eq ⟨c.con y hy.1 hy.2, fun z hz => by
    have d := con_dst.mp hz
    have l := dst_lt (y := z) h hy
    exact c.far _ y z (by omega) hy.1 hy.2 (dst_wk d)⟩
theorem cj_stop {n : Int} {ps : List Pr} {L : List Int} {t : Nat} (h : LkIn n ps) (c0 : CL n ps t L) (c : CJ n ps L ps.length L) : L = (AllN n).map (cls ps) := by
  have eqs : ∀ k y z, 0 ≤ y → y < n → Wk ps y k z → at_ L y = at_ L z := fun k y z y0 y1 w => by
    induction w with
    | zero => rfl
    | @step j u z w m ih =>
      rw [ih]
      rcases (mem_rowOf h).mp m with q | q
      · have := c.got _ (by rw [List.take_length]; exact q)
        dsimp only at this
        omega
      · have := c.got _ (by rw [List.take_length]; exact q)
        dsimp only at this
        omega
  refine at_ext c.len fun y hy => IsC.eq ⟨c.con y hy.1 hy.2, fun z hz => ?_⟩
  have zin := hz.within h hy
  obtain ⟨k, w⟩ := hz
  rw [eqs k y z hy.1 hy.2 w]
  exact c0.far 0 z z (by omega) zin.1 zin.2 .zero
/-! ### the cells of a part -/
noncomputable def partL (n : Int) (ps : List Pr) (x : Int) : List Int := (AllN n).filter fun y => decide (0 ≤ dst ps x y)
theorem partL_mem {n : Int} {ps : List Pr} {x y : Int} : y ∈ partL n ps x ↔ (0 ≤ y ∧ y < n) ∧ Con ps x y := by
  unfold partL
  rw [List.mem_filter, alln_mem, con_dst, decide_eq_true_eq]
/-! ### cells near one that hang together by mates -/
def mated (ps : List Pr) (y x z : Int) : Bool := (rowOf ps x).any fun m => decide (m ≠ y) && decide (m ∈ rowOf ps z)
theorem mated_iff {ps : List Pr} {y x z : Int} : mated ps y x z = true ↔ ∃ m, m ∈ rowOf ps x ∧ m ≠ y ∧ m ∈ rowOf ps z := by
  unfold mated
  rw [List.any_eq_true]
  constructor
  · rintro ⟨m, h1, h2⟩
    rw [Bool.and_eq_true, decide_eq_true_eq, decide_eq_true_eq] at h2
    exact ⟨m, h1, h2.1, h2.2⟩
  · rintro ⟨m, h1, h2, h3⟩
    exact ⟨m, h1, by rw [Bool.and_eq_true, decide_eq_true_eq, decide_eq_true_eq]; exact ⟨h2, h3⟩⟩
theorem mated_symm {ps : List Pr} {y x z : Int} : mated ps y x z = mated ps y z x := by
  rw [Bool.eq_iff_iff, mated_iff, mated_iff]
  exact ⟨fun ⟨m, a, b, c⟩ => ⟨m, c, b, a⟩, fun ⟨m, a, b, c⟩ => ⟨m, c, b, a⟩⟩
/-- by steps from mate to mate, all within the row of y -/
inductive Mt (ps : List Pr) (y x : Int) : Int → Prop
  | zero : Mt ps y x x
  | step {u z : Int} : Mt ps y x u → z ∈ rowOf ps y → mated ps y u z = true → Mt ps y x z
theorem Mt.trans {ps : List Pr} {y x u z : Int} (a : Mt ps y x u) (b : Mt ps y u z) : Mt ps y x z := by
  induction b with
  | zero => exact a
  | step w m e ih => exact .step ih m e
theorem Mt.row {ps : List Pr} {y x z : Int} (hx : x ∈ rowOf ps y) (a : Mt ps y x z) : z ∈ rowOf ps y := by
  cases a with
  | zero => exact hx
  | step _ m _ => exact m
theorem Mt.symm {ps : List Pr} {y x z : Int} (hx : x ∈ rowOf ps y) (a : Mt ps y x z) : Mt ps y z x := by
  induction a with
  | zero => exact .zero
  | step w m e ih =>
    have um := w.row hx
    exact Mt.trans (.step .zero um (by rw [mated_symm]; exact e)) ih
/-- two near cells at least, and all of them hang together -/
def Hang (ps : List Pr) (y : Int) : Prop := 2 ≤ (rowOf ps y).length ∧ ∀ x ∈ rowOf ps y, ∀ z ∈ rowOf ps y, Mt ps y x z
theorem hang_by {ps : List Pr} {y s : Int} (hs : s ∈ rowOf ps y) (h2 : 2 ≤ (rowOf ps y).length) : Hang ps y ↔ ∀ z ∈ rowOf ps y, Mt ps y s z :=
  ⟨fun h z hz => h.2 s hs z hz, fun h => ⟨h2, fun x hx z hz => ((h x hx).symm hs).trans (h z hz)⟩⟩
/-- each cell of the part hangs -/
def Stout (n : Int) (ps : List Pr) (x : Int) : Prop := ∀ y, 0 ≤ y → y < n → Con ps x y → Hang ps y
/-- the search over the row of y: what waits, what is reached -/
structure HG (ps : List Pr) (y s : Int) (wt rc : List Int) : Prop where
  sub : ∀ z ∈ wt, z ∈ rowOf ps y
  rin : ∀ z ∈ rc, z ∈ rowOf ps y ∧ z ∉ wt
  con : ∀ z ∈ rowOf ps y, z ∉ wt → Mt ps y s z
  sin : s ∈ rowOf ps y ∧ s ∉ wt
  clo : ∀ x ∈ rowOf ps y, x ∉ wt → x ∉ rc → ∀ z ∈ wt, mated ps y x z = false
theorem hg_step {ps : List Pr} {y s x : Int} {wt rc : List Int} (h : HG ps y s wt (rc ++ [x])) (nd : wt.Nodup) :
    HG ps y s (wt.filter fun z => !decide (z ∈ wt.filter fun z => mated ps y x z)) (rc ++ wt.filter fun z => mated ps y x z) := by
  have xin := h.rin x (by simp)
  have mm : ∀ z, z ∈ wt.filter (fun z => mated ps y x z) ↔ z ∈ wt ∧ mated ps y x z = true := fun z => List.mem_filter
  have wm : ∀ z, z ∈ wt.filter (fun z => !decide (z ∈ wt.filter fun z => mated ps y x z)) ↔ z ∈ wt ∧ mated ps y x z = false := fun z => by
    rw [List.mem_filter, Bool.not_eq_true', decide_eq_false_iff_not, mm]
    constructor
    · rintro ⟨a, b⟩
      exact ⟨a, by cases e : mated ps y x z with
        | false => rfl
        | true => exact (b ⟨a, e⟩).elim⟩
    · rintro ⟨a, b⟩
      exact ⟨a, fun q => by rw [q.2] at b; cases b⟩
  refine ⟨fun z hz => h.sub z ((wm z).mp hz).1, fun z hz => ?_, fun z hz hn => ?_, ⟨h.sin.1, fun q => h.sin.2 ((wm s).mp q).1⟩, fun u hu hn hr z hz => ?_⟩
  · rcases List.mem_append.mp hz with hz | hz
    · obtain ⟨a, b⟩ := h.rin z (List.mem_append_left _ hz)
      exact ⟨a, fun q => b ((wm z).mp q).1⟩
    · obtain ⟨a, b⟩ := (mm z).mp hz
      exact ⟨h.sub z a, fun q => by have := ((wm z).mp q).2; rw [b] at this; cases this⟩
  · by_cases c : z ∈ wt
    · have e : mated ps y x z = true := by
        cases e : mated ps y x z with
        | true => rfl
        | false => exact (hn ((wm z).mpr ⟨c, e⟩)).elim
      exact .step (h.con x xin.1 xin.2) hz e
    · exact h.con z hz c
  · obtain ⟨zw, zx⟩ := (wm z).mp hz
    by_cases cu : u ∈ wt
    · have e : mated ps y x u = true := by
        cases e : mated ps y x u with
        | true => rfl
        | false => exact (hn ((wm u).mpr ⟨cu, e⟩)).elim
      exact (hr (List.mem_append_right _ ((mm u).mpr ⟨cu, e⟩))).elim
    · by_cases cx : u = x
      · rw [cx]; exact zx
      · refine h.clo u hu cu (fun q => ?_) z zw
        rcases List.mem_append.mp q with q | q
        · exact hr (List.mem_append_left _ q)
        · exact cx (List.mem_singleton.mp q)
theorem hg_end {ps : List Pr} {y s : Int} {wt : List Int} (h : HG ps y s wt []) (h2 : 2 ≤ (rowOf ps y).length) : Hang ps y ↔ wt = [] := by
  rw [hang_by h.sin.1 h2]
  constructor
  · intro all
    cases e : wt with
    | nil => rfl
    | cons z r =>
      have zw : z ∈ wt := by rw [e]; exact List.mem_cons_self
      have go : ∀ u, Mt ps y s u → u ∉ wt := fun u m => by
        induction m with
        | zero => exact h.sin.2
        | @step v u w m e ih =>
          intro q
          have := h.clo v (w.row h.sin.1) ih (by simp) u q
          rw [e] at this
          cases this
      exact (go z (all z (h.sub z zw)) zw).elim
  · intro e z hz
    subst e
    exact h.con z hz (by simp)
/-! ### the same by classes of pairs -/
def gP (ps : List Pr) (y : Int) : List Pr := (rowOf ps y).flatMap fun x => ((rowOf ps y).filter fun z => decide (x < z) && mated ps y x z).map fun z => (x, z)
theorem gP_mem {ps : List Pr} {y : Int} {p : Pr} : p ∈ gP ps y ↔ p.1 ∈ rowOf ps y ∧ p.2 ∈ rowOf ps y ∧ p.1 < p.2 ∧ mated ps y p.1 p.2 = true := by
  unfold gP
  rw [List.mem_flatMap]
  constructor
  · rintro ⟨x, hx, hp⟩
    obtain ⟨z, hz, rfl⟩ := List.mem_map.mp hp
    obtain ⟨a, b⟩ := List.mem_filter.mp hz
    rw [Bool.and_eq_true, decide_eq_true_eq] at b
    exact ⟨hx, a, b.1, b.2⟩
  · rintro ⟨a, b, c, d⟩
    exact ⟨p.1, a, List.mem_map.mpr ⟨p.2, List.mem_filter.mpr ⟨b, by rw [Bool.and_eq_true, decide_eq_true_eq]; exact ⟨c, d⟩⟩, rfl⟩⟩
theorem gP_in {n : Int} {ps : List Pr} {y : Int} (h : LkIn n ps) : LkIn n (gP ps y) := fun p hp => by
  obtain ⟨a, b, c, _⟩ := gP_mem.mp hp
  have := (row_within h a).1
  have := (row_within h b).1
  omega
theorem gP_row {n : Int} {ps : List Pr} {y x z : Int} (h : LkIn n ps) : z ∈ rowOf (gP ps y) x ↔ x ∈ rowOf ps y ∧ z ∈ rowOf ps y ∧ x ≠ z ∧ mated ps y x z = true := by
  rw [mem_rowOf (gP_in h), gP_mem, gP_mem]
  dsimp only
  constructor
  · rintro (⟨a, b, c, d⟩ | ⟨a, b, c, d⟩)
    · exact ⟨a, b, by omega, d⟩
    · exact ⟨b, a, by omega, by rw [mated_symm]; exact d⟩
  · rintro ⟨a, b, c, d⟩
    by_cases l : x < z
    · exact .inl ⟨a, b, l, d⟩
    · exact .inr ⟨b, a, by omega, by rw [mated_symm]; exact d⟩
theorem gP_con {n : Int} {ps : List Pr} {y x z : Int} (h : LkIn n ps) (hx : x ∈ rowOf ps y) : Con (gP ps y) x z ↔ Mt ps y x z := by
  constructor
  · rintro ⟨k, w⟩
    induction w with
    | zero => exact .zero
    | step w m ih =>
      obtain ⟨_, b, _, d⟩ := (gP_row h).mp m
      exact .step ih b d
  · intro m
    induction m with
    | zero => exact .refl x
    | @step u z w m e ih =>
      by_cases c : u = z
      · rw [← c]; exact ih
      · exact ih.trans (.link ((gP_row h).mpr ⟨w.row hx, m, c, e⟩))
/-- each of the row is labelled by the first of it -/
theorem hang_cls {n : Int} {ps : List Pr} {y s : Int} (h : Valid n ps) (h2 : 2 ≤ (rowOf ps y).length) (hs : (rowOf ps y)[0]? = some s) : Hang ps y ↔ ∀ x ∈ rowOf ps y, cls (gP ps y) x = s := by
  have sm := List.mem_of_getElem? hs
  have lk := h.lk
  have asc := row_asc (x := y) h
  have least : ∀ x ∈ rowOf ps y, s ≤ x := fun x hx => by
    cases e : rowOf ps y with
    | nil => rw [e] at hx; cases hx
    | cons a r =>
      rw [e] at hs asc hx
      cases hs
      rcases List.mem_cons.mp hx with rfl | hx
      · exact Int.le_refl _
      · exact (List.pairwise_cons.mp asc).1 x hx
  rw [hang_by sm h2]
  constructor
  · intro all x hx
    refine (IsC.eq ⟨(gP_con lk hx).mpr ((all x hx).symm sm), fun z hz => ?_⟩).symm
    exact least z (((gP_con lk hx).mp hz).row hx)
  · intro all z hz
    have c := (cls_is (gP_in (y := y) lk) (row_within lk hz).1).1
    rw [all z hz] at c
    exact ((gP_con lk hz).mp c).symm hz
end Pu
end

-- Mates
section
set_option Elab.async false
set_option linter.all false
set_option maxRecDepth 100000
set_option maxHeartbeats 4000000
namespace R
noncomputable section
open PySem PySem.Spec PyProof.Rows L2 LamX NdefX Pu
def optD : Option Int → D | some m => .int m | none => .none
def mateO (ps : List Pr) (y x z : Int) : Option Int := (rowOf ps x).find? fun m => decide (m ≠ y) && decide (z ∈ rowOf ps m)
theorem mate_some {n y x z : Int} {ps : List Pr} (h : LkIn n ps) : (mateO ps y x z).isSome = mated ps y x z := by
  unfold mateO mated
  rw [List.isSome_find?]
  congr 1
  funext m
  rw [show (decide (z ∈ rowOf ps m)) = decide (m ∈ rowOf ps z) from decide_eq_decide.mpr (row_symm h)]
theorem notN_opt {o : Option Int} : dNotN (optD o) .none = some (.v (.bool o.isSome)) := by
  cases o with
  | none => rfl
  | some m => rfl
noncomputable def hangB (ps : List Pr) (y : Int) : Bool := @decide (Hang ps y) (Classical.propDecidable _)
theorem row_sz {ps : List Pr} {x : Int} : (rowOf ps x).length ≤ ps.length := by unfold rowOf; exact List.length_filterMap_le _ _
theorem split_len {wt : List Int} {p : Int → Bool} : (wt.filter p).length + (wt.filter fun z => !p z).length = wt.length := by
  induction wt with
  | nil => rfl
  | cons a r ih =>
    rw [List.filter_cons, List.filter_cons]
    cases e : p a with
    | true => simp; omega
    | false => simp; omega
theorem keep_eq {wt : List Int} {p : Int → Bool} : (wt.filter fun z => !decide (z ∈ wt.filter p)) = wt.filter fun z => !p z := by
  refine List.filter_congr fun z hz => ?_
  congr 1
  rw [Bool.eq_iff_iff, decide_eq_true_eq, List.mem_filter]
  exact ⟨fun q => q.2, fun q => ⟨hz, q⟩⟩
noncomputable def stoutB (n : Int) (ps : List Pr) (x : Int) : Bool := @decide (Stout n ps x) (Classical.propDecidable _)
theorem hangB_iff {ps : List Pr} {y : Int} : hangB ps y = true ↔ Hang ps y := @decide_eq_true_iff _ (Classical.propDecidable _)
theorem stoutB_iff {n : Int} {ps : List Pr} {x : Int} : stoutB n ps x = true ↔ Stout n ps x := @decide_eq_true_iff _ (Classical.propDecidable _)
/-- unbound, or a thing -/
def unv (s : S) : Prop := s = .un ∨ ∃ d, s = .v d
theorem unv.free {s : S} (h : unv s) : freeS s = true := by
  rcases h with rfl | ⟨d, rfl⟩ <;> rfl
abbrev rowsL (n : Int) (ps : List Pr) : D := .list ((AllN n).map fun x => .list ((rowOf ps x).map .int))
theorem atI_rowsL {n x : Int} {ps : List Pr} (hx : 0 ≤ x ∧ x < n) : atI ((AllN n).map fun x => PyData.list ((rowOf ps x).map .int)) x = some (.list ((rowOf ps x).map .int)) := atI_all hx
theorem filt_nil {xs : List Int} {p : Int → Bool} : decide (xs.filter p = []) = !xs.any p := by
  rw [Bool.eq_iff_iff, decide_eq_true_eq, List.filter_eq_nil_iff, Bool.not_eq_true', List.any_eq_false]
theorem isort_row {n x : Int} {ps : List Pr} (h : Valid n ps) : isort (nearL ps x) = rowOf ps x := row_is h (isort_perm _) (isort_le _)
end
end R
end

-- Gen2
section
set_option Elab.async false
set_option linter.all false
set_option maxRecDepth 100000
set_option maxHeartbeats 4000000
namespace R
noncomputable section
open PySem PySem.Spec PyProof.Rows L2 LamX NdefX Pu
open SrtO (lexB lexB_iff lexB_no)
/-- a web that was drawn -/
abbrev wbD (n : Int) (ps : List Pr) : D := .tuple [.int n, lkL ps]
theorem nearL_sz (ps : List Pr) (x : Int) : (nearL ps x).length ≤ ps.length + ps.length := by
  unfold nearL
  simp only [List.length_append, List.length_map]
  have a := List.length_filter_le (fun p : Pr => decide (p.1 = x)) ps
  have b := List.length_filter_le (fun p : Pr => decide (p.2 = x)) ps
  omega
theorem isort_mem {ns : List Int} {x : Int} : x ∈ isort ns ↔ x ∈ ns := (isort_perm ns).mem_iff
theorem sort1 {ps : List Pr} {a b : Int} : dSortP (.list (ps.map Pu.prD ++ [.tuple [.int a, .int b]])) = some (.own ((srt (ps ++ [(a, b)])).map Pu.prD)) := by
  have := dSortP_ap (ns := ps ++ [(a, b)])
  rw [List.map_append] at this
  exact this
theorem sort1' {ps : List Pr} {p : Pr} : dSortP (.list (ps.map Pu.prD ++ [Pu.prD p])) = some (.own ((srt (ps ++ [p])).map Pu.prD)) := sort1 (a := p.1) (b := p.2)
theorem sort2 {ps : List Pr} {a b c d : Int} : dSortP (.list (ps.map Pu.prD ++ [.tuple [.int a, .int b], .tuple [.int c, .int d]])) = some (.own ((srt (ps ++ [(a, b), (c, d)])).map Pu.prD)) := by
  have := dSortP_ap (ns := ps ++ [(a, b), (c, d)])
  rw [List.map_append] at this
  exact this
theorem corner_is (s : Sd) {n : Int} {ps : List Pr} (h : Valid n ps) (d : Deg2 n ps) (h1 : 1 ≤ n) (h2 : n ≤ 100) (hl : ps.length ≤ 1000) :
    ∃ (qs : List Pr) (s' : Sd), run1 0 F_Lcorner [.io s.d, .v (.int n), .v (lkL ps)] = .ok (.v (wbD (n + 1) qs)) s'.d ∧ Valid (n + 1) qs ∧ Deg2 (n + 1) qs ∧ qs.length = ps.length + 2 ∧
      ∃ a x z, (0 ≤ a ∧ a < n) ∧ x ∈ nearL ps a ∧ z ∈ nearL ps a ∧ x ≠ z ∧ qs = srt (ps ++ [(x, n), (z, n)]) := by
  refine run1_sd (fun qs : List Pr => Rk.v (wbD (n + 1) qs)) E_Lcorner ?_
  unfold B_Lcorner
  obtain ⟨a, s1, t1, a0, a1⟩ := take_ok s n (by omega) (by omega)
  have nr := near_is (ps := ps) (x := a) (by omega)
  have dg : 2 ≤ (isort (nearL ps a)).length := by rw [isort_len]; exact d a a0 a1
  have sz := nearL_sz ps a
  rw [← isort_len] at sz
  have nd : (isort (nearL ps a)).Nodup := (isort_perm _).nodup_iff.mpr (nearL_nodup h.lk (asc_nodup h.asc))
  generalize hr : isort (nearL ps a) = r at nr dg sz nd
  have inr : ∀ y, y ∈ r → y ∈ nearL ps a := fun y hy => by rw [← hr] at hy; exact isort_mem.mp hy
  obtain ⟨v, s2, t2, v0, v1⟩ := take_ok s1 (r.length : Int) (by omega) (by omega)
  have hv : v.toNat < r.length := by omega
  have g1 : r[v.toNat]? = some r[v.toNat] := List.getElem?_eq_getElem hv
  have el : (r.eraseIdx v.toNat).length = r.length - 1 := by rw [List.length_eraseIdx, if_pos hv]
  obtain ⟨u, s3, t3, u0, u1⟩ := take_ok s2 ((r.eraseIdx v.toNat).length : Int) (by omega) (by omega)
  have hu : u.toNat < (r.eraseIdx v.toNat).length := by omega
  have g2 : (r.eraseIdx v.toNat)[u.toNat]? = some (r.eraseIdx v.toNat)[u.toNat] := List.getElem?_eq_getElem hu
  have z24 := sz24 (show ps.length + 2 ≤ 100000 by omega)
  have z24b := sz24 (show 2 ≤ 100000 by omega)
  simp only [sS, t1, nr, t2, b63_of (show -4000000000 ≤ v ∧ v ≤ 4000000000 by omega), seq_nn v0 v1, List.getElem?_map, g1, erase_map, t3, b63_of (show -4000000000 ≤ u ∧ u ≤ 4000000000 by omega), seq_nn u0 u1, g2, z24, z24b, sort2]
  have m1 : r[v.toNat] ∈ r := List.getElem_mem hv
  have m2 : (r.eraseIdx v.toNat)[u.toNat] ∈ r := List.mem_of_mem_eraseIdx (List.getElem_mem hu)
  have pm := erase_perm r v.toNat hv
  have nd2 := (pm.nodup_iff.mpr nd)
  have ne : r[v.toNat] ≠ (r.eraseIdx v.toNat)[u.toNat] := fun z => (List.nodup_cons.mp nd2).1 (z ▸ List.getElem_mem hu)
  have b1 := nearL_in h.lk (inr _ m1)
  have b2 := nearL_in h.lk (inr _ m2)
  obtain ⟨o1, o2⟩ := corner_ok h d (by omega) ⟨b1.1, b1.2.1⟩ ⟨b2.1, b2.2.1⟩ ne
  exact ⟨_, s3, rfl, rfl, o1, o2, by rw [srt_len, List.length_append]; rfl, a, _, _, ⟨a0, a1⟩, inr _ m1, inr _ m2, ne, rfl⟩
theorem bridge_is (s : Sd) {n : Int} {ps : List Pr} (h : Valid n ps) (d : Deg2 n ps) (h1 : 1 ≤ n) (h2 : n ≤ 100) (hl : ps.length ≤ 1000) :
    ∃ (qs : List Pr) (s' : Sd), run1 0 F_Lbridge [.io s.d, .v (.int n), .v (lkL ps)] = .ok (.v (wbD n qs)) s'.d ∧ Valid n qs ∧ Deg2 n qs ∧ qs.length ≤ ps.length + 1 ∧
      (qs = ps ∨ ∃ a x y b, (0 ≤ a ∧ a < n) ∧ x ∈ nearL ps a ∧ y ∈ nearL ps x ∧ b ∈ nearL ps y ∧ a ≠ y ∧ a ≠ b ∧ x ≠ b ∧ lnk a b ∉ ps ∧ qs = srt (ps ++ [lnk a b])) := by
  refine run1_sd (fun qs : List Pr => Rk.v (wbD n qs)) E_Lbridge ?_
  unfold B_Lbridge
  obtain ⟨a, s1, t1, a0, a1⟩ := take_ok s n (by omega) (by omega)
  have pick : ∀ (s : Sd) (x : Int), 0 ≤ x → x < n → ∃ y s', run1 0 F_Lone [.io s.d, .v (.list ((isort (nearL ps x)).map .int))] = .ok (.v (.int y)) (Sd.d s') ∧ y ∈ nearL ps x ∧ 0 ≤ y ∧ y < n := fun s x x0 x1 => by
    have dg : 2 ≤ (isort (nearL ps x)).length := by rw [isort_len]; exact d x x0 x1
    have sz := nearL_sz ps x
    rw [← isort_len] at sz
    obtain ⟨y, s', e, m⟩ := one_is s ((isort (nearL ps x)).map .int) (by rw [List.length_map]; omega) (by rw [List.length_map]; omega)
    obtain ⟨y, my, rfl⟩ := List.mem_map.mp m
    have my := isort_mem.mp my
    have q := nearL_in h.lk my
    exact ⟨y, s', e, my, q.1, q.2.1⟩
  obtain ⟨x, s2, t2, mx, x0, x1⟩ := pick s1 a a0 a1
  obtain ⟨y, s3, t3, my, y0, y1⟩ := pick s2 x x0 x1
  obtain ⟨b, s4, t4, mb, b0, b1⟩ := pick s3 y y0 y1
  have nr := fun x => near_is (ps := ps) (x := x) (by omega)
  have z24 := sz24 (show ps.length + 1 ≤ 100000 by omega)
  have z24b := sz24 (show 2 ≤ 100000 by omega)
  have z24c := sz24 (show 1 ≤ 100000 by omega)
  have same : ∃ (qs : List Pr) (s' : Sd), Rk.v (PyData.tuple [.int n, lkL ps]) = Rk.v (wbD n qs) ∧ s4.d = s'.d ∧ Valid n qs ∧ Deg2 n qs ∧ qs.length ≤ ps.length + 1 ∧
      (qs = ps ∨ ∃ a x y b, (0 ≤ a ∧ a < n) ∧ x ∈ nearL ps a ∧ y ∈ nearL ps x ∧ b ∈ nearL ps y ∧ a ≠ y ∧ a ≠ b ∧ x ≠ b ∧ lnk a b ∉ ps ∧ qs = srt (ps ++ [lnk a b])) :=
    ⟨ps, s4, rfl, rfl, h, d, by omega, .inl rfl⟩
  by_cases c1 : a = y
  · simp only [sS, t1, nr, t2, t3, t4, eq_true c1, z24b]
    exact same
  by_cases c2 : a = b
  · simp only [sS, t1, nr, t2, t3, t4, c1, eq_true c2, z24b]
    exact same
  by_cases c3 : x = b
  · simp only [sS, t1, nr, t2, t3, t4, c1, c2, eq_true c3, z24b]
    exact same
  by_cases c4 : lnk a b ∈ ps
  · simp only [sS, t1, nr, t2, t3, t4, c1, c2, c3, c4, link_is, z24b]
    exact same
  simp only [sS, t1, nr, t2, t3, t4, c1, c2, c3, c4, link_is, z24, z24b, z24c, sort1']
  obtain ⟨o1, o2⟩ := bridge_ok h d (lnk_within ⟨a0, a1⟩ ⟨b0, b1⟩ c2) c4
  exact ⟨_, s4, rfl, rfl, o1, o2, by rw [srt_len, List.length_append]; exact Nat.le_refl _, .inr ⟨a, x, y, b, ⟨a0, a1⟩, mx, my, mb, c1, c2, c3, c4, rfl⟩⟩
theorem atI_ints {ns : List Int} {x : Int} (h0 : 0 ≤ x) (h : x < ns.length) : atI (ns.map PyData.int) x = some (.int (ns.getD x.toNat 0)) := by
  rw [atI_nn h0 (by rw [List.length_map]; exact h), List.getElem?_map, List.getElem?_eq_getElem (by omega), List.getD_eq_getElem?_getD, List.getElem?_eq_getElem (by omega)]
  rfl
theorem renamed_is (s : Sd) {n : Int} {ps : List Pr} (h : LkIn n ps) (nd : ps.Nodup) (h0 : 0 ≤ n) (h2 : n ≤ 1000) (hl : ps.length ≤ 10000) :
    ∃ (f : Int → Int) (s' : Sd), run1 0 F_Lrenamed [.io s.d, .v (.int n), .v (lkL ps)] = .ok (.v (wbD n (srt (ren f ps)))) s'.d ∧ InjOn n f ∧ Valid n (srt (ren f ps)) := by
  refine run1_sd (fun f : Int → Int => Rk.v (wbD n (srt (ren f ps)))) E_Lrenamed ?_
  unfold B_Lrenamed
  obtain ⟨ns, s1, t1, pm⟩ := shuf_is s (n := n) ⟨h0, h2⟩
  have inj := names_inj pm
  have nlen : ns.length = n.toNat := by rw [pm.length_eq, alln_len]
  have lc : LC_Lrenamed_1 [.io s1.d, .v (.int n), .v (lkL ps), .own (ns.map .int), .un, .un] = .ok (.own ((ren (fun x => ns.getD x.toNat 0) ps).map Pu.prD)) [.io s1.d, .v (.int n), .v (lkL ps), .own (ns.map .int), .un, .un] := by
    unfold LC_Lrenamed_1
    simp only [sS]
    rw [lc_all Pu.prD (fun p => Pu.prD (lnk (ns.getD p.1.toNat 0) (ns.getD p.2.toNat 0))) _ (sz24 (by omega)) (fun p m => by
      have q := h p m
      simp only [sS, atI_ints (ns := ns) (x := p.1) (by omega) (by omega), atI_ints (ns := ns) (x := p.2) (by omega) (by omega), link_is])]
    simp only [sS, ren, List.map_map]
    rfl
  have z24b := sz24 (show 2 ≤ 100000 by omega)
  simp only [sS, t1, lc, z24b]
  obtain ⟨o1, o2⟩ := ren_ok inj h nd
  exact ⟨_, s1, rfl, rfl, inj, valid_srt o1 o2⟩
end
end R
end

-- Gen3
section
set_option Elab.async false
set_option linter.all false
set_option maxRecDepth 100000
set_option maxHeartbeats 4000000
namespace R
noncomputable section
open PySem PySem.Spec PyProof.Rows L2 LamX NdefX Pu
open SrtO (lexB lexB_iff lexB_no)
def sqL : List Pr := [(0, 1), (0, 2), (1, 3), (2, 3)]
def foL : List Pr := [(0, 1), (0, 2), (0, 3), (1, 2), (1, 3), (2, 3)]
def prL : List Pr := [(0, 1), (0, 2), (0, 4), (1, 3), (1, 5), (2, 3), (2, 4), (3, 5), (4, 5)]
/-- webs grown from a square, four cells all linked, a prism -/
inductive Grown : Int → List Pr → Prop
  | sq : Grown 4 sqL
  | fo : Grown 4 foL
  | pr : Grown 6 prL
  | corner {n : Int} {ps : List Pr} {a x z : Int} : Grown n ps → 0 ≤ a → a < n → x ∈ nearL ps a → z ∈ nearL ps a → x ≠ z → Grown (n + 1) (srt (ps ++ [(x, n), (z, n)]))
  | bridge {n : Int} {ps : List Pr} {a x y b : Int} : Grown n ps → 0 ≤ a → a < n → x ∈ nearL ps a → y ∈ nearL ps x → b ∈ nearL ps y → a ≠ y → a ≠ b → x ≠ b → lnk a b ∉ ps → Grown n (srt (ps ++ [lnk a b]))
theorem base_ok : (Valid 4 sqL ∧ Deg2 4 sqL) ∧ (Valid 4 foL ∧ Deg2 4 foL) ∧ (Valid 6 prL ∧ Deg2 6 prL) := by
  have rng : ∀ (n : Nat) (p : Int → Prop), (∀ i : Fin n, p (i.val : Int)) → ∀ x : Int, 0 ≤ x → x < n → p x := fun n p h x h0 h1 => by
    have := h ⟨x.toNat, by omega⟩
    rwa [show (((⟨x.toNat, by omega⟩ : Fin n).val : Int)) = x by simp; omega] at this
  refine ⟨⟨⟨by decide, by unfold Asc; decide +kernel⟩, rng 4 _ (by decide)⟩, ⟨⟨by decide, by unfold Asc; decide +kernel⟩, rng 4 _ (by decide)⟩, ⟨⟨by decide, by unfold Asc; decide +kernel⟩, rng 6 _ (by decide)⟩⟩
theorem stoutL (s : Sd) {m k n : Int} {ps : List Pr} (a b c t : S) (ft : freeS t = true) (g : Grown n ps) (v : Valid n ps) (d : Deg2 n ps) (h4 : 4 ≤ n) (hm : n ≤ m) (hm2 : m ≤ 100) (hl : ps.length ≤ 9) :
    (FR_Lstout_1 [.io s.d, .v (.int m), .v (.int k), a, b, c, .v (.int n), .v (lkL ps), t]).sat (fun ρ => ∃ (s' : Sd) (n' : Int) (qs : List Pr) (t' : S), ρ = [.io s'.d, .v (.int m), .v (.int k), a, b, c, .v (.int n'), .v (lkL qs), t'] ∧ Grown n' qs ∧ Valid n' qs ∧ Deg2 n' qs ∧ 4 ≤ n' ∧ n' ≤ m ∧ qs.length ≤ 9 + 2 * m.toNat) (fun _ _ => False) noP noP noX := by
  unfold FR_Lstout_1
  obtain ⟨r, s1, t1, r0, r1⟩ := take_ok s m (by omega) (by omega)
  simp only [sS, t1, b62_of (show -4000000000 ≤ r ∧ r ≤ 4000000000 by omega), iot0]
  refine forM PyData.int (fun i ρ => ∃ (s' : Sd) (n' : Int) (qs : List Pr) (t' : S), ρ = [.io s'.d, .v (.int m), .v (.int k), a, b, c, .v (.int n'), .v (lkL qs), t'] ∧ freeS t' = true ∧ Grown n' qs ∧ Valid n' qs ∧ Deg2 n' qs ∧ 4 ≤ n' ∧ n' ≤ m ∧ qs.length ≤ 9 + 2 * i) ⟨s1, n, ps, t, rfl, ft, g, v, d, h4, hm, by omega⟩ ?_ ?_
  · rintro i x ρ hx ⟨s', n', qs, t', rfl, ft', g', v', d', h4', hm', hl'⟩
    have hi := (List.getElem?_eq_some_iff.mp hx).1
    rw [alln_len] at hi
    unfold FB_Lstout_1
    obtain ⟨e, s2, t2, e0, e1⟩ := take_ok s' 3 (by omega) (by omega)
    obtain ⟨q1, s3, t3, v3, d3, l3, a3, x3, z3, i3⟩ := corner_is s2 v' d' (by omega) (by omega) (by omega)
    obtain ⟨q2, s4, t4, v4, d4, l4, g4⟩ := bridge_is s2 v' d' (by omega) (by omega) (by omega)
    obtain ⟨q5, s5, t5, v5, d5, l5, g5⟩ := bridge_is s' v' d' (by omega) (by omega) (by omega)
    have gb : ∀ qs2, (qs2 = qs ∨ ∃ a x y b, (0 ≤ a ∧ a < n') ∧ x ∈ nearL qs a ∧ y ∈ nearL qs x ∧ b ∈ nearL qs y ∧ a ≠ y ∧ a ≠ b ∧ x ≠ b ∧ lnk a b ∉ qs ∧ qs2 = srt (qs ++ [lnk a b])) → Grown n' qs2 := fun qs2 h => by
      rcases h with rfl | ⟨a, x, y, b, h1, h2, h3, h4, h5, h6, h7, h8, rfl⟩
      · exact g'
      · exact .bridge g' h1.1 h1.2 h2 h3 h4 h5 h6 h7 h8
    by_cases c1 : n' < m
    · by_cases c2 : e < 2
      · simp only [sS, ft', eq_true c1, t2, eq_true c2, t3]
        exact ⟨s3, _, q1, _, rfl, rfl, by obtain ⟨h1, h2, h3, h4, rfl⟩ := i3; exact .corner g' h1.1 h1.2 h2 h3 h4, v3, d3, by omega, by omega, by omega⟩
      · simp only [sS, ft', eq_true c1, t2, c2, t4]
        exact ⟨s4, _, q2, _, rfl, rfl, gb _ g4, v4, d4, by omega, by omega, by omega⟩
    · simp only [sS, ft', c1, t5]
      exact ⟨s5, _, q5, _, rfl, rfl, gb _ g5, v5, d5, by omega, by omega, by omega⟩
  · rintro ρ ⟨s', n', qs, t', rfl, ft', g', v', d', h4', hm', hl'⟩
    rw [alln_len] at hl'
    exact ⟨s', n', qs, t', rfl, g', v', d', h4', hm', by omega⟩
theorem stout_is (s : Sd) {m k : Int} (h4 : 4 ≤ m) (hm : m ≤ 100) : ∃ (w : Int × List Pr × (Int → Int)) (s' : Sd), run1 0 F_Lstout [.io s.d, .v (.int m), .v (.int k)] = .ok (.v (wbD w.1 (srt (ren w.2.2 w.2.1)))) s'.d ∧
    Grown w.1 w.2.1 ∧ InjOn w.1 w.2.2 ∧ Valid w.1 w.2.1 ∧ Valid w.1 (srt (ren w.2.2 w.2.1)) ∧ 4 ≤ w.1 ∧ w.1 ≤ m ∧ w.2.1.length ≤ 9 + 2 * m.toNat := by
  refine run1_sd (fun w : Int × List Pr × (Int → Int) => Rk.v (wbD w.1 (srt (ren w.2.2 w.2.1)))) E_Lstout ?_
  unfold B_Lstout
  obtain ⟨v, s1, t1, v0, v1⟩ := take_ok s 3 (by omega) (by omega)
  obtain ⟨w, s2, t2, w0, w1⟩ := take_ok s 2 (by omega) (by omega)
  obtain ⟨u, s3, t3, u0, u1⟩ := take_ok s1 2 (by omega) (by omega)
  have z2 := sz24 (show 0 + 1 + 1 ≤ 100000 by omega)
  have z4 := sz24 (show 0 + 1 + 1 + 1 + 1 ≤ 100000 by omega)
  have z6 := sz24 (show 0 + 1 + 1 + 1 + 1 + 1 + 1 ≤ 100000 by omega)
  have z9 := sz24 (show 0 + 1 + 1 + 1 + 1 + 1 + 1 + 1 + 1 + 1 ≤ 100000 by omega)
  obtain ⟨⟨b1, b2⟩, ⟨b3, b4⟩, ⟨b5, b6⟩⟩ := base_ok
  generalize hQ : (fun w : Int × List Pr × (Int → Int) => Grown w.1 w.2.1 ∧ InjOn w.1 w.2.2 ∧ Valid w.1 w.2.1 ∧ Valid w.1 (srt (ren w.2.2 w.2.1)) ∧ 4 ≤ w.1 ∧ w.1 ≤ m ∧ w.2.1.length ≤ 9 + 2 * m.toNat) = Q
  have done : ∀ (s : Sd) {n : Int} {ps : List Pr} (a b c : S) (g : Grown n ps) (v : Valid n ps) (d : Deg2 n ps) (h4 : 4 ≤ n) (hn : n ≤ m) (hl : ps.length ≤ 9),
      (FR_Lstout_1 [.io s.d, .v (.int m), .v (.int k), a, b, c, .v (.int n), .v (lkL ps), .un]).sat (fun ρ' =>
        ((qRet (qCall0 F_Lrenamed (some (0, 0)) (qaIo 0 (qaV (qVar 6) (qaV (qVar 7) qaNil))))) ρ').sat (nxQ (fun w : Int × List Pr × (Int → Int) => Rk.v (wbD w.1 (srt (ren w.2.2 w.2.1)))) Q) (rtQ (fun w : Int × List Pr × (Int → Int) => Rk.v (wbD w.1 (srt (ren w.2.2 w.2.1)))) Q) noP noP noX)
        (rtQ (fun w : Int × List Pr × (Int → Int) => Rk.v (wbD w.1 (srt (ren w.2.2 w.2.1)))) Q) noP noP noX := fun s n ps a b c g v d h4 hn hl => by
    refine Ctl.sat.imp (stoutL s a b c .un rfl g v d h4 hn hm hl) ?_ (fun _ _ h => h.elim) (fun _ h => h) (fun _ h => h) (fun _ _ _ h => h)
    rintro ρ ⟨s', n', qs, t', rfl, g', v', d', h4', hm', hl'⟩
    obtain ⟨f, s'', e, inj, vv⟩ := renamed_is s' v'.lk (asc_nodup v'.asc) (by omega) (by omega) (by omega)
    simp only [sS, e]
    exact ⟨(n', qs, f), s'', rfl, rfl, by rw [← hQ]; exact ⟨g', inj, v', vv, h4', hm', hl'⟩⟩
  have ret : ∀ ρ, (qRet (qCall0 F_Lrenamed (some (0, 0)) (qaIo 0 (qaV (qVar 6) (qaV (qVar 7) qaNil))))) ρ = (qCall0 F_Lrenamed (some (0, 0)) (qaIo 0 (qaV (qVar 6) (qaV (qVar 7) qaNil))) ρ).toC retK := fun ρ => rfl
  generalize qRet (qCall0 F_Lrenamed (some (0, 0)) (qaIo 0 (qaV (qVar 6) (qaV (qVar 7) qaNil)))) = R at done ⊢
  by_cases k2 : k = 2
  · by_cases c6 : m ≥ 6
    · by_cases cw : w = 0
      · simp only [sS, t1, t2, t3, z2, z4, z6, z9, eq_true k2, eq_true c6, eq_true cw]
        exact done s2 _ _ _ .pr b5 b6 (by omega) (by omega) (by decide)
      · simp only [sS, t1, t2, t3, z2, z4, z6, z9, eq_true k2, eq_true c6, cw]
        exact done s2 _ _ _ .fo b3 b4 (by omega) (by omega) (by decide)
    · simp only [sS, t1, t2, t3, z2, z4, z6, z9, eq_true k2, c6]
      exact done s _ _ _ .fo b3 b4 (by omega) (by omega) (by decide)
  · by_cases k3 : k = 3
    · by_cases c3 : v = 0
      · by_cases c6 : m ≥ 6
        · by_cases cw : u = 0
          · simp only [sS, t1, t2, t3, z2, z4, z6, z9, k2, eq_true k3, eq_true c3, eq_true c6, eq_true cw]
            exact done s3 _ _ _ .pr b5 b6 (by omega) (by omega) (by decide)
          · simp only [sS, t1, t2, t3, z2, z4, z6, z9, k2, eq_true k3, eq_true c3, eq_true c6, cw]
            exact done s3 _ _ _ .fo b3 b4 (by omega) (by omega) (by decide)
        · simp only [sS, t1, t2, t3, z2, z4, z6, z9, k2, eq_true k3, eq_true c3, c6]
          exact done s1 _ _ _ .fo b3 b4 (by omega) (by omega) (by decide)
      · simp only [sS, t1, t2, t3, z2, z4, z6, z9, k2, eq_true k3, c3]
        exact done s1 _ _ _ .sq b1 b2 (by omega) (by omega) (by decide)
    · simp only [sS, t1, t2, t3, z2, z4, z6, z9, k2, k3]
      exact done s _ _ _ .sq b1 b2 (by omega) (by omega) (by decide)
end
end R
end

-- Gen4
section
set_option Elab.async false
set_option linter.all false
set_option maxRecDepth 100000
set_option maxHeartbeats 4000000
namespace R
noncomputable section
open PySem PySem.Spec PyProof.Rows L2 LamX NdefX Pu
open SrtO (lexB lexB_iff lexB_no)
/-- no more links than pairs of cells -/
theorem nat_len : ∀ (N : Nat) (l : List Nat), l.Nodup → (∀ x ∈ l, x < N) → l.length ≤ N
  | 0, l, _, h => by
    cases l with
    | nil => exact Nat.le_refl _
    | cons a r => exact absurd (h a List.mem_cons_self) (Nat.not_lt_zero _)
  | N + 1, l, nd, h => by
    have q := nat_len N (l.erase N) (nd.erase N) fun x hx => by
      have a := h x (List.mem_of_mem_erase hx)
      have b : x ≠ N := fun z => by
        subst z
        exact (List.Nodup.not_mem_erase nd) hx
      omega
    by_cases m : N ∈ l
    · rw [List.length_erase_of_mem m] at q
      omega
    · rw [List.erase_of_not_mem m] at q
      omega
theorem links_len {n : Int} {ps : List Pr} (h : LkIn n ps) (nd : ps.Nodup) : ps.length ≤ n.toNat * n.toNat := by
  have := nat_len (n.toNat * n.toNat) (ps.map fun p => p.1.toNat * n.toNat + p.2.toNat) (by
    rw [List.nodup_iff_pairwise_ne, List.pairwise_map]
    refine List.Pairwise.imp_of_mem ?_ (List.nodup_iff_pairwise_ne.mp nd)
    intro p q hp hq ne e
    refine ne ?_
    have a := h p hp
    have b := h q hq
    have h1 : p.2.toNat < n.toNat := by omega
    have h2 : q.2.toNat < n.toNat := by omega
    have e2 : p.2.toNat = q.2.toNat := by
      have := congrArg (· % n.toNat) e
      simpa [Nat.add_mod, Nat.mul_mod_left, Nat.mod_eq_of_lt h1, Nat.mod_eq_of_lt h2, Nat.mul_mod] using this
    rw [e2] at e
    have e1 : p.1.toNat = q.1.toNat := Nat.eq_of_mul_eq_mul_right (by omega) (Nat.add_right_cancel e)
    exact Prod.ext (by omega) (by omega)) (fun x hx => by
    obtain ⟨p, hp, rfl⟩ := List.mem_map.mp hx
    have a := h p hp
    have h1 : p.1.toNat + 1 ≤ n.toNat := by omega
    have h2 : p.2.toNat < n.toNat := by omega
    have := Nat.mul_le_mul_right n.toNat h1
    rw [Nat.add_mul] at this
    omega)
  rwa [List.length_map] at this
theorem valid_len {n : Int} {ps : List Pr} (h : Valid n ps) : ps.length ≤ n.toNat * n.toNat := links_len h.lk (asc_nodup h.asc)
theorem srtd_len {n : Int} {f : Int → Int} {ps : List Pr} : (srt (ren f ps)).length = ps.length := by rw [srt_len]; unfold ren; rw [List.length_map]
/-! a round -/
def rndL (n : Int) : List Pr := ((AllN (n - 1)).map fun x => (x, x + 1)) ++ [(0, n - 1)]
theorem rnd_ok {n : Int} (h : 3 ≤ n) : LkIn n (rndL n) ∧ (rndL n).Nodup ∧ (rndL n).length = n.toNat := by
  unfold rndL
  refine ⟨fun p hp => ?_, ?_, ?_⟩
  · rcases List.mem_append.mp hp with hp | hp
    · obtain ⟨x, hx, rfl⟩ := List.mem_map.mp hp
      have := alln_mem.mp hx
      dsimp only
      omega
    · rw [List.mem_singleton.mp hp]
      dsimp only
      omega
  · rw [List.nodup_append]
    refine ⟨?_, by simp, fun a ha b hb e => ?_⟩
    · rw [List.nodup_iff_pairwise_ne, List.pairwise_map]
      unfold AllN
      rw [List.pairwise_map]
      refine List.Pairwise.imp ?_ (List.nodup_iff_pairwise_ne.mp List.nodup_range)
      intro a b ne e
      have := congrArg Prod.fst e
      dsimp only at this
      omega
    · obtain ⟨x, hx, rfl⟩ := List.mem_map.mp ha
      rw [List.mem_singleton.mp hb] at e
      have e1 := congrArg Prod.fst e
      have e2 := congrArg Prod.snd e
      dsimp only at e1 e2
      omega
  · rw [List.length_append, List.length_map, alln_len, List.length_singleton]
    omega
theorem lround1 {s : Sd} {n : Int} (h : 1 ≤ n ∧ n ≤ 1000) : LC_Lround_1 [.io s.d, .v (.int n), .un] = .ok (.own (((AllN (n - 1)).map fun x => (x, x + 1)).map Pu.prD)) [.io s.d, .v (.int n), .un] := by
  unfold LC_Lround_1
  simp only [sS, b62_of (show -4000000000 ≤ n - 1 ∧ n - 1 ≤ 4000000000 by omega), iot0]
  rw [lc_all PyData.int (fun x => Pu.prD (x, x + 1)) _ (sz24 (by rw [alln_len]; omega)) (fun p _ => by simp only [sS]; rfl)]
  simp only [sS, List.map_map]
  rfl
theorem round_is (s : Sd) {n : Int} (h : 3 ≤ n ∧ n ≤ 1000) : ∃ (f : Int → Int) (s' : Sd), run1 0 F_Lround [.io s.d, .v (.int n)] = .ok (.v (wbD n (srt (ren f (rndL n))))) s'.d ∧ InjOn n f ∧ Valid n (srt (ren f (rndL n))) := by
  refine run1_sd (fun f : Int → Int => Rk.v (wbD n (srt (ren f (rndL n))))) E_Lround ?_
  unfold B_Lround
  obtain ⟨q1, q2, q3⟩ := rnd_ok h.1
  obtain ⟨f, s', e, i, v⟩ := renamed_is s q1 q2 (by omega) (by omega) (by omega)
  have e' : run1 0 F_Lrenamed [.io s.d, .v (.int n), .v (.list (((AllN (n - 1)).map fun x => (x, x + 1)).map Pu.prD ++ [.tuple [.int 0, .int (n - 1)]]))] = .ok (.v (wbD n (srt (ren f (rndL n))))) s'.d := by
    rw [← e]
    unfold rndL
    rw [lkL, List.map_append]
    rfl
  have z := sz24 (show (AllN (n - 1)).length + 1 ≤ 100000 by rw [alln_len]; omega)
  simp only [sS, lround1 (show 1 ≤ n ∧ n ≤ 1000 by omega), z, e']
  exact ⟨f, s', rfl, rfl, i, v⟩
/-! a tree: the x-th cell is linked to one before it -/
structure TreeL (n : Int) (ps : List Pr) : Prop where
  snd : ps.map (·.2) = (AllN (n - 1)).map (· + 1)
  fst : ∀ p ∈ ps, 0 ≤ p.1 ∧ p.1 < p.2
theorem TreeL.ok {n : Int} {ps : List Pr} (h : TreeL n ps) : LkIn n ps ∧ ps.Nodup ∧ ps.length = (n - 1).toNat := by
  refine ⟨fun p hp => ?_, ?_, ?_⟩
  · have a := h.fst p hp
    have b : p.2 ∈ ps.map (·.2) := List.mem_map.mpr ⟨p, hp, rfl⟩
    rw [h.snd] at b
    obtain ⟨x, hx, e⟩ := List.mem_map.mp b
    have := alln_mem.mp hx
    omega
  · have : (ps.map (·.2)).Nodup := by
      rw [h.snd]
      unfold AllN
      rw [List.nodup_iff_pairwise_ne, List.pairwise_map, List.pairwise_map]
      refine List.Pairwise.imp ?_ (List.nodup_iff_pairwise_ne.mp List.nodup_range)
      intro a b ne e
      omega
    rw [List.nodup_iff_pairwise_ne, List.pairwise_map] at this
    exact List.nodup_iff_pairwise_ne.mpr (this.imp fun ne e => ne (congrArg Prod.snd e))
  · have := congrArg List.length h.snd
    rw [List.length_map, List.length_map, alln_len] at this
    exact this
theorem iot1 {n : Int} : iot 1 (n - 1).toNat = ((AllN (n - 1)).map (· + 1)).map PyData.int := by
  unfold iot AllN
  rw [List.map_map, List.map_map]
  refine List.map_congr_left fun i _ => ?_
  simp [Int.add_comm]
theorem tree_is (s : Sd) {n : Int} (h : 1 ≤ n ∧ n ≤ 1000) : ∃ (w : List Pr × (Int → Int)) (s' : Sd), run1 0 F_Ltree [.io s.d, .v (.int n)] = .ok (.v (wbD n (srt (ren w.2 (srt w.1))))) s'.d ∧ TreeL n w.1 ∧ InjOn n w.2 ∧ Valid n (srt (ren w.2 (srt w.1))) := by
  refine run1_sd (fun w : List Pr × (Int → Int) => Rk.v (wbD n (srt (ren w.2 (srt w.1))))) E_Ltree ?_
  unfold B_Ltree
  simp only [sS]
  unfold FR_Ltree_1
  simp only [sS, b62_of (show -4000000000 ≤ n ∧ n ≤ 4000000000 by omega), b62_of (show (-4000000000 : Int) ≤ 1 ∧ (1 : Int) ≤ 4000000000 by omega), iot1]
  refine forM PyData.int (fun i ρ => ∃ (s' : Sd) (ps : List Pr) (t : S), ρ = [.io s'.d, .v (.int n), .own (ps.map Pu.prD), t] ∧ freeS t = true ∧ ps.map (·.2) = ((AllN (n - 1)).map (· + 1)).take i ∧ ∀ p ∈ ps, 0 ≤ p.1 ∧ p.1 < p.2) ⟨s, [], .un, rfl, rfl, rfl, fun _ z => nomatch z⟩ ?_ ?_
  · rintro i x ρ hx ⟨s', ps, t, rfl, ft, hs, hf⟩
    have hi := (List.getElem?_eq_some_iff.mp hx).1
    have snoc : ((AllN (n - 1)).map (· + 1)).take (i + 1) = ((AllN (n - 1)).map (· + 1)).take i ++ [x] := by
      rw [List.take_succ, hx]; rfl
    have xin : 1 ≤ x ∧ x < n := by
      obtain ⟨y, hy, rfl⟩ := List.mem_map.mp (List.mem_of_getElem? hx)
      have := alln_mem.mp hy
      omega
    have hl : ps.length = i := by
      have := congrArg List.length hs
      rw [List.length_map, List.length_take] at this
      omega
    rw [List.length_map, alln_len] at hi
    obtain ⟨v, s2, t2, v0, v1⟩ := take_ok s' x (by omega) (by omega)
    obtain ⟨y, s3, t3, my⟩ := one_is s2 [.int (x - 1), .int v] (by simp) (by simp)
    have hy : ∃ z : Int, y = .int z ∧ 0 ≤ z ∧ z < x := by
      rcases List.mem_cons.mp my with rfl | my
      · exact ⟨_, rfl, by omega, by omega⟩
      · rw [List.mem_singleton.mp my]; exact ⟨_, rfl, v0, v1⟩
    obtain ⟨z, rfl, z0, z1⟩ := hy
    unfold FB_Ltree_1
    simp only [sS, ft, t2, t3, sz24' (show ps.length ≤ 100000 by omega)]
    refine ⟨s3, ps ++ [(z, x)], _, by rw [List.map_append]; rfl, rfl, ?_, ?_⟩
    · rw [List.map_append, hs, snoc]; rfl
    · intro p hp
      rcases List.mem_append.mp hp with hp | hp
      · exact hf p hp
      · rw [List.mem_singleton.mp hp]; exact ⟨z0, z1⟩
  · rintro ρ ⟨s', ps, t, rfl, ft, hs, hf⟩
    rw [List.take_length] at hs
    have tr : TreeL n ps := ⟨hs, hf⟩
    obtain ⟨q1, q2, q3⟩ := tr.ok
    have q1' : LkIn n (srt ps) := fun p hp => q1 p ((srt_perm ps).mem_iff.mp hp)
    obtain ⟨f, s2, e, i, v⟩ := renamed_is s' q1' ((srt_perm ps).nodup_iff.mpr q2) (by omega) (by omega) (by rw [srt_len]; omega)
    simp only [sS, e]
    exact ⟨(ps, f), s2, rfl, rfl, tr, i, v⟩
end
end R
end

-- Gen5
section
set_option Elab.async false
set_option linter.all false
set_option maxRecDepth 100000
set_option maxHeartbeats 4000000
namespace R
noncomputable section
open PySem PySem.Spec PyProof.Rows L2 LamX NdefX Pu
open SrtO (lexB lexB_iff lexB_no)
/-! any web -/
theorem anyL (s : Sd) {n : Int} {i : Nat} {ps : List Pr} (u : S) (hi : i < n.toNat) (h : n ≤ 100) (fu : freeS u = true) (nd : ps.Nodup) (lk : LkIn n ps) (hb : ∀ p ∈ ps, p.2 < i) :
    (forC (pName 4) FB_Lany_1 ((AllN (i : Int)).map PyData.int) [.io s.d, .v (.int n), .own (ps.map Pu.prD), .v (.int (i : Int)), u]).sat (fun ρ => ∃ (s' : Sd) (ps : List Pr) (t u : S), ρ = [.io s'.d, .v (.int n), .own (ps.map Pu.prD), t, u] ∧ freeS t = true ∧ freeS u = true ∧ ps.Nodup ∧ LkIn n ps ∧ ∀ p ∈ ps, p.2 < ((i + 1 : Nat) : Int)) (fun _ _ => False) noP noP noX := by
  refine forM PyData.int (fun j ρ => ∃ (s' : Sd) (ps : List Pr) (u : S), ρ = [.io s'.d, .v (.int n), .own (ps.map Pu.prD), .v (.int (i : Int)), u] ∧ freeS u = true ∧ ps.Nodup ∧ LkIn n ps ∧ ∀ p ∈ ps, p.2 < i ∨ (p.2 = i ∧ p.1 < j)) ⟨s, ps, u, rfl, fu, nd, lk, fun p hp => .inl (hb p hp)⟩ ?_ ?_
  · rintro j y ρ hy ⟨s', ps, u, rfl, fu, nd, lk, hb⟩
    have hj := (List.getElem?_eq_some_iff.mp hy).1
    rw [alln_len] at hj
    rw [alln_at hj] at hy
    cases hy
    obtain ⟨v, s2, t2, v0, v1⟩ := take_ok s' 5 (by omega) (by omega)
    have hl := links_len lk nd
    have hl2 : ps.length ≤ 10000 := by
      have a : n.toNat ≤ 100 := by omega
      have b := Nat.mul_le_mul a a
      omega
    unfold FB_Lany_1
    by_cases c : v < 2
    · simp only [sS, fu, t2, eq_true c, sz24' (show ps.length ≤ 100000 by omega)]
      refine ⟨s2, ps ++ [((j : Int), (i : Int))], _, by rw [List.map_append]; rfl, rfl, ?_, ?_, ?_⟩
      · rw [List.nodup_append]
        refine ⟨nd, by simp, fun a ha b hb' e => ?_⟩
        rw [List.mem_singleton.mp hb'] at e
        subst e
        have := hb _ ha
        dsimp only at this
        omega
      · intro p hp
        rcases List.mem_append.mp hp with hp | hp
        · exact lk p hp
        · rw [List.mem_singleton.mp hp]
          dsimp only
          omega
      · intro p hp
        rcases List.mem_append.mp hp with hp | hp
        · have := hb p hp; omega
        · rw [List.mem_singleton.mp hp]
          dsimp only
          omega
    · simp only [sS, fu, t2, c]
      exact ⟨s2, ps, _, rfl, rfl, nd, lk, fun p hp => by have := hb p hp; omega⟩
  · rintro ρ ⟨s', ps, u, rfl, fu, nd, lk, hb⟩
    rw [alln_len] at hb
    exact ⟨s', ps, _, u, rfl, rfl, fu, nd, lk, fun p hp => by have := hb p hp; have := lk p hp; omega⟩
theorem anyF {s : Sd} {n : Int} {i : Nat} {xs : List D} {u : S} (h : i ≤ 1000) : FR_Lany_1 [.io s.d, .v (.int n), .own xs, .v (.int (i : Int)), u] = forC (pName 4) FB_Lany_1 ((AllN (i : Int)).map PyData.int) [.io s.d, .v (.int n), .own xs, .v (.int (i : Int)), u] := by
  unfold FR_Lany_1
  simp only [sS, b62_of (show -4000000000 ≤ (i : Int) ∧ (i : Int) ≤ 4000000000 by omega), iot0]
theorem anyS {s : Sd} {n : Int} {i : Nat} {xs : List D} {t u : S} (ft : freeS t = true) : stepF (pName 3) FB_Lany_2 (.int (i : Int)) [.io s.d, .v (.int n), .own xs, t, u] = FR_Lany_1 [.io s.d, .v (.int n), .own xs, .v (.int (i : Int)), u] := by
  unfold FB_Lany_2
  simp only [sS, ft]
theorem any_is (s : Sd) {n : Int} (h : 0 ≤ n ∧ n ≤ 100) : ∃ (ps : List Pr) (s' : Sd), run1 0 F_Lany [.io s.d, .v (.int n)] = .ok (.v (wbD n ps)) s'.d ∧ Valid n ps := by
  refine run1_sd (fun ps : List Pr => Rk.v (wbD n ps)) E_Lany ?_
  unfold B_Lany
  simp only [sS]
  unfold FR_Lany_2
  simp only [sS, b62_of (show -4000000000 ≤ n ∧ n ≤ 4000000000 by omega), iot0]
  refine forM PyData.int (fun i ρ => ∃ (s' : Sd) (ps : List Pr) (t u : S), ρ = [.io s'.d, .v (.int n), .own (ps.map Pu.prD), t, u] ∧ freeS t = true ∧ freeS u = true ∧ ps.Nodup ∧ LkIn n ps ∧ ∀ p ∈ ps, p.2 < i) ⟨s, [], .un, .un, rfl, rfl, rfl, List.nodup_nil, (valid_nil n).lk, fun _ z => nomatch z⟩ ?_ ?_
  · rintro i x ρ hx ⟨s', ps, t, u, rfl, ft, fu, nd, lk, hb⟩
    have hi := (List.getElem?_eq_some_iff.mp hx).1
    rw [alln_len] at hi
    rw [alln_at hi] at hx
    cases hx
    rw [anyS ft, anyF (by omega)]
    exact Ctl.sat.imp (anyL s' u (show i < n.toNat by omega) h.2 fu nd lk hb) (fun ρ h => h) (fun _ _ h => h.elim) (fun _ h => h.elim) (fun _ h => h.elim) (fun _ _ _ h => h.elim)
  · rintro ρ ⟨s', ps, t, u, rfl, ft, fu, nd, lk, hb⟩
    simp only [sS]
    exact ⟨_, s', rfl, rfl, valid_srt lk nd⟩
end
end R
end

-- MaL
section
set_option Elab.async false
set_option linter.all false
set_option maxRecDepth 100000
set_option maxHeartbeats 4000000
/-! MaL: the shortest ways from cell to cell, and the first of them. -/
namespace Pu
open PySem PySem.Spec PyProof.Rows L2 LamX NdefX MinX
def WayF (ps : List Pr) (x : Int) (t : Nat) (y : Int) (f : Nat → Int) : Prop := f 0 = x ∧ f t = y ∧ ∀ i, i < t → f (i + 1) ∈ rowOf ps (f i)
def rowF (t : Nat) (f : Nat → Int) : List Int := (List.range (t + 1)).map f
def FullW (ps : List Pr) (x : Int) (t : Nat) (y : Int) (W : List (List Int)) : Prop := ∀ w, w ∈ W ↔ ∃ f, w = rowF t f ∧ WayF ps x t y f
theorem way_walk {ps : List Pr} {t : Nat} {f : Nat → Int} (h : ∀ i, i < t → f (i + 1) ∈ rowOf ps (f i)) : ∀ (j i : Nat), i + j ≤ t → Wk ps (f i) j (f (i + j))
  | 0, i, _ => .zero
  | j + 1, i, l => .step (way_walk h j i (by omega)) (h (i + j) (by omega))
/-! ### the first way -/
theorem head_le {L : List Int} (h : L.Pairwise (· ≤ ·)) {z : Int} (m : z ∈ L) : L.getD 0 0 ∈ L ∧ L.getD 0 0 ≤ z := by
  cases L with
  | nil => exact nomatch m
  | cons a L =>
    refine ⟨List.mem_cons_self, ?_⟩
    rcases List.mem_cons.mp m with rfl | m
    · exact Int.le_refl _
    · exact (List.pairwise_cons.mp h).1 z m
noncomputable def nxL (ps : List Pr) (y k x : Int) : List Int := (rowOf ps x).filter fun z => decide (dst ps y z = k)
noncomputable def goF (ps : List Pr) (y d x : Int) : Nat → Int
  | 0 => x
  | i + 1 => (nxL ps y (d - 1 - (i : Int)) (goF ps y d x i)).getD 0 0
theorem nx_is {n : Int} {ps : List Pr} (v : Valid n ps) {y k z : Int} (h : dst ps y z = k + 1) (hk : 0 ≤ k) : (nxL ps y k z).getD 0 0 ∈ nxL ps y k z ∧ ∀ u ∈ nxL ps y k z, (nxL ps y k z).getD 0 0 ≤ u := by
  obtain ⟨u, h1, h2⟩ := dst_pred (ps := ps) (x := y) (z := z) (by omega)
  have m : u ∈ nxL ps y k z := List.mem_filter.mpr ⟨(row_symm v.lk).mp h1, decide_eq_true (by omega)⟩
  have s : (nxL ps y k z).Pairwise (· ≤ ·) := (row_asc v).filter _
  exact ⟨(head_le s m).1, fun u hu => (head_le s hu).2⟩
theorem go_dst {n : Int} {ps : List Pr} (v : Valid n ps) {x y : Int} {d : Nat} (e : dst ps y x = d) : ∀ i, i ≤ d → dst ps y (goF ps y d x i) = (d : Int) - i
  | 0, _ => by show dst ps y x = _; omega
  | i + 1, hi => by
    have ih := go_dst v e i (by omega)
    have q := (nx_is v (y := y) (k := (d : Int) - 1 - (i : Int)) (z := goF ps y d x i) (by omega) (by omega)).1
    have := of_decide_eq_true (List.mem_filter.mp q).2
    show dst ps y ((nxL ps y ((d : Int) - 1 - (i : Int)) (goF ps y d x i)).getD 0 0) = _
    rw [this]
    omega
theorem go_row {n : Int} {ps : List Pr} (v : Valid n ps) {x y : Int} {d : Nat} (e : dst ps y x = d) (i : Nat) (hi : i < d) : goF ps y d x (i + 1) ∈ rowOf ps (goF ps y d x i) ∧ ∀ u ∈ rowOf ps (goF ps y d x i), dst ps y u = (d : Int) - 1 - i → goF ps y d x (i + 1) ≤ u := by
  have q := nx_is v (y := y) (k := (d : Int) - 1 - (i : Int)) (z := goF ps y d x i) (by rw [go_dst v e i (by omega)]; omega) (by omega)
  exact ⟨(List.mem_filter.mp q.1).1, fun u hu hd => q.2 u (List.mem_filter.mpr ⟨hu, decide_eq_true hd⟩)⟩
theorem go_way {n : Int} {ps : List Pr} (v : Valid n ps) {x y : Int} {d : Nat} (e : dst ps y x = d) : WayF ps x d y (goF ps y d x) :=
  ⟨rfl, dst_zero (ps := ps) (x := y) (by rw [go_dst v e d (Nat.le_refl _)]; omega), fun i hi => (go_row v e i hi).1⟩
theorem go_least {n : Int} {ps : List Pr} (v : Valid n ps) {x y : Int} {d : Nat} (e : dst ps y x = d) {f : Nat → Int} (w : WayF ps x d y f) : ltL (rowF d f) (rowF d (goF ps y d x)) = false := by
  obtain ⟨w0, w1, w2⟩ := w
  have suf : ∀ (j i : Nat), i + j = d → f i = goF ps y d x i → ltL ((List.range' i (j + 1)).map f) ((List.range' i (j + 1)).map (goF ps y d x)) = false := by
    intro j
    induction j with
    | zero =>
      intro i hi he
      show ltL [f i] [goF ps y d x i] = false
      rw [lt_cons, if_pos he, lt_nil]
    | succ j ih =>
      intro i hi he
      rw [List.range'_succ, List.map_cons, List.map_cons, lt_cons, if_pos he]
      by_cases e2 : f (i + 1) = goF ps y d x (i + 1)
      · exact ih (i + 1) (by omega) e2
      · have m := w2 i (by omega)
        rw [he] at m
        have wk := way_walk w2 (d - (i + 1)) (i + 1) (by omega)
        rw [show i + 1 + (d - (i + 1)) = d by omega, w1] at wk
        have le := dst_le (wk.symm v.lk)
        have gd := go_dst v e i (by omega)
        have lk := dst_link (ps := ps) (x := y) ((row_symm v.lk).mp m) le.1
        have := (go_row v e i (by omega)).2 _ m (by omega)
        rw [List.range'_succ, List.map_cons, List.map_cons, lt_cons, if_neg e2]
        exact decide_eq_false (by omega)
  have := suf d 0 (by omega) w0
  unfold rowF
  rw [List.range_eq_range']
  exact this
/-! ### all the ways -/
def addW (ps : List Pr) (W : Int → List (List Int)) (L : List Int) (y : Int) : List (List Int) := (L.filter fun z => decide (y ∈ rowOf ps z)).flatMap fun z => (W z).map (· ++ [y])
theorem mem_addW {ps : List Pr} {W : Int → List (List Int)} {L : List Int} {y : Int} {w : List Int} : w ∈ addW ps W L y ↔ ∃ z, (z ∈ L ∧ y ∈ rowOf ps z) ∧ ∃ u, u ∈ W z ∧ u ++ [y] = w := by
  unfold addW
  rw [List.mem_flatMap]
  constructor
  · rintro ⟨z, h1, h2⟩
    obtain ⟨a, b⟩ := List.mem_filter.mp h1
    exact ⟨z, ⟨a, of_decide_eq_true b⟩, List.mem_map.mp h2⟩
  · rintro ⟨z, ⟨a, b⟩, h2⟩
    exact ⟨z, List.mem_filter.mpr ⟨a, decide_eq_true b⟩, List.mem_map.mpr h2⟩
theorem rowF_succ (t : Nat) (f : Nat → Int) : rowF (t + 1) f = rowF t f ++ [f (t + 1)] := by
  unfold rowF
  rw [List.range_succ, List.map_append]
  rfl
theorem FullW.next {n : Int} {ps : List Pr} (v : Valid n ps) {x : Int} (hx : 0 ≤ x ∧ x < n) {t : Nat} {W : Int → List (List Int)} {L : List Int} (hL : ∀ z, z ∈ L ↔ (0 ≤ z ∧ z < n) ∧ dst ps x z = t) (hW : ∀ z, z ∈ L → FullW ps x t z (W z)) {y : Int} (hy : dst ps x y = t + 1) :
    FullW ps x (t + 1) y (addW ps W L y) := by
  intro w
  rw [mem_addW]
  constructor
  · rintro ⟨z, ⟨zl, zy⟩, u, hu, rfl⟩
    obtain ⟨f, rfl, f0, f1, f2⟩ := (hW z zl u).mp hu
    obtain ⟨g, hg⟩ : ∃ g : Nat → Int, g = fun i => if i ≤ t then f i else y := ⟨_, rfl⟩
    have gl : ∀ i, i ≤ t → g i = f i := fun i hi => by rw [hg]; exact if_pos hi
    have gy : g (t + 1) = y := by rw [hg]; exact if_neg (by omega)
    refine ⟨g, ?_, ?_, gy, fun i hi => ?_⟩
    · rw [rowF_succ, gy]
      congr 1
      exact List.map_congr_left fun i hi => (gl i (by have := List.mem_range.mp hi; omega)).symm
    · rw [gl 0 (by omega)]; exact f0
    · by_cases e : i = t
      · subst e
        rw [gy, gl i (Nat.le_refl _), f1]
        exact zy
      · rw [gl i (by omega), gl (i + 1) (by omega)]
        exact f2 i (by omega)
  · rintro ⟨g, rfl, g0, g1, g2⟩
    have wk := way_walk g2 t 0 (by omega)
    rw [g0, Nat.zero_add] at wk
    have last := g2 t (by omega)
    rw [g1] at last
    have le := dst_le wk
    have lk := dst_link last le.1
    refine ⟨g t, ⟨(hL _).mpr ⟨wk.within v.lk hx, by omega⟩, last⟩, rowF t g, (hW _ ((hL _).mpr ⟨wk.within v.lk hx, by omega⟩) _).mpr ⟨g, rfl, g0, rfl, fun i hi => g2 i (by omega)⟩, ?_⟩
    rw [rowF_succ, g1]
theorem FullW.start {ps : List Pr} {x : Int} : FullW ps x 0 x [[x]] := fun w => by
  rw [List.mem_singleton]
  constructor
  · rintro rfl
    exact ⟨fun _ => x, rfl, rfl, rfl, fun i hi => by omega⟩
  · rintro ⟨f, rfl, f0, _, _⟩
    show [f 0] = [x]
    rw [f0]
/-- the least of all ways is the first -/
theorem full_least {n : Int} {ps : List Pr} (v : Valid n ps) {x y : Int} {d : Nat} (e : dst ps x y = d) {W : List (List Int)} (h : FullW ps x d y W) : Least (rowF d (goF ps y d x)) W := by
  have e' : dst ps y x = d := by rw [dst_symm v.lk]; exact e
  refine ⟨(h _).mpr ⟨_, rfl, go_way v e'⟩, fun r hr => ?_⟩
  obtain ⟨f, rfl, w⟩ := (h r).mp hr
  exact go_least v e' w
theorem full_ne {n : Int} {ps : List Pr} (v : Valid n ps) {x y : Int} {d : Nat} (e : dst ps x y = d) {W : List (List Int)} (h : FullW ps x d y W) : W ≠ [] := fun z => by
  have := (full_least v e h).mem
  rw [z] at this
  exact nomatch this
/-! ### how many -/
def totW (W : Int → List (List Int)) (L : List Int) : Nat := (L.map fun z => (W z).length).sum
theorem sum_filter_le (p : Int → Bool) (g : Int → Nat) : ∀ L : List Int, ((L.filter p).map g).sum ≤ (L.map g).sum
  | [] => by simp
  | z :: L => by
    have := sum_filter_le p g L
    by_cases h : p z = true
    · rw [List.filter_cons_of_pos h]; simp only [List.map_cons, List.sum_cons]; omega
    · rw [List.filter_cons_of_neg h]; simp only [List.map_cons, List.sum_cons]; omega
theorem addW_len (ps : List Pr) (W : Int → List (List Int)) (L : List Int) (y : Int) : (addW ps W L y).length ≤ totW W L := by
  unfold addW totW
  rw [List.length_flatMap]
  simp only [List.length_map]
  exact sum_filter_le _ _ L
theorem totW_le {W : Int → List (List Int)} {L : List Int} {b : Nat} (h : ∀ z ∈ L, (W z).length ≤ b) : totW W L ≤ L.length * b := by
  unfold totW
  induction L with
  | nil => simp
  | cons z L ih =>
    have := ih fun u hu => h u (List.mem_cons_of_mem _ hu)
    have hz := h z List.mem_cons_self
    simp only [List.map_cons, List.sum_cons, List.length_cons]
    rw [Nat.add_mul]
    omega
theorem tot_one {W : Int → List (List Int)} {L : List Int} {z : Int} (h : z ∈ L) : (W z).length ≤ totW W L := by
  unfold totW
  induction L with
  | nil => exact nomatch h
  | cons u L ih =>
    simp only [List.map_cons, List.sum_cons]
    rcases List.mem_cons.mp h with rfl | h
    · omega
    · have := ih h; omega
theorem cube_le {c : Nat} (h : c ≤ 40) : c * c * c ≤ 3 ^ c := by
  have a : ∀ c : Fin 41, c.1 * c.1 * c.1 ≤ 3 ^ c.1 := by decide +kernel
  exact a ⟨c, by omega⟩
/-- one turn's bound out of the one before -/
theorem tot_turn {T T' c u u' N : Nat} (hc : c ≤ 40) (h : T * T * T * 3 ^ u ≤ N) (t : T' ≤ c * T) (e : c + u' ≤ u) : T' * T' * T' * 3 ^ u' ≤ N := by
  have a : T' * T' * T' ≤ (c * T) * (c * T) * (c * T) := Nat.mul_le_mul (Nat.mul_le_mul t t) t
  have b : (c * T) * (c * T) * (c * T) = (c * c * c) * (T * T * T) := by
    simp only [Nat.mul_assoc, Nat.mul_comm, Nat.mul_left_comm]
  rw [b] at a
  have d : T' * T' * T' * 3 ^ u' ≤ 3 ^ c * (T * T * T) * 3 ^ u' := Nat.mul_le_mul_right _ (Nat.le_trans a (Nat.mul_le_mul_right _ (cube_le hc)))
  have f : 3 ^ c * (T * T * T) * 3 ^ u' = T * T * T * 3 ^ (c + u') := by
    rw [Nat.pow_add]
    simp only [Nat.mul_assoc, Nat.mul_comm, Nat.mul_left_comm]
  rw [f] at d
  exact Nat.le_trans d (Nat.le_trans (Nat.mul_le_mul_left _ (Nat.pow_le_pow_right (by decide) e)) h)
theorem tot_small {T u : Nat} (h : T * T * T * 3 ^ u ≤ 3 ^ 40) : T ≤ 4000000 := by
  have p : 1 ≤ 3 ^ u := Nat.one_le_pow _ _ (by decide)
  have q : T * T * T ≤ 3 ^ 40 := Nat.le_trans (Nat.le_mul_of_pos_right _ p) h
  refine Decidable.byContradiction fun n => ?_
  have l : 4000001 ≤ T := by omega
  have r : 4000001 * 4000001 * 4000001 ≤ T * T * T := Nat.mul_le_mul (Nat.mul_le_mul l l) l
  have s : ¬ 4000001 * 4000001 * 4000001 ≤ 3 ^ 40 := by decide
  exact s (Nat.le_trans r q)
end Pu
end

-- K08a
section
set_option Elab.async false
set_option linter.all false
set_option maxRecDepth 100000
set_option maxHeartbeats 4000000
namespace R
noncomputable section
open PySem PySem.Spec PyProof.Rows L2 LamX NdefX Pu
open MinX
/-! the program's way -/
theorem szB {n : Nat} (h : n ≤ 8000000) : n ≤ sizeLine := by unfold sizeLine; omega
theorem first_none {n x y : Int} {ps : List Pr} (v : Valid n ps) (hn : 1 ≤ n ∧ n ≤ 1000) (hx : 0 ≤ x ∧ x < n) (hy : 0 ≤ y ∧ y < n) (h : dst ps y x < 0) : run0 F_first_row [.v (.tuple (rowsD n ps)), .v (.int x), .v (.int y)] = .ok (.v .none) := by
  have fr := from_is v.lk hn.2 hy
  have ax := atI_at (A := (AllN n).map (dst ps y)) (x := x) (by rw [List.length_map, alln_len]; omega)
  rw [at_all hx] at ax
  obtain ⟨A, hA⟩ : ∃ A, A = ((AllN n).map (dst ps y)).map PyData.int := ⟨_, rfl⟩
  rewrite [← hA] at ax
  rewrite [← hA] at fr
  have q0 : qSet 3 (qCall0 F_steps_from none (qaV (qVar 0) (qaV (qVar 2) qaNil))) [.v (.tuple (rowsD n ps)), .v (.int x), .v (.int y), .un, .un, .un, .un, .un] = .nx [.v (.tuple (rowsD n ps)), .v (.int x), .v (.int y), .v (.tuple A), .un, .un, .un, .un] := by
    obtain ⟨g, hg⟩ := opq F_steps_from
    rewrite [← hg] at fr ⊢
    simp only [sS, fr]
  have q1 : qIf (qTst (qOp dLt (qOp dIxT (qVar 3) (qVar 1)) (qC (.int 0)))) (qRet (qC .none)) qNext [.v (.tuple (rowsD n ps)), .v (.int x), .v (.int y), .v (.tuple A), .un, .un, .un, .un] = .rt (.v .none) [.v (.tuple (rowsD n ps)), .v (.int x), .v (.int y), .v (.tuple A), .un, .un, .un, .un] := by
    simp only [sS, ax, decide_eq_true h]
  refine run0_is E_first_row ?_
  unfold B_first_row
  rewrite [sat_seq, q0, sat_nx, sat_seq, q1, sat_rt]
  exact ⟨rfl, rfl⟩
theorem qR3_of {gs : Pu.Env → Res (List D)} {ρ ρ' : Pu.Env} {d : Nat} (h : gs ρ = .ok [.int ((d : Int) - 1), .int (-1), .int (-1)] ρ') (hd : d ≤ 1000000) : qR3 gs ρ = .ok ((List.range d).map fun (i : Nat) => PyData.int ((d : Int) - 1 + (i : Nat) * (-1))) ρ' := by
  unfold qR3
  rw [h, b_ok]
  dsimp only
  rw [if_pos ⟨rfl, by omega, by omega, by omega, by omega⟩, show ((d : Int) - 1 - -1).toNat = d by omega]
  rfl
theorem rowF_at {d i : Nat} {f : Nat → Int} (h : i ≤ d) : atI ((rowF i f).map PyData.int) (-1) = some (.int (f i)) := by
  unfold atI ixN rowF
  rw [if_neg (by omega), if_pos (by simp; omega)]
  simp
  rw [show ((-1 : Int) + ((i : Int) + 1)).toNat = i by omega]
  exact ⟨i, List.getElem?_range (by omega), rfl⟩
theorem first_some {n x y : Int} {ps : List Pr} (v : Valid n ps) (hn : 1 ≤ n ∧ n ≤ 1000) (hx : 0 ≤ x ∧ x < n) (hy : 0 ≤ y ∧ y < n) {d : Nat} (e : dst ps y x = d) : run0 F_first_row [.v (.tuple (rowsD n ps)), .v (.int x), .v (.int y)] = .ok (.v (.tuple ((rowF d (goF ps y d x)).map .int))) := by
  have fr := from_is v.lk hn.2 hy
  have ax := atI_at (A := (AllN n).map (dst ps y)) (x := x) (by rw [List.length_map, alln_len]; omega)
  rw [at_all hx, e] at ax
  have dl : (d : Int) < n := by rw [← e]; exact dst_lt v.lk hy
  have nl : ¬ (d : Int) < 0 := by omega
  obtain ⟨A, hA⟩ : ∃ A, A = ((AllN n).map (dst ps y)).map PyData.int := ⟨_, rfl⟩
  rewrite [← hA] at ax
  rewrite [← hA] at fr
  have q0 : qSet 3 (qCall0 F_steps_from none (qaV (qVar 0) (qaV (qVar 2) qaNil))) [.v (.tuple (rowsD n ps)), .v (.int x), .v (.int y), .un, .un, .un, .un, .un] = .nx [.v (.tuple (rowsD n ps)), .v (.int x), .v (.int y), .v (.tuple A), .un, .un, .un, .un] := by
    obtain ⟨g, hg⟩ := opq F_steps_from
    rewrite [← hg] at fr ⊢
    simp only [sS, fr]
  have q1 : qIf (qTst (qOp dLt (qOp dIxT (qVar 3) (qVar 1)) (qC (.int 0)))) (qRet (qC .none)) qNext [.v (.tuple (rowsD n ps)), .v (.int x), .v (.int y), .v (.tuple A), .un, .un, .un, .un] = .nx [.v (.tuple (rowsD n ps)), .v (.int x), .v (.int y), .v (.tuple A), .un, .un, .un, .un] := by
    simp only [sS, ax, decide_eq_false nl]
  have q2 : qSet 4 (qLst (qCons (qV (qVar 1)) qNil)) [.v (.tuple (rowsD n ps)), .v (.int x), .v (.int y), .v (.tuple A), .un, .un, .un, .un] = .nx [.v (.tuple (rowsD n ps)), .v (.int x), .v (.int y), .v (.tuple A), .own [.int x], .un, .un, .un] := by
    simp only [sS]
  have r3 : qR3 (qCons (qV (qOp dSub (qOp dIxT (qVar 3) (qVar 1)) (qC (.int 1)))) (qCons (qV (qUn dNeg (qC (.int 1)))) (qCons (qV (qUn dNeg (qC (.int 1)))) qNil))) [.v (.tuple (rowsD n ps)), .v (.int x), .v (.int y), .v (.tuple A), .own [.int x], .un, .un, .un] = .ok ((List.range d).map fun (i : Nat) => PyData.int ((d : Int) - 1 + (i : Nat) * (-1))) [.v (.tuple (rowsD n ps)), .v (.int x), .v (.int y), .v (.tuple A), .own [.int x], .un, .un, .un] := qR3_of (by simp only [sS, ax]) (by omega)
  refine run0_is E_first_row ?_
  unfold B_first_row
  rewrite [sat_seq, q0, sat_nx, sat_seq, q1, sat_nx, sat_seq, q2, sat_nx, sat_seq]
  unfold FR_first_row_1
  rewrite [qFor_ap, r3, c_ok]
  refine forM (fun i : Nat => PyData.int ((d : Int) - 1 + (i : Nat) * (-1))) (fun i ρ => ∃ (a b : S), ρ = [.v (.tuple (rowsD n ps)), .v (.int x), .v (.int y), .v (.tuple A), .own ((rowF i (goF ps y d x)).map .int), a, b, .un] ∧ freeS a = true ∧ freeS b = true ∧ i ≤ d) ⟨_, _, rfl, rfl, rfl, Nat.zero_le _⟩ ?_ ?_
  · rintro i j ρ hj ⟨a, b, rfl, fa, fb, il⟩
    have jl := (List.getElem?_eq_some_iff.mp hj).1
    rw [List.length_range] at jl
    rw [List.getElem?_range jl] at hj
    cases hj
    have gin : 0 ≤ goF ps y d x i ∧ goF ps y d x i < n := by
      have := go_dst v e i il
      exact (dst_wk (ps := ps) (x := y) (y := goF ps y d x i) (by omega)).within v.lk hy
    have ag := rowF_at (f := goF ps y d x) (Nat.le_refl i)
    have ar := atI_rows (ps := ps) gin
    have rl := row_sz (ps := ps) (x := goF ps y d x i)
    have pl := valid_len v
    have lk : (d : Int) - 1 + (i : Nat) * (-1) = (d : Int) - 1 - i := by omega
    have q := nx_is v (y := y) (k := (d : Int) - 1 - (i : Int)) (z := goF ps y d x i) (by rw [go_dst v e i il]; omega) (by omega)
    have rlen : (rowOf ps (goF ps y d x i)).length ≤ sizeLine := szB (by
      have : n.toNat * n.toNat ≤ 1000 * 1000 := Nat.mul_le_mul (by omega) (by omega)
      omega)
    have lc : ∀ b : S, LC_first_row_1 [.v (.tuple (rowsD n ps)), .v (.int x), .v (.int y), .v (.tuple A), .own ((rowF i (goF ps y d x)).map .int), .v (.int ((d : Int) - 1 - i)), b, .un] = .ok (.own ((nxL ps y ((d : Int) - 1 - i) (goF ps y d x i)).map .int)) [.v (.tuple (rowsD n ps)), .v (.int x), .v (.int y), .v (.tuple A), .own ((rowF i (goF ps y d x)).map .int),   .v (.int ((d : Int) - 1 - i)), b, .un] := fun b => by
      unfold LC_first_row_1
      simp only [sS, ag, ar]
      rw [lc_map PyData.int (fun z => decide (dst ps y z = (d : Int) - 1 - i)) PyData.int (rowOf ps (goF ps y d x i)) [] (by simpa using rlen) (fun z hz => by
        have zin := (row_within v.lk hz).1
        have az : atI A z = some (.int (dst ps y z)) := by rw [hA, List.map_map]; exact atI_all zin
        simp only [sS, az])]
      unfold nxL
      simp only [sS]
    have a0 : atI ((nxL ps y ((d : Int) - 1 - i) (goF ps y d x i)).map PyData.int) 0 = some (.int ((nxL ps y ((d : Int) - 1 - i) (goF ps y d x i)).getD 0 0)) := atI_ints (by omega) (by have := List.length_pos_of_mem q.1; omega)
    have rs : (rowF i (goF ps y d x)).length < sizeLine := Nat.lt_of_le_of_lt (show (rowF i (goF ps y d x)).length ≤ 1001 by unfold rowF; simp; omega) (by unfold sizeLine; decide)
    rw [stepF_ap]
    unfold FB_first_row_1
    simp only [sS, fa, fb, lk, lc, a0, rs]
    refine ⟨.v (.int ((d : Int) - 1 - i)), .own ((nxL ps y ((d : Int) - 1 - i) (goF ps y d x i)).map .int), ?_, rfl, rfl, by omega⟩
    rw [rowF_succ, List.map_append]
    rfl
  · rintro ρ ⟨a, b, rfl, fa, fb, il⟩
    rw [List.length_range]
    simp only [sS]
end
end R
end

-- MaR
section
set_option Elab.async false
set_option linter.all false
set_option maxRecDepth 100000
set_option maxHeartbeats 4000000
/-! MaR: parts whose cells all have two near them. -/
namespace R
open PySem PySem.Spec PyProof.Rows Pu
theorem sub_len : ∀ {l m : List Int}, l.Nodup → (∀ z ∈ l, z ∈ m) → l.length ≤ m.length
  | [], m, _, _ => by simp
  | a :: r, m, nd, h => by
    have am := h a List.mem_cons_self
    have nd' := List.nodup_cons.mp nd
    have ih := sub_len (l := r) (m := m.erase a) nd'.2 fun z hz => (List.mem_erase_of_ne (fun e => nd'.1 (by rw [← e]; exact hz))).mpr (h z (List.mem_cons_of_mem _ hz))
    have le := List.length_erase_of_mem am
    have pos : 0 < m.length := List.length_pos_of_mem am
    simp only [List.length_cons]
    omega
theorem alln_nodup {n : Int} : (AllN n).Nodup := by
  unfold AllN
  rw [List.nodup_iff_pairwise_ne, List.pairwise_map]
  exact (List.nodup_iff_pairwise_ne.mp List.nodup_range).imp fun {a b} ne e => ne (by have e : ((a : Nat) : Int) = (b : Int) := e; omega)
theorem row_nodup {n y : Int} {ps : List Pr} (h : Valid n ps) : (rowOf ps y).Nodup := (row_perm h.lk).nodup_iff.mpr (nearL_nodup h.lk (asc_nodup h.asc))
theorem partL_nodup {n x : Int} {ps : List Pr} : (partL n ps x).Nodup := by
  unfold partL
  exact List.Nodup.sublist (List.filter_sublist) alln_nodup
/-- the two near -/
theorem two_of {n y : Int} {ps : List Pr} (h : Valid n ps) (l : (rowOf ps y).length = 2) : ∃ a b, a ≠ b ∧ a ∈ rowOf ps y ∧ b ∈ rowOf ps y ∧ ∀ z ∈ rowOf ps y, z = a ∨ z = b := by
  have nd := row_nodup (y := y) h
  match e : rowOf ps y, l with
  | [a, b], _ =>
    rw [e] at nd
    refine ⟨a, b, ?_, by simp, by simp, fun z hz => by simpa using hz⟩
    simpa using nd
theorem two_in {n y p q : Int} {ps : List Pr} (h : Valid n ps) (l : (rowOf ps y).length = 2) (hp : p ∈ rowOf ps y) (hq : q ∈ rowOf ps y) (ne : p ≠ q) : ∀ z ∈ rowOf ps y, z = p ∨ z = q := by
  obtain ⟨a, b, _, _, _, k⟩ := two_of h l
  intro z hz
  have k1 := k p hp
  have k2 := k q hq
  have k3 := k z hz
  omega
theorem other_of {n y p : Int} {ps : List Pr} (h : Valid n ps) (l : (rowOf ps y).length = 2) (hp : p ∈ rowOf ps y) : ∃ q, q ∈ rowOf ps y ∧ q ≠ p := by
  obtain ⟨a, b, ne, ha, hb, _⟩ := two_of h l
  by_cases e : a = p
  · exact ⟨b, hb, by omega⟩
  · exact ⟨a, ha, e⟩
/-- what is closed under going on holds the part -/
theorem closed_part {n x : Int} {ps : List Pr} {m : List Int} (hx : x ∈ m) (c : ∀ z ∈ m, ∀ u ∈ rowOf ps z, u ∈ m) : (partL n ps x).length ≤ m.length := by
  refine sub_len partL_nodup fun z hz => ?_
  obtain ⟨q, k, w⟩ := partL_mem.mp hz
  clear q hz
  induction w with
  | zero => exact hx
  | step w m ih => exact c _ ih _ m
theorem con_row {n x y z : Int} {ps : List Pr} (h : LkIn n ps) (hy : y ∈ partL n ps x) (hz : z ∈ rowOf ps y) : z ∈ partL n ps x := by
  obtain ⟨_, c⟩ := partL_mem.mp hy
  exact partL_mem.mpr ⟨(row_within h hz).1, c.trans (.link hz)⟩
section
variable {n x : Int} {ps : List Pr} (h : Valid n ps) (hx : 0 ≤ x ∧ x < n) (al : ∀ y ∈ partL n ps x, (rowOf ps y).length = 2)
include h hx al
theorem ring_three : 3 ≤ (partL n ps x).length := by
  have xp : x ∈ partL n ps x := partL_mem.mpr ⟨hx, .refl x⟩
  obtain ⟨a, b, ne, ha, hb, _⟩ := two_of h (al x xp)
  have := sub_len (l := [x, a, b]) (m := partL n ps x) (by
    have n1 := (row_within h.lk ha).2
    have n2 := (row_within h.lk hb).2
    simp [ne, Ne.symm n1, Ne.symm n2]) (by
    intro z hz
    simp only [List.mem_cons, List.not_mem_nil, or_false] at hz
    rcases hz with rfl | rfl | rfl
    · exact xp
    · exact con_row h.lk xp ha
    · exact con_row h.lk xp hb)
  simpa using this
theorem ring_stout4 (st : Stout n ps x) : (partL n ps x).length = 4 := by
  have xp : x ∈ partL n ps x := partL_mem.mpr ⟨hx, .refl x⟩
  obtain ⟨a, b, ne, ha, hb, k⟩ := two_of h (al x xp)
  have hg := (st x hx.1 hx.2 (.refl x)).2 a ha b hb
  have mt : ∃ u, u ∈ rowOf ps a ∧ u ≠ x ∧ u ∈ rowOf ps b := by
    have : ∀ z, Mt ps x a z → z = a ∨ ∃ u, u ∈ rowOf ps a ∧ u ≠ x ∧ u ∈ rowOf ps b := fun z w => by
      induction w with
      | zero => exact .inl rfl
      | @step u z w m e ih =>
        rcases ih with rfl | ih
        · rcases k z m with rfl | rfl
          · exact .inl rfl
          · exact .inr (mated_iff.mp e)
        · exact .inr ih
    rcases this b hg with e | e
    · exact (ne e.symm).elim
    · exact e
  obtain ⟨m, m1, m2, m3⟩ := mt
  have ap := con_row h.lk xp ha
  have bp := con_row h.lk xp hb
  have mp := con_row h.lk ap m1
  have n1 := (row_within h.lk ha).2
  have n2 := (row_within h.lk hb).2
  have n3 := (row_within h.lk m1).2
  have n4 := (row_within h.lk m3).2
  have ra := two_in h (al a ap) ((row_symm h.lk).mp ha) m1 (Ne.symm m2)
  have rb := two_in h (al b bp) ((row_symm h.lk).mp hb) m3 (Ne.symm m2)
  have rm := two_in h (al m mp) ((row_symm h.lk).mp m1) ((row_symm h.lk).mp m3) ne
  have le := closed_part (n := n) (x := x) (ps := ps) (m := [x, a, b, m]) (by simp) (by
    intro z hz u hu
    simp only [List.mem_cons, List.not_mem_nil, or_false] at hz ⊢
    rcases hz with rfl | rfl | rfl | rfl
    · rcases k u hu with rfl | rfl <;> simp
    · rcases ra u hu with rfl | rfl <;> simp
    · rcases rb u hu with rfl | rfl <;> simp
    · rcases rm u hu with rfl | rfl <;> simp)
  have ge := sub_len (l := [x, a, b, m]) (m := partL n ps x) (by
    simp [ne, Ne.symm n1, Ne.symm n2, Ne.symm n3, Ne.symm n4, Ne.symm m2]) (by
    intro z hz
    simp only [List.mem_cons, List.not_mem_nil, or_false] at hz
    rcases hz with rfl | rfl | rfl | rfl
    · exact xp
    · exact ap
    · exact bp
    · exact mp)
  simp only [List.length_cons, List.length_nil] at le ge
  omega
theorem ring_4stout (l4 : (partL n ps x).length = 4) : Stout n ps x := by
  intro y y0 y1 cy
  have yp : y ∈ partL n ps x := partL_mem.mpr ⟨⟨y0, y1⟩, cy⟩
  obtain ⟨a, b, ne, ha, hb, k⟩ := two_of h (al y yp)
  have ap := con_row h.lk yp ha
  have bp := con_row h.lk yp hb
  have n1 := (row_within h.lk ha).2
  have n2 := (row_within h.lk hb).2
  obtain ⟨a', ha', na'⟩ := other_of h (al a ap) ((row_symm h.lk).mp ha)
  obtain ⟨b', hb', nb'⟩ := other_of h (al b bp) ((row_symm h.lk).mp hb)
  have a'p := con_row h.lk ap ha'
  have b'p := con_row h.lk bp hb'
  have n3 := (row_within h.lk ha').2
  have n4 := (row_within h.lk hb').2
  have ra := two_in h (al a ap) ((row_symm h.lk).mp ha) ha' (Ne.symm na')
  have rb := two_in h (al b bp) ((row_symm h.lk).mp hb) hb' (Ne.symm nb')
  have pe : ∀ z, z ∈ partL n ps y ↔ z ∈ partL n ps x := fun z => by
    rw [partL_mem, partL_mem]
    exact ⟨fun ⟨q, c⟩ => ⟨q, cy.trans c⟩, fun ⟨q, c⟩ => ⟨q, (cy.symm h.lk).trans c⟩⟩
  have le3 : a' = b → False := fun e => by
    subst e
    have rb' : b' = a := by
      have q := (row_symm h.lk).mp ha'
      rcases rb a q with e | e
      · exact (n1 e).elim
      · exact e.symm
    subst rb'
    have le := closed_part (n := n) (x := y) (ps := ps) (m := [y, b', a']) (by simp) (by
      intro z hz u hu
      simp only [List.mem_cons, List.not_mem_nil, or_false] at hz ⊢
      rcases hz with rfl | rfl | rfl
      · rcases k u hu with rfl | rfl <;> simp
      · rcases ra u hu with rfl | rfl <;> simp
      · rcases rb u hu with rfl | rfl <;> simp)
    have l2 := sub_len (l := partL n ps x) (m := partL n ps y) partL_nodup fun z hz => (pe z).mpr hz
    simp only [List.length_cons, List.length_nil] at le
    omega
  have eq : a' = b' := by
    refine Classical.byContradiction fun nab => ?_
    have na'b : a' ≠ b := le3
    have nb'a : b' ≠ a := fun e => by
      subst e
      have q := (row_symm h.lk).mp hb'
      rcases ra b q with e | e
      · exact n2 e
      · exact na'b e.symm
    have ge := sub_len (l := [y, a, b, a', b']) (m := partL n ps x) (by
      simp [ne, nab, Ne.symm n1, Ne.symm n2, Ne.symm n3, Ne.symm n4, Ne.symm na', Ne.symm nb', Ne.symm na'b, Ne.symm nb'a]) (by
      intro z hz
      simp only [List.mem_cons, List.not_mem_nil, or_false] at hz
      rcases hz with rfl | rfl | rfl | rfl | rfl
      · exact yp
      · exact ap
      · exact bp
      · exact a'p
      · exact b'p)
    simp only [List.length_cons, List.length_nil] at ge
    omega
  subst eq
  refine (hang_by ha (by rw [al y yp]; omega)).mpr fun z hz => ?_
  rcases k z hz with rfl | rfl
  · exact .zero
  · exact .step .zero hb (mated_iff.mpr ⟨a', ha', na', hb'⟩)
end
end R
end

-- K08b
section
set_option Elab.async false
set_option linter.all false
set_option maxRecDepth 100000
set_option maxHeartbeats 4000000
namespace R
noncomputable section
open PySem PySem.Spec PyProof.Rows L2 LamX NdefX Pu
open MinX
/-! the law's ways -/
def rowT (r : List Int) : D := .tuple (r.map .int)
def fD (n : Int) (W : Int → List (List Int)) : List D := (AllN n).map fun y => .list ((W y).map rowT)
def rowsLd (n : Int) (ps : List Pr) : List D := (AllN n).map fun x => .list ((rowOf ps x).map .int)
theorem all_setD {n i : Int} {v : D} {f : Int → D} (hi : 0 ≤ i ∧ i < n) : ((AllN n).map f).set i.toNat v = (AllN n).map fun c => if c = i then v else f c := by
  refine List.ext_getElem? fun k => ?_
  rw [List.getElem?_set, List.getElem?_map, List.length_map, alln_len]
  by_cases hk : k < n.toNat
  · rw [List.getElem?_map, alln_at hk]
    by_cases e : i.toNat = k
    · rw [if_pos e, if_pos (by omega)]
      show some v = some (if (k : Int) = i then v else f k)
      rw [if_pos (by omega)]
    · rw [if_neg e]
      show some (f k) = some (if (k : Int) = i then v else f k)
      rw [if_neg (by omega)]
  · rw [List.getElem?_map, List.getElem?_eq_none (by rw [alln_len]; omega)]
    by_cases e : i.toNat = k
    · rw [if_pos e, if_neg (by omega)]; rfl
    · rw [if_neg e]; rfl
def updW (W : Int → List (List Int)) (y : Int) (v : List (List Int)) : Int → List (List Int) := fun u => if u = y then v else W u
theorem fD_set {n y : Int} {W : Int → List (List Int)} {v : List (List Int)} (hy : 0 ≤ y ∧ y < n) : (fD n W).set y.toNat (.list (v.map rowT)) = fD n (updW W y v) := by
  unfold fD
  rw [all_setD hy]
  refine List.map_congr_left fun u _ => ?_
  unfold updW
  split <;> rfl
theorem fD_len {n : Int} {W : Int → List (List Int)} : (fD n W).length = n.toNat := by unfold fD; rw [List.length_map, alln_len]
theorem fD_at {n y : Int} {W : Int → List (List Int)} (hy : 0 ≤ y ∧ y < n) : atI (fD n W) y = some (.list ((W y).map rowT)) := atI_all (f := fun y => .list ((W y).map rowT)) hy
theorem rowsLd_at {n y : Int} {ps : List Pr} (hy : 0 ≤ y ∧ y < n) : atI (rowsLd n ps) y = some (.list ((rowOf ps y).map .int)) := atI_all (f := fun x => .list ((rowOf ps x).map .int)) hy
theorem addW_snoc {ps : List Pr} {W : Int → List (List Int)} {L : List Int} {y z : Int} : addW ps W (L ++ [z]) y = addW ps W L y ++ (if y ∈ rowOf ps z then (W z).map (· ++ [y]) else []) := by
  unfold addW
  rw [List.filter_append, List.flatMap_append]
  congr 1
  by_cases h : y ∈ rowOf ps z
  · rw [if_pos h, List.filter_cons_of_pos (by exact decide_eq_true h)]; simp
  · rw [if_neg h, List.filter_cons_of_neg (by simpa using h)]; rfl
/-- what holds of the cells found after t turns -/
structure WI (n : Int) (ps : List Pr) (x : Int) (t : Nat) (W : Int → List (List Int)) (L : List Int) : Prop where
  l : L = (AllN n).filter fun y => decide (dst ps x y = t)
  ok : ∀ y, 0 ≤ y ∧ y < n → 0 ≤ dst ps x y → dst ps x y ≤ t → FullW ps x (dst ps x y).toNat y (W y)
  no : ∀ y, 0 ≤ y ∧ y < n → ¬ (0 ≤ dst ps x y ∧ dst ps x y ≤ t) → W y = []
  j : totW W L * totW W L * totW W L * 3 ^ ((AllN n).filter fun y => decide (W y = [])).length ≤ 3 ^ 40
theorem WI.mem {n x : Int} {ps : List Pr} {t : Nat} {W : Int → List (List Int)} {L : List Int} (w : WI n ps x t W L) {z : Int} : z ∈ L ↔ (0 ≤ z ∧ z < n) ∧ dst ps x z = t := by
  rw [w.l, List.mem_filter, alln_mem, decide_eq_true_eq]
theorem WI.full {n x : Int} {ps : List Pr} {t : Nat} {W : Int → List (List Int)} {L : List Int} (w : WI n ps x t W L) {z : Int} (h : z ∈ L) : FullW ps x t z (W z) := by
  obtain ⟨h1, h2⟩ := w.mem.mp h
  have := w.ok z h1 (by omega) (by omega)
  rw [h2] at this
  exact this
theorem WI.nil {n x : Int} {ps : List Pr} (v : Valid n ps) {t : Nat} {W : Int → List (List Int)} {L : List Int} (w : WI n ps x t W L) {y : Int} (hy : 0 ≤ y ∧ y < n) : W y = [] ↔ ¬ (0 ≤ dst ps x y ∧ dst ps x y ≤ t) := by
  constructor
  · intro e c
    exact full_ne v (d := (dst ps x y).toNat) (by omega) (w.ok y hy c.1 c.2) e
  · exact w.no y hy
theorem WI.start {n x : Int} {ps : List Pr} (hn : 1 ≤ n ∧ n ≤ 40) (hx : 0 ≤ x ∧ x < n) : WI n ps x 0 (updW (fun _ => []) x [[x]]) [x] := by
  have at0 : ∀ y, dst ps x y = 0 ↔ y = x := fun y => ⟨dst_zero, fun e => by rw [e]; exact dst_self ps x⟩
  have e1 : (AllN n).filter (fun y => decide (dst ps x y = ((0 : Nat) : Int))) = [x] := by
    have a : (AllN n).filter (fun y => decide (dst ps x y = ((0 : Nat) : Int))) = (AllN n).filter (fun y => decide (y = x)) := List.filter_congr fun y _ => by
      rw [decide_eq_decide]; exact at0 y
    rw [a]
    have nd : (AllN n).Nodup := alln_nodup
    have m : x ∈ AllN n := alln_mem.mpr hx
    rw [show (fun y : Int => decide (y = x)) = fun y => y == x by funext y; exact Bool.eq_iff_iff.mpr (by rw [decide_eq_true_eq, beq_iff_eq]), List.filter_beq, nd.count, if_pos m]
    rfl
  refine ⟨e1.symm, fun y hy h1 h2 => ?_, fun y hy h => ?_, ?_⟩
  · have e : y = x := (at0 y).mp (by omega)
    subst e
    rw [dst_self]
    unfold updW
    rw [if_pos rfl]
    exact FullW.start
  · unfold updW
    rw [if_neg fun e => h (by rw [e, dst_self]; omega)]
  · have t1 : totW (updW (fun _ => []) x [[x]]) [x] = 1 := by unfold totW updW; simp
    rw [t1]
    have l := List.length_filter_le (fun y => decide (updW (fun _ => []) x [[x]] y = [])) (AllN n)
    rw [alln_len] at l
    have := Nat.pow_le_pow_right (show 0 < 3 by decide) (show ((AllN n).filter fun y => decide (updW (fun _ => []) x [[x]] y = [])).length ≤ 40 by omega)
    omega
def nextW (ps : List Pr) (W : Int → List (List Int)) (L S : List Int) : Int → List (List Int) := fun u => if u ∈ S then addW ps W L u else W u
theorem WI.next {n x : Int} {ps : List Pr} (v : Valid n ps) (hn : 1 ≤ n ∧ n ≤ 40) (hx : 0 ≤ x ∧ x < n) {t : Nat} {W : Int → List (List Int)} {L : List Int} (w : WI n ps x t W L) :
    WI n ps x (t + 1) (nextW ps W L ((AllN n).filter fun y => decide (W y = []))) (((AllN n).filter fun y => decide (W y = [])).filter fun y => decide (¬ nextW ps W L ((AllN n).filter fun y => decide (W y = [])) y = [])) := by
  obtain ⟨F, hF⟩ : ∃ F, F = (AllN n).filter fun y => decide (W y = []) := ⟨_, rfl⟩
  have jj := w.j
  rw [← hF] at jj ⊢
  have mF : ∀ y, y ∈ F ↔ (0 ≤ y ∧ y < n) ∧ ¬ (0 ≤ dst ps x y ∧ dst ps x y ≤ t) := fun y => by
    rw [hF, List.mem_filter, alln_mem, decide_eq_true_eq]
    exact ⟨fun h => ⟨h.1, (w.nil v h.1).mp h.2⟩, fun h => ⟨h.1, (w.nil v h.1).mpr h.2⟩⟩
  have inF : ∀ y, y ∈ F → nextW ps W L F y = addW ps W L y := fun y h => by unfold nextW; exact if_pos h
  have ouF : ∀ y, y ∉ F → nextW ps W L F y = W y := fun y h => by unfold nextW; exact if_neg h
  have new : ∀ y, dst ps x y = t + 1 → FullW ps x (t + 1) y (addW ps W L y) := fun y hy => FullW.next v hx (fun z => w.mem) (fun z h => w.full h) hy
  have old : ∀ y, y ∈ F → dst ps x y ≠ t + 1 → addW ps W L y = [] := fun y hy ne => by
    refine List.eq_nil_iff_forall_not_mem.mpr fun u hu => ?_
    obtain ⟨z, ⟨zl, zy⟩, _⟩ := mem_addW.mp hu
    have hz := (w.mem.mp zl).2
    have lk := dst_link zy (show 0 ≤ dst ps x z by omega)
    exact ((mF y).mp hy).2 ⟨lk.1, by omega⟩
  have ne : ∀ y, y ∈ F → (¬ nextW ps W L F y = [] ↔ dst ps x y = t + 1) := fun y hy => by
    rw [inF y hy]
    constructor
    · intro h
      exact Classical.byContradiction fun c => h (old y hy c)
    · intro h
      exact full_ne v (d := t + 1) (by omega) (new y h)
  have lF : F.filter (fun y => decide (¬ nextW ps W L F y = [])) = (AllN n).filter fun y => decide (dst ps x y = ((t + 1 : Nat) : Int)) := by
    have a : F.filter (fun y => decide (¬ nextW ps W L F y = [])) = F.filter fun y => decide (dst ps x y = ((t + 1 : Nat) : Int)) := List.filter_congr fun y hy => by
      rw [decide_eq_decide, ne y hy]
      omega
    rw [a, hF, List.filter_filter]
    refine List.filter_congr fun y hy => ?_
    have yin := alln_mem.mp hy
    by_cases c : dst ps x y = ((t + 1 : Nat) : Int)
    · rw [decide_eq_true c, decide_eq_true ((w.nil v yin).mpr (by omega))]; rfl
    · rw [decide_eq_false c]; rfl
  refine ⟨lF, fun y hy h1 h2 => ?_, fun y hy h => ?_, ?_⟩
  · by_cases c : dst ps x y ≤ t
    · rw [ouF y fun m => ((mF y).mp m).2 ⟨h1, c⟩]
      exact w.ok y hy h1 c
    · have e : dst ps x y = t + 1 := by omega
      rw [inF y ((mF y).mpr ⟨hy, fun z => c z.2⟩), e]
      exact new y e
  · have m : y ∈ F := (mF y).mpr ⟨hy, fun z => h ⟨z.1, by omega⟩⟩
    rw [inF y m]
    exact old y m fun e => h (by omega)
  · have split : (F.filter fun y => decide (¬ nextW ps W L F y = [])).length + ((AllN n).filter fun y => decide (nextW ps W L F y = [])).length ≤ F.length := by
      have a : ((AllN n).filter fun y => decide (nextW ps W L F y = [])) = F.filter fun y => decide (nextW ps W L F y = []) := by
        obtain ⟨p, hp⟩ : ∃ p : Int → Bool, p = fun y => decide (nextW ps W L F y = []) := ⟨_, rfl⟩
        rw [← hp, hF, List.filter_filter]
        refine List.filter_congr fun y hy => ?_
        have yin := alln_mem.mp hy
        by_cases c : W y = []
        · rw [decide_eq_true c, Bool.and_true]
        · rw [decide_eq_false c, Bool.and_false, hp]
          exact decide_eq_false (by rw [ouF y fun m => c (by rw [hF] at m; exact of_decide_eq_true (List.mem_filter.mp m).2)]; exact c)
      rw [a, ← List.countP_eq_length_filter, ← List.countP_eq_length_filter, List.length_eq_countP_add_countP (fun y => decide (nextW ps W L F y = []))]
      have b : F.countP (fun y => decide (¬ nextW ps W L F y = [])) = F.countP (fun y => decide ¬ (decide (nextW ps W L F y = []) = true)) := List.countP_congr fun y _ => by simp
      omega
    have fl : (F.filter fun y => decide (¬ nextW ps W L F y = [])).length ≤ 40 := by
      have a := List.length_filter_le (fun y => decide (¬ nextW ps W L F y = [])) F
      have b := List.length_filter_le (fun y => decide (W y = [])) (AllN n)
      rw [← hF, alln_len] at b
      omega
    refine tot_turn fl jj (totW_le fun z hz => ?_) split
    rw [inF z (List.mem_filter.mp hz).1]
    exact addW_len ps W L z
theorem WI.small {n x : Int} {ps : List Pr} {t : Nat} {W : Int → List (List Int)} {L : List Int} (w : WI n ps x t W L) : totW W L ≤ 4000000 := tot_small w.j
end
end R
end

-- K08c
section
set_option Elab.async false
set_option linter.all false
set_option maxRecDepth 100000
set_option maxHeartbeats 4000000
namespace R
noncomputable section
open PySem PySem.Spec PyProof.Rows L2 LamX NdefX Pu
open MinX
def StW (n x : Int) (ps : List Pr) (W : Int → List (List Int)) (a3 a5 a6 a7 a8 : S) : Pu.Env := [.v (.int n), .v (.list (rowsLd n ps)), .v (.int x), a3, .own (fD n W), a5, a6, a7, a8, .un]
theorem rowT_eq {r : List Int} : rowT r = .tuple (r.map .int) := rfl
theorem sh_rowT {r : List Int} : Sh 2 (rowT r) := sh_intT
theorem szlt {n : Nat} (h : n ≤ 8000000) : n < sizeLine := by unfold sizeLine; omega
/-- one cell of the last turn -/
theorem ways_z {n x y z : Int} {ps : List Pr} {W : Int → List (List Int)} {a5 a6 a7 u : S} (fu : freeS u = true) (hy : 0 ≤ y ∧ y < n) (hz : 0 ≤ z ∧ z < n) (ne : z ≠ y) {B : List (List Int)} (lb : B.length ≤ 4000000) (lw : (W z).length ≤ 4000000) (lr : ∀ r ∈ W z, r.length ≤ 1000) :
    stepF (pName 8) FB_Lways_1 (.int z) (StW n x ps (updW W y B) (.v (.int y)) a5 a6 a7 u) = .nx (StW n x ps (updW W y (B ++ if y ∈ rowOf ps z then (W z).map (· ++ [y]) else [])) (.v (.int y)) a5 a6 a7 (.v (.int z))) := by
  have rz := rowsLd_at (ps := ps) hz
  have fz : atI (fD n (updW W y B)) z = some (.list ((W z).map rowT)) := by
    rw [fD_at hz]
    unfold updW
    rw [if_neg ne]
  have fy : atI (fD n (updW W y B)) y = some (.list (B.map rowT)) := by
    rw [fD_at hy]
    unfold updW
    rw [if_pos rfl]
  have ix : ixN (fD n (updW W y B)).length y = some y.toNat := by
    rw [fD_len]
    exact ixN_nn hy.1 (by omega)
  rw [stepF_ap]
  unfold FB_Lways_1 StW
  by_cases h : y ∈ rowOf ps z
  · have lc : LC_Lways_3 [.v (.int n), .v (.list (rowsLd n ps)), .v (.int x), .v (.int y), .own (fD n (updW W y B)), a5, a6, a7, .v (.int z), .un] = .ok (.own (((W z).map (· ++ [y])).map rowT)) [.v (.int n), .v (.list (rowsLd n ps)), .v (.int x), .v (.int y), .own (fD n (updW W y B)), a5, a6, a7, .v (.int z), .un] := by
      unfold LC_Lways_3
      simp only [sS, fz]
      rw [lc_all rowT (fun r => rowT (r ++ [y])) (W z) (szB (by omega)) (fun r hr => by
        have sz := szB (show (r.map PyData.int).length + 1 ≤ 8000000 by rw [List.length_map]; have := lr r hr; omega)
        rw [rowT_eq]
        rw [List.length_map] at sz
        simp only [sS, sz, rowT_eq, List.map_append])]
      simp only [sS, List.map_map]
      rfl
    have sz := szB (show (B.map rowT).length + (((W z).map (· ++ [y])).map rowT).length ≤ 8000000 by simp only [List.length_map]; omega)
    simp only [List.length_map] at sz
    have fs := fD_set (n := n) (W := updW W y B) (v := B ++ (W z).map (· ++ [y])) hy
    have uu : updW (updW W y B) y (B ++ (W z).map (· ++ [y])) = updW W y (B ++ (W z).map (· ++ [y])) := by
      funext v
      unfold updW
      split <;> rfl
    rw [uu, List.map_append] at fs
    simp only [sS, fu, rz, decide_eq_true h, fy, lc, ix, if_pos h, sz, fs]
  · simp only [sS, fu, rz, decide_eq_false h, if_neg h, List.append_nil]
/-- all cells of the last turn -/
theorem ways_y {n x y : Int} {ps : List Pr} (hn : 1 ≤ n ∧ n ≤ 40) {t : Nat} {W W0 : Int → List (List Int)} {L : List Int} (w : WI n ps x t W0 L) (tn : (t : Int) < n) {a3 a5 a6 a7 u : S} (fu : freeS u = true) (h5 : a5 = .own (L.map .int) ∨ a5 = .v (.list (L.map .int))) (hy : 0 ≤ y ∧ y < n) (wy : W y = []) (ny : y ∉ L) (hW : ∀ z ∈ L, W z = W0 z) :
    (FB_Lways_2 (StW n x ps W (.v (.int y)) a5 a6 a7 u)).sat (fun ρ => ∃ (b5 u' : S), ρ = StW n x ps (updW W y (addW ps W0 L y)) (.v (.int y)) b5 a6 a7 u' ∧ freeS u' = true ∧ (b5 = .own (L.map .int) ∨ b5 = .v (.list (L.map .int)))) (fun _ _ => False) noP noP noX := by
  have up : ∀ V, ∀ z ∈ L, updW W y V z = W0 z := fun V z hz => by
    unfold updW
    rw [if_neg fun e => ny (by rw [← e]; exact hz)]
    exact hW z hz
  have self : W = updW W y [] := by
    funext v
    unfold updW
    split
    · rename_i e; rw [e, wy]
    · rfl
  have main : ∀ b5 : S, (b5 = .own (L.map .int) ∨ b5 = .v (.list (L.map .int))) → (forC (pName 8) FB_Lways_1 (L.map PyData.int) (StW n x ps W (.v (.int y)) b5 a6 a7 u)).sat (fun ρ => ∃ (b5 u' : S), ρ = StW n x ps (updW W y (addW ps W0 L y)) (.v (.int y)) b5 a6 a7 u' ∧ freeS u' = true ∧ (b5 = .own (L.map .int) ∨ b5 = .v (.list (L.map .int)))) (fun _ _ => False) noP noP noX := fun b5 hb => by
    refine forM PyData.int (fun i ρ => ∃ (u' : S), ρ = StW n x ps (updW W y (addW ps W0 (L.take i) y)) (.v (.int y)) b5 a6 a7 u' ∧ freeS u' = true) ⟨u, by rw [List.take_zero, show addW ps W0 [] y = [] from rfl, ← self], fu⟩ ?_ ?_
    · rintro i z ρ hz ⟨u', rfl, fu'⟩
      have zm := List.mem_of_getElem? hz
      have zin := (w.mem.mp zm).1
      have tot := w.small
      have z1 := tot_one (W := W0) zm
      have a1 : (addW ps W0 (L.take i) y).length ≤ 4000000 := by
        refine Nat.le_trans (addW_len ps W0 (L.take i) y) (Nat.le_trans ?_ tot)
        unfold totW
        have := List.take_append_drop i L
        conv => rhs; rw [← this, List.map_append, List.sum_append]
        exact Nat.le_add_right _ _
      have lr : ∀ r ∈ W z, r.length ≤ 1000 := fun r hr => by
        rw [hW z zm] at hr
        obtain ⟨f, rfl, _⟩ := (w.full zm r).mp hr
        unfold rowF
        simp
        omega
      rw [ways_z fu' hy zin (fun e => ny (by rw [← e]; exact zm)) a1 (by rw [hW z zm]; omega) lr, hW z zm]
      have tk : L.take (i + 1) = L.take i ++ [z] := by rw [List.take_add_one, hz]; rfl
      refine ⟨.v (.int z), ?_, rfl⟩
      rw [tk, addW_snoc]
    · rintro ρ ⟨u', rfl, fu'⟩
      rw [List.take_length]
      exact ⟨_, u', rfl, fu', hb⟩
  unfold FB_Lways_2 FR_Lways_1
  rewrite [qFor_ap]
  rcases h5 with rfl | rfl
  · have il : qIl (qVar 5) (StW n x ps W (.v (.int y)) (.own (L.map .int)) a6 a7 u) = .ok (L.map .int) (StW n x ps W (.v (.int y)) (.v (.list (L.map .int))) a6 a7 u) := by
      unfold StW
      simp only [sS]
    rewrite [il, c_ok]
    exact main _ (.inr rfl)
  · have il : qIl (qVar 5) (StW n x ps W (.v (.int y)) (.v (.list (L.map .int))) a6 a7 u) = .ok (L.map .int) (StW n x ps W (.v (.int y)) (.v (.list (L.map .int))) a6 a7 u) := by
      unfold StW
      simp only [sS]
    rewrite [il, c_ok]
    exact main _ (.inr rfl)
/-- all fresh cells -/
theorem ways_f {n x : Int} {ps : List Pr} (hn : 1 ≤ n ∧ n ≤ 40) {t : Nat} {W0 : Int → List (List Int)} {L F : List Int} (w : WI n ps x t W0 L) (tn : (t : Int) < n) (v : Valid n ps) (hF : F = (AllN n).filter fun y => decide (W0 y = [])) {a3 a5 a6 a8 : S} (f3 : freeS a3 = true) (f8 : freeS a8 = true) (h5 : a5 = .own (L.map .int) ∨ a5 = .v (.list (L.map .int))) :
    (FR_Lways_2 (StW n x ps W0 a3 a5 a6 (.own (F.map .int)) a8)).sat (fun ρ => ∃ (b3 b5 b8 : S), ρ = StW n x ps (nextW ps W0 L F) b3 b5 a6 (.v (.list (F.map .int))) b8 ∧ (b3 = a3 ∨ ∃ i, b3 = .v (.int i)) ∧ freeS b8 = true ∧ (b5 = .own (L.map .int) ∨ b5 = .v (.list (L.map .int)))) (fun _ _ => False) noP noP noX := by
  have nd : F.Nodup := by rw [hF]; exact alln_nodup.filter _
  have mF : ∀ y, y ∈ F → (0 ≤ y ∧ y < n) ∧ W0 y = [] := fun y h => by
    rw [hF, List.mem_filter, alln_mem, decide_eq_true_eq] at h
    exact h
  have lF : ∀ z ∈ L, z ∉ F := fun z hz hf => full_ne v (d := t) (w.mem.mp hz).2 (w.full hz) (mF z hf).2
  unfold FR_Lways_2
  have il : qIl (qVar 7) (StW n x ps W0 a3 a5 a6 (.own (F.map .int)) a8) = .ok (F.map .int) (StW n x ps W0 a3 a5 a6 (.v (.list (F.map .int))) a8) := by
    unfold StW
    simp only [sS]
  rewrite [qFor_ap, il, c_ok]
  refine forM PyData.int (fun i ρ => ∃ (b3 b5 b8 : S), ρ = StW n x ps (nextW ps W0 L (F.take i)) b3 b5 a6 (.v (.list (F.map .int))) b8 ∧ (b3 = a3 ∨ ∃ i, b3 = .v (.int i)) ∧ freeS b8 = true ∧ (b5 = .own (L.map .int) ∨ b5 = .v (.list (L.map .int)))) ⟨a3, a5, a8, ?_, .inl rfl, f8, h5⟩ ?_ ?_
  · have : nextW ps W0 L (F.take 0) = W0 := by
      funext u
      unfold nextW
      rw [List.take_zero]
      exact if_neg (fun z => nomatch z)
    rw [this]
  · rintro i y ρ hy ⟨b3, b5, b8, rfl, g3, g8, g5⟩
    have ym := List.mem_of_getElem? hy
    obtain ⟨yin, wy⟩ := mF y ym
    have tk : F.take (i + 1) = F.take i ++ [y] := by rw [List.take_add_one, hy]; rfl
    have yt : y ∉ F.take i := fun m => by
      obtain ⟨k, hk⟩ := List.mem_iff_getElem?.mp m
      have kl := (List.getElem?_eq_some_iff.mp hk).1
      rw [List.length_take] at kl
      rw [List.getElem?_take_of_lt (by omega)] at hk
      have := (List.getElem?_inj (by omega) nd).mp (hk.trans hy.symm)
      omega
    have b3f : freeS b3 = true := by
      rcases g3 with rfl | ⟨i, rfl⟩
      · exact f3
      · rfl
    have wy' : nextW ps W0 L (F.take i) y = [] := by
      unfold nextW
      rw [if_neg yt]; exact wy
    have wl : ∀ z ∈ L, nextW ps W0 L (F.take i) z = W0 z := fun z hz => by
      unfold nextW
      exact if_neg fun m => lF z hz (List.mem_of_mem_take m)
    have st : pName 3 (.int y) (StW n x ps (nextW ps W0 L (F.take i)) b3 b5 a6 (.v (.list (F.map .int))) b8) = some (StW n x ps (nextW ps W0 L (F.take i)) (.v (.int y)) b5 a6 (.v (.list (F.map .int))) b8) := by
      unfold StW
      simp only [sS, b3f]
    rw [stepF_ap, st]
    dsimp only
    refine Ctl.sat.imp (ways_y (a3 := b3) hn w tn g8 g5 yin wy' (fun z => lF y z ym) wl) ?_ (fun _ _ h => h.elim) (fun _ h => h.elim) (fun _ h => h.elim) (fun _ _ _ h => h.elim)
    rintro ρ ⟨c5, u', rfl, fu', h5'⟩
    refine ⟨.v (.int y), c5, u', ?_, .inr ⟨y, rfl⟩, fu', h5'⟩
    congr 1
    funext u
    unfold updW nextW
    rw [tk]
    by_cases e : u = y
    · subst e
      rw [if_pos rfl, if_pos (by simp)]
    · rw [if_neg e]
      by_cases m : u ∈ F.take i
      · rw [if_pos m, if_pos (by simp [m])]
      · rw [if_neg m, if_neg (by simp [m, e])]
  · rintro ρ ⟨b3, b5, b8, rfl, g3, g8, g5⟩
    rw [List.take_length]
    exact ⟨b3, b5, b8, rfl, g3, g8, g5⟩
theorem eq_nilL {ds : List D} (h : ∀ d ∈ ds, Sh 2 d) : dEq (.list ds) (.list []) = some (.v (.bool (decide (ds = [])))) := by
  have s1 : Sh 3 (.list ds) := sh_list h
  have s2 : Sh 3 (.list []) := sh_list fun d m => nomatch m
  show (if SeqAt.shaped (.list ds) = true ∧ SeqAt.shaped (.list []) = true then some (Rk.v (.bool (PyData.eqv (.list ds) (.list [])))) else none) = _
  rw [if_pos ⟨s1.ok, s2.ok⟩]
  cases ds <;> rfl
theorem ne_nilL {ds : List D} (h : ∀ d ∈ ds, Sh 2 d) : dNe (.list ds) (.list []) = some (.v (.bool (!decide (ds = [])))) := by
  have s1 : Sh 3 (.list ds) := sh_list h
  have s2 : Sh 3 (.list []) := sh_list fun d m => nomatch m
  show (if SeqAt.shaped (.list ds) = true ∧ SeqAt.shaped (.list []) = true then some (Rk.v (.bool (!PyData.eqv (.list ds) (.list [])))) else none) = _
  rw [if_pos ⟨s1.ok, s2.ok⟩]
  cases ds <;> rfl
theorem map_nilL {W : List (List Int)} : decide (W.map rowT = []) = decide (W = []) := by
  rw [decide_eq_decide]
  exact List.map_eq_nil_iff
theorem eq_nilW {W : List (List Int)} : dEq (.list (W.map rowT)) (.list []) = some (.v (.bool (decide (W = [])))) := by
  rw [eq_nilL (sh_map fun _ => sh_rowT), map_nilL]
theorem ne_nilW {W : List (List Int)} : dNe (.list (W.map rowT)) (.list []) = some (.v (.bool (!decide (W = [])))) := by
  rw [ne_nilL (sh_map fun _ => sh_rowT), map_nilL]
end
end R
end

-- K08d
section
set_option Elab.async false
set_option linter.all false
set_option maxRecDepth 100000
set_option maxHeartbeats 4000000
namespace R
noncomputable section
open PySem PySem.Spec PyProof.Rows L2 LamX NdefX Pu
open MinX
def freshW (n : Int) (W : Int → List (List Int)) : List Int := (AllN n).filter fun y => decide (W y = [])
def itW (ps : List Pr) (n x : Int) : Nat → (Int → List (List Int)) × List Int
  | 0 => (updW (fun _ => []) x [[x]], [x])
  | t + 1 => (nextW ps (itW ps n x t).1 (itW ps n x t).2 (freshW n (itW ps n x t).1), (freshW n (itW ps n x t).1).filter fun y => decide (¬ nextW ps (itW ps n x t).1 (itW ps n x t).2 (freshW n (itW ps n x t).1) y = []))
theorem itW_is {n x : Int} {ps : List Pr} (v : Valid n ps) (hn : 1 ≤ n ∧ n ≤ 40) (hx : 0 ≤ x ∧ x < n) : ∀ t, WI n ps x t (itW ps n x t).1 (itW ps n x t).2
  | 0 => WI.start hn hx
  | t + 1 => (itW_is v hn hx t).next v hn hx
theorem lc2_is {n x : Int} {ps : List Pr} (hn : 1 ≤ n ∧ n ≤ 40) {W : Int → List (List Int)} {b3 b5 b6 b7 b8 : S} (h3 : b3 = .un ∨ ∃ i, b3 = .v (.int i)) :
    LC_Lways_2 (StW n x ps W b3 b5 b6 b7 b8) = .ok (.own ((freshW n W).map .int)) (StW n x ps W b3 b5 b6 b7 b8) := by
  unfold LC_Lways_2 StW
  have b6' := b62_of (show -4000000000 ≤ n ∧ n ≤ 4000000000 by omega)
  rcases h3 with rfl | ⟨i, rfl⟩
  · simp only [sS, b6', iot0]
    rw [lc_map PyData.int (fun y => decide (W y = [])) PyData.int (AllN n) [] (by simpa using szB (by rw [alln_len]; omega)) (fun y hy => by
      have fa := fD_at (W := W) (alln_mem.mp hy)
      simp only [sS, fa, eq_nilW])]
    unfold freshW
    simp only [sS]
  · simp only [sS, b6', iot0]
    rw [lc_map PyData.int (fun y => decide (W y = [])) PyData.int (AllN n) [] (by simpa using szB (by rw [alln_len]; omega)) (fun y hy => by
      have fa := fD_at (W := W) (alln_mem.mp hy)
      simp only [sS, fa, eq_nilW])]
    unfold freshW
    simp only [sS]
theorem lc4_is {n x : Int} {ps : List Pr} {W : Int → List (List Int)} {F : List Int} (hF : ∀ y ∈ F, 0 ≤ y ∧ y < n) (hl : F.length ≤ 1000) {b3 b5 b6 b8 : S} (h3 : b3 = .un ∨ ∃ i, b3 = .v (.int i)) :
    LC_Lways_4 (StW n x ps W b3 b5 b6 (.v (.list (F.map .int))) b8) = .ok (.own ((F.filter fun y => decide (¬ W y = [])).map .int)) (StW n x ps W b3 b5 b6 (.v (.list (F.map .int))) b8) := by
  unfold LC_Lways_4 StW
  have fl : (fun y => !decide (W y = [])) = fun y => decide (¬ W y = []) := by funext y; exact (decide_not).symm
  rcases h3 with rfl | ⟨i, rfl⟩
  · simp only [sS]
    rw [lc_map PyData.int (fun y => !decide (W y = [])) PyData.int F [] (by simpa using szB (by omega)) (fun y hy => by
      have fa := fD_at (W := W) (hF y hy)
      simp only [sS, fa, ne_nilW]), fl]
    simp only [sS]
  · simp only [sS]
    rw [lc_map PyData.int (fun y => !decide (W y = [])) PyData.int F [] (by simpa using szB (by omega)) (fun y hy => by
      have fa := fD_at (W := W) (hF y hy)
      simp only [sS, fa, ne_nilW]), fl]
    simp only [sS]
theorem lways_is {n x : Int} {ps : List Pr} (v : Valid n ps) (hn : 1 ≤ n ∧ n ≤ 40) (hx : 0 ≤ x ∧ x < n) : run0 F_Lways [.v (.int n), .v (.list (rowsLd n ps)), .v (.int x)] = .ok (.own (fD n (itW ps n x n.toNat).1)) := by
  have b6 := b62_of (show -4000000000 ≤ n ∧ n ≤ 4000000000 by omega)
  have lc1 : LC_Lways_1 [.v (.int n), .v (.list (rowsLd n ps)), .v (.int x), .un, .un, .un, .un, .un, .un, .un] = .ok (.own (fD n fun _ => [])) [.v (.int n), .v (.list (rowsLd n ps)), .v (.int x), .un, .un, .un, .un, .un, .un, .un] := by
    unfold LC_Lways_1
    simp only [sS, b6, iot0]
    rw [lc_all PyData.int (fun _ => PyData.list []) (AllN n) (szB (by rw [alln_len]; omega)) (fun y hy => by simp only [sS])]
    simp only [sS]
    rfl
  have ix : ixN (fD n fun _ => []).length x = some x.toNat := by
    rw [fD_len]
    exact ixN_nn hx.1 (by omega)
  have fs := fD_set (n := n) (W := fun _ => []) (v := [[x]]) hx
  have fs : (fD n fun _ => []).set x.toNat (.list [.tuple [.int x]]) = fD n (updW (fun _ => []) x [[x]]) := fs
  have q0 : qSet 4 LC_Lways_1 [.v (.int n), .v (.list (rowsLd n ps)), .v (.int x), .un, .un, .un, .un, .un, .un, .un] = .nx (StW n x ps (fun _ => []) .un .un .un .un .un) := by
    unfold StW
    simp only [sS, lc1]
  have q1 : qSto 4 (qVar 2) (qLst (qCons (qV (qTup (qCons (qV (qVar 2)) qNil))) qNil)) (StW n x ps (fun _ => []) .un .un .un .un .un) = .nx (StW n x ps (updW (fun _ => []) x [[x]]) .un .un .un .un .un) := by
    unfold StW
    simp only [sS, ix, fs]
  have q2 : qSet 5 (qLst (qCons (qV (qVar 2)) qNil)) (StW n x ps (updW (fun _ => []) x [[x]]) .un .un .un .un .un) = .nx (StW n x ps (updW (fun _ => []) x [[x]]) .un (.own [.int x]) .un .un .un) := by
    unfold StW
    simp only [sS]
  have il : qR1 (qVar 0) (StW n x ps (updW (fun _ => []) x [[x]]) .un (.own [.int x]) .un .un .un) = .ok ((AllN n).map PyData.int) (StW n x ps (updW (fun _ => []) x [[x]]) .un (.own [.int x]) .un .un .un) := by
    unfold StW
    simp only [sS, b6, iot0]
  refine run0_is E_Lways ?_
  unfold B_Lways
  rewrite [sat_seq, q0, sat_nx, sat_seq, q1, sat_nx, sat_seq, q2, sat_nx, sat_seq]
  unfold FR_Lways_3
  rewrite [qFor_ap, il, c_ok]
  refine forM PyData.int (fun t ρ => ∃ (b3 b5 b6 b7 b8 : S), ρ = StW n x ps (itW ps n x t).1 b3 b5 b6 b7 b8 ∧ (b3 = .un ∨ ∃ i, b3 = .v (.int i)) ∧ (b5 = .own ((itW ps n x t).2.map .int) ∨ b5 = .v (.list ((itW ps n x t).2.map .int))) ∧ freeS b6 = true ∧ freeS b7 = true ∧ freeS b8 = true) ⟨.un, .own [.int x], .un, .un, .un, rfl, .inl rfl, .inl rfl, rfl, rfl, rfl⟩ ?_ ?_
  · rintro t i ρ hi ⟨b3, b5, b6, b7, b8, rfl, h3, h5, f6, f7, f8⟩
    have tl := (List.getElem?_eq_some_iff.mp hi).1
    rw [alln_len] at tl
    have w := itW_is v hn hx t
    have f3 : freeS b3 = true := by
      rcases h3 with rfl | ⟨i, rfl⟩ <;> rfl
    have st : pName 6 (.int i) (StW n x ps (itW ps n x t).1 b3 b5 b6 b7 b8) = some (StW n x ps (itW ps n x t).1 b3 b5 (.v (.int i)) b7 b8) := by
      unfold StW
      simp only [sS, f6]
    have l2 := lc2_is (x := x) (ps := ps) hn (W := (itW ps n x t).1) (b3 := b3) (b5 := b5) (b6 := .v (.int i)) (b7 := b7) (b8 := b8) h3
    have p0 : qSet 7 LC_Lways_2 (StW n x ps (itW ps n x t).1 b3 b5 (.v (.int i)) b7 b8) = .nx (StW n x ps (itW ps n x t).1 b3 b5 (.v (.int i)) (.own ((freshW n (itW ps n x t).1).map .int)) b8) := by
      rw [qSet_ap, l2]
      unfold StW
      simp only [sS, f7]
    have p1 := ways_f hn w (by omega) v (F := freshW n (itW ps n x t).1) rfl (a3 := b3) (a5 := b5) (a6 := .v (.int i)) (a8 := b8) f3 f8 h5
    rw [stepF_ap, st]
    dsimp only
    unfold FB_Lways_3
    rewrite [sat_seq, p0, sat_nx, sat_seq]
    refine Ctl.sat.imp p1 ?_ (fun _ _ h => h.elim) (fun _ h => h.elim) (fun _ h => h.elim) (fun _ _ _ h => h.elim)
    rintro ρ ⟨c3, c5, c8, rfl, g3, g8, g5⟩
    have g3' : c3 = .un ∨ ∃ i, c3 = .v (.int i) := by
      rcases g3 with rfl | g
      · exact h3
      · exact .inr g
    have g5f : freeS c5 = true := by rcases g5 with rfl | rfl <;> rfl
    have l4 := lc4_is (n := n) (x := x) (ps := ps) (W := nextW ps (itW ps n x t).1 (itW ps n x t).2 (freshW n (itW ps n x t).1)) (F := freshW n (itW ps n x t).1) (fun y hy => alln_mem.mp (List.mem_filter.mp hy).1) (by
      have := List.length_filter_le (fun y => decide ((itW ps n x t).1 y = [])) (AllN n)
      rw [alln_len] at this
      unfold freshW
      omega) (b3 := c3) (b5 := c5) (b6 := .v (.int i)) (b8 := c8) g3'
    have p2 : qSet 5 LC_Lways_4 (StW n x ps (nextW ps (itW ps n x t).1 (itW ps n x t).2 (freshW n (itW ps n x t).1)) c3 c5 (.v (.int i)) (.v (.list ((freshW n (itW ps n x t).1).map .int))) c8) = .nx (StW n x ps (itW ps n x (t + 1)).1 c3 (.own ((itW ps n x (t + 1)).2.map .int)) (.v (.int i)) (.v (.list ((freshW n (itW ps n x t).1).map .int))) c8) := by
      rw [qSet_ap, l4]
      unfold StW
      simp only [sS, g5f]
      rfl
    rewrite [p2]
    exact ⟨c3, _, _, _, c8, rfl, g3', .inl rfl, rfl, rfl, g8⟩
  · rintro ρ ⟨b3, b5, b6, b7, b8, rfl, h3, h5, f6, f7, f8⟩
    rw [alln_len]
    unfold StW
    simp only [sS]
end
end R
end

-- Outs
section
set_option Elab.async false
set_option linter.all false
set_option maxRecDepth 100000
set_option maxHeartbeats 4000000
namespace R
noncomputable section
open PySem PySem.Spec PyProof.Rows L2 LamX NdefX Pu
/-! a number that is no cell -/
theorem outside_is (s : Sd) {n : Int} (h : 0 ≤ n ∧ n ≤ 1000) : ∃ (y : Int) (s' : Sd), run1 0 F_Loutside [.io s.d, .v (.int n)] = .ok (.v (.int y)) s'.d ∧ ¬ (0 ≤ y ∧ y < n) := by
  refine run1_sd (fun y : Int => Rk.v (.int y)) E_Loutside ?_
  unfold B_Loutside
  obtain ⟨x, s2, t2, x0, x1⟩ := take_ok s 90 (by omega) (by omega)
  obtain ⟨z, s3, t3, z0, z1⟩ := take_ok s2 90 (by omega) (by omega)
  have po : powOk 10 20 = true := by decide
  obtain ⟨y, s4, t4, my⟩ := one_is s3 [.int n, .int (-1), .int (n + 1 + x), .int (-2 - z), .int ((10 : Int) ^ (20 : Int).toNat), .int (-(10 : Int) ^ (20 : Int).toNat)] (by simp) (by simp)
  have hy : ∃ y' : Int, y = .int y' ∧ ¬ (0 ≤ y' ∧ y' < n) := by
    have e : (10 : Int) ^ (20 : Int).toNat = 100000000000000000000 := by decide
    rw [e] at my
    simp only [List.mem_cons, List.not_mem_nil, or_false] at my
    rcases my with rfl | rfl | rfl | rfl | rfl | rfl
    all_goals exact ⟨_, rfl, by omega⟩
  obtain ⟨y', rfl, hy⟩ := hy
  simp only [sS, t2, t3, po, t4]
  exact ⟨y', s4, rfl, rfl, hy⟩
end
end R
end

-- Bes
section
set_option Elab.async false
set_option linter.all false
set_option maxRecDepth 100000
set_option maxHeartbeats 4000000
namespace R
noncomputable section
open PySem PySem.Spec PyProof.Rows L2 LamX NdefX Pu
open SrtO (lexB lexB_iff lexB_no)
/-! two webs side by side -/
def besL (n : Int) (ps qs : List Pr) : List Pr := ps ++ qs.map fun p => (p.1 + n, p.2 + n)
theorem bes_ok {n m : Int} {ps qs : List Pr} (n0 : 0 ≤ n) (m0 : 0 ≤ m) (h1 : Valid n ps) (h2 : Valid m qs) : LkIn (n + m) (besL n ps qs) ∧ (besL n ps qs).Nodup ∧ (besL n ps qs).length = ps.length + qs.length := by
  unfold besL
  refine ⟨fun p hp => ?_, ?_, by rw [List.length_append, List.length_map]⟩
  · rcases List.mem_append.mp hp with hp | hp
    · have := h1.lk p hp; omega
    · obtain ⟨q, hq, rfl⟩ := List.mem_map.mp hp
      have := h2.lk q hq
      dsimp only
      omega
  · rw [List.nodup_append]
    refine ⟨asc_nodup h1.asc, ?_, fun a ha b hb e => ?_⟩
    · rw [List.nodup_iff_pairwise_ne, List.pairwise_map]
      refine (List.nodup_iff_pairwise_ne.mp (asc_nodup h2.asc)).imp fun {a b} ne e => ne ?_
      have e1 := congrArg Prod.fst e
      have e2 := congrArg Prod.snd e
      dsimp only at e1 e2
      exact Prod.ext (by omega) (by omega)
    · obtain ⟨q, hq, rfl⟩ := List.mem_map.mp hb
      have a1 := h1.lk a ha
      have a2 := h2.lk q hq
      rw [e] at a1
      dsimp only at a1
      omega
theorem beside_is (s : Sd) {n m : Int} {ps qs : List Pr} (n0 : 0 ≤ n) (m0 : 0 ≤ m) (h1 : Valid n ps) (h2 : Valid m qs) (hn : n + m ≤ 1000) (l1 : ps.length ≤ 5000) (l2 : qs.length ≤ 5000) :
    ∃ (f : Int → Int) (s' : Sd), run1 0 F_Lbeside [.io s.d, .v (wbD n ps), .v (wbD m qs)] = .ok (.v (wbD (n + m) (srt (ren f (besL n ps qs))))) s'.d ∧ InjOn (n + m) f ∧ Valid (n + m) (srt (ren f (besL n ps qs))) := by
  refine run1_sd (fun f : Int → Int => Rk.v (wbD (n + m) (srt (ren f (besL n ps qs))))) E_Lbeside ?_
  unfold B_Lbeside
  obtain ⟨q1, q2, q3⟩ := bes_ok n0 m0 h1 h2
  obtain ⟨f, s', e, i, v⟩ := renamed_is s q1 q2 (by omega) (by omega) (by omega)
  have a0 : ∀ (n : Int) (ps : List Pr), atI [.int n, lkL ps] 0 = some (.int n) := fun n ps => atI_0
  have a1 : ∀ (n : Int) (ps : List Pr), atI [.int n, lkL ps] 1 = some (lkL ps) := fun n ps => atI_1
  have lc : LC_Lbeside_1 [.io s.d, .v (wbD n ps), .v (wbD m qs), .un, .un, .un] = .ok (.own ((qs.map fun p => (p.1 + n, p.2 + n)).map Pu.prD)) [.io s.d, .v (wbD n ps), .v (wbD m qs), .un, .un, .un] := by
    unfold LC_Lbeside_1
    simp only [sS, a1]
    rw [lc_all Pu.prD (fun p => Pu.prD (p.1 + n, p.2 + n)) _ (sz24 (by omega)) (fun p m => by simp only [sS, a0]; rfl)]
    simp only [sS, List.map_map]
    rfl
  have z := sz24 (show ps.length + qs.length ≤ 100000 by omega)
  have e' : run1 0 F_Lrenamed [.io s.d, .v (.int (n + m)), .v (.list (ps.map Pu.prD ++ (qs.map fun p => (p.1 + n, p.2 + n)).map Pu.prD))] = .ok (.v (wbD (n + m) (srt (ren f (besL n ps qs))))) s'.d := by
    rw [← e]
    unfold besL
    rw [lkL, List.map_append]
  simp only [sS, a0, a1, lc, z, e']
  exact ⟨f, s', rfl, rfl, i, v⟩
end
end R
end

-- Some
section
set_option Elab.async false
set_option linter.all false
set_option maxRecDepth 100000
set_option maxHeartbeats 4000000
namespace R
noncomputable section
open PySem PySem.Spec PyProof.Rows L2 LamX NdefX Pu
open SrtO (lexB lexB_iff lexB_no)
/-! one of all kinds -/
inductive SomeW (m : Int) : Int → List Pr → Prop
  | any {n : Int} {ps : List Pr} : Valid n ps → 1 ≤ n → n ≤ m → SomeW m n ps
  | tree {n : Int} {ps : List Pr} {f : Int → Int} : TreeL n ps → InjOn n f → 1 ≤ n → n ≤ m → Valid n (srt (ren f (srt ps))) → SomeW m n (srt (ren f (srt ps)))
  | round {n : Int} {f : Int → Int} : InjOn n f → 3 ≤ n → n ≤ m → Valid n (srt (ren f (rndL n))) → SomeW m n (srt (ren f (rndL n)))
  | stout {n : Int} {ps : List Pr} {f : Int → Int} : Grown n ps → InjOn n f → Valid n ps → 4 ≤ n → n ≤ m → Valid n (srt (ren f ps)) → SomeW m n (srt (ren f ps))
theorem SomeW.ok {m n : Int} {ps : List Pr} (h : SomeW m n ps) : Valid n ps ∧ 1 ≤ n ∧ n ≤ m := by
  cases h with
  | any h a b => exact ⟨h, a, b⟩
  | tree _ _ a b v => exact ⟨v, a, b⟩
  | round _ a b v => exact ⟨v, by omega, b⟩
  | stout _ _ _ a b v => exact ⟨v, by omega, b⟩
theorem some_is (s : Sd) {m : Int} (h4 : 4 ≤ m) (hm : m ≤ 100) : ∃ (w : Int × List Pr) (s' : Sd), run1 0 F_Lsome [.io s.d, .v (.int m)] = .ok (.v (wbD w.1 w.2)) s'.d ∧ SomeW m w.1 w.2 := by
  refine run1_sd (fun w : Int × List Pr => Rk.v (wbD w.1 w.2)) E_Lsome ?_
  unfold B_Lsome
  obtain ⟨k, s1, t1, k0, k1⟩ := take_ok s 5 (by omega) (by omega)
  obtain ⟨x, s2, t2, x0, x1⟩ := take_ok s1 m (by omega) (by omega)
  obtain ⟨y, s3, t3, y0, y1⟩ := take_ok s1 (m - 2) (by omega) (by omega)
  by_cases c0 : k = 0
  · obtain ⟨ps, s4, e4, v4⟩ := any_is s2 (n := 1 + x) (by omega)
    simp only [sS, t1, eq_true c0, t2, e4]
    exact ⟨(1 + x, ps), s4, rfl, rfl, .any v4 (by omega) (by omega)⟩
  by_cases c1 : k = 1
  · obtain ⟨⟨ps, f⟩, s4, e4, tr, i4, v4⟩ := tree_is s2 (n := 1 + x) (by omega)
    simp only [sS, t1, c0, eq_true c1, t2, e4]
    exact ⟨(1 + x, _), s4, rfl, rfl, .tree tr i4 (by omega) (by omega) v4⟩
  by_cases c2 : k = 2
  · obtain ⟨f, s4, e4, i4, v4⟩ := round_is s3 (n := 3 + y) (by omega)
    simp only [sS, t1, c0, c1, eq_true c2, t3, e4]
    exact ⟨(3 + y, _), s4, rfl, rfl, .round i4 (by omega) (by omega) v4⟩
  obtain ⟨⟨n, ps, f⟩, s4, e4, g4, i4, v4, w4, a4, b4, l4⟩ := stout_is s1 (m := m) (k := 3) h4 hm
  simp only [sS, t1, c0, c1, c2, e4]
  exact ⟨(n, _), s4, rfl, rfl, .stout g4 i4 v4 a4 b4 w4⟩
end
end R
end

-- Lnum
section
set_option Elab.async false
set_option linter.all false
set_option maxRecDepth 100000
set_option maxHeartbeats 4000000
namespace R
noncomputable section
open PySem PySem.Spec PyProof.Rows L2 LamX NdefX Pu
theorem lnum_is {x : Int} : run0 F_Lnumber [.v (.int x)] = .ok (.v (.bool true)) := by
  refine run0_is E_Lnumber ?_
  unfold B_Lnumber
  simp only [sS]
end
end R
end

-- K08e
section
set_option Elab.async false
set_option linter.all false
set_option maxRecDepth 100000
set_option maxHeartbeats 4000000
namespace R
noncomputable section
open PySem PySem.Spec PyProof.Rows L2 LamX NdefX Pu
open MinX
theorem isi_t {xs : List D} : dIsi "tuple" (.tuple xs) = some (.v (.bool true)) := rfl
theorem row_sameT {ns : List Int} (h : ns.length ≤ 100000) : run0 F_Lrow [.v (.tuple (ns.map .int)), .v (.tuple (ns.map .int))] = .ok (.v (.bool true)) := by
  refine run0_is E_Lrow ?_
  unfold B_Lrow FR_Lrow_1
  have zz : ((ns.map PyData.int).zip (ns.map PyData.int)).map (fun p => PyData.tuple [p.1, p.2]) = ns.map fun n => .tuple [.int n, .int n] := by
    rw [List.zip_map', List.map_map]
    rfl
  simp only [sS, isi_t, zz]
  refine forM (fun n : Int => PyData.tuple [.int n, .int n]) (fun _ ρ => ∃ t u, ρ = [.v (.tuple (ns.map .int)), .v (.tuple (ns.map .int)), t, u] ∧ freeS t = true ∧ freeS u = true) ⟨_, _, rfl, rfl, rfl⟩ ?_ ?_
  · rintro i x ρ hx ⟨t, u, rfl, ft, fu⟩
    unfold FB_Lrow_1
    simp only [sS, ft, fu, lnum_is]
    exact ⟨_, _, rfl, rfl, rfl⟩
  · rintro ρ ⟨t, u, rfl, ft, fu⟩
    simp only [sS]
theorem way_is {n x y : Int} {ps : List Pr} {o : D} (v : Valid n ps) (hn : 1 ≤ n ∧ n ≤ 1000) (hl : ps.length ≤ 1000) (hx : 0 ≤ x ∧ x < n) (hy : 0 ≤ y ∧ y < n) (h : run0 F_first_row [.v (.tuple (rowsD n ps)), .v (.int x), .v (.int y)] = .ok (.v o)) : run0 F_way [.v (webD n ps), .v (.int x), .v (.int y)] = .ok (.v o) := by
  have nr := nr_is (n := n) (ps := ps) ⟨v.lk, hl, by omega, by omega⟩
  obtain ⟨f, hf⟩ := opq F_first_row
  obtain ⟨g, hg⟩ := opq F_near_rows
  rewrite [← hf] at h
  rewrite [← hg] at nr
  refine run0_is E_way ?_
  unfold B_way
  rewrite [← hf, ← hg]
  simp only [sS, cell_is, eq_true hx, eq_true hy, qFld_ap', fldK_size, fldK_links, nr, h]
theorem way_x {n x y : Int} {ps : List Pr} (hx : ¬ (0 ≤ x ∧ x < n)) : run0 F_way [.v (webD n ps), .v (.int x), .v (.int y)] = .ex "BadCell" (.int x) := by
  refine run0_eq E_way ?_
  unfold B_way
  obtain ⟨f, hf⟩ := opq F_first_row
  rewrite [← hf]
  simp only [sS, cell_is, hx]
theorem way_y {n x y : Int} {ps : List Pr} (hx : 0 ≤ x ∧ x < n) (hy : ¬ (0 ≤ y ∧ y < n)) : run0 F_way [.v (webD n ps), .v (.int x), .v (.int y)] = .ex "BadCell" (.int y) := by
  refine run0_eq E_way ?_
  unfold B_way
  obtain ⟨f, hf⟩ := opq F_first_row
  rewrite [← hf]
  simp only [sS, cell_is, eq_true hx, hy]
theorem lref_is {w x y d : D} (h : run0 F_way [.v w, .v x, .v y] = .ex "BadCell" d) : run0 F_Lrefusal [.v w, .v x, .v y] = .ok (.own [.str "cell", d]) := by
  refine run0_is E_Lrefusal ?_
  obtain ⟨g, hg⟩ := opq F_way
  rewrite [← hg] at h
  unfold B_Lrefusal TR_Lrefusal_1 TB_Lrefusal_1
  rewrite [← hg]
  simp only [sS, isE_BadSize, es_BadSize_BadCell, es_BadSize_Refused, isE_BadLink, es_BadLink_BadCell, es_BadLink_Refused, isE_TooMany, es_TooMany_BadCell, es_TooMany_Refused, isE_BadCell, es_BadCell_BadCell, es_BadCell_Refused, h]
theorem lay_ce : (PyData.str "cell").canLay0 = true := by decide +kernel
theorem sh_ref {a : Int} : Sh 1 (.list [.str "cell", .int a]) := sh_list fun d m => by
  simp only [List.mem_cons, List.not_mem_nil, or_false] at m
  rcases m with rfl | rfl
  · exact sh_str lay_ce
  · exact sh_int
/-- one way judged -/
theorem wright_is {n x y : Int} {ps : List Pr} (v : Valid n ps) (hn : 1 ≤ n ∧ n ≤ 40) (hl : ps.length ≤ 1000) (hx : 0 ≤ x ∧ x < n) (hy : 0 ≤ y ∧ y < n) : run0 F_Lway_right [.v (webD n ps), .v (.int x), .v (.int y), .v (.list (((itW ps n x n.toNat).1 y).map rowT))] = .ok (.v (.bool true)) := by
  have w := itW_is v hn hx n.toNat
  have dl := dst_lt (s := x) (y := y) v.lk hx
  have sy := dst_symm v.lk x y
  obtain ⟨g1, h1⟩ := opq F_way
  obtain ⟨g2, h2⟩ := opq F_Lrow
  obtain ⟨W, hW⟩ : ∃ W, W = (itW ps n x n.toNat).1 y := ⟨_, rfl⟩
  rw [← hW]
  by_cases c : dst ps x y < 0
  · have e : W = [] := by rw [hW]; exact w.no y hy fun z => by omega
    have fw := way_is v ⟨hn.1, by omega⟩ hl hx hy (first_none v ⟨hn.1, by omega⟩ hx hy (by omega))
    rewrite [← h1] at fw
    have q := eq_nilW (W := W)
    rw [decide_eq_true e] at q
    obtain ⟨R, hR⟩ : ∃ R, R = W.map rowT := ⟨_, rfl⟩
    rewrite [← hR] at q ⊢
    refine run0_is E_Lway_right ?_
    unfold B_Lway_right
    rewrite [← h1]
    simp only [sS, fw, q]
  · obtain ⟨d, hd⟩ : ∃ d : Nat, dst ps x y = d := ⟨(dst ps x y).toNat, by omega⟩
    have fu : FullW ps x d y W := by
      have := w.ok y hy (by omega) (by omega)
      rw [hd, ← hW] at this
      exact this
    have ne := full_ne v hd fu
    have ls := full_least v hd fu
    have mt : dMinT (.list (W.map rowT)) = some (.v (.tuple ((rowF d (goF ps y d x)).map .int))) := by
      have := dMinT_ap ne
      rw [leastT_eq ls] at this
      exact this
    have fw := way_is v ⟨hn.1, by omega⟩ hl hx hy (first_some v ⟨hn.1, by omega⟩ hx hy (d := d) (by omega))
    have rs := row_sameT (ns := rowF d (goF ps y d x)) (by unfold rowF; simp; omega)
    rewrite [← h1] at fw
    rewrite [← h2] at rs
    have q := eq_nilW (W := W)
    rw [decide_eq_false ne] at q
    obtain ⟨R, hR⟩ : ∃ R, R = W.map rowT := ⟨_, rfl⟩
    rewrite [← hR] at q mt ⊢
    refine run0_is E_Lway_right ?_
    unfold B_Lway_right
    rewrite [← h1, ← h2]
    simp only [sS, fw, q, mt, rs]
end
end R
end

-- K08f
section
set_option Elab.async false
set_option linter.all false
set_option maxRecDepth 100000
set_option maxHeartbeats 4000000
namespace R
noncomputable section
open PySem PySem.Spec PyProof.Rows L2 LamX NdefX Pu
open MinX
theorem near_row {n x : Int} {ps : List Pr} (v : Valid n ps) (hl : ps.length ≤ 10000) : run0 F_Lnear [.v (lkL ps), .v (.int x)] = .ok (.own ((rowOf ps x).map .int)) := by
  have := near_is (ps := ps) (x := x) hl
  rw [isort_row v] at this
  exact this
theorem lc4r {n : Int} {ps : List Pr} (v : Valid n ps) (hn : 1 ≤ n ∧ n ≤ 40) (hl : ps.length ≤ 160) {a0 a4 a5 : S} : LC_Lright_4 [a0, .v (.int n), .v (lkL ps), .un, a4, a5, .un, .un, .un, .un, .un, .un, .un] = .ok (.own (rowsLd n ps)) [a0, .v (.int n), .v (lkL ps), .un, a4, a5, .un, .un, .un, .un, .un, .un, .un] := by
  unfold LC_Lright_4
  have nr := fun x => near_row (x := x) v (show ps.length ≤ 10000 by omega)
  obtain ⟨g, hg⟩ := opq F_Lnear
  rewrite [← hg] at nr
  rewrite [← hg]
  simp only [sS, b62_of (show -4000000000 ≤ n ∧ n ≤ 4000000000 by omega), iot0]
  rw [lc_all PyData.int (fun x => .list ((rowOf ps x).map .int)) (AllN n) (szB (by rw [alln_len]; omega)) (fun p _ => by simp only [sS, nr])]
  simp only [sS]
  rfl
def StR (s : Sd) (n : Int) (ps : List Pr) (a3 a4 a5 a7 a8 a9 : S) : Pu.Env := [.io s.d, .v (.int n), .v (lkL ps), a3, a4, a5, .v (webD n ps), a7, a8, a9, .un, .un, .un]
/-- one start -/
theorem one_start (s : Sd) {n x : Int} {ps : List Pr} {es : List Int} (v : Valid n ps) (hn : 1 ≤ n ∧ n ≤ 40) (hl : ps.length ≤ 160) (hx : 0 ≤ x ∧ x < n) (he : ∀ y ∈ es, 0 ≤ y ∧ y < n) {a4 a5 a7 a8 a9 : S} (h5 : a5 = .own (es.map .int) ∨ a5 = .v (.list (es.map .int))) (h7 : a7 = .own (rowsLd n ps) ∨ a7 = .v (.list (rowsLd n ps))) (f8 : freeS a8 = true) (f9 : freeS a9 = true) :
    (FB_Lright_2 (StR s n ps (.v (.int x)) a4 a5 a7 a8 a9)).sat (fun ρ => ∃ (b9 : S), ρ = StR s n ps (.v (.int x)) a4 (.v (.list (es.map .int))) (.v (.list (rowsLd n ps))) (.own (fD n (itW ps n x n.toNat).1)) b9 ∧ freeS b9 = true) (fun _ _ => False) noP noP noX := by
  have lw := lways_is v hn hx
  obtain ⟨W, hW⟩ : ∃ W, W = (itW ps n x n.toNat).1 := ⟨_, rfl⟩
  have wr : ∀ y, 0 ≤ y ∧ y < n → run0 F_Lway_right [.v (webD n ps), .v (.int x), .v (.int y), .v (.list ((W y).map rowT))] = .ok (.v (.bool true)) := fun y hy => by
    rw [hW]; exact wright_is v hn (by omega) hx hy
  rw [← hW] at lw ⊢
  obtain ⟨g1, h1⟩ := opq F_Lways
  obtain ⟨g2, h2⟩ := opq F_Lway_right
  rewrite [← h1] at lw
  rewrite [← h2] at wr
  have p0 : qSet 8 (qCall0 F_Lways none (qaV (qVar 1) (qaV (qVar 7) (qaV (qVar 3) qaNil)))) (StR s n ps (.v (.int x)) a4 a5 a7 a8 a9) = .nx (StR s n ps (.v (.int x)) a4 a5 (.v (.list (rowsLd n ps))) (.own (fD n W)) a9) := by
    rewrite [← h1]
    unfold StR
    rcases h7 with rfl | rfl
    · simp only [sS, lw, f8]
    · simp only [sS, lw, f8]
  have p1 : qIl (qVar 5) (StR s n ps (.v (.int x)) a4 a5 (.v (.list (rowsLd n ps))) (.own (fD n W)) a9) = .ok (es.map PyData.int) (StR s n ps (.v (.int x)) a4 (.v (.list (es.map .int))) (.v (.list (rowsLd n ps))) (.own (fD n W)) a9) := by
    unfold StR
    rcases h5 with rfl | rfl <;> simp only [sS]
  unfold FB_Lright_2 FR_Lright_1
  rewrite [sat_seq, p0, sat_nx, qFor_ap, p1, c_ok]
  refine forM PyData.int (fun _ ρ => ∃ (b9 : S), ρ = StR s n ps (.v (.int x)) a4 (.v (.list (es.map .int))) (.v (.list (rowsLd n ps))) (.own (fD n W)) b9 ∧ freeS b9 = true) ⟨a9, rfl, f9⟩ ?_ ?_
  · rintro i y ρ hy ⟨b9, rfl, g9⟩
    have yin := he y (List.mem_of_getElem? hy)
    have wy := wr y yin
    have fa := fD_at (W := W) yin
    have st : stepF (pName 9) FB_Lright_1 (.int y) (StR s n ps (.v (.int x)) a4 (.v (.list (es.map .int))) (.v (.list (rowsLd n ps))) (.own (fD n W)) b9) = .nx (StR s n ps (.v (.int x)) a4 (.v (.list (es.map .int))) (.v (.list (rowsLd n ps))) (.own (fD n W)) (.v (.int y))) := by
      rw [stepF_ap]
      unfold FB_Lright_1 StR
      rewrite [← h2]
      simp only [sS, g9, fa, wy]
    rw [st]
    exact ⟨.v (.int y), rfl, rfl⟩
  · rintro ρ ⟨b9, rfl, g9⟩
    exact ⟨b9, rfl, g9⟩
theorem starts_is (s : Sd) {n : Int} {ps : List Pr} {cs es : List Int} (v : Valid n ps) (hn : 1 ≤ n ∧ n ≤ 40) (hl : ps.length ≤ 160) (hc : ∀ y ∈ cs, 0 ≤ y ∧ y < n) (he : ∀ y ∈ es, 0 ≤ y ∧ y < n) :
    (FR_Lright_2 (StR s n ps .un (.own (cs.map .int)) (.own (es.map .int)) (.own (rowsLd n ps)) .un .un)).sat (fun ρ => ∃ (a3 a4 a5 a7 a8 a9 : S), ρ = StR s n ps a3 a4 a5 a7 a8 a9 ∧ freeS a3 = true) (fun _ _ => False) noP noP noX := by
  unfold FR_Lright_2
  have il : qIl (qVar 4) (StR s n ps .un (.own (cs.map .int)) (.own (es.map .int)) (.own (rowsLd n ps)) .un .un) = .ok (cs.map PyData.int) (StR s n ps .un (.v (.list (cs.map .int))) (.own (es.map .int)) (.own (rowsLd n ps)) .un .un) := by
    unfold StR
    simp only [sS]
  rewrite [qFor_ap, il, c_ok]
  refine forM PyData.int (fun _ ρ => ∃ (a3 a5 a7 a8 a9 : S), ρ = StR s n ps a3 (.v (.list (cs.map .int))) a5 a7 a8 a9 ∧ freeS a3 = true ∧ (a5 = .own (es.map .int) ∨ a5 = .v (.list (es.map .int))) ∧ (a7 = .own (rowsLd n ps) ∨ a7 = .v (.list (rowsLd n ps))) ∧ freeS a8 = true ∧ freeS a9 = true) ⟨_, _, _, _, _, rfl, rfl, .inl rfl, .inl rfl, rfl, rfl⟩ ?_ ?_
  · rintro i x ρ hx ⟨a3, a5, a7, a8, a9, rfl, f3, h5, h7, f8, f9⟩
    have xin := hc x (List.mem_of_getElem? hx)
    have st : pName 3 (.int x) (StR s n ps a3 (.v (.list (cs.map .int))) a5 a7 a8 a9) = some (StR s n ps (.v (.int x)) (.v (.list (cs.map .int))) a5 a7 a8 a9) := by
      unfold StR
      simp only [sS, f3]
    rw [stepF_ap, st]
    dsimp only
    refine Ctl.sat.imp (one_start s v hn hl xin he h5 h7 f8 f9) ?_ (fun _ _ h => h.elim) (fun _ h => h.elim) (fun _ h => h.elim) (fun _ _ _ h => h.elim)
    rintro ρ ⟨b9, rfl, g9⟩
    exact ⟨_, _, _, _, b9, rfl, rfl, .inr rfl, .inr rfl, rfl, g9⟩
  · rintro ρ ⟨a3, a5, a7, a8, a9, rfl, f3, h5, h7, f8, f9⟩
    exact ⟨_, _, _, _, _, _, rfl, f3⟩
theorem tail_is (s : Sd) {n : Int} {ps : List Pr} {cs es : List Int} (v : Valid n ps) (hn : 1 ≤ n ∧ n ≤ 40) (hl : ps.length ≤ 160) (hc : ∀ y ∈ cs, 0 ≤ y ∧ y < n) (he : ∀ y ∈ es, 0 ≤ y ∧ y < n) :
    (T_Lright_4 [.io s.d, .v (.int n), .v (lkL ps), .un, .own (cs.map .int), .own (es.map .int), .un, .un, .un, .un, .un, .un, .un]).sat (nxQ (fun _ : Unit => Rk.v (.bool true)) (fun _ => True)) (rtQ (fun _ : Unit => Rk.v (.bool true)) (fun _ => True)) noP noP noX := by
  have wok : WebOk n ps := ⟨hn.1, hn.2, hl, v⟩
  have mw := M_Web_eq wok
  have l4 := lc4r v hn hl (a0 := .io s.d) (a4 := .own (cs.map .int)) (a5 := .own (es.map .int))
  obtain ⟨x, s1, t1, x0, x1⟩ := take_ok s n (by omega) (by omega)
  obtain ⟨far, s2, t2, hf⟩ := outside_is s1 (n := n) ⟨by omega, by omega⟩
  obtain ⟨fa2, s3, t3, hf2⟩ := outside_is s2 (n := n) ⟨by omega, by omega⟩
  have r1 := lref_is (way_x (ps := ps) (y := x) hf)
  have r2 := lref_is (way_y (ps := ps) (x := x) ⟨x0, x1⟩ hf)
  have r3 := lref_is (way_x (ps := ps) (y := fa2) hf)
  have ne := dNe_self (sh_ref (a := far))
  have eq := dEq_self (sh_ref (a := far))
  obtain ⟨g1, h1⟩ := opq F_Lrefusal
  obtain ⟨g2, h2⟩ := opq M_Web
  rewrite [← h1] at r1 r2 r3
  rewrite [← h2] at mw
  have p0 : qPar 6 7 (qMake0 M_Web (qaV (qVar 1) (qaV (qUn dTuple (qVar 2)) qaNil))) LC_Lright_4 [.io s.d, .v (.int n), .v (lkL ps), .un, .own (cs.map .int), .own (es.map .int), .un, .un, .un, .un, .un, .un, .un] = .nx (StR s n ps .un (.own (cs.map .int)) (.own (es.map .int)) (.own (rowsLd n ps)) .un .un) := by
    rewrite [← h2]
    unfold StR
    simp only [sS, mw, l4]
  unfold T_Lright_4
  rewrite [sat_seq, p0, sat_nx, sat_seq]
  refine Ctl.sat.imp (starts_is s v hn hl hc he) ?_ (fun _ _ h => h.elim) (fun _ h => h.elim) (fun _ h => h.elim) (fun _ _ _ h => h.elim)
  rintro ρ ⟨a3, a4, a5, a7, a8, a9, rfl, f3⟩
  unfold StR
  rewrite [← h1]
  simp only [sS, f3, t1, t2, t3, r1, r2, r3, ne, eq]
  exact ⟨(), s3, rfl⟩
end
end R
end

-- LcSrc
section
set_option Elab.async false
set_option linter.all false
set_option maxRecDepth 100000
set_option maxHeartbeats 4000000
namespace R
noncomputable section
open PySem PySem.Spec PyProof.Rows L2 LamX NdefX Pu
theorem lc_srcR {α T : Type} {pg : D → Pu.Env → Option Pu.Env} {ft : Pu.Env → Res Bool} {fe : Pu.Env → Res D} {own : List Nat} (enc : α → D) (dec : T → D) (P : α → T → Prop) (mk : Sd → Pu.Env) : ∀ (xs : List α) (s : Sd) (acc : List D) (_ : acc.length + xs.length ≤ sizeLine) (_ : ∀ x ∈ xs, ∀ s, ∃ (t : T) (s' : Sd), stepL pg ft fe own (enc x) (mk s) = .ok (some (dec t)) (mk s') ∧ P x t),
    ∃ (ts : List T) (s' : Sd), lcC pg ft fe own (xs.map enc) (mk s) acc = .ok (.own (acc ++ ts.map dec)) (mk s') ∧ ts.length = xs.length ∧ ∀ (i : Nat) x, xs[i]? = some x → ∃ t, ts[i]? = some t ∧ P x t
  | [], s, acc, _, _ => ⟨[], s, by simp [lcC], rfl, fun i x h => by simp at h⟩
  | x :: r, s, acc, hl, h => by
    rw [List.length_cons] at hl
    obtain ⟨t, s1, e1, p1⟩ := h x List.mem_cons_self s
    obtain ⟨ts, s2, e2, l2, p2⟩ := lc_srcR enc dec P mk r s1 (acc ++ [dec t]) (by rw [List.length_append, List.length_singleton]; omega) (fun y hy => h y (List.mem_cons_of_mem _ hy))
    refine ⟨t :: ts, s2, ?_, by rw [List.length_cons, List.length_cons, l2], fun i u hu => ?_⟩
    · rw [List.map_cons, lc_cons, e1]
      dsimp only
      rw [if_pos (by omega), e2, List.append_assoc]
      rfl
    · cases i with
      | zero =>
        cases hu
        exact ⟨t, rfl, p1⟩
      | succ i => exact p2 i u (by simpa using hu)
end
end R
end

-- K08g
section
set_option Elab.async false
set_option linter.all false
set_option maxRecDepth 100000
set_option maxHeartbeats 4000000
namespace R
noncomputable section
open PySem PySem.Spec PyProof.Rows L2 LamX NdefX Pu
theorem small_links {n : Int} {ps : List Pr} (v : Valid n ps) (h : n ≤ 9) : ps.length ≤ 160 := by
  have l := valid_len v
  have a : n.toNat ≤ 9 := by omega
  have b := Nat.mul_le_mul a a
  omega
def En (s : Sd) (n : Int) (ps : List Pr) (a4 a5 : S) : Pu.Env := [.io s.d, .v (.int n), .v (lkL ps), .un, a4, a5, .un, .un, .un, .un, .un, .un, .un]
theorem drawA (s : Sd) : ∃ (n : Int) (ps : List Pr) (s' : Sd), (qAsg (qCall0 F_Lsome (some (0, 0)) (qaIo 0 (qaV (qCall0 F_Lone (some (0, 0)) (qaIo 0 (qaV (qLst (qCons (qV (qC (.int 4))) (qCons (qV (qC (.int 5))) (qCons (qV (qC (.int 6))) (qCons (qV (qC (.int 7))) (qCons (qV (qC (.int 8))) qNil)))))) qaNil))) qaNil))) (pTup 2 (pCons (pName 1) (pCons (pName 2) pNil)))) [.io s.d, .un, .un, .un, .un, .un, .un, .un, .un, .un, .un, .un, .un] = .nx (En s' n ps .un .un) ∧ Valid n ps ∧ 1 ≤ n ∧ n ≤ 8 := by
  obtain ⟨x, s1, t1, mx⟩ := one_is s [.int 4, .int 5, .int 6, .int 7, .int 8] (by simp) (by simp)
  obtain ⟨m, rfl, m4, m8⟩ : ∃ m : Int, x = .int m ∧ 4 ≤ m ∧ m ≤ 8 := by
    simp only [List.mem_cons, List.not_mem_nil, or_false] at mx
    rcases mx with rfl | rfl | rfl | rfl | rfl
    all_goals exact ⟨_, rfl, by omega, by omega⟩
  obtain ⟨⟨n, ps⟩, s2, t2, w⟩ := some_is s1 m4 (by omega)
  obtain ⟨v, a, b⟩ := w.ok
  dsimp only at *
  refine ⟨n, ps, s2, ?_, v, a, by omega⟩
  obtain ⟨g, hg⟩ := opq F_Lsome
  rewrite [← hg] at t2 ⊢
  unfold En
  simp only [sS, t1, t2]
theorem drawB (s : Sd) {n : Int} {ps : List Pr} (v : Valid n ps) (hn : 1 ≤ n ∧ n ≤ 8) : ∃ (n' : Int) (ps' : List Pr) (s' : Sd), (qIf (qTst (qOp dEq (qCall0 F_Ltake (some (0, 0)) (qaIo 0 (qaV (qC (.int 3)) qaNil))) (qC (.int 0)))) (qAsg (qCall0 F_Lbeside (some (0, 0)) (qaIo 0 (qaV (qCall0 F_Lsome (some (0, 0)) (qaIo 0 (qaV (qC (.int 4)) qaNil))) (qaV (qCall0 F_Lsome (some (0, 0)) (qaIo 0 (qaV (qC (.int 5)) qaNil))) qaNil)))) (pTup 2 (pCons (pName 1) (pCons (pName 2) pNil)))) qNext) (En s n ps .un .un) = .nx (En s' n' ps' .un .un) ∧ Valid n' ps' ∧ 1 ≤ n' ∧ n' ≤ 9 := by
  obtain ⟨u, s1, t1, u0, u1⟩ := take_ok s 3 (by omega) (by omega)
  by_cases c : u = 0
  · obtain ⟨⟨n1, p1⟩, s2, t2, w1⟩ := some_is s1 (m := 4) (by omega) (by omega)
    obtain ⟨v1, a1, b1⟩ := w1.ok
    obtain ⟨⟨n2, p2⟩, s3, t3, w2⟩ := some_is s2 (m := 5) (by omega) (by omega)
    obtain ⟨v2, a2, b2⟩ := w2.ok
    dsimp only at *
    obtain ⟨f, s4, t4, i4, v4⟩ := beside_is s3 (show 0 ≤ n1 by omega) (show 0 ≤ n2 by omega) v1 v2 (by omega) (by have := small_links v1 (by omega); omega) (by have := small_links v2 (by omega); omega)
    refine ⟨n1 + n2, _, s4, ?_, v4, by omega, by omega⟩
    obtain ⟨g, hg⟩ := opq F_Lsome
    obtain ⟨g2, hg2⟩ := opq F_Lbeside
    rewrite [← hg] at t2 t3 ⊢
    rewrite [← hg2] at t4 ⊢
    unfold En
    simp only [sS, t1, eq_true c, decide_true, t2, t3, t4]
  · refine ⟨n, ps, s1, ?_, v, hn.1, by omega⟩
    unfold En
    simp only [sS, t1, c, decide_false]
theorem lcs (s : Sd) {n : Int} {ps : List Pr} (hn : 1 ≤ n ∧ n ≤ 40) (a4 a5 : S) : ∃ (a b c d : Int) (s' : Sd), LC_Lright_3 (En s n ps a4 a5) = .ok (.own [.int a, .int b, .int c, .int d]) (En s' n ps a4 a5) ∧ ∀ y ∈ [a, b, c, d], 0 ≤ y ∧ y < n := by
  have b4 : b62 4 = true := b62_of (show -4000000000 ≤ (4 : Int) ∧ (4 : Int) ≤ 4000000000 by omega)
  obtain ⟨ts, s', e, tl, hp⟩ := lc_srcR (pg := pName 12) (ft := qYes) (own := [12]) (fe := qV (qCall0 F_Ltake (some (0, 0)) (qaIo 0 (qaV (qVar 1) qaNil)))) (T := Int) PyData.int PyData.int (fun _ v => 0 ≤ v ∧ v < n) (fun s => En s n ps a4 a5) (AllN 4) s [] (by rw [alln_len]; exact szB (by simp)) (fun x hx s => by
    obtain ⟨v, s2, t2, v0, v1⟩ := take_ok s n (by omega) (by omega)
    refine ⟨v, s2, ?_, v0, v1⟩
    unfold En
    simp only [sS, t2])
  rw [alln_len] at tl
  match ts, tl with
  | [a, b, c, d], _ =>
    refine ⟨a, b, c, d, s', ?_, fun y hy => ?_⟩
    · unfold En at e ⊢
      unfold LC_Lright_3
      simp only [sS, b4, iot0]
      rw [e]
      simp only [sS]
    · obtain ⟨i, hi⟩ := List.mem_iff_getElem?.mp hy
      have il := (List.getElem?_eq_some_iff.mp hi).1
      obtain ⟨t, h1, h2⟩ := hp i _ (alln_at (n := 4) (by simpa using il))
      rw [hi] at h1
      cases h1
      exact h2
theorem drawC (s : Sd) {n : Int} {ps : List Pr} (v : Valid n ps) (hn : 1 ≤ n ∧ n ≤ 9) : ∃ (n' : Int) (ps' : List Pr) (cs es : List Int) (s' : Sd), (T_Lright_3 (En s n ps (.own ((AllN n).map .int)) (.own ((AllN n).map .int)))) = T_Lright_4 (En s' n' ps' (.own (cs.map .int)) (.own (es.map .int))) ∧ Valid n' ps' ∧ (1 ≤ n' ∧ n' ≤ 40) ∧ ps'.length ≤ 160 ∧ (∀ y ∈ cs, 0 ≤ y ∧ y < n') ∧ ∀ y ∈ es, 0 ≤ y ∧ y < n' := by
  obtain ⟨u, s1, t1, u0, u1⟩ := take_ok s 20 (by omega) (by omega)
  have sq : ∀ {A B : Pu.Env → Ctl} {ρ ρ' : Pu.Env}, A ρ = .nx ρ' → qSeq A B ρ = B ρ' := fun {A B ρ ρ'} h => by unfold qSeq; rw [h]
  have T3 : T_Lright_3 = qSeq (qIf (qTst (qOp dEq (qCall0 F_Ltake (some (0, 0)) (qaIo 0 (qaV (qC (.int 20)) qaNil))) (qC (.int 0)))) (qSeq (qAsg (qCall0 F_Lround (some (0, 0)) (qaIo 0 (qaV (qOp dSub (qC (.int 40)) (qCall0 F_Ltake (some (0, 0)) (qaIo 0 (qaV (qC (.int 9)) qaNil)))) qaNil))) (pTup 2 (pCons (pName 1) (pCons (pName 2) pNil))))
    (qSeq (qIf (qTst (qOp dEq (qCall0 F_Ltake (some (0, 0)) (qaIo 0 (qaV (qC (.int 2)) qaNil))) (qC (.int 0)))) (qAsg (qCall0 F_Ltree (some (0, 0)) (qaIo 0 (qaV (qVar 1) qaNil))) (pTup 2 (pCons (pName 1) (pCons (pName 2) pNil)))) qNext)
    (qSeq (qSet 4 (qLst (qCons (qV (qC (.int 0))) (qCons (qV (qCall0 F_Ltake (some (0, 0)) (qaIo 0 (qaV (qVar 1) qaNil)))) qNil))))
    (qSet 5 (qOp dCat (qLst (qCons (qV (qC (.int 0))) (qCons (qV (qOp dSub (qVar 1) (qC (.int 1)))) qNil))) LC_Lright_3))))) qNext) T_Lright_4 := rfl
  rw [T3]
  by_cases c : u = 0
  · have ifT : ∀ {X : Pu.Env → Ctl} {a4 a5 : S}, qIf (qTst (qOp dEq (qCall0 F_Ltake (some (0, 0)) (qaIo 0 (qaV (qC (.int 20)) qaNil))) (qC (.int 0)))) X qNext (En s n ps a4 a5) = X (En s1 n ps a4 a5) := fun {X a4 a5} => by
      unfold En
      simp only [sS, t1, eq_true c, decide_true]
    obtain ⟨k, s2, t2, k0, k1⟩ := take_ok s1 9 (by omega) (by omega)
    obtain ⟨f, s3, t3, i3, v3⟩ := round_is s2 (n := 40 - k) (by omega)
    obtain ⟨m, hm⟩ : ∃ m, m = 40 - k := ⟨_, rfl⟩
    rw [← hm] at t3 i3 v3
    have rl := (rnd_ok (n := m) (by omega)).2.2
    have l3 : (srt (ren f (rndL m))).length ≤ 160 := by rw [srtd_len (n := 0)]; omega
    obtain ⟨z, s4, t4, z0, z1⟩ := take_ok s3 2 (by omega) (by omega)
    have rest : ∀ (s4 : Sd) (qs : List Pr), ∃ (cs es : List Int) (s' : Sd), (qSeq (qSet 4 (qLst (qCons (qV (qC (.int 0))) (qCons (qV (qCall0 F_Ltake (some (0, 0)) (qaIo 0 (qaV (qVar 1) qaNil)))) qNil))))
        (qSet 5 (qOp dCat (qLst (qCons (qV (qC (.int 0))) (qCons (qV (qOp dSub (qVar 1) (qC (.int 1)))) qNil))) LC_Lright_3))) (En s4 m qs (.own ((AllN n).map .int)) (.own ((AllN n).map .int))) = .nx (En s' m qs (.own (cs.map .int)) (.own (es.map .int))) ∧ (∀ y ∈ cs, 0 ≤ y ∧ y < m) ∧ ∀ y ∈ es, 0 ≤ y ∧ y < m := fun s4 qs => by
      obtain ⟨w, s5, t5, w0, w1⟩ := take_ok s4 m (by omega) (by omega)
      obtain ⟨a, b, c, d, s6, t6, h6⟩ := lcs s5 (n := m) (ps := qs) (by omega) (.own [.int 0, .int w]) (.own ((AllN n).map .int))
      refine ⟨[0, w], [0, m - 1, a, b, c, d], s6, ?_, fun y hy => ?_, fun y hy => ?_⟩
      · have p1 : qSet 4 (qLst (qCons (qV (qC (.int 0))) (qCons (qV (qCall0 F_Ltake (some (0, 0)) (qaIo 0 (qaV (qVar 1) qaNil)))) qNil))) (En s4 m qs (.own ((AllN n).map .int)) (.own ((AllN n).map .int))) = .nx (En s5 m qs (.own [.int 0, .int w]) (.own ((AllN n).map .int))) := by
          unfold En
          simp only [sS, t5]
        rw [sq p1]
        unfold En at t6 ⊢
        simp only [sS, t6]
      · simp only [List.mem_cons, List.not_mem_nil, or_false] at hy
        rcases hy with rfl | rfl <;> omega
      · simp only [List.mem_cons, List.not_mem_nil, or_false] at hy
        rcases hy with rfl | rfl | rfl | rfl | rfl | rfl
        · omega
        · omega
        · exact h6 _ (by simp)
        · exact h6 _ (by simp)
        · exact h6 _ (by simp)
        · exact h6 _ (by simp)
    obtain ⟨g1, h1⟩ := opq F_Lround
    obtain ⟨g2, h2⟩ := opq F_Ltree
    have p1 : (qAsg (qCall0 F_Lround (some (0, 0)) (qaIo 0 (qaV (qOp dSub (qC (.int 40)) (qCall0 F_Ltake (some (0, 0)) (qaIo 0 (qaV (qC (.int 9)) qaNil)))) qaNil))) (pTup 2 (pCons (pName 1) (pCons (pName 2) pNil)))) (En s1 n ps (.own ((AllN n).map .int)) (.own ((AllN n).map .int))) = .nx (En s3 m (srt (ren f (rndL m))) (.own ((AllN n).map .int)) (.own ((AllN n).map .int))) := by
      rewrite [← h1] at t3 ⊢
      unfold En
      simp only [sS, t2, ← hm, t3]
    have go : ∀ (s5 : Sd) (qs : List Pr), (qIf (qTst (qOp dEq (qCall0 F_Ltake (some (0, 0)) (qaIo 0 (qaV (qC (.int 2)) qaNil))) (qC (.int 0)))) (qAsg (qCall0 F_Ltree (some (0, 0)) (qaIo 0 (qaV (qVar 1) qaNil))) (pTup 2 (pCons (pName 1) (pCons (pName 2) pNil)))) qNext) (En s3 m (srt (ren f (rndL m))) (.own ((AllN n).map .int)) (.own ((AllN n).map .int))) = .nx (En s5 m qs (.own ((AllN n).map .int)) (.own ((AllN n).map .int))) → Valid m qs → qs.length ≤ 160 → ∃ (n' : Int) (ps' : List Pr) (cs es : List Int) (s' : Sd), qSeq (qIf (qTst (qOp dEq (qCall0 F_Ltake (some (0, 0)) (qaIo 0 (qaV (qC (.int 20)) qaNil))) (qC (.int 0)))) (qSeq (qAsg (qCall0 F_Lround (some (0, 0)) (qaIo 0 (qaV (qOp dSub (qC (.int 40)) (qCall0 F_Ltake (some (0, 0)) (qaIo 0 (qaV (qC (.int 9)) qaNil)))) qaNil))) (pTup 2 (pCons (pName 1) (pCons (pName 2) pNil))))
    (qSeq (qIf (qTst (qOp dEq (qCall0 F_Ltake (some (0, 0)) (qaIo 0 (qaV (qC (.int 2)) qaNil))) (qC (.int 0)))) (qAsg (qCall0 F_Ltree (some (0, 0)) (qaIo 0 (qaV (qVar 1) qaNil))) (pTup 2 (pCons (pName 1) (pCons (pName 2) pNil)))) qNext)
    (qSeq (qSet 4 (qLst (qCons (qV (qC (.int 0))) (qCons (qV (qCall0 F_Ltake (some (0, 0)) (qaIo 0 (qaV (qVar 1) qaNil)))) qNil))))
    (qSet 5 (qOp dCat (qLst (qCons (qV (qC (.int 0))) (qCons (qV (qOp dSub (qVar 1) (qC (.int 1)))) qNil))) LC_Lright_3))))) qNext) T_Lright_4 (En s n ps (.own ((AllN n).map .int)) (.own ((AllN n).map .int))) = T_Lright_4 (En s' n' ps' (.own (cs.map .int)) (.own (es.map .int))) ∧ Valid n' ps' ∧ (1 ≤ n' ∧ n' ≤ 40) ∧ ps'.length ≤ 160 ∧ (∀ y ∈ cs, 0 ≤ y ∧ y < n') ∧ ∀ y ∈ es, 0 ≤ y ∧ y < n' := fun s5 qs p2 v5 l5 => by
      obtain ⟨cs, es, s6, p3, hc, he⟩ := rest s5 qs
      refine ⟨m, qs, cs, es, s6, sq ?_, v5, ⟨by omega, by omega⟩, l5, hc, he⟩
      rw [ifT]
      exact (sq p1).trans ((sq p2).trans p3)
    by_cases c2 : z = 0
    · obtain ⟨⟨qs, f5⟩, s5, e5, tr, i5, v5⟩ := tree_is s4 (n := m) (by omega)
      have tl := tr.ok.2.2
      dsimp only at e5 tl v5
      refine go s5 (srt (ren f5 (srt qs))) ?_ v5 (by rw [srtd_len (n := 0), srt_len]; omega)
      rewrite [← h2] at e5 ⊢
      unfold En
      simp only [sS, t4, eq_true c2, decide_true, e5]
    · refine go s4 _ ?_ v3 l3
      unfold En
      simp only [sS, t4, c2, decide_false]
  · refine ⟨n, ps, AllN n, AllN n, s1, sq ?_, v, ⟨hn.1, by omega⟩, small_links v hn.2, fun y hy => alln_mem.mp hy, fun y hy => alln_mem.mp hy⟩
    unfold En
    simp only [sS, t1, c, decide_false]
theorem lc12 {s : Sd} {n : Int} {ps : List Pr} (hn : 1 ≤ n ∧ n ≤ 40) : qPar 4 5 LC_Lright_1 LC_Lright_2 (En s n ps .un .un) = .nx (En s n ps (.own ((AllN n).map .int)) (.own ((AllN n).map .int))) := by
  have b6 := b62_of (show -4000000000 ≤ n ∧ n ≤ 4000000000 by omega)
  have l1 : LC_Lright_1 (En s n ps .un .un) = .ok (.own ((AllN n).map .int)) (En s n ps .un .un) := by
    unfold LC_Lright_1 En
    simp only [sS, b6, iot0]
    rw [lc_all PyData.int PyData.int _ (szB (by rw [alln_len]; omega)) (fun p _ => by simp only [sS])]
    simp only [sS]
  have l2 : LC_Lright_2 (En s n ps .un .un) = .ok (.own ((AllN n).map .int)) (En s n ps .un .un) := l1
  unfold En at l1 l2 ⊢
  simp only [sS, l1, l2]
theorem right_is (s : Sd) : ∃ (u : Unit) (s' : Sd), run1 0 F_Lright [.io s.d] = .ok (.v (.bool true)) s'.d ∧ True := by
  obtain ⟨n1, p1, s1, q1, v1, a1, b1⟩ := drawA s
  obtain ⟨n2, p2, s2, q2, v2, a2, b2⟩ := drawB s1 v1 ⟨a1, b1⟩
  obtain ⟨n3, p3, cs, es, s3, q3, v3, a3, l3, hc, he⟩ := drawC s2 v2 ⟨a2, b2⟩
  have q4 := lc12 (s := s2) (ps := p2) (n := n2) ⟨a2, by omega⟩
  have tl := tail_is s3 v3 a3 l3 hc he
  have T2 : B_Lright = qSeq (qAsg (qCall0 F_Lsome (some (0, 0)) (qaIo 0 (qaV (qCall0 F_Lone (some (0, 0)) (qaIo 0 (qaV (qLst (qCons (qV (qC (.int 4))) (qCons (qV (qC (.int 5))) (qCons (qV (qC (.int 6))) (qCons (qV (qC (.int 7))) (qCons (qV (qC (.int 8))) qNil)))))) qaNil))) qaNil))) (pTup 2 (pCons (pName 1) (pCons (pName 2) pNil)))) (qSeq (qIf (qTst (qOp dEq (qCall0 F_Ltake (some (0, 0)) (qaIo 0 (qaV (qC (.int 3)) qaNil))) (qC (.int 0)))) (qAsg (qCall0 F_Lbeside (some (0, 0)) (qaIo 0 (qaV (qCall0 F_Lsome (some (0, 0)) (qaIo 0 (qaV (qC (.int 4)) qaNil))) (qaV (qCall0 F_Lsome (some (0, 0)) (qaIo 0 (qaV (qC (.int 5)) qaNil))) qaNil)))) (pTup 2 (pCons (pName 1) (pCons (pName 2) pNil)))) qNext) (qSeq (qPar 4 5 LC_Lright_1 LC_Lright_2) T_Lright_3)) := rfl
  refine run1_sd (fun _ : Unit => Rk.v (.bool true)) E_Lright ?_
  rewrite [T2, sat_seq, q1, sat_nx, sat_seq, q2, sat_nx, sat_seq, q4, sat_nx, q3]
  exact tl
end
end R
end

-- Text
section
set_option Elab.async false
set_option linter.all false
set_option maxRecDepth 100000
set_option maxHeartbeats 4000000
/-! Text: the program's text by places, what its top leaves. -/
namespace R
open PySem PySem.Spec PyProof.Rows L2 LamX NdefX LamP
/-! ### the text by places -/
def top (i : Nat) : Stmt := PySem.Challenge.pw_pairfloors_k08_first_shortest_ways.main.body.getD i (.Pass ⟨0, 0, 0, 0⟩)
abbrev s_Refused_init : Stmt := inClass (top 1) 0
abbrev s_is_number : Stmt := top 7
abbrev s_is_below : Stmt := top 8
abbrev s_are_numbers : Stmt := top 9
abbrev s_is_rising_pair : Stmt := top 10
abbrev s_first_fault : Stmt := top 11
abbrev s_check_cell : Stmt := top 12
abbrev s_Web_init : Stmt := inClass (top 16) 0
abbrev s_Web_near : Stmt := inClass (top 16) 1
abbrev s_Web_linked : Stmt := inClass (top 16) 2
abbrev s_check_links : Stmt := top 17
abbrev s_near_rows : Stmt := top 18
abbrev s_way : Stmt := top 20
abbrev s_steps_from : Stmt := top 21
abbrev s_first_row : Stmt := top 22
abbrev s_Lpool : Stmt := top 24
abbrev s_Ltake : Stmt := top 25
abbrev s_Lone : Stmt := top 26
abbrev s_Lshuffled : Stmt := top 27
abbrev s_Lnear : Stmt := top 28
abbrev s_Llink : Stmt := top 29
abbrev s_Lcorner : Stmt := top 30
abbrev s_Lbridge : Stmt := top 31
abbrev s_Lrenamed : Stmt := top 32
abbrev s_Lstout : Stmt := top 33
abbrev s_Lround : Stmt := top 34
abbrev s_Ltree : Stmt := top 35
abbrev s_Lany : Stmt := top 36
abbrev s_Lbeside : Stmt := top 37
abbrev s_Lsome : Stmt := top 38
abbrev s_Lnumber : Stmt := top 39
abbrev s_Lrow : Stmt := top 40
abbrev s_Loutside : Stmt := top 41
abbrev s_Lways : Stmt := top 42
abbrev s_Lrefusal : Stmt := top 43
abbrev s_Lway_right : Stmt := top 44
abbrev s_Lright : Stmt := top 45
abbrev s_law : Stmt := top 46
abbrev N_Refused_init : List Str := ["self", "what"]
theorem sc_Refused_init : FnScope N_Refused_init ["self", "what"] (defScope s_Refused_init) := ⟨rfl, rfl, rfl, by decide +kernel, rfl, by decide +kernel, by decide +kernel⟩
abbrev N_is_number : List Str := ["value"]
theorem sc_is_number : FnScope N_is_number ["value"] (defScope s_is_number) := ⟨rfl, rfl, rfl, by decide +kernel, rfl, by decide +kernel, by decide +kernel⟩
abbrev N_is_below : List Str := ["value", "limit"]
theorem sc_is_below : FnScope N_is_below ["value", "limit"] (defScope s_is_below) := ⟨rfl, rfl, rfl, by decide +kernel, rfl, by decide +kernel, by decide +kernel⟩
abbrev N_are_numbers : List Str := ["value", "many", "entry"]
theorem sc_are_numbers : FnScope N_are_numbers ["value", "many"] (defScope s_are_numbers) := ⟨rfl, rfl, rfl, by decide +kernel, rfl, by decide +kernel, by decide +kernel⟩
abbrev N_is_rising_pair : List Str := ["value", "limit"]
theorem sc_is_rising_pair : FnScope N_is_rising_pair ["value", "limit"] (defScope s_is_rising_pair) := ⟨rfl, rfl, rfl, by decide +kernel, rfl, by decide +kernel, by decide +kernel⟩
abbrev N_first_fault : List Str := ["things", "fits", "at", "thing"]
theorem sc_first_fault : FnScope N_first_fault ["things", "fits"] (defScope s_first_fault) := ⟨rfl, rfl, rfl, by decide +kernel, rfl, by decide +kernel, by decide +kernel⟩
abbrev N_check_cell : List Str := ["web", "x"]
theorem sc_check_cell : FnScope N_check_cell ["web", "x"] (defScope s_check_cell) := ⟨rfl, rfl, rfl, by decide +kernel, rfl, by decide +kernel, by decide +kernel⟩
abbrev N_Web_init : List Str := ["self", "size", "links"]
theorem sc_Web_init : FnScope N_Web_init ["self", "size", "links"] (defScope s_Web_init) := ⟨rfl, rfl, rfl, by decide +kernel, rfl, by decide +kernel, by decide +kernel⟩
abbrev N_Web_near : List Str := ["self", "x"]
theorem sc_Web_near : FnScope N_Web_near ["self", "x"] (defScope s_Web_near) := ⟨rfl, rfl, rfl, by decide +kernel, rfl, by decide +kernel, by decide +kernel⟩
abbrev N_Web_linked : List Str := ["self", "x", "y"]
theorem sc_Web_linked : FnScope N_Web_linked ["self", "x", "y"] (defScope s_Web_linked) := ⟨rfl, rfl, rfl, by decide +kernel, rfl, by decide +kernel, by decide +kernel⟩
abbrev N_check_links : List Str := ["size", "links", "at"]
theorem sc_check_links : FnScope N_check_links ["size", "links"] (defScope s_check_links) := ⟨rfl, rfl, rfl, by decide +kernel, rfl, by decide +kernel, by decide +kernel⟩
abbrev N_near_rows : List Str := ["many", "pairs", "rows", "a", "b", "_", "row"]
theorem sc_near_rows : FnScope N_near_rows ["many", "pairs"] (defScope s_near_rows) := ⟨rfl, rfl, rfl, by decide +kernel, rfl, by decide +kernel, by decide +kernel⟩
abbrev N_way : List Str := ["web", "x", "y"]
theorem sc_way : FnScope N_way ["web", "x", "y"] (defScope s_way) := ⟨rfl, rfl, rfl, by decide +kernel, rfl, by decide +kernel, by decide +kernel⟩
abbrev N_steps_from : List Str := ["rows", "start", "apart", "queue", "at", "x", "y"]
theorem sc_steps_from : FnScope N_steps_from ["rows", "start"] (defScope s_steps_from) := ⟨rfl, rfl, rfl, by decide +kernel, rfl, by decide +kernel, by decide +kernel⟩
abbrev N_first_row : List Str := ["rows", "start", "end", "apart", "row", "left", "closer", "x"]
theorem sc_first_row : FnScope N_first_row ["rows", "start", "end"] (defScope s_first_row) := ⟨rfl, rfl, rfl, by decide +kernel, rfl, by decide +kernel, by decide +kernel⟩
abbrev N_Lpool : List Str := ["_law_script", "_law_k", "_law_cell", "_law_big", "_law_mixed"]
theorem sc_Lpool : FnScope N_Lpool ["_law_script", "_law_k"] (defScope s_Lpool) := ⟨rfl, rfl, rfl, by decide +kernel, rfl, by decide +kernel, by decide +kernel⟩
abbrev N_Ltake : List Str := ["_law_source", "_law_top", "_law_drawn"]
theorem sc_Ltake : FnScope N_Ltake ["_law_source", "_law_top"] (defScope s_Ltake) := ⟨rfl, rfl, rfl, by decide +kernel, rfl, by decide +kernel, by decide +kernel⟩
abbrev N_Lone : List Str := ["_law_source", "_law_things"]
theorem sc_Lone : FnScope N_Lone ["_law_source", "_law_things"] (defScope s_Lone) := ⟨rfl, rfl, rfl, by decide +kernel, rfl, by decide +kernel, by decide +kernel⟩
abbrev N_Lshuffled : List Str := ["_law_source", "_law_count", "_law_left", "_law_found", "_law_turn", "_law_x"]
theorem sc_Lshuffled : FnScope N_Lshuffled ["_law_source", "_law_count"] (defScope s_Lshuffled) := ⟨rfl, rfl, rfl, by decide +kernel, rfl, by decide +kernel, by decide +kernel⟩
abbrev N_Lnear : List Str := ["_law_links", "_law_x", "_law_a", "_law_b"]
theorem sc_Lnear : FnScope N_Lnear ["_law_links", "_law_x"] (defScope s_Lnear) := ⟨rfl, rfl, rfl, by decide +kernel, rfl, by decide +kernel, by decide +kernel⟩
abbrev N_Llink : List Str := ["_law_a", "_law_b"]
theorem sc_Llink : FnScope N_Llink ["_law_a", "_law_b"] (defScope s_Llink) := ⟨rfl, rfl, rfl, by decide +kernel, rfl, by decide +kernel, by decide +kernel⟩
abbrev N_Lcorner : List Str := ["_law_source", "_law_size", "_law_links", "_law_around", "_law_x", "_law_z"]
theorem sc_Lcorner : FnScope N_Lcorner ["_law_source", "_law_size", "_law_links"] (defScope s_Lcorner) := ⟨rfl, rfl, rfl, by decide +kernel, rfl, by decide +kernel, by decide +kernel⟩
abbrev N_Lbridge : List Str := ["_law_source", "_law_size", "_law_links", "_law_a", "_law_x", "_law_y", "_law_b"]
theorem sc_Lbridge : FnScope N_Lbridge ["_law_source", "_law_size", "_law_links"] (defScope s_Lbridge) := ⟨rfl, rfl, rfl, by decide +kernel, rfl, by decide +kernel, by decide +kernel⟩
abbrev N_Lrenamed : List Str := ["_law_source", "_law_size", "_law_links", "_law_names", "_law_a", "_law_b"]
theorem sc_Lrenamed : FnScope N_Lrenamed ["_law_source", "_law_size", "_law_links"] (defScope s_Lrenamed) := ⟨rfl, rfl, rfl, by decide +kernel, rfl, by decide +kernel, by decide +kernel⟩
abbrev N_Lstout : List Str := ["_law_source", "_law_most", "_law_kinds", "_law_square", "_law_fours", "_law_prism", "_law_size", "_law_links", "_law_turn"]
theorem sc_Lstout : FnScope N_Lstout ["_law_source", "_law_most", "_law_kinds"] (defScope s_Lstout) := ⟨rfl, rfl, rfl, by decide +kernel, rfl, by decide +kernel, by decide +kernel⟩
abbrev N_Lround : List Str := ["_law_source", "_law_count", "_law_x"]
theorem sc_Lround : FnScope N_Lround ["_law_source", "_law_count"] (defScope s_Lround) := ⟨rfl, rfl, rfl, by decide +kernel, rfl, by decide +kernel, by decide +kernel⟩
abbrev N_Ltree : List Str := ["_law_source", "_law_count", "_law_links", "_law_x"]
theorem sc_Ltree : FnScope N_Ltree ["_law_source", "_law_count"] (defScope s_Ltree) := ⟨rfl, rfl, rfl, by decide +kernel, rfl, by decide +kernel, by decide +kernel⟩
abbrev N_Lany : List Str := ["_law_source", "_law_count", "_law_links", "_law_b", "_law_a"]
theorem sc_Lany : FnScope N_Lany ["_law_source", "_law_count"] (defScope s_Lany) := ⟨rfl, rfl, rfl, by decide +kernel, rfl, by decide +kernel, by decide +kernel⟩
abbrev N_Lbeside : List Str := ["_law_source", "_law_one_here", "_law_other", "_law_links", "_law_a", "_law_b"]
theorem sc_Lbeside : FnScope N_Lbeside ["_law_source", "_law_one_here", "_law_other"] (defScope s_Lbeside) := ⟨rfl, rfl, rfl, by decide +kernel, rfl, by decide +kernel, by decide +kernel⟩
abbrev N_Lsome : List Str := ["_law_source", "_law_most", "_law_kind"]
theorem sc_Lsome : FnScope N_Lsome ["_law_source", "_law_most"] (defScope s_Lsome) := ⟨rfl, rfl, rfl, by decide +kernel, rfl, by decide +kernel, by decide +kernel⟩
abbrev N_Lnumber : List Str := ["_law_thing"]
theorem sc_Lnumber : FnScope N_Lnumber ["_law_thing"] (defScope s_Lnumber) := ⟨rfl, rfl, rfl, by decide +kernel, rfl, by decide +kernel, by decide +kernel⟩
abbrev N_Lrow : List Str := ["_law_told", "_law_due", "_law_a", "_law_b"]
theorem sc_Lrow : FnScope N_Lrow ["_law_told", "_law_due"] (defScope s_Lrow) := ⟨rfl, rfl, rfl, by decide +kernel, rfl, by decide +kernel, by decide +kernel⟩
abbrev N_Loutside : List Str := ["_law_source", "_law_size"]
theorem sc_Loutside : FnScope N_Loutside ["_law_source", "_law_size"] (defScope s_Loutside) := ⟨rfl, rfl, rfl, by decide +kernel, rfl, by decide +kernel, by decide +kernel⟩
abbrev N_Lways : List Str := ["_law_size", "_law_rows", "_law_x", "_law_y", "_law_found", "_law_last", "_law_turn", "_law_fresh", "_law_z", "_law_row_here"]
theorem sc_Lways : FnScope N_Lways ["_law_size", "_law_rows", "_law_x"] (defScope s_Lways) := ⟨rfl, rfl, rfl, by decide +kernel, rfl, by decide +kernel, by decide +kernel⟩
abbrev N_Lrefusal : List Str := ["_law_web", "_law_x", "_law_y", "e"]
theorem sc_Lrefusal : FnScope N_Lrefusal ["_law_web", "_law_x", "_law_y"] (defScope s_Lrefusal) := ⟨rfl, rfl, rfl, by decide +kernel, rfl, by decide +kernel, by decide +kernel⟩
abbrev N_Lway_right : List Str := ["_law_web", "_law_x", "_law_y", "_law_found", "_law_told"]
theorem sc_Lway_right : FnScope N_Lway_right ["_law_web", "_law_x", "_law_y", "_law_found"] (defScope s_Lway_right) := ⟨rfl, rfl, rfl, by decide +kernel, rfl, by decide +kernel, by decide +kernel⟩
abbrev N_Lright : List Str := ["_law_source", "_law_size", "_law_links", "_law_x", "_law_starts", "_law_ends", "_law_web", "_law_rows", "_law_found", "_law_y", "_law_far", "_law_farther", "_law_turn"]
theorem sc_Lright : FnScope N_Lright ["_law_source"] (defScope s_Lright) := ⟨rfl, rfl, rfl, by decide +kernel, rfl, by decide +kernel, by decide +kernel⟩
abbrev N_law : List Str := ["_law_script", "_law_k"]
theorem sc_law : FnScope N_law ["_law_script"] (defScope s_law) := ⟨rfl, rfl, rfl, by decide +kernel, rfl, by decide +kernel, by decide +kernel⟩
/-! ### what the top leaves -/
structure FunC (K : PySem.W.Frag) (x qual : Str) (st : Stmt) (f : Addr) (fd : FuncData) (c : Addr) : Prop where
  ex : ∃ (oc : Value) (od : Option Addr) (kV doc pm : Value) (an : Option Addr) (ct : Value) (osl : Array (Option Value)), fd = PySem.W.fnOf x qual (defArgs st) (defBody st) (defScope st) .none kV doc pm an (.ref c) ct ∧ K.lookup f = some ⟨oc, od, .func fd, osl⟩ ∧ PySem.W.codeIn K (.ref c) qual = true
structure ErrC (K : PySem.W.Frag) (mg : Str → Option Value) (x : Str) (fI C : Addr) : Prop where
  gC : mg x = some (.ref C)
  ox : OexC K C
  xf : XfC K C
  iC : PySem.W.findIn K (.ref C) "__init__" = some (some (.ref fI))
  nw : PySem.W.findIn K (.ref C) "what" = some none
structure Txt (K : PySem.W.Frag) (mg : Str → Option Value) : Type where
  a_Refused_init : Addr
  d_Refused_init : FuncData
  F_Refused_init : Fun K "__init__" "Refused.__init__" s_Refused_init a_Refused_init d_Refused_init
  b_Refused_init : L2.Binds K d_Refused_init ["self", "what"] []
  a_is_number : Addr
  d_is_number : FuncData
  F_is_number : Fun K "is_number" "is_number" s_is_number a_is_number d_is_number
  b_is_number : L2.Binds K d_is_number ["value"] []
  g_is_number : mg "is_number" = some (.ref a_is_number)
  a_is_below : Addr
  d_is_below : FuncData
  F_is_below : Fun K "is_below" "is_below" s_is_below a_is_below d_is_below
  b_is_below : L2.Binds K d_is_below ["value", "limit"] []
  g_is_below : mg "is_below" = some (.ref a_is_below)
  a_are_numbers : Addr
  d_are_numbers : FuncData
  F_are_numbers : Fun K "are_numbers" "are_numbers" s_are_numbers a_are_numbers d_are_numbers
  b_are_numbers : L2.Binds K d_are_numbers ["value", "many"] []
  g_are_numbers : mg "are_numbers" = some (.ref a_are_numbers)
  a_is_rising_pair : Addr
  d_is_rising_pair : FuncData
  F_is_rising_pair : Fun K "is_rising_pair" "is_rising_pair" s_is_rising_pair a_is_rising_pair d_is_rising_pair
  b_is_rising_pair : L2.Binds K d_is_rising_pair ["value", "limit"] []
  g_is_rising_pair : mg "is_rising_pair" = some (.ref a_is_rising_pair)
  a_first_fault : Addr
  d_first_fault : FuncData
  F_first_fault : Fun K "first_fault" "first_fault" s_first_fault a_first_fault d_first_fault
  b_first_fault : L2.Binds K d_first_fault ["things", "fits"] []
  g_first_fault : mg "first_fault" = some (.ref a_first_fault)
  a_check_cell : Addr
  d_check_cell : FuncData
  F_check_cell : Fun K "check_cell" "check_cell" s_check_cell a_check_cell d_check_cell
  b_check_cell : L2.Binds K d_check_cell ["web", "x"] []
  g_check_cell : mg "check_cell" = some (.ref a_check_cell)
  a_Web_init : Addr
  d_Web_init : FuncData
  F_Web_init : Fun K "__init__" "Web.__init__" s_Web_init a_Web_init d_Web_init
  b_Web_init : L2.Binds K d_Web_init ["self", "size", "links"] []
  a_Web_near : Addr
  d_Web_near : FuncData
  F_Web_near : Fun K "near" "Web.near" s_Web_near a_Web_near d_Web_near
  b_Web_near : L2.Binds K d_Web_near ["self", "x"] []
  a_Web_linked : Addr
  d_Web_linked : FuncData
  F_Web_linked : Fun K "linked" "Web.linked" s_Web_linked a_Web_linked d_Web_linked
  b_Web_linked : L2.Binds K d_Web_linked ["self", "x", "y"] []
  a_check_links : Addr
  d_check_links : FuncData
  F_check_links : Fun K "check_links" "check_links" s_check_links a_check_links d_check_links
  b_check_links : L2.Binds K d_check_links ["size", "links"] []
  c_check_links : Addr
  P_check_links : Addr
  FC_check_links : FunC K "check_links" "check_links" s_check_links a_check_links d_check_links c_check_links
  ch_check_links : PySem.W.codeHdIn K c_check_links P_check_links = true
  nl_check_links : K.lookup P_check_links = none
  g_check_links : mg "check_links" = some (.ref a_check_links)
  a_near_rows : Addr
  d_near_rows : FuncData
  F_near_rows : Fun K "near_rows" "near_rows" s_near_rows a_near_rows d_near_rows
  b_near_rows : L2.Binds K d_near_rows ["many", "pairs"] []
  g_near_rows : mg "near_rows" = some (.ref a_near_rows)
  a_way : Addr
  d_way : FuncData
  F_way : Fun K "way" "way" s_way a_way d_way
  b_way : L2.Binds K d_way ["web", "x", "y"] []
  g_way : mg "way" = some (.ref a_way)
  a_steps_from : Addr
  d_steps_from : FuncData
  F_steps_from : Fun K "steps_from" "steps_from" s_steps_from a_steps_from d_steps_from
  b_steps_from : L2.Binds K d_steps_from ["rows", "start"] []
  g_steps_from : mg "steps_from" = some (.ref a_steps_from)
  a_first_row : Addr
  d_first_row : FuncData
  F_first_row : Fun K "first_row" "first_row" s_first_row a_first_row d_first_row
  b_first_row : L2.Binds K d_first_row ["rows", "start", "end"] []
  g_first_row : mg "first_row" = some (.ref a_first_row)
  a_Lpool : Addr
  d_Lpool : FuncData
  F_Lpool : Fun K "_law_pool" "_law_pool" s_Lpool a_Lpool d_Lpool
  b_Lpool : L2.Binds K d_Lpool ["_law_script", "_law_k"] []
  g_Lpool : mg "_law_pool" = some (.ref a_Lpool)
  a_Ltake : Addr
  d_Ltake : FuncData
  F_Ltake : Fun K "_law_take" "_law_take" s_Ltake a_Ltake d_Ltake
  b_Ltake : L2.Binds K d_Ltake ["_law_source", "_law_top"] []
  g_Ltake : mg "_law_take" = some (.ref a_Ltake)
  a_Lone : Addr
  d_Lone : FuncData
  F_Lone : Fun K "_law_one" "_law_one" s_Lone a_Lone d_Lone
  b_Lone : L2.Binds K d_Lone ["_law_source", "_law_things"] []
  g_Lone : mg "_law_one" = some (.ref a_Lone)
  a_Lshuffled : Addr
  d_Lshuffled : FuncData
  F_Lshuffled : Fun K "_law_shuffled" "_law_shuffled" s_Lshuffled a_Lshuffled d_Lshuffled
  b_Lshuffled : L2.Binds K d_Lshuffled ["_law_source", "_law_count"] []
  g_Lshuffled : mg "_law_shuffled" = some (.ref a_Lshuffled)
  a_Lnear : Addr
  d_Lnear : FuncData
  F_Lnear : Fun K "_law_near" "_law_near" s_Lnear a_Lnear d_Lnear
  b_Lnear : L2.Binds K d_Lnear ["_law_links", "_law_x"] []
  g_Lnear : mg "_law_near" = some (.ref a_Lnear)
  a_Llink : Addr
  d_Llink : FuncData
  F_Llink : Fun K "_law_link" "_law_link" s_Llink a_Llink d_Llink
  b_Llink : L2.Binds K d_Llink ["_law_a", "_law_b"] []
  g_Llink : mg "_law_link" = some (.ref a_Llink)
  a_Lcorner : Addr
  d_Lcorner : FuncData
  F_Lcorner : Fun K "_law_corner" "_law_corner" s_Lcorner a_Lcorner d_Lcorner
  b_Lcorner : L2.Binds K d_Lcorner ["_law_source", "_law_size", "_law_links"] []
  g_Lcorner : mg "_law_corner" = some (.ref a_Lcorner)
  a_Lbridge : Addr
  d_Lbridge : FuncData
  F_Lbridge : Fun K "_law_bridge" "_law_bridge" s_Lbridge a_Lbridge d_Lbridge
  b_Lbridge : L2.Binds K d_Lbridge ["_law_source", "_law_size", "_law_links"] []
  g_Lbridge : mg "_law_bridge" = some (.ref a_Lbridge)
  a_Lrenamed : Addr
  d_Lrenamed : FuncData
  F_Lrenamed : Fun K "_law_renamed" "_law_renamed" s_Lrenamed a_Lrenamed d_Lrenamed
  b_Lrenamed : L2.Binds K d_Lrenamed ["_law_source", "_law_size", "_law_links"] []
  g_Lrenamed : mg "_law_renamed" = some (.ref a_Lrenamed)
  a_Lstout : Addr
  d_Lstout : FuncData
  F_Lstout : Fun K "_law_stout" "_law_stout" s_Lstout a_Lstout d_Lstout
  b_Lstout : L2.Binds K d_Lstout ["_law_source", "_law_most", "_law_kinds"] []
  g_Lstout : mg "_law_stout" = some (.ref a_Lstout)
  a_Lround : Addr
  d_Lround : FuncData
  F_Lround : Fun K "_law_round" "_law_round" s_Lround a_Lround d_Lround
  b_Lround : L2.Binds K d_Lround ["_law_source", "_law_count"] []
  g_Lround : mg "_law_round" = some (.ref a_Lround)
  a_Ltree : Addr
  d_Ltree : FuncData
  F_Ltree : Fun K "_law_tree" "_law_tree" s_Ltree a_Ltree d_Ltree
  b_Ltree : L2.Binds K d_Ltree ["_law_source", "_law_count"] []
  g_Ltree : mg "_law_tree" = some (.ref a_Ltree)
  a_Lany : Addr
  d_Lany : FuncData
  F_Lany : Fun K "_law_any" "_law_any" s_Lany a_Lany d_Lany
  b_Lany : L2.Binds K d_Lany ["_law_source", "_law_count"] []
  g_Lany : mg "_law_any" = some (.ref a_Lany)
  a_Lbeside : Addr
  d_Lbeside : FuncData
  F_Lbeside : Fun K "_law_beside" "_law_beside" s_Lbeside a_Lbeside d_Lbeside
  b_Lbeside : L2.Binds K d_Lbeside ["_law_source", "_law_one_here", "_law_other"] []
  g_Lbeside : mg "_law_beside" = some (.ref a_Lbeside)
  a_Lsome : Addr
  d_Lsome : FuncData
  F_Lsome : Fun K "_law_some" "_law_some" s_Lsome a_Lsome d_Lsome
  b_Lsome : L2.Binds K d_Lsome ["_law_source", "_law_most"] []
  g_Lsome : mg "_law_some" = some (.ref a_Lsome)
  a_Lnumber : Addr
  d_Lnumber : FuncData
  F_Lnumber : Fun K "_law_number" "_law_number" s_Lnumber a_Lnumber d_Lnumber
  b_Lnumber : L2.Binds K d_Lnumber ["_law_thing"] []
  g_Lnumber : mg "_law_number" = some (.ref a_Lnumber)
  a_Lrow : Addr
  d_Lrow : FuncData
  F_Lrow : Fun K "_law_row" "_law_row" s_Lrow a_Lrow d_Lrow
  b_Lrow : L2.Binds K d_Lrow ["_law_told", "_law_due"] []
  g_Lrow : mg "_law_row" = some (.ref a_Lrow)
  a_Loutside : Addr
  d_Loutside : FuncData
  F_Loutside : Fun K "_law_outside" "_law_outside" s_Loutside a_Loutside d_Loutside
  b_Loutside : L2.Binds K d_Loutside ["_law_source", "_law_size"] []
  g_Loutside : mg "_law_outside" = some (.ref a_Loutside)
  a_Lways : Addr
  d_Lways : FuncData
  F_Lways : Fun K "_law_ways" "_law_ways" s_Lways a_Lways d_Lways
  b_Lways : L2.Binds K d_Lways ["_law_size", "_law_rows", "_law_x"] []
  g_Lways : mg "_law_ways" = some (.ref a_Lways)
  a_Lrefusal : Addr
  d_Lrefusal : FuncData
  F_Lrefusal : Fun K "_law_refusal" "_law_refusal" s_Lrefusal a_Lrefusal d_Lrefusal
  b_Lrefusal : L2.Binds K d_Lrefusal ["_law_web", "_law_x", "_law_y"] []
  g_Lrefusal : mg "_law_refusal" = some (.ref a_Lrefusal)
  a_Lway_right : Addr
  d_Lway_right : FuncData
  F_Lway_right : Fun K "_law_way_right" "_law_way_right" s_Lway_right a_Lway_right d_Lway_right
  b_Lway_right : L2.Binds K d_Lway_right ["_law_web", "_law_x", "_law_y", "_law_found"] []
  g_Lway_right : mg "_law_way_right" = some (.ref a_Lway_right)
  a_Lright : Addr
  d_Lright : FuncData
  F_Lright : Fun K "_law_right" "_law_right" s_Lright a_Lright d_Lright
  b_Lright : L2.Binds K d_Lright ["_law_source"] []
  g_Lright : mg "_law_right" = some (.ref a_Lright)
  a_law : Addr
  d_law : FuncData
  F_law : Fun K "law" "law" s_law a_law d_law
  b_law : L2.Binds K d_law ["_law_script"] []
  g_law : mg "law" = some (.ref a_law)
  C_Web : Addr
  cl_Web : Cls K C_Web
  mg_Web : mg "Web" = some (.ref C_Web)
  na_Web__rows : NoAttr K C_Web "_rows"
  na_Web_links : NoAttr K C_Web "links"
  na_Web_size : NoAttr K C_Web "size"
  mk_Web : Mk K C_Web a_Web_init
  mt_Web_near : Meth K C_Web "near" a_Web_near
  mt_Web_linked : Meth K C_Web "linked" a_Web_linked
  C_Refused : Addr
  e_Refused : ErrC K mg "Refused" a_Refused_init C_Refused
  C_BadSize : Addr
  e_BadSize : ErrC K mg "BadSize" a_Refused_init C_BadSize
  C_BadLink : Addr
  e_BadLink : ErrC K mg "BadLink" a_Refused_init C_BadLink
  C_TooMany : Addr
  e_TooMany : ErrC K mg "TooMany" a_Refused_init C_TooMany
  C_BadCell : Addr
  e_BadCell : ErrC K mg "BadCell" a_Refused_init C_BadCell
  tI : PySem.W.typeIn K (.ref a_Refused_init) = some (.type "function")
  x_Refused_Refused : PySem.W.exmOne K (.ref C_Refused) (.ref C_Refused) = some true
  x_Refused_BadCell : PySem.W.exmOne K (.ref C_Refused) (.ref C_BadCell) = some false
  x_BadSize_Refused : PySem.W.exmOne K (.ref C_BadSize) (.ref C_Refused) = some true
  x_BadSize_BadCell : PySem.W.exmOne K (.ref C_BadSize) (.ref C_BadCell) = some false
  x_BadLink_Refused : PySem.W.exmOne K (.ref C_BadLink) (.ref C_Refused) = some true
  x_BadLink_BadCell : PySem.W.exmOne K (.ref C_BadLink) (.ref C_BadCell) = some false
  x_TooMany_Refused : PySem.W.exmOne K (.ref C_TooMany) (.ref C_Refused) = some true
  x_TooMany_BadCell : PySem.W.exmOne K (.ref C_TooMany) (.ref C_BadCell) = some false
  x_BadCell_Refused : PySem.W.exmOne K (.ref C_BadCell) (.ref C_Refused) = some true
  x_BadCell_BadCell : PySem.W.exmOne K (.ref C_BadCell) (.ref C_BadCell) = some true
  t_MOST_CELLS : Tok
  c_MOST_CELLS : mg "MOST_CELLS" = some (.int (40) t_MOST_CELLS)
  t_MOST_LINKS : Tok
  c_MOST_LINKS : mg "MOST_LINKS" = some (.int (160) t_MOST_LINKS)
  n_all : mg "all" = none
  n_bool : mg "bool" = none
  n_enumerate : mg "enumerate" = none
  n_int : mg "int" = none
  n_isinstance : mg "isinstance" = none
  n_len : mg "len" = none
  n_max : mg "max" = none
  n_min : mg "min" = none
  n_range : mg "range" = none
  n_sorted : mg "sorted" = none
  n_tuple : mg "tuple" = none
  n_zip : mg "zip" = none
end R
end

-- FormsA
section
set_option Elab.async false
set_option linter.all false
set_option maxRecDepth 100000
set_option maxHeartbeats 4000000
namespace R
open PySem PySem.Spec PyProof.Rows L2 LamX NdefX LamP
/-! ### promises -/
def spIsNumber : Sp := fun vs H Q _ => ∃ n : Int, vs = [.int n] ∧ Q (.bl true) H
def spIsBelow : Sp := fun vs H Q _ => ∃ n m : Int, vs = [.int n, .int m] ∧ Q (.bl (decide (0 ≤ n) && decide (n < m))) H
section
variable {P : Program} {w : World} {K : PySem.W.Frag} {mg : Str → Option Value} {base : Heap}
theorem ok_is_number (T : Txt K mg) : FnOk P w K mg base CX0 1 T.a_is_number T.d_is_number ["value"] spIsNumber := by
  refine T.F_is_number.ok sc_is_number (fun vs H Q E h => ?_) (fun cdv A outer s H vs Q E hr h => ?_)
  · obtain ⟨n, rfl, _⟩ := h
    rfl
  · obtain ⟨n, rfl, k⟩ := h
    refine ⟨_, pss_one (ps_ret (pe_and (pe_callB call_isi (by rfl) T.n_isinstance (by decide +kernel) (pa_cons (pv 0) (pa_cons (pe_bltn (v := .ty "int") (u := Value.type "int") (by rfl) T.n_int (by decide +kernel) rfl) pa_nil)))
      (pe_one (pe_not (pe_callB call_isi (by rfl) T.n_isinstance (by decide +kernel) (pa_cons (pv 0) (pa_cons (pe_bltn (v := .ty "bool") (u := Value.type "bool") (by rfl) T.n_bool (by decide +kernel) rfl) pa_nil))))))), ?_⟩
    refine ⟨_, rfl, _, _, .type "int", .type "int", true, rfl, .ty _, .base (.int _), kit_ty (by decide +kernel), _, rfl, ?_⟩
    refine iteT ⟨_, rfl, _, _, .type "int", .type "bool", false, rfl, .ty _, .base (.int _), kit_ty (by decide +kernel), _, rfl, ?_⟩
    exact k
theorem ok_is_below (T : Txt K mg) : FnOk P w K mg base CX0 2 T.a_is_below T.d_is_below ["value", "limit"] spIsBelow := by
  refine T.F_is_below.ok sc_is_below (fun vs H Q E h => ?_) (fun cdv A outer s H vs Q E hr h => ?_)
  · obtain ⟨n, m, rfl, _⟩ := h
    rfl
  · obtain ⟨n, m, rfl, k⟩ := h
    refine ⟨_, pss_one (ps_ret (pe_and (pe_call (ok_is_number T) hr rfl T.g_is_number T.F_is_number.kp T.b_is_number .nil pass0 (pa_cons (pv 0) pa_nil))
      (pe_one (pe_chain op_le op_lt pe_int (pv 0) (pv 1))))), ?_⟩
    refine ⟨_, rfl, n, rfl, _, rfl, iteT ?_⟩
    refine ⟨_, rfl, _, _, rfl, rfl, _, rfl, ?_⟩
    refine iteB (fun h => ?_) (fun h => ?_)
    · refine ⟨_, rfl, _, _, rfl, rfl, ?_⟩
      rw [h] at k
      exact k
    · rw [h] at k
      exact k
end
end R
end

-- FormsB
section
set_option Elab.async false
set_option linter.all false
set_option maxRecDepth 100000
set_option maxHeartbeats 4000000
namespace R
open PySem PySem.Spec PyProof.Rows L2 LamX NdefX LamP
/-- what is told of a value v and the heap behind, nothing but new objects besides -/
def Ret (T : List NTab) (H : Hp) (Q : VK) (P : V → Hp → Prop) : Prop := ∀ v H', Ext T none H H' → P v H' → Q v H'
def RetV (T : List NTab) (H : Hp) (Q : VK) (v : V) : Prop := ∀ H', Ext T none H H' → Q v H'
def spAreNumbers (TT : List NTab) : Sp := fun vs H Q _ => ∃ (a : Addr) (ns : List Int) (m : Int), vs = [.ref a, .int m] ∧ TZ H a (ns.map V.int) ∧ ns.length ≤ 1000 ∧ RetV TT H Q (.bl (decide ((ns.length : Int) = m)))
def spIsRising (TT : List NTab) : Sp := fun vs H Q _ => ∃ (a : Addr) (i j m : Int), vs = [.ref a, .int m] ∧ TZ H a [.int i, .int j] ∧ RetV TT H Q (.bl (decide (0 ≤ i) && (decide (i < j) && decide (j < m))))
section
variable {P : Program} {w : World} {K : PySem.W.Frag} {mg : Str → Option Value} {base : Heap}
theorem dV {i j : Int} : decide (V.int i = V.int j) = decide (i = j) := by
  by_cases h : i = j
  · subst h; simp
  · rw [decide_eq_false h, decide_eq_false (fun z => h (by injection z))]
theorem allT (n : Nat) : (List.replicate n true).all id = true := by
  induction n with
  | zero => rfl
  | succ n ih => rw [List.replicate_succ, List.all_cons, ih] <;> rfl
theorem ok_are_numbers (T : Txt K mg) (TT : List NTab) : FnOk P w K mg base CX0 2 T.a_are_numbers T.d_are_numbers ["value", "many"] (spAreNumbers TT) := by
  refine T.F_are_numbers.ok sc_are_numbers (fun vs H Q E h => ?_) (fun cdv A outer s H vs Q E hr h => ?_)
  · obtain ⟨a, ns, m, rfl, _⟩ := h
    rfl
  · obtain ⟨a, ns, m, rfl, ha, hl, k⟩ := h
    refine ⟨_, pss_one (ps_ret (pe_and (pe_callB call_isi (by rfl) T.n_isinstance (by decide +kernel) (pa_cons (pv 0) (pa_cons (pe_bltn (v := .ty "tuple") (u := Value.type "tuple") (by rfl) T.n_tuple (by decide +kernel) rfl) pa_nil)))
      (pe_and (pe_cmpR op_eq (pe_callB call_len_seq (by rfl) T.n_len PySem.boot_len (pa_cons (pv 0) pa_nil)) (pv 1) (nomark _))
      (pe_one (pe_callB (cr_all rfl) (by rfl) T.n_all (by decide +kernel) (pa_cons (pe_lc (own := [("entry", 2)]) (g := gName 2) (tt := tYes) rfl sc_are_numbers.nd (pi_tup (pv 0)) (blkOk_by (N := N_are_numbers) (sc := defScope s_are_numbers) (by decide +kernel))
        (fun _ _ _ _ _ => pg_name (i := 2) sc_are_numbers.nd rfl (Or.inl rfl)) (fun _ _ _ _ _ => pts_nil) (fun _ _ _ _ _ => pe_call (ok_is_number T) hr rfl T.g_is_number T.F_is_number.kp T.b_is_number .nil pass0 (pa_cons (pv 2) pa_nil))) pa_nil)))))), ?_⟩
    refine ⟨_, rfl, _, _, .type "tuple", .type "tuple", true, rfl, .ty _, TZ.ty ha, kit_ty (by decide +kernel), _, rfl, ?_⟩
    refine iteT ⟨_, rfl, a, _, rfl, .inr (TZ.sq ha), _, rfl, rfl, _, rfl, ?_⟩
    rw [List.length_map, dV]
    refine iteB (fun h => ?_) (fun h => ?_)
    · rw [h] at k
      refine ⟨_, rfl, a, rfl, ⟨_, TZ.sq ha⟩, fun D hD => lc_tup (xs := ns.map V.int) (fun i H' => H' = upd H D (.lst (List.replicate i (.bl true)))) rfl (fun i H' _ e => ?_) (fun i x H' hi e => ?_) (fun H' e => ?_)⟩
      · subst e
        exact TZ.sq (ha.upd (ha.ne hD))
      · subst e
        rw [List.getElem?_map] at hi
        cases e2 : ns[i]? with
        | none => rw [e2] at hi; cases hi
        | some n =>
          rw [e2] at hi
          cases hi
          have hin : i < ns.length := (List.getElem?_eq_some_iff.mp e2).1
          refine ⟨rfl, ?_⟩
          dsimp only [tYes]
          rw [if_pos rfl]
          refine ⟨_, rfl, n, rfl, _, upd_same, by rw [List.length_replicate]; exact small1000 (by omega), ?_⟩
          rw [upd_upd, List.replicate_succ']
      · subst e
        rw [List.length_map]
        refine ⟨D, List.replicate ns.length true, rfl, SqL.of (by rw [List.map_replicate]; exact upd_same), ?_⟩
        rw [allT]
        exact k _ (Ext.new hD)
    · rw [h] at k
      exact k _ (Ext.refl _ _ _)
theorem ok_is_rising (T : Txt K mg) (TT : List NTab) : FnOk P w K mg base CX0 3 T.a_is_rising_pair T.d_is_rising_pair ["value", "limit"] (spIsRising TT) := by
  refine T.F_is_rising_pair.ok sc_is_rising_pair (fun vs H Q E h => ?_) (fun cdv A outer s H vs Q E hr h => ?_)
  · obtain ⟨a, i, j, m, rfl, _⟩ := h
    rfl
  · obtain ⟨a, i, j, m, rfl, ha, k⟩ := h
    refine ⟨_, pss_one (ps_ret (pe_and (pe_call (ok_are_numbers T TT) hr rfl T.g_are_numbers T.F_are_numbers.kp T.b_are_numbers .nil pass0 (pa_cons (pv 0) (pa_cons pe_int pa_nil)))
      (pe_one (pe_chain3 op_le op_lt op_lt pe_int (pe_ix ix_tup (pv 0) pe_int (fun _ _ => rfl)) (pe_ix ix_tup (pv 0) pe_int (fun _ _ => rfl)) (pv 1))))), ?_⟩
    refine ⟨_, rfl, a, [i, j], 2, rfl, ha, by show 2 ≤ 1000; decide, fun H1 x1 => ⟨_, rfl, iteT ?_⟩⟩
    have h1 := x1.tup ha
    refine ⟨_, rfl, _, _, 0, _, rfl, rfl, TZ.sq h1, rfl, _, _, rfl, rfl, _, rfl, ?_⟩
    refine iteB (fun h => ?_) (fun h => ?_)
    · refine ⟨_, rfl, _, _, 1, _, rfl, rfl, TZ.sq h1, rfl, _, _, rfl, rfl, _, rfl, ?_⟩
      refine iteB (fun h2 => ?_) (fun h2 => ?_)
      · refine ⟨_, rfl, _, _, rfl, rfl, ?_⟩
        rw [h, h2] at k
        exact k _ x1
      · rw [h, h2] at k
        exact k _ x1
    · rw [h] at k
      exact k _ x1
end
end R
end

-- FormsC
section
set_option Elab.async false
set_option linter.all false
set_option maxRecDepth 100000
set_option maxHeartbeats 4000000
namespace R
open PySem PySem.Spec PyProof.Rows L2 LamX NdefX LamP
def lePr (q p : Int × Int) : Bool := if q.1 = p.1 then decide (q.2 ≤ p.2) else decide (q.1 ≤ p.1)
theorem lePr_eq (q p : Int × Int) : Ob.lexAt (fun j => decide ([q.1, q.2].getD j 0 = [p.1, p.2].getD j 0)) (fun j => decide ([q.1, q.2].getD j 0 ≤ [p.1, p.2].getD j 0)) (decide ([q.1, q.2].length ≤ [p.1, p.2].length)) 0 (min [q.1, q.2].length [p.1, p.2].length) = lePr q p := by
  show (if decide (q.1 = p.1) = true then (if decide (q.2 = p.2) = true then true else decide (q.2 ≤ p.2)) else decide (q.1 ≤ p.1)) = lePr q p
  unfold lePr
  by_cases h : q.1 = p.1
  · rw [if_pos h, if_pos (decide_eq_true h)]
    by_cases h2 : q.2 = p.2
    · rw [if_pos (decide_eq_true h2)]
      exact (decide_eq_true (by omega)).symm
    · rw [if_neg (by simpa using h2)]
  · rw [if_neg h, if_neg (by simpa using h)]
def okAt (g : Nat → Bool) (pr : List (Int × Int)) (i : Nat) : Prop := g i = true ∧ ∀ p q, 0 < i → pr[i - 1]? = some p → pr[i]? = some q → lePr q p = false
/-- r is the first fault, or -1 -/
def FF (g : Nat → Bool) (pr : List (Int × Int)) (r : Int) : Prop := (r = -1 ∧ ∀ i, i < pr.length → okAt g pr i) ∨ ∃ i : Nat, r = (i : Int) ∧ i < pr.length ∧ ¬ okAt g pr i ∧ ∀ j, j < i → okAt g pr j
def spFF (TT : List NTab) (f : Addr) (F : NF) (b : Expr) (lsp : List (Option V) → Sp) (ws : List (Option V)) : Sp := fun vs H Q _ =>
  ∃ (t : Addr) (ths : List V) (pr : List (Int × Int)) (g : Nat → Bool), vs = [.ref t, .ref f] ∧ TZ H t ths ∧ Tps H ths (lkD pr) ∧ H f = some (LamO f F b) ∧ H F.c = some (CodeO F.c F.qual) ∧
    (∀ i v H1 Q1 E1, ths[i]? = some v → Ext TT none H H1 → RetV TT H1 Q1 (.bl (g i)) → lsp ws [v] H1 Q1 E1) ∧ ∀ r H1, Ext TT none H H1 → FF g pr r → Q (.int r) H1
section
variable {P : Program} {w : World} {K : PySem.W.Frag} {mg : Str → Option Value} {base : Heap}
theorem Ext.lam {TT : List NTab} {H H1 : Hp} {f g : Addr} {F : NF} {b : Expr} (x : Ext TT none H H1) (h : H f = some (LamO g F b)) : H1 f = some (LamO g F b) := x.kp f _ (fun z => nomatch z) (fun ps => lamO_ne ps) h
theorem Ext.code {TT : List NTab} {H H1 : Hp} {c d : Addr} {q : Str} (x : Ext TT none H H1) (h : H c = some (CodeO d q)) : H1 c = some (CodeO d q) := x.kp c _ (fun z => nomatch z) (fun ps => codeO_ne ps) h
theorem ok_first_fault (T : Txt K mg) (TT : List NTab) {k : Nat} {f : Addr} {F : NF} {b : Expr} {fr ps : List Str} {ws : List (Option V)} {lsp : List (Option V) → Sp} (Fn : LOk P w K mg base CX0 k f F b ps fr lsp) :
    FnOkC P w K mg base CX0 (k + 1) T.a_first_fault T.d_first_fault ["things", "fits"] F.cl fr ws (spFF TT f F b lsp ws) := by
  refine okC T.F_first_fault sc_first_fault (fun vs H Q E h => ?_) (fun cdv A outer s H vs Q E hr C h => ?_)
  · obtain ⟨t, ths, pr, g, rfl, _⟩ := h
    rfl
  · obtain ⟨t, ths, pr, g, rfl, ht, hp, hf, hc, hl, k⟩ := h
    refine ⟨_, pss_cons (ps_for PassesOwn.never rfl (pi_enumT (by rfl) T.n_enumerate (pa_cons (pv 0) pa_nil)) (pg_tup rfl (pgs_cons (pg_name (i := 2) sc_first_fault.nd rfl (Or.inl rfl)) (pgs_cons (pg_name (i := 3) sc_first_fault.nd rfl (Or.inl rfl)) pgs_nil)))
        (pss_cons (ps_if (pt_not (pt_val (pe_callF (i := 1) (E := E0) Fn C rfl hr (Nat.le_refl _) pass0 rfl (Or.inl rfl) (pa_cons (pv 3) pa_nil)))) (pss_one (ps_ret (pv 2))) pss_nil)
        (pss_one (ps_if (PW.pt (pw_and (pt_cmpR op_gt (pv 2) pe_int (nomark _)) (pw_and1 (pt_cmpR (op_leT hr.units0) (pv 3) (pe_ix ix_tup (pv 0) (pe_op op_sub (pv 2) pe_int) (fun _ _ => rfl)) (nomark _))))) (pss_one (ps_ret (pv 2))) pss_nil))))
      (pss_one (ps_ret (pe_un un_neg pe_int))), ?_⟩
    have hlen : ths.length = pr.length := by rw [hp.length]; unfold lkD; rw [List.length_map]
    refine ⟨_, rfl, t, ths, rfl, TZ.sq ht, for_it (walk_enumT (K := K) (a := t) (xs := ths)) (fun i σ H' => ∃ u v : Option V, σ = [some (.ref t), some (.ref f), u, v] ∧ Ext TT none H H' ∧ ∀ j, j < i → okAt g pr j)
      ⟨none, none, rfl, Ext.refl _ _ _, fun j hj => absurd hj (Nat.not_lt_zero _)⟩ (fun i σ H' _ ⟨_, _, _, x, _⟩ => TZ.sq (x.tup ht)) ?_ ?_⟩
    · rintro i x σ H1 H2 hi ⟨u, v, rfl, x1, hok⟩ ⟨Ta, y, z, rfl, nT, ⟨obT, zoT, rfl⟩, hy, hz⟩
      cases hy
      have x2 : Ext TT none H (upd H1 Ta (zT obT [.int (i : Nat), z])) := x1.trans (Ext.new nT)
      refine ⟨Ta, _, rfl, TZ.sq (TZ.new zoT), rfl, _, _, rfl, _, _, rfl, rfl, ?_⟩
      refine ⟨rfl, x2.lam hf, _, rfl, ⟨x2.lam hf, x2.code hc⟩, hl i z _ _ _ hz x2 fun H3 x3 => ?_⟩
      have x4 := x2.trans x3
      refine ⟨_, rfl, ?_⟩
      refine iteB (fun hg => ?_) (fun hg => ?_)
      · have hg' : g i = false := by simpa using hg
        refine ⟨_, rfl, ?_⟩
        refine k _ _ x4 (.inr ⟨i, rfl, by omega, fun z => ?_, hok⟩)
        rw [z.1] at hg'
        cases hg'
      · have hg' : g i = true := by simpa using hg
        refine ⟨_, rfl, _, _, rfl, rfl, _, rfl, ?_⟩
        refine iteB (fun h0 => ?_) (fun h0 => ?_)
        · have h0' : 0 < i := by
            have q := of_decide_eq_true h0
            omega
          obtain ⟨d, hd, hdz⟩ := hp.get hz
          unfold lkD at hd
          rw [List.getElem?_map] at hd
          cases ep : pr[i]? with
          | none => rw [ep] at hd; cases hd
          | some q =>
            rw [ep] at hd
            cases hd
            obtain ⟨az, rfl, haz⟩ := tp_pr hdz
            have hi1 : i - 1 < ths.length := by omega
            have hz1 : ths[i - 1]? = some ths[i - 1] := List.getElem?_eq_getElem hi1
            obtain ⟨d1, hd1, hdz1⟩ := hp.get hz1
            unfold lkD at hd1
            rw [List.getElem?_map] at hd1
            cases ep1 : pr[i - 1]? with
            | none => rw [ep1] at hd1; cases hd1
            | some q1 =>
              rw [ep1] at hd1
              cases hd1
              obtain ⟨az1, e1, haz1⟩ := tp_pr hdz1
              rw [e1] at hz1
              have ei : ((i : Nat) : Int) - 1 = ((i - 1 : Nat) : Int) := by omega
              refine ⟨_, rfl, _, rfl, _, rfl, _, _, rfl, rfl, _, _, _, _, rfl, rfl, TZ.sq (x4.tup ht), (by rw [ei]; exact atI_nat hz1), az, az1, [q.1, q.2], [q1.1, q1.2], rfl, rfl, TZ.sq (x4.tup haz), TZ.sq (x4.tup haz1), _, rfl, ?_⟩
              refine iteB (fun hle => ?_) (fun hle => ?_)
              · refine ⟨_, rfl, ?_⟩
                refine k _ _ x4 (.inr ⟨i, rfl, by omega, fun z => ?_, hok⟩)
                have z2 := z.2 q1 q h0' ep1 ep
                rw [← lePr_eq, hle] at z2
                cases z2
              · refine ⟨_, _, rfl, x4, fun j hj => ?_⟩
                by_cases e : j = i
                · subst e
                  refine ⟨hg', fun p' q' _ h1 h2 => ?_⟩
                  rw [ep1] at h1
                  rw [ep] at h2
                  cases h1
                  cases h2
                  rw [← lePr_eq]
                  exact hle
                · exact hok j (by omega)
        · have h0' : i = 0 := by
            have q := of_decide_eq_false h0
            omega
          refine ⟨_, _, rfl, x4, fun j hj => ?_⟩
          have e : j = i := by omega
          subst e
          exact ⟨hg', fun p' q' z => by omega⟩
    · rintro σ H1 ⟨u, v, rfl, x1, hok⟩
      refine ⟨_, rfl, ?_⟩
      rw [hlen] at hok
      exact k _ _ x1 (.inl ⟨rfl, hok⟩)
end
end R
end

-- WebA
section
set_option Elab.async false
set_option linter.all false
set_option maxRecDepth 100000
set_option maxHeartbeats 4000000
namespace R
open PySem PySem.Spec PyProof.Rows L2 LamX NdefX LamP
/-! ### errors -/
def spErrInit (K : PySem.W.Frag) : Sp := fun vs H Q _ => ∃ (a C : Addr) (v : V), vs = [.ref a, v] ∧ OexC K C ∧ PySem.W.findIn K (.ref C) "what" = some none ∧ H a = some (exo a C none) ∧
  ∀ dx, H dx = none → dx ≠ a → Q .non (upd (upd H dx (exd dx [("what", v)])) a (exo a C (some dx)))
/-- an error of the class at C is wished, its what as P tells -/
def Rz (TT : List NTab) (E : XK) (H : Hp) (C : Addr) (P : V → Hp → Prop) : Prop := ∀ v d H', Ext TT none H H' → H' d = some (.xd [("what", v)]) → P v H' → E (.ref C) (some d) H'
theorem Rz.step {TT : List NTab} {E : XK} {H H1 : Hp} {C : Addr} {P : V → Hp → Prop} (h : Rz TT E H C P) (x : Ext TT none H H1) : Rz TT E H1 C P := fun v d H' y => h v d H' (x.trans y)
def tErr (C : Addr) (ta : TA) : L2.St → Hp → XK → Prop := fun σ H Q => ta σ H fun vs H1 => ∃ v, vs = [v] ∧ ∀ d, H1 d = none → Q (.ref C) (some d) (upd H1 d (.xd [("what", v)]))
section
variable {P : Program} {w : World} {K : PySem.W.Frag} {mg : Str → Option Value} {base : Heap}
theorem ok_err_init (T : Txt K mg) : FnOk P w K mg base CX0 1 T.a_Refused_init T.d_Refused_init ["self", "what"] (spErrInit K) := by
  refine T.F_Refused_init.ok sc_Refused_init (fun vs H Q E h => ?_) (fun cdv A outer s H vs Q E hr h => ?_)
  · obtain ⟨a, C, v, rfl, _⟩ := h
    rfl
  · obtain ⟨a, C, v, rfl, hC, hw, ha, k⟩ := h
    refine ⟨_, pss_one (ps_ost (pv 0) (pv 1)), ?_⟩
    exact ⟨_, rfl, _, rfl, a, C, rfl, hC, hw, .inl ⟨ha, k⟩⟩
theorem pa_mono {X : Cx} {es : List Expr} {ta : TA} (ha : PA X es ta) : PA X es (fun σ H Q2 => ∃ Q1 : List V → Hp → Prop, ta σ H Q1 ∧ ∀ vs H1, Q1 vs H1 → Q2 vs H1) := by
  refine ⟨fun pos pins s σ H Q I h => ?_⟩
  obtain ⟨Q1, h1, m⟩ := h
  exact wpAny_mono (ha.run pos pins s σ H Q1 I h1) (fun us s' ⟨vs, H', I', r, q⟩ => ⟨vs, H', I', r, m _ _ q⟩) fun _ _ x => x
theorem pmk_err {X : Cx} {x : Str} {C : Addr} {e : Expr} {ta : TA} {p pos : Pos} (T : Txt X.K X.mg) (hE : ErrC X.K X.mg x T.a_Refused_init C) (hr : Room 2 X.A) (hg : Gl X x) (ha : PA X [e] ta)
    (hdb : (x == ("__debug__" : Str)) = false := by decide) (he : starEach (e :: []) X.env = (false, eval e X.env) :: starEach [] X.env := by rfl) (hpl : (backTo pos (starEach [] X.env)).any (·.1) = false := by rfl) :
    PMk X (.Call (.Name x p) [e] [] pos) (tErr C ta) := by
  have q := pmk_oex (pos := pos) (p := p) hE.ox hE.iC T.tI (ok_err_init (P := X.prog) (w := X.w) (base := X.base) T) hr T.b_Refused_init .nil pass0 hg hE.gC (pa_mono ha) hdb he hpl
  intro pins s σ H Q I h
  refine q pins s σ H Q I ?_
  refine ⟨_, h, fun vs H1 hv => ?_⟩
  obtain ⟨v, rfl, k⟩ := hv
  refine ⟨(by show 1 ≤ 1000; decide), fun a na => ?_⟩
  refine ⟨a, C, v, rfl, hE.ox, hE.nw, upd_same, fun dx nd ne => ?_⟩
  have nd1 : H1 dx = none := by
    rw [upd_ne ne] at nd
    exact nd
  refine ⟨rfl, dx, [("what", v)], upd_same, by rw [upd_ne ne]; exact upd_same, nd1, ?_⟩
  have e1 : upd (del (upd (upd (upd H1 a (exo a C none)) dx (exd dx [("what", v)])) a (exo a C (some dx))) a) dx (.xd [("what", v)]) = upd H1 dx (.xd [("what", v)]) := by
    funext b
    by_cases hb : b = dx
    · rw [hb, upd_same, upd_same]
    · rw [upd_ne hb, upd_ne hb]
      by_cases hba : b = a
      · rw [hba, del_same, na]
      · rw [del_ne hba, upd_ne hba, upd_ne hb, upd_ne hba]
  rw [e1]
  exact k dx nd1
/-! ### webs: their attributes, what stands in them -/
def webF (n : Int) (lt rt : V) : List (Str × V) := putF "_rows" rt (putF "links" lt (putF "size" (.int n) []))
theorem k_ls : ¬ (("size" : Str) = "links") := by decide +kernel
theorem k_lr : ¬ (("links" : Str) = "_rows") := by decide +kernel
theorem k_sr : ¬ (("size" : Str) = "_rows") := by decide +kernel
theorem webF_size (n : Int) (lt rt : V) : (webF n lt rt).lookup ("size" : Str) = some (.int n) := by
  unfold webF
  rw [lookup_putF, if_neg k_sr, lookup_putF, if_neg k_ls, lookup_putF, if_pos rfl]
theorem webF_links (n : Int) (lt rt : V) : (webF n lt rt).lookup ("links" : Str) = some lt := by
  unfold webF
  rw [lookup_putF, if_neg k_lr, lookup_putF, if_pos rfl]
theorem webF_rows (n : Int) (lt rt : V) : (webF n lt rt).lookup ("_rows" : Str) = some rt := by
  unfold webF
  rw [lookup_putF, if_pos rfl]
theorem webF_no (n : Int) (lt rt : V) {m : Str} (h1 : ¬ m = "_rows") (h2 : ¬ m = "links") (h3 : ¬ m = "size") : (webF n lt rt).lookup m = none := by
  unfold webF
  rw [lookup_putF, if_neg h1, lookup_putF, if_neg h2, lookup_putF, if_neg h3]
  all_goals rfl
/-- what is near x -/
def rowOf (ps : List (Int × Int)) (x : Int) : List Int := ps.filterMap fun p => if p.1 = x then some p.2 else if p.2 = x then some p.1 else none
def rowsD (n : Int) (ps : List (Int × Int)) : List PyData := (List.range n.toNat).map fun (x : Nat) => .tuple ((rowOf ps (x : Int)).map .int)
structure WebAt (C : Addr) (H : Hp) (p : Addr) (n : Int) (lt : V) (ps : List (Int × Int)) : Prop where
  ob : ∃ dx rt, H p = some (.ins C dx (webF n lt (.ref rt))) ∧ Tp H (.ref rt) (.tuple (rowsD n ps))
  lk : Tp H lt (.tuple (lkD ps))
theorem WebAt.mono {C : Addr} {H H1 : Hp} {p : Addr} {n : Int} {lt : V} {ps : List (Int × Int)} {TT : List NTab} {so : Option Addr} (h : WebAt C H p n lt ps) (x : Ext TT so H H1) (k : TK H H1) (ne : so ≠ some p) : WebAt C H1 p n lt ps := by
  obtain ⟨⟨dx, rt, h1, h2⟩, h3⟩ := h
  exact ⟨⟨dx, rt, x.kp p _ (Ne.symm ne) ins_nt h1, h2.mono k⟩, h3.mono k⟩
theorem WebAt.ext {C : Addr} {H H1 : Hp} {p : Addr} {n : Int} {lt : V} {ps : List (Int × Int)} {TT : List NTab} (h : WebAt C H p n lt ps) (x : Ext TT none H H1) : WebAt C H1 p n lt ps := h.mono x x.tk (fun z => nomatch z)
def spCheckCell (T : Txt K mg) (TT : List NTab) : Sp := fun vs H Q E => ∃ (p dx : Addr) (x n : Int) (lt rt : V), vs = [.ref p, .int x] ∧ H p = some (.ins T.C_Web dx (webF n lt rt)) ∧ ((0 ≤ x ∧ x < n) → RetV TT H Q .non) ∧ (¬ (0 ≤ x ∧ x < n) → Rz TT E H T.C_BadCell fun v _ => v = .int x)
theorem ok_check_cell (T : Txt K mg) (TT : List NTab) : FnOk P w K mg base (L2.CX P w) 3 T.a_check_cell T.d_check_cell ["web", "x"] (spCheckCell T TT) := by
  refine T.F_check_cell.okX sc_check_cell (fun vs H Q E h => ?_) (fun cdv A outer s H vs Q E hr h => ?_)
  · obtain ⟨p, dx, x, n, lt, rt, rfl, _⟩ := h
    rfl
  · obtain ⟨p, dx, x, n, lt, rt, rfl, hp, k1, k2⟩ := h
    refine ⟨_, pss_one (ps_if (pt_not (pt_val (pe_call (ok_is_below T) hr rfl T.g_is_below T.F_is_below.kp T.b_is_below .nil pass0 (pa_cons (pv 1) (pa_cons (pe_fld (pv 0) rfl) pa_nil)))))
      (pss_one (ps_raise rfl (takes_of rfl rfl rfl rfl) (pmk_err (C := T.C_BadCell) T T.e_BadCell hr rfl (pa_cons (pv 1) pa_nil)))) pss_nil), ?_⟩
    refine ⟨_, rfl, _, rfl, p, T.C_Web, dx, _, _, rfl, hp, T.cl_Web, T.na_Web_size, webF_size _ _ _, x, n, rfl, _, rfl, ?_⟩
    refine iteB (fun h => ?_) (fun h => ?_)
    · have h' : ¬ (0 ≤ x ∧ x < n) := fun z => by
        simp at h
        omega
      exact ⟨_, rfl, _, rfl, fun d nd => k2 h' _ _ _ (Ext.new nd) upd_same rfl⟩
    · have h' : 0 ≤ x ∧ x < n := by simpa using h
      exact k1 h' _ (Ext.refl _ _ _)
end
end R
end

-- WebB
section
set_option Elab.async false
set_option linter.all false
set_option maxRecDepth 100000
set_option maxHeartbeats 4000000
namespace R
open PySem PySem.Spec PyProof.Rows L2 LamX NdefX LamP
def lamP : Expr → Arguments
  | .Lambda p _ _ _ => p
  | _ => { posonlyargs := [], args := [], vararg := none, kwonlyargs := [], kw_defaults := [], kwarg := none, defaults := [] }
def lamB : Expr → Expr
  | .Lambda _ b _ _ => b
  | e => e
def lamS : Expr → Scope
  | .Lambda _ _ s _ => s
  | _ => { kind := .function, names := [], isGenerator := false, isCoroutine := false }
def asgE : Stmt → Expr
  | .Assign _ e _ => e
  | _ => .Constant .none 0 ⟨0, 0, 0, 0⟩
def argN : Expr → Nat → Expr
  | .Call _ es _ _, j => es.getD j (.Constant .none 0 ⟨0, 0, 0, 0⟩)
  | e, _ => e
theorem FunC.okX {P : Program} {w : World} {K : PySem.W.Frag} {mg : Str → Option Value} {base : Heap} {x qual : Str} {st : Stmt} {f c : Addr} {fd : FuncData} {N ps : List Str} {k : Nat} {sp : Sp} (F : FunC K x qual st f fd c) (S : FnScope N ps (defScope st)) (len : ∀ vs H Q E, sp vs H Q E → vs.length = ps.length)
    (hbody : ∀ (A : Around) (outer : List Env) (s : Shared) (H : Hp) (vs : List V) (Q : VK) (E : XK), Room k (A.deeper (envOfC qual (defScope st) s.heap.objs.size f (.ref c))) → sp vs H Q E →
      ∃ t, PSs (cxOf (L2.CX P w) P w K mg base N qual (defScope st) f (.ref c) A outer s H E) (defBody st) t ∧ t { nx := fun _ H' => Q .non H', rt := Q } (L2.start N vs) H) : FnOk P w K mg base (L2.CX P w) (k + 1) f fd ps sp := by
  obtain ⟨oc, od, kV, doc, pm, an, ct, osl, rfl, lk, hcd⟩ := F.ex
  exact fn_of lk hcd S len fun A outer s H vs Q E hr hsp => hbody A outer s H vs Q E hr hsp
abbrev e_cl : Expr := argN (asgE ((defBody s_check_links).getD 1 (.Pass ⟨0, 0, 0, 0⟩))) 1
/-- the one table: of the lambda in check_links -/
def TTof {K : PySem.W.Frag} {mg : Str → Option Value} (T : Txt K mg) : List NTab := [(T.P_check_links, fun _ _ => (("check_links" : Str) ++ ".<locals>.") ++ "<lambda>")]
def lspRise (TT : List NTab) (ws : List (Option V)) : Sp := fun vs H Q _ => ∃ (a : Addr) (i j n : Int), ws = [some (.int n)] ∧ vs = [.ref a] ∧ TZ H a [.int i, .int j] ∧ RetV TT H Q (.bl (decide (0 ≤ i) && (decide (i < j) && decide (j < n))))
def rises (n : Int) (p : Int × Int) : Bool := decide (0 ≤ p.1) && (decide (p.1 < p.2) && decide (p.2 < n))
def risesAt (n : Int) (ps : List (Int × Int)) (i : Nat) : Bool := match ps[i]? with
  | some p => rises n p
  | none => true
/-- no fault in the links -/
def NoFault (n : Int) (ps : List (Int × Int)) : Prop := ∀ i, i < ps.length → okAt (risesAt n ps) ps i
theorem sc_lam_cl : NScope ["link", "size"] ["link"] ["size"] (lamS e_cl) := nscope_by (by decide +kernel)
theorem fr_lam_cl : ∀ y ∈ (lamS e_cl).names, y.2 = .free → (defScope s_check_links).names.lookup y.1 = some .cell ∨ (defScope s_check_links).names.lookup y.1 = some .free := by decide +kernel
theorem fr_lam_cl2 : ∀ y ∈ (["size"] : List Str), (y, NameKind.free) ∈ (lamS e_cl).names := by decide +kernel
section
variable {P : Program} {w : World} {K : PySem.W.Frag} {mg : Str → Option Value} {base : Heap}
theorem lok_rise (T : Txt K mg) (TT : List NTab) (f c' : Addr) (q : Str) (cl : List (Str × Addr)) : LOk P w K mg base CX0 4 f ⟨"<lambda>", q, lamP e_cl, [], lamS e_cl, cl, c'⟩ (lamB e_cl) ["link"] ["size"] (lspRise TT) := by
  refine lok_of (N := ["link", "size"]) sc_lam_cl (fun pm ctv us hl => ?_) (fun ws vs H Q E h => ?_) (fun A outer s H vs ws Q E hr hf hc hw h => ?_)
  · match us, hl with
    | [u], _ => rfl
  · obtain ⟨a, i, j, n, _, rfl, _⟩ := h
    rfl
  · obtain ⟨a, i, j, n, rfl, rfl, ha, k⟩ := h
    refine ⟨_, pe_call (ok_is_rising T TT) hr rfl T.g_is_rising_pair T.F_is_rising_pair.kp T.b_is_rising_pair .nil pass0 (pa_cons (pv 0) (pa_cons (pv 1) pa_nil)), ?_⟩
    exact ⟨_, rfl, _, rfl, a, i, j, n, rfl, ha, k⟩
def spCheckLinks (T : Txt K mg) (TT : List NTab) : Sp := fun vs H Q E => ∃ (n : Int) (lt : Addr) (ps : List (Int × Int)), vs = [.int n, .ref lt] ∧ Tp H (.ref lt) (.tuple (lkD ps)) ∧ TabsN TT H ∧
  (160 < ps.length → Rz TT E H T.C_TooMany fun v _ => v = .int (ps.length : Int)) ∧ (ps.length ≤ 160 → NoFault n ps → RetV TT H Q .non) ∧
  (ps.length ≤ 160 → ∀ i : Nat, i < ps.length → ¬ okAt (risesAt n ps) ps i → (∀ j, j < i → okAt (risesAt n ps) ps j) → Rz TT E H T.C_BadLink fun v _ => v = .int (i : Int))
theorem ok_check_links (T : Txt K mg) (TB : TabB base mg T.c_check_links T.P_check_links) : FnOk P w K mg base (L2.CX P w) 6 T.a_check_links T.d_check_links ["size", "links"] (spCheckLinks T (TTof T)) := by
  refine T.FC_check_links.okX sc_check_links (fun vs H Q E h => ?_) (fun A outer s H vs Q E hr h => ?_)
  · obtain ⟨n, lt, ps, rfl, _⟩ := h
    rfl
  · obtain ⟨n, lt, ps, rfl, hl, hT, k1, k2, k3⟩ := h
    have G : ∀ (cl : List (Str × Addr)) (ws : List (Option V)), FnOkC P w K mg base CX0 5 T.a_first_fault T.d_first_fault ["things", "fits"] cl ["size"] ws (fun vs H Q E => ∃ (f c' : Addr), spFF (TTof T) f ⟨"<lambda>", (("check_links" : Str) ++ ".<locals>.") ++ "<lambda>", lamP e_cl, [], lamS e_cl, cl, c'⟩ (lamB e_cl) (lspRise (TTof T)) ws vs H Q E) := fun cl ws =>
      ⟨fun vs H Q E ⟨f, c', q⟩ => (ok_first_fault (P := P) (w := w) (base := base) T (TTof T) (lok_rise T (TTof T) f c' _ cl)).len vs H Q E q,
       fun A outer s H args us vs Q E hr e0 C hb r ⟨f, c', q⟩ => (ok_first_fault (P := P) (w := w) (base := base) T (TTof T) (lok_rise T (TTof T) f c' _ cl)).run A outer s H args us vs Q E hr e0 C hb r q⟩
    refine ⟨_, pss_cons (ps_if (pt_cmpR op_gt (pe_callB call_len_seq (by rfl) T.n_len PySem.boot_len (pa_cons (pv 1) pa_nil)) (pe_glob (v := .int 160) rfl T.c_MOST_LINKS ⟨_, rfl⟩) (nomark _))
        (pss_one (ps_raise rfl (takes_of rfl rfl rfl rfl) (pmk_err (C := T.C_TooMany) T T.e_TooMany (hr.mono (by decide)) rfl (pa_cons (pe_callB call_len_seq (by rfl) T.n_len PySem.boot_len (pa_cons (pv 1) pa_nil)) pa_nil)))) pss_nil)
      (pss_cons (ps_set (i := 2) sc_check_links.nd rfl (Or.inl rfl) (pe_callC (fr := ["size"]) (js := [0]) (E := E0) (G _) (fun ok => Caps.made ok (scope := lamS e_cl) fr_lam_cl fr_lam_cl2 rfl) hr rfl T.g_first_fault T.F_first_fault.kp T.b_first_fault pass0
          (pa_cons (pv 1) (pa_cons (pe_lam (T := TTof T) TB rfl (List.mem_singleton.mpr rfl) (fun p hp _ => by cases List.mem_singleton.mp hp; rfl) rfl fr_lam_cl) pa_nil))))
      (pss_one (ps_if (pt_cmpR op_ge (pv 2) pe_int (nomark _)) (pss_one (ps_raise rfl (takes_of rfl rfl rfl rfl) (pmk_err (C := T.C_BadLink) T T.e_BadLink (hr.mono (by decide)) rfl (pa_cons (pv 2) pa_nil)))) pss_nil))), ?_⟩
    have hL : ∃ xs, TZ H lt xs ∧ Tps H xs (lkD ps) := by
      cases hl with
      | tup h t => exact ⟨_, h, t⟩
    obtain ⟨xs, hx, hxs⟩ := hL
    have hlen : xs.length = ps.length := by rw [hxs.length]; unfold lkD; rw [List.length_map]
    refine ⟨_, rfl, lt, _, rfl, .inr (TZ.sq hx), _, _, rfl, rfl, _, rfl, ?_⟩
    rw [hlen]
    refine iteB (fun h => ?_) (fun h => ?_)
    · have h' : 160 < ps.length := by
        have q := of_decide_eq_true h
        omega
      refine ⟨_, rfl, lt, _, rfl, .inr (TZ.sq hx), _, rfl, fun d nd => ?_⟩
      rw [hlen]
      exact k1 h' _ _ _ (Ext.new nd) upd_same rfl
    · have h' : ps.length ≤ 160 := by
        have q := of_decide_eq_false h
        omega
      refine ⟨_, rfl, hT, fun f c' H1 ⟨eN, nn, T1, f0, f1, c1⟩ => ?_⟩
      have x1 : Ext (TTof T) none H H1 := ⟨fun b o _ t e => eN b o e t, fun _ => T1, (fun _ z => nomatch z), nn⟩
      refine ⟨f, c', lt, xs, ps, risesAt n ps, rfl, x1.tup hx, hxs.mono x1.tk, f1, c1, fun i v H2 Q1 E1 hi x2 kq => ?_, fun r H2 x2 hr' => ?_⟩
      · obtain ⟨d, hd, hdz⟩ := hxs.get hi
        unfold lkD at hd
        rw [List.getElem?_map] at hd
        cases ep : ps[i]? with
        | none => rw [ep] at hd; cases hd
        | some q =>
          rw [ep] at hd
          cases hd
          obtain ⟨az, rfl, haz⟩ := tp_pr hdz
          refine ⟨az, q.1, q.2, n, rfl, rfl, (x1.trans x2).tup haz, ?_⟩
          have e : risesAt n ps i = rises n q := by
            unfold risesAt
            rw [ep]
          rw [e] at kq
          exact kq
      · refine ⟨_, rfl, _, _, rfl, rfl, _, rfl, ?_⟩
        have x3 := x1.trans x2
        rcases hr' with ⟨rfl, hok⟩ | ⟨i, rfl, hi, hb, hok⟩
        · refine iteB (fun h => ?_) (fun h => ?_)
          · have q := of_decide_eq_true h
            omega
          · exact k2 h' hok _ x3
        · refine iteB (fun h => ?_) (fun h => ?_)
          · exact ⟨_, rfl, _, rfl, fun d nd => k3 h' i hi hb hok _ _ _ (x3.trans (Ext.new nd)) upd_same rfl⟩
          · have q := of_decide_eq_false h
            omega
end
end R
end

-- WebC
section
set_option Elab.async false
set_option linter.all false
set_option maxRecDepth 100000
set_option maxHeartbeats 4000000
namespace R
open PySem PySem.Spec PyProof.Rows L2 LamX NdefX LamP
theorem rowOf_snoc (ps : List (Int × Int)) (p : Int × Int) (x : Int) : rowOf (ps ++ [p]) x = rowOf ps x ++ (if p.1 = x then [p.2] else if p.2 = x then [p.1] else []) := by
  unfold rowOf
  rw [List.filterMap_append]
  congr 1
  show List.filterMap _ [p] = _
  by_cases h : p.1 = x
  · simp [h]
  · by_cases h2 : p.2 = x
    · simp [h, h2]
    · simp [h, h2]
theorem rowOf_len (ps : List (Int × Int)) (x : Int) : (rowOf ps x).length ≤ ps.length := by
  unfold rowOf
  exact List.length_filterMap_le _ _
theorem take_snoc {α : Type} {l : List α} {i : Nat} {x : α} (h : l[i]? = some x) : l.take (i + 1) = l.take i ++ [x] := by
  have hi := (List.getElem?_eq_some_iff.mp h)
  obtain ⟨h1, h2⟩ := hi
  rw [List.take_succ, h]
  rfl
abbrev rTupOf (K : PySem.W.Frag) := rTupZ K
theorem cr_tupleK {X : Cx} (K : PySem.W.Frag) (h : X.K = K := by rfl) : CallR X (.type "tuple") (rTupOf K) := by
  subst h
  exact call_tupZ
def LkIn (n : Int) (ps : List (Int × Int)) : Prop := ∀ p ∈ ps, 0 ≤ p.1 ∧ p.1 < p.2 ∧ p.2 < n
def spNearRows (TT : List NTab) : Sp := fun vs H Q _ => ∃ (n : Int) (lt : Addr) (ps : List (Int × Int)), vs = [.int n, .ref lt] ∧ Tp H (.ref lt) (.tuple (lkD ps)) ∧ ps.length ≤ 1000 ∧ 0 ≤ n ∧ n ≤ 1000 ∧ LkIn n ps ∧
  Ret TT H Q fun v H' => ∃ rt, v = .ref rt ∧ Tp H' (.ref rt) (.tuple (rowsD n ps))
section
variable {P : Program} {w : World} {K : PySem.W.Frag} {mg : Str → Option Value} {base : Heap}
theorem nodup_get {l : List Addr} (h : l.Nodup) {i j : Nat} {a : Addr} (hi : l[i]? = some a) (hj : l[j]? = some a) : i = j := by
  obtain ⟨h1, e1⟩ := List.getElem?_eq_some_iff.mp hi
  obtain ⟨h2, e2⟩ := List.getElem?_eq_some_iff.mp hj
  exact (List.getElem_inj h).mp (e1.trans e2.symm)
theorem ok_near_rows (T : Txt K mg) (TT : List NTab) : FnOk P w K mg base CX0 1 T.a_near_rows T.d_near_rows ["many", "pairs"] (spNearRows TT) := by
  refine T.F_near_rows.ok sc_near_rows (fun vs H Q E h => ?_) (fun cdv A outer s H vs Q E hr h => ?_)
  · obtain ⟨n, lt, ps, rfl, _⟩ := h
    rfl
  · obtain ⟨n, lt, ps, rfl, hl, hz, hn0, hn1, hin, k⟩ := h
    have nd := sc_near_rows.nd
    refine ⟨_, pss_cons (ps_setLc (i := 2) (own := [("_", 5)]) (g := gName 5) (tt := tYes) rfl nd rfl rfl (sw_true rfl rfl rfl (by decide +kernel)) (pi_range1 (by rfl) T.n_range (pa_cons (pv 0) pa_nil)) (blkOk_by (N := N_near_rows) (sc := defScope s_near_rows) (by decide +kernel))
          (fun _ _ _ _ _ => pg_name (i := 5) nd rfl (Or.inl rfl)) (fun _ _ _ _ _ => pts_nil) (fun _ _ _ _ _ => pe_lst pa_nil))
      (pss_cons (ps_for PassesOwn.never rfl (pi_tup (pv 1)) (pg_tup rfl (pgs_cons (pg_name (i := 3) nd rfl (Or.inl rfl)) (pgs_cons (pg_name (i := 4) nd rfl (Or.inl rfl)) pgs_nil)))
          (pss_cons (ps_expr (pe_bm PySem.F.plainAttrs_list PySem.F.slot_list_append PySem.F.type_list_append mt_append (pe_ix ix_list (pv 2) (pv 3) (fun _ _ => rfl)) (pa_cons (pv 4) pa_nil)))
          (pss_one (ps_expr (pe_bm PySem.F.plainAttrs_list PySem.F.slot_list_append PySem.F.type_list_append mt_append (pe_ix ix_list (pv 2) (pv 4) (fun _ _ => rfl)) (pa_cons (pv 3) pa_nil))))))
      (pss_one (ps_ret (pe_callTy call_tupZ (by rfl) T.n_tuple (by decide +kernel) (pa_cons (pe_lc (own := [("row", 6)]) (g := gName 6) (tt := tYes) rfl nd (pi_list (pv 2)) (blkOk_by (N := N_near_rows) (sc := defScope s_near_rows) (by decide +kernel))
          (fun _ _ _ _ _ => pg_name (i := 6) nd rfl (Or.inl rfl)) (fun _ _ _ _ _ => pts_nil) (fun _ _ _ _ _ => pe_callTy (r := rTupOf K) (cr_tupleK K) (by rfl) T.n_tuple (by decide +kernel) (pa_cons (pv 6) pa_nil))) pa_nil))))), ?_⟩
    obtain ⟨xs, hx, hxs⟩ : ∃ xs, TZ H lt xs ∧ Tps H xs (lkD ps) := by
      cases hl with
      | tup h t => exact ⟨_, h, t⟩
    have hlen : xs.length = ps.length := by rw [hxs.length]; unfold lkD; rw [List.length_map]
    refine ⟨_, rfl, n, rfl, by omega, by omega, fun D hD => lc_range (lo := 0) (n := n.toNat) (fun i H' => ∃ ls : List Addr, ls.length = i ∧ ls.Nodup ∧ Ext TT none H H' ∧ H' D = some (.lst (ls.map V.ref)) ∧ ∀ l ∈ ls, H l = none ∧ l ≠ D ∧ H' l = some (.lst [])) ⟨[], rfl, List.nodup_nil, Ext.new hD, upd_same, fun _ z => nomatch z⟩ ?_ ?_⟩
    · rintro i H1 hi ⟨ls, hls, hnd, x1, h1, hall⟩
      refine ⟨rfl, ?_⟩
      dsimp only [tYes]
      rw [if_pos rfl]
      refine ⟨(by show 0 ≤ sizeLine; exact Nat.zero_le _), fun p np => ?_⟩
      have npD : p ≠ D := fun z => by rw [z, h1] at np; cases np
      have npl : p ∉ ls := fun z => by
        have q := (hall p z).2.2
        rw [np] at q
        cases q
      have e1 : upd H1 p (.lst []) D = some (.lst (ls.map V.ref)) := by rw [upd_ne (Ne.symm npD)]; exact h1
      refine ⟨_, e1, (by rw [List.length_map]; exact small1000 (by omega)), ls ++ [p], by rw [List.length_append, hls] <;> rfl, ?_, (x1.trans (Ext.new np)).mutL hD e1 (fun z => nomatch z), by rw [upd_same, List.map_append] <;> rfl, fun l hl' => ?_⟩
      · rw [List.nodup_append]
        exact ⟨hnd, by simp, fun a ha b hb => by
          simp at hb
          subst hb
          exact fun z => npl (z ▸ ha)⟩
      · rcases List.mem_append.mp hl' with z | z
        · obtain ⟨a1, a2, a3⟩ := hall l z
          refine ⟨a1, a2, ?_⟩
          rw [upd_ne a2, upd_ne (fun q => npl (by rw [← q]; exact z))]
          exact a3
        · simp at z
          subst z
          exact ⟨x1.fr _ np, npD, by rw [upd_ne npD]; exact upd_same⟩
    · rintro H1 ⟨ls, hls, hnd, x1, h1, hall⟩
      refine ⟨_, rfl, lt, rfl, ⟨_, TZ.sq (x1.tup hx)⟩, for_tup (xs := xs) (fun i σ H' => ∃ u v : Option V, σ = [some (.int n), some (.ref lt), some (.ref D), u, v, none, none] ∧ Ext TT none H H' ∧ H' D = some (.lst (ls.map V.ref)) ∧ ∀ (j : Nat) l, ls[j]? = some l → H' l = some (.lst ((rowOf (ps.take i) (j : Int)).map V.int)))
        ⟨none, none, rfl, x1, h1, fun j l hj => (hall l (List.mem_of_getElem? hj)).2.2⟩ (fun i σ H' _ ⟨_, _, _, x, _⟩ => TZ.sq (x.tup hx)) ?_ ?_⟩
      · rintro i x σ H2 hi ⟨u, v, rfl, x2, h2, hrow⟩
        obtain ⟨d, hd, hdz⟩ := hxs.get hi
        unfold lkD at hd
        rw [List.getElem?_map] at hd
        cases ep : ps[i]? with
        | none => rw [ep] at hd; cases hd
        | some q =>
          rw [ep] at hd
          cases hd
          obtain ⟨az, rfl, haz⟩ := tp_pr hdz
          obtain ⟨q0, q1, q2⟩ := hin q (List.mem_of_getElem? ep)
          have ea : q.1 = ((q.1.toNat : Nat) : Int) := by omega
          have eb : q.2 = ((q.2.toNat : Nat) : Int) := by omega
          have la : q.1.toNat < ls.length := by omega
          have lb : q.2.toNat < ls.length := by omega
          have ga : ls[q.1.toNat]? = some ls[q.1.toNat] := List.getElem?_eq_getElem la
          have gb : ls[q.2.toNat]? = some ls[q.2.toNat] := List.getElem?_eq_getElem lb
          generalize hA : ls[q.1.toNat] = A1 at ga
          generalize hB : ls[q.2.toNat] = B1 at gb
          have nAB : B1 ≠ A1 := fun z => by
            rw [z] at gb
            have e := nodup_get hnd ga gb
            omega
          have rA := hrow _ _ ga
          have rB := hrow _ _ gb
          rw [← ea] at rA
          rw [← eb] at rB
          have nA : H A1 = none := (hall A1 (List.mem_of_getElem? ga)).1
          have nB : H B1 = none := (hall B1 (List.mem_of_getElem? gb)).1
          have dA : A1 ≠ D := (hall A1 (List.mem_of_getElem? ga)).2.1
          have dB : B1 ≠ D := (hall B1 (List.mem_of_getElem? gb)).2.1
          have zi : ∀ x : Int, ((rowOf (ps.take i) x).map V.int).length < sizeLine := fun x => by
            rw [List.length_map]
            exact small1000 (Nat.le_trans (rowOf_len _ _) (by rw [List.length_take]; omega))
          have mA : (ls.map V.ref)[q.1.toNat]? = some (.ref A1) := by rw [List.getElem?_map, ga] <;> rfl
          have mB : (ls.map V.ref)[q.2.toNat]? = some (.ref B1) := by rw [List.getElem?_map, gb] <;> rfl
          refine ⟨az, _, rfl, TZ.sq (x2.tup haz), rfl, _, _, rfl, _, _, rfl, rfl, ?_⟩
          refine ⟨_, rfl, _, rfl, D, _, _, .ref A1, rfl, rfl, SqL.of h2, (by rw [ea]; exact atI_nat mA), Or.inl ⟨rfl, _, SqL.of rA⟩, _, rfl, A1, _, _, rfl, rfl, rA, zi _, ?_⟩
          have h2' : upd H2 A1 (.lst ((rowOf (ps.take i) q.1).map V.int ++ [.int q.2])) D = some (.lst (ls.map V.ref)) := by rw [upd_ne (Ne.symm dA)]; exact h2
          have rB' : upd H2 A1 (.lst ((rowOf (ps.take i) q.1).map V.int ++ [.int q.2])) B1 = some (.lst ((rowOf (ps.take i) q.2).map V.int)) := by rw [upd_ne nAB]; exact rB
          refine ⟨_, rfl, _, rfl, D, _, _, .ref B1, rfl, rfl, SqL.of h2', (by rw [eb]; exact atI_nat mB), Or.inl ⟨rfl, _, SqL.of rB'⟩, _, rfl, B1, _, _, rfl, rfl, rB', zi _, ?_⟩
          refine ⟨_, _, rfl, (x2.mutL nA rA (fun z => nomatch z)).mutL nB rB' (fun z => nomatch z), by rw [upd_ne (Ne.symm dB)]; exact h2', fun j l hj => ?_⟩
          rw [take_snoc ep, rowOf_snoc]
          by_cases c1 : l = B1
          · subst c1
            have e := nodup_get hnd hj gb
            subst e
            rw [upd_same, ← eb, if_neg (by omega), if_pos rfl, List.map_append]
            rfl
          · rw [upd_ne c1]
            by_cases c2 : l = A1
            · subst c2
              have e := nodup_get hnd hj ga
              subst e
              rw [upd_same, ← ea, if_pos rfl, List.map_append]
              rfl
            · rw [upd_ne c2, if_neg (fun z => c2 (by
                have e : j = q.1.toNat := by omega
                rw [e, ga] at hj
                exact (Option.some.inj hj).symm)), if_neg (fun z => c1 (by
                have e : j = q.2.toNat := by omega
                rw [e, gb] at hj
                exact (Option.some.inj hj).symm)), List.append_nil]
              exact hrow j l hj
      · rintro σ H2 ⟨u, v, rfl, x2, h2, hrow⟩
        rw [hlen, List.take_length] at hrow
        refine ⟨_, rfl, D, rfl, ⟨_, SqL.of h2⟩, fun D3 hD3 => lc_list (xs := ls.map V.ref) (fun i H' => ∃ ts : List V, Ext TT none H2 H' ∧ H2 D3 = none ∧ H' D3 = some (.lst ts) ∧ Tps H' ts ((List.range i).map fun (x : Nat) => .tuple ((rowOf ps (x : Int)).map .int))) ⟨[], Ext.new hD3, hD3, upd_same, .nil⟩ (fun i H' _ ⟨ts, x, n3, _⟩ => SqL.of (x.lst h2)) ?_ ?_⟩
        · rintro i x H3 hi ⟨ts, x3, n3, h3, hts⟩
          rw [List.getElem?_map] at hi
          cases el : ls[i]? with
          | none => rw [el] at hi; cases hi
          | some l =>
            rw [el] at hi
            cases hi
            have hil : i < ls.length := (List.getElem?_eq_some_iff.mp el).1
            refine ⟨rfl, ?_⟩
            dsimp only [tYes]
            rw [if_pos rfl]
            refine ⟨_, rfl, l, _, rfl, .inl ⟨SqL.of (x3.lst (hrow i l el)), fun p ob np zo => ?_⟩⟩
            have npD : D3 ≠ p := fun z => by rw [← z, h3] at np; cases np
            have htl := hts.length
            rw [List.length_map, List.length_range] at htl
            have e3 : upd H3 p (zT ob ((rowOf ps (i : Int)).map V.int)) D3 = some (.lst ts) := by rw [upd_ne npD]; exact h3
            refine ⟨_, e3, (by rw [htl]; exact small1000 (by omega)), ts ++ [.ref p], (x3.trans (Ext.new np)).mutL n3 e3 (fun z => nomatch z), n3, upd_same, ?_⟩
            rw [List.range_succ, List.map_append]
            refine Tps.append ?_ (.cons ?_ .nil)
            · exact hts.mono ((TK.new np).trans (TK.lst e3))
            · exact .tup ((TZ.new zo).upd (Ne.symm npD)) (Tps.ints _)
        · rintro H3 ⟨ts, x3, n3, h3, hts⟩
          rw [List.length_map, hls] at hts
          refine ⟨D3, ts, rfl, .inl ⟨SqL.of h3, fun p ob np zo => ?_⟩⟩
          exact k _ _ ((x2.trans x3).trans (Ext.new np)) ⟨p, rfl, .tup (TZ.new zo) (hts.mono (TK.new np))⟩
end
end R
end

-- WebD
section
set_option Elab.async false
set_option linter.all false
set_option maxRecDepth 100000
set_option maxHeartbeats 4000000
namespace R
open PySem PySem.Spec PyProof.Rows L2 LamX NdefX LamP
theorem rises_in {n : Int} {ps : List (Int × Int)} (h : NoFault n ps) : LkIn n ps := fun p hp => by
  obtain ⟨i, hi⟩ := List.mem_iff_getElem?.mp hp
  have q := (h i (List.getElem?_eq_some_iff.mp hi).1).1
  unfold risesAt at q
  rw [hi] at q
  simp [rises] at q
  exact q
/-- an instance at x was just made: what is kept from there is kept from before -/
theorem make_ext {TT : List NTab} {H1 H2 : Hp} {x dx C : Addr} (nx : H1 x = none) (nd : H1 dx = none) (e : Ext TT (some x) (upd (upd H1 dx (.own x)) x (.ins C dx [])) H2) : Ext TT none H1 H2 := by
  have up : ∀ b o, H1 b = some o → upd (upd H1 dx (.own x)) x (.ins C dx []) b = some o := fun b o h => by
    rw [upd_ne (ne_of_none h nx), upd_ne (ne_of_none h nd)]
    exact h
  exact ⟨fun b o _ t h => e.kp b o (fun z => ne_of_none h nx (Option.some.inj z)) t (up b o h), fun h => e.tb (h.ext up), (fun _ z => nomatch z), fun b h => upd_none' (upd_none' (e.fr b h))⟩
theorem make_new {TT : List NTab} {H1 : Hp} {x dx C : Addr} (nx : H1 x = none) (nd : H1 dx = none) (ne : dx ≠ x) : Ext TT none H1 (upd (upd H1 dx (.own x)) x (.ins C dx [])) :=
  (Ext.new nd).trans (Ext.new (by rw [upd_ne (Ne.symm ne)]; exact nx))
section
variable {P : Program} {w : World} {K : PySem.W.Frag} {mg : Str → Option Value} {base : Heap}
/-- what Web(n, links) does: E's wishes, or the web -/
def WebInit (T : Txt K mg) (TT : List NTab) (n : Int) (ps : List (Int × Int)) (H : Hp) (E : XK) (Good : Prop) : Prop :=
  (¬ (1 ≤ n ∧ n ≤ 40) → Rz TT E H T.C_BadSize fun v _ => v = .int n) ∧ (1 ≤ n ∧ n ≤ 40 → 160 < ps.length → Rz TT E H T.C_TooMany fun v _ => v = .int (ps.length : Int)) ∧
  (1 ≤ n ∧ n ≤ 40 → ps.length ≤ 160 → ∀ i : Nat, i < ps.length → ¬ okAt (risesAt n ps) ps i → (∀ j, j < i → okAt (risesAt n ps) ps j) → Rz TT E H T.C_BadLink fun v _ => v = .int (i : Int)) ∧
  (1 ≤ n ∧ n ≤ 40 → ps.length ≤ 160 → NoFault n ps → Good)
def spWebInit (T : Txt K mg) (TT : List NTab) : Sp := fun vs H Q E => ∃ (p dx : Addr) (n : Int) (lt : Addr) (ps : List (Int × Int)), vs = [.ref p, .int n, .ref lt] ∧ H p = some (.ins T.C_Web dx []) ∧ Tp H (.ref lt) (.tuple (lkD ps)) ∧ TabsN TT H ∧
  WebInit T TT n ps H E (∀ H', Ext TT (some p) H H' → WebAt T.C_Web H' p n (.ref lt) ps → Q .non H')
theorem ok_web_init (T : Txt K mg) (TB : TabB base mg T.c_check_links T.P_check_links) : FnOk P w K mg base (L2.CX P w) 7 T.a_Web_init T.d_Web_init ["self", "size", "links"] (spWebInit T (TTof T)) := by
  refine T.F_Web_init.okX sc_Web_init (fun vs H Q E h => ?_) (fun cdv A outer s H vs Q E hr h => ?_)
  · obtain ⟨p, dx, n, lt, ps, rfl, _⟩ := h
    rfl
  · obtain ⟨p, dx, n, lt, ps, rfl, hp, hl, hT, k1, k2, k3, k4⟩ := h
    refine ⟨_, pss_cons (ps_if (pt_not (pt_chain op_le op_le pe_int (pv 1) (pe_glob (v := .int 40) rfl T.c_MOST_CELLS ⟨_, rfl⟩))) (pss_one (ps_raise rfl (takes_of rfl rfl rfl rfl) (pmk_err (C := T.C_BadSize) T T.e_BadSize (hr.mono (by decide)) rfl (pa_cons (pv 1) pa_nil)))) pss_nil)
      (pss_cons (ps_expr (pe_call (ok_check_links T TB) hr rfl T.g_check_links T.F_check_links.kp T.b_check_links .nil (passes_call (takes_of rfl rfl rfl rfl) (fun _ _ _ _ h => h)) (pa_cons (pv 1) (pa_cons (pv 2) pa_nil))))
      (pss_cons (ps_fld (pv 0) (pv 1) rfl) (pss_cons (ps_fld (pv 0) (pv 2) rfl)
      (pss_one (ps_fld (pv 0) (pe_call (ok_near_rows T (TTof T)) (hr.mono (by decide)) rfl T.g_near_rows T.F_near_rows.kp T.b_near_rows .nil pass0 (pa_cons (pv 1) (pa_cons (pv 2) pa_nil))) rfl))))), ?_⟩
    have bad : ¬ (1 ≤ n ∧ n ≤ 40) → ∀ d, H d = none → E (.ref T.C_BadSize) (some d) (upd H d (.xd [("what", .int n)])) := fun h d nd => k1 h _ _ _ (Ext.new nd) upd_same rfl
    refine ⟨_, rfl, _, _, rfl, rfl, _, rfl, ?_⟩
    refine iteB (fun h => ?_) (fun h => ?_)
    rotate_left
    · have h' : ¬ (1 ≤ n ∧ n ≤ 40) := fun z => by
        have q := of_decide_eq_false h
        omega
      refine ⟨_, rfl, ?_⟩
      refine iteT ?_
      exact ⟨_, rfl, _, rfl, fun d nd => bad h' d nd⟩
    · refine ⟨_, _, rfl, rfl, _, rfl, ?_⟩
      have h1 := of_decide_eq_true h
      refine iteB (fun h2 => ?_) (fun h2 => ?_)
      · have h' : ¬ (1 ≤ n ∧ n ≤ 40) := fun z => by
          simp at h2
          omega
        exact ⟨_, rfl, _, rfl, fun d nd => bad h' d nd⟩
      · have h' : 1 ≤ n ∧ n ≤ 40 := by
          simp at h2
          omega
        refine ⟨_, rfl, _, rfl, n, lt, ps, rfl, hl, hT, k2 h', fun hz hok H1 x1 => ?_, k3 h'⟩
        have hp1 := x1.ins hp
        refine ⟨_, rfl, _, rfl, p, T.C_Web, dx, _, rfl, hp1, T.cl_Web, T.na_Web_size, (by show 0 < 1000; decide), ?_⟩
        refine ⟨_, rfl, _, rfl, p, T.C_Web, dx, _, rfl, upd_same, T.cl_Web, T.na_Web_links, (by show 1 < 1000; decide), ?_⟩
        rw [upd_upd]
        -- the links stand: p is no tuple
        have tk2 : ∀ fs, TK H1 (upd H1 p (.ins T.C_Web dx fs)) := fun fs a ys e => e.upd (e.elim fun _ y => ne_of y.2 hp1 (by intro z; cases z))
        have hl2 := (hl.mono x1.tk).mono (tk2 (putF "links" (.ref lt) (putF "size" (.int n) [])))
        refine ⟨_, rfl, _, rfl, n, lt, ps, rfl, hl2, by omega, by omega, by omega, rises_in hok, fun v H2 x2 hv => ?_⟩
        obtain ⟨rt, rfl, hrt⟩ := hv
        refine ⟨_, rfl, p, T.C_Web, dx, _, rfl, x2.ins upd_same, T.cl_Web, T.na_Web__rows, (by show 2 < 1000; decide), ?_⟩
        have tk3 : TK H2 (upd H2 p (.ins T.C_Web dx (webF n (.ref lt) (.ref rt)))) := fun a ys e => e.upd (e.elim fun _ y => ne_of y.2 (x2.ins upd_same) (by intro z; cases z))
        refine k4 h' hz hok _ ⟨fun b o nb nt e => ?_, fun hT0 => ?_, fun a ea hs => ?_, fun b hb => ?_⟩ ⟨⟨dx, rt, upd_same, hrt.mono tk3⟩, (hl2.mono x2.tk).mono tk3⟩
        · have nbp : b ≠ p := fun z => nb (by rw [z])
          rw [upd_ne nbp]
          refine x2.kp b o (fun z => nomatch z) nt ?_
          rw [upd_ne nbp]
          exact x1.kp b o (fun z => nomatch z) nt e
        · have keep : ∀ {G : Hp} {fs gs : List (Str × V)}, G p = some (.ins T.C_Web dx fs) → TabsN (TTof T) G → TabsN (TTof T) (upd G p (.ins T.C_Web dx gs)) := fun {G fs gs} hG hh t ht => by
            obtain ⟨qs, a1, a2, a3⟩ := hh t ht
            refine ⟨qs, by rw [upd_ne (ne_of a1 hG (Ne.symm (ins_nt qs)))]; exact a1, a2, fun pos cv hc => ?_⟩
            obtain ⟨c, e1, e2⟩ := a3 pos cv hc
            exact ⟨c, e1, by rw [upd_ne (ne_of e2 hG (Ne.symm (ins_nc c _)))]; exact e2⟩
          exact keep (x2.ins upd_same) (x2.tb (keep hp1 (x1.tb hT0)))
        · obtain ⟨i, j, e, _⟩ := hs
          cases ea
          rw [hp] at e
          cases e
        · exact x1.fr b (upd_none' (x2.fr b (upd_none' hb)))
def spNear (T : Txt K mg) (TT : List NTab) : Sp := fun vs H Q E => ∃ (p : Addr) (x n : Int) (lt : V) (ps : List (Int × Int)), vs = [.ref p, .int x] ∧ WebAt T.C_Web H p n lt ps ∧
  ((0 ≤ x ∧ x < n) → Ret TT H Q fun v H' => ∃ r, v = .ref r ∧ TZ H' r ((rowOf ps x).map V.int)) ∧ (¬ (0 ≤ x ∧ x < n) → Rz TT E H T.C_BadCell fun v _ => v = .int x)
theorem rows_at {H : Hp} {rt : Addr} {n : Int} {ps : List (Int × Int)} {x : Int} (h : Tp H (.ref rt) (.tuple (rowsD n ps))) (hx : 0 ≤ x ∧ x < n) : ∃ (xs : List V) (r : Addr), TZ H rt xs ∧ atI xs x = some (.ref r) ∧ TZ H r ((rowOf ps x).map V.int) := by
  cases h with
  | tup h t =>
    rename_i xs
    have e : (rowsD n ps)[x.toNat]? = some (.tuple ((rowOf ps x).map .int)) := by
      unfold rowsD
      rw [List.getElem?_map, List.getElem?_range (by omega)]
      show some (PyData.tuple ((rowOf ps ((x.toNat : Nat) : Int)).map .int)) = _
      rw [show ((x.toNat : Nat) : Int) = x by omega]
    obtain ⟨v, hv, hd⟩ := t.getD e
    cases hd with
    | tup h2 t2 =>
      rw [Tps.ints_of t2] at h2
      refine ⟨xs, _, h, ?_, h2⟩
      have q := atI_nat hv
      rw [show ((x.toNat : Nat) : Int) = x by omega] at q
      exact q
theorem ok_near (T : Txt K mg) (TT : List NTab) : FnOk P w K mg base (L2.CX P w) 4 T.a_Web_near T.d_Web_near ["self", "x"] (spNear T TT) := by
  refine T.F_Web_near.okX sc_Web_near (fun vs H Q E h => ?_) (fun cdv A outer s H vs Q E hr h => ?_)
  · obtain ⟨p, x, n, lt, ps, rfl, _⟩ := h
    rfl
  · obtain ⟨p, x, n, lt, ps, rfl, hw, k1, k2⟩ := h
    obtain ⟨⟨dx, rt, hp, hrt⟩, hl⟩ := hw
    refine ⟨_, pss_cons (ps_expr (pe_call (ok_check_cell T TT) hr rfl T.g_check_cell T.F_check_cell.kp T.b_check_cell .nil (passes_call (takes_of rfl rfl rfl rfl) (fun _ _ _ _ h => h)) (pa_cons (pv 0) (pa_cons (pv 1) pa_nil))))
      (pss_one (ps_ret (pe_ix ix_tup (pe_fld (pv 0) rfl) (pv 1) (fun _ _ => rfl)))), ?_⟩
    refine ⟨_, rfl, _, rfl, p, dx, x, n, _, _, rfl, hp, fun hx H1 x1 => ?_, k2⟩
    obtain ⟨xs, r, h1, h2, h3⟩ := rows_at (hrt.mono x1.tk) hx
    refine ⟨_, rfl, p, T.C_Web, dx, _, _, rfl, x1.ins hp, T.cl_Web, T.na_Web__rows, webF_rows _ _ _, _, rfl, rt, xs, x, .ref r, rfl, rfl, TZ.sq h1, h2, ?_⟩
    exact k1 hx _ _ x1 ⟨r, rfl, h3⟩
def spLinked (T : Txt K mg) (TT : List NTab) : Sp := fun vs H Q _ => ∃ (p : Addr) (x y n : Int) (lt : V) (ps : List (Int × Int)), vs = [.ref p, .int x, .int y] ∧ WebAt T.C_Web H p n lt ps ∧
  RetV TT H Q (.bl (decide (0 ≤ x) && decide (x < n) && decide (y ∈ rowOf ps x)))
theorem inV_int (y : Int) : ∀ ns : List Int, inV (.int y) (ns.map V.int) = decide (y ∈ ns)
  | [] => rfl
  | n :: r => by
    have ih := inV_int y r
    unfold inV at ih ⊢
    rw [List.map_cons, List.any_cons, ih]
    by_cases h : y = n
    · subst h
      simp [eqV]
    · simp [eqV, h, Ne.symm h]
theorem flat_ints (ns : List Int) : (ns.map V.int).all flatV = true := by
  rw [List.all_eq_true]
  intro v hv
  obtain ⟨n, _, rfl⟩ := List.mem_map.mp hv
  rfl
theorem ok_linked (T : Txt K mg) (TT : List NTab) : FnOk P w K mg base CX0 3 T.a_Web_linked T.d_Web_linked ["self", "x", "y"] (spLinked T TT) := by
  refine T.F_Web_linked.ok sc_Web_linked (fun vs H Q E h => ?_) (fun cdv A outer s H vs Q E hr h => ?_)
  · obtain ⟨p, x, y, n, lt, ps, rfl, _⟩ := h
    rfl
  · obtain ⟨p, x, y, n, lt, ps, rfl, hw, k⟩ := h
    obtain ⟨⟨dx, rt, hp, hrt⟩, hl⟩ := hw
    refine ⟨_, pss_one (ps_ret (pe_and (pe_call (ok_is_below T) hr rfl T.g_is_below T.F_is_below.kp T.b_is_below .nil pass0 (pa_cons (pv 1) (pa_cons (pe_fld (pv 0) rfl) pa_nil)))
      (pe_one (pe_cmpR op_in_seq (pv 2) (pe_ix ix_tup (pe_fld (pv 0) rfl) (pv 1) (fun _ _ => rfl)) (by with_unfolding_all rfl))))), ?_⟩
    refine ⟨_, rfl, _, rfl, p, T.C_Web, dx, _, _, rfl, hp, T.cl_Web, T.na_Web_size, webF_size _ _ _, x, n, rfl, _, rfl, ?_⟩
    refine iteB (fun h => ?_) (fun h => ?_)
    · have h' : 0 ≤ x ∧ x < n := by simpa using h
      obtain ⟨xs, r, h1, h2, h3⟩ := rows_at hrt h'
      refine ⟨_, rfl, _, rfl, p, T.C_Web, dx, _, _, rfl, hp, T.cl_Web, T.na_Web__rows, webF_rows _ _ _, _, rfl, rt, xs, x, .ref r, rfl, rfl, TZ.sq h1, h2, ?_⟩
      refine ⟨r, _, rfl, .inr (TZ.sq h3), rfl, flat_ints _, ?_⟩
      have e : (if false = true then !inV (V.int y) ((rowOf ps x).map V.int) else inV (V.int y) ((rowOf ps x).map V.int)) = (decide (0 ≤ x) && decide (x < n) && decide (y ∈ rowOf ps x)) := by
        rw [if_neg Bool.false_ne_true, inV_int, h] <;> rfl
      rw [e]
      exact k _ (Ext.refl _ _ _)
    · rw [h] at k
      exact k _ (Ext.refl _ _ _)
end
end R
end

-- Math
section
set_option Elab.async false
set_option linter.all false
set_option maxRecDepth 100000
set_option maxHeartbeats 4000000
namespace R
open PySem PySem.Spec PyProof.Rows L2 LamX NdefX LamP
open SrtO (lexB lexB_iff lexB_no)
/-! ### rows of pairs: ascending, sorted -/
abbrev Pr := Int × Int
theorem pr_ext {p q : Pr} (h1 : p.1 = q.1) (h2 : p.2 = q.2) : p = q := Prod.ext h1 h2
theorem lexB_tot {p q : Pr} (h1 : lexB p q = false) (h2 : lexB q p = false) : p = q := by
  have a := lexB_no.mp h1
  have b := lexB_no.mp h2
  exact pr_ext (by omega) (by omega)
def Asc (ps : List Pr) : Prop := ps.Pairwise fun p q => lexB p q = true
def Srt (ps : List Pr) : Prop := ps.Pairwise fun p q => lexB q p = false
theorem srt_uniq : ∀ {l m : List Pr}, Srt l → Srt m → l.Perm m → l = m
  | [], m, _, _, h => (List.Perm.eq_nil h.symm).symm
  | x :: l, [], _, _, h => absurd h.length_eq (by simp)
  | x :: l, y :: m, hl, hm, h => by
    have hl' := List.pairwise_cons.mp hl
    have hm' := List.pairwise_cons.mp hm
    have e : x = y := by
      rcases List.mem_cons.mp (h.mem_iff.mp (List.mem_cons_self (a := x) (l := l))) with e | hx
      · exact e
      · rcases List.mem_cons.mp (h.mem_iff.mpr (List.mem_cons_self (a := y) (l := m))) with e | hy
        · exact e.symm
        · exact lexB_tot (hm'.1 x hx) (hl'.1 y hy)
    subst e
    rw [srt_uniq hl'.2 hm'.2 h.cons_inv]
def srt (ps : List Pr) : List Pr := ps.mergeSort fun a b => !lexB b a
theorem srt_perm (ps : List Pr) : (srt ps).Perm ps := List.mergeSort_perm _ _
theorem srt_srt (ps : List Pr) : Srt (srt ps) := by
  have h := List.pairwise_mergeSort (le := fun a b : Pr => !lexB b a) (fun a b c h1 h2 => by
    simp only [Bool.not_eq_true'] at h1 h2 ⊢
    have a1 := lexB_no.mp h1
    have b1 := lexB_no.mp h2
    exact lexB_no.mpr (by omega)) (fun a b => by
    simp only [Bool.or_eq_true, Bool.not_eq_true']
    cases h : lexB b a with
    | false => exact .inl rfl
    | true =>
      refine .inr (lexB_no.mpr ?_)
      have := lexB_iff.mp h
      omega) ps
  exact h.imp fun h => by simpa using h
theorem srt_of {l ps : List Pr} (h : Srt l) (p : l.Perm ps) : l = srt ps := srt_uniq h (srt_srt ps) (p.trans (srt_perm ps).symm)
theorem srt_len (ps : List Pr) : (srt ps).length = ps.length := (srt_perm ps).length_eq
theorem asc_nodup {ps : List Pr} (h : Asc ps) : ps.Nodup := h.imp fun {p q} h e => by
  subst e
  have := lexB_iff.mp h
  omega
theorem asc_srt {ps : List Pr} (h : Asc ps) : Srt ps := h.imp fun {p q} h => by
  have := lexB_iff.mp h
  exact lexB_no.mpr (by omega)
theorem srt_asc {ps : List Pr} (h : Srt ps) (n : ps.Nodup) : Asc ps := by
  have q := List.pairwise_and_iff.mpr ⟨h, n⟩
  refine q.imp fun {p q} h => ?_
  cases e : lexB p q with
  | true => rfl
  | false => exact absurd (lexB_tot e h.1) h.2
/-- links that a web of n cells may have -/
structure Valid (n : Int) (ps : List Pr) : Prop where
  lk : LkIn n ps
  asc : Asc ps
theorem rises_of {n : Int} {p : Pr} (h : 0 ≤ p.1 ∧ p.1 < p.2 ∧ p.2 < n) : rises n p = true := by
  unfold rises
  simp
  exact h
theorem valid_nofault {n : Int} {ps : List Pr} (h : Valid n ps) : NoFault n ps := fun i hi => by
  refine ⟨?_, fun p q h0 h1 h2 => ?_⟩
  · unfold risesAt
    rw [List.getElem?_eq_getElem hi]
    exact rises_of (h.lk _ (List.getElem_mem hi))
  · have h3 := List.pairwise_iff_getElem.mp h.asc (i - 1) i (by omega) hi (by omega)
    rw [(List.getElem?_eq_some_iff.mp h1).2, (List.getElem?_eq_some_iff.mp h2).2] at h3
    have := lexB_iff.mp h3
    unfold lePr
    split <;> simp <;> omega
theorem valid_nil (n : Int) : Valid n [] := ⟨(fun _ z => nomatch z), List.Pairwise.nil⟩
theorem valid_put {n : Int} {ps : List Pr} {l : Pr} (h : Valid n ps) (hl : 0 ≤ l.1 ∧ l.1 < l.2 ∧ l.2 < n) (hn : l ∉ ps) : Valid n (srt (ps ++ [l])) := by
  refine ⟨fun p hp => ?_, srt_asc (srt_srt _) ((srt_perm _).nodup_iff.mpr ?_)⟩
  · rcases List.mem_append.mp ((srt_perm _).mem_iff.mp hp) with z | z
    · exact h.lk p z
    · simp at z
      subst z
      exact hl
  · rw [List.nodup_append]
    exact ⟨asc_nodup h.asc, by simp, fun a ha b hb => by
      simp at hb
      subst hb
      exact fun z => hn (z ▸ ha)⟩
theorem valid_filter {n : Int} {ps : List Pr} (f : Pr → Bool) (h : Valid n ps) : Valid n (ps.filter f) := ⟨fun p hp => h.lk p (List.mem_filter.mp hp).1, h.asc.filter _⟩
theorem mem_rowOf {n : Int} {ps : List Pr} {x y : Int} (h : LkIn n ps) : y ∈ rowOf ps x ↔ (x, y) ∈ ps ∨ (y, x) ∈ ps := by
  unfold rowOf
  rw [List.mem_filterMap]
  constructor
  · rintro ⟨p, hp, e⟩
    split at e
    · rename_i h1
      cases e
      exact .inl (by rw [← h1]; exact hp)
    · split at e
      · rename_i h2
        cases e
        exact .inr (by rw [← h2]; exact hp)
      · cases e
  · rintro (hp | hp)
    · exact ⟨(x, y), hp, if_pos rfl⟩
    · refine ⟨(y, x), hp, ?_⟩
      have q := (h _ hp).2.1
      dsimp only at q ⊢
      rw [if_neg (by omega), if_pos rfl]
/-- a link, the lesser cell first -/
def lnk (a b : Int) : Pr := (if b < a then b else a, if b > a then b else a)
theorem lnk_comm (a b : Int) : lnk a b = lnk b a := by
  unfold lnk
  refine pr_ext ?_ ?_ <;> dsimp only <;> split <;> split <;> omega
theorem lnk_lt {a b : Int} (h : a ≠ b) : (lnk a b).1 < (lnk a b).2 := by
  unfold lnk
  dsimp only
  split <;> split <;> omega
theorem lnk_in {a b n : Int} (ha : 0 ≤ a ∧ a < n) (hb : 0 ≤ b ∧ b < n) (h : a ≠ b) : 0 ≤ (lnk a b).1 ∧ (lnk a b).1 < (lnk a b).2 ∧ (lnk a b).2 < n := by
  refine ⟨?_, lnk_lt h, ?_⟩ <;> unfold lnk <;> dsimp only <;> split <;> omega
theorem lnk_mem {n : Int} {ps : List Pr} {a b : Int} (h : LkIn n ps) (hab : a ≠ b) : lnk a b ∈ ps ↔ b ∈ rowOf ps a := by
  rw [mem_rowOf h]
  by_cases c : a < b
  · have e : lnk a b = (a, b) := by
      unfold lnk
      rw [if_neg (by omega), if_pos (by omega)]
    rw [e]
    refine ⟨.inl, fun z => z.elim id fun z => ?_⟩
    have := (h _ z).2.1
    dsimp only at this
    omega
  · have e : lnk a b = (b, a) := by
      unfold lnk
      rw [if_pos (by omega), if_neg (by omega)]
    rw [e]
    refine ⟨.inr, fun z => z.elim (fun z => ?_) id⟩
    have := (h _ z).2.1
    dsimp only at this
    omega
/-- the pair of numbers that a tuple at v holds -/
def prOf (H : Hp) (v : V) : Pr := match v with
  | .ref t => match H t with
    | some (.frz _ (.tup [.int i, .int j])) => (i, j)
    | _ => (0, 0)
  | _ => (0, 0)
theorem prOf_at {H : Hp} {t : Addr} {i j : Int} (h : TZ H t [.int i, .int j]) : prOf H (.ref t) = (i, j) := by
  obtain ⟨ob, _, e⟩ := h
  simp only [prOf, e]
theorem prOf_tp {H : Hp} {v : V} {p : Pr} (h : Tp H v (prD p)) : prOf H v = p := by
  obtain ⟨a, rfl, ha⟩ := tp_pr h
  exact prOf_at ha
theorem prs_of {H : Hp} : ∀ {xs : List V} {ps : List Pr}, Tps H xs (lkD ps) → xs.map (prOf H) = ps
  | _, [], h => by cases h; rfl
  | _, p :: ps, h => by
    cases h with
    | cons h1 h2 => rw [List.map_cons, prOf_tp h1, prs_of h2]
theorem prs_each {H : Hp} {xs : List V} {ps : List Pr} (h : Tps H xs (lkD ps)) : ∀ x ∈ xs, ∃ t, x = V.ref t ∧ TZ H t [.int (prOf H x).1, .int (prOf H x).2] := fun x hx => by
  obtain ⟨i, hi⟩ := List.mem_iff_getElem?.mp hx
  obtain ⟨d, hd, hdz⟩ := h.get hi
  unfold lkD at hd
  rw [List.getElem?_map] at hd
  cases ep : ps[i]? with
  | none => rw [ep] at hd; cases hd
  | some q =>
    rw [ep] at hd
    cases hd
    obtain ⟨a, rfl, ha⟩ := tp_pr hdz
    exact ⟨a, rfl, by rw [prOf_at ha]; exact ha⟩
theorem tps_each {H : Hp} : ∀ {xs : List V}, (∀ x ∈ xs, ∃ t, x = V.ref t ∧ TZ H t [.int (prOf H x).1, .int (prOf H x).2]) → Tps H xs (lkD (xs.map (prOf H)))
  | [], _ => .nil
  | x :: xs, h => by
    obtain ⟨t, rfl, ht⟩ := h x List.mem_cons_self
    exact .cons (pr_tp ht) (tps_each fun y hy => h y (List.mem_cons_of_mem _ hy))
/-- what sorted leaves -/
theorem sorted_is {H : Hp} {xs ys : List V} {ps : List Pr} (h : Tps H xs (lkD ps)) (h1 : SrtO.Srtd (ltP (prOf H)) ys) (h2 : SrtO.Stb (ltP (prOf H)) ys xs) : Tps H ys (lkD (srt ps)) := by
  have e : ys.map (prOf H) = srt ps := by
    refine srt_of ?_ ?_
    · exact List.pairwise_map.mpr h1
    · rw [← prs_of h]
      exact h2.perm.map _
  rw [← e]
  exact tps_each fun x hx => prs_each h x (h2.perm.mem_iff.mp hx)
end R
end

-- PuT
section
set_option Elab.async false
set_option linter.all false
set_option maxRecDepth 100000
set_option maxHeartbeats 4000000
/-! PuT: the text's classes for the plain layer; webs. -/
namespace R
open PySem PySem.Spec PyProof.Rows L2 LamX NdefX LamP BlkX Pu
theorem room65 {k : Nat} {A : Around} (r : Room k A) : A.units + 65 < cLine := by have := r.un; omega
def cmOf {K : PySem.W.Frag} {mg : Str → Option Value} (T : Txt K mg) (n : Str) : Option Addr :=
  if n = "Refused" then some T.C_Refused else if n = "BadSize" then some T.C_BadSize else if n = "BadLink" then some T.C_BadLink else if n = "TooMany" then some T.C_TooMany else if n = "BadCell" then some T.C_BadCell else if n = "Web" then some T.C_Web else none
def Gof {K : PySem.W.Frag} {mg : Str → Option Value} (T : Txt K mg) : Gx := ⟨cmOf T, (TTof T), none, fun a ns => ∃ (o : Obj) (its : Array Value) (n : Nat), K.lookup a = some o ∧ o.cls = .type "list" ∧ o.dict = none ∧ o.data = .seq its n ∧ its.size ≤ sizeLine ∧ Vals (ns.map V.int) its.toList⟩
section
variable {K : PySem.W.Frag} {mg : Str → Option Value}
theorem cm_Refused (T : Txt K mg) : (Gof T).cm "Refused" = some T.C_Refused := by
  show cmOf T "Refused" = _
  unfold cmOf
  rw [if_pos rfl]
theorem cm_BadSize (T : Txt K mg) : (Gof T).cm "BadSize" = some T.C_BadSize := by
  show cmOf T "BadSize" = _
  unfold cmOf
  rw [if_neg (show ¬ (("BadSize" : Str) = "Refused") by decide +kernel), if_pos rfl]
theorem cm_BadLink (T : Txt K mg) : (Gof T).cm "BadLink" = some T.C_BadLink := by
  show cmOf T "BadLink" = _
  unfold cmOf
  rw [if_neg (show ¬ (("BadLink" : Str) = "Refused") by decide +kernel), if_neg (show ¬ (("BadLink" : Str) = "BadSize") by decide +kernel), if_pos rfl]
theorem cm_TooMany (T : Txt K mg) : (Gof T).cm "TooMany" = some T.C_TooMany := by
  show cmOf T "TooMany" = _
  unfold cmOf
  rw [if_neg (show ¬ (("TooMany" : Str) = "Refused") by decide +kernel), if_neg (show ¬ (("TooMany" : Str) = "BadSize") by decide +kernel), if_neg (show ¬ (("TooMany" : Str) = "BadLink") by decide +kernel), if_pos rfl]
theorem cm_BadCell (T : Txt K mg) : (Gof T).cm "BadCell" = some T.C_BadCell := by
  show cmOf T "BadCell" = _
  unfold cmOf
  rw [if_neg (show ¬ (("BadCell" : Str) = "Refused") by decide +kernel), if_neg (show ¬ (("BadCell" : Str) = "BadSize") by decide +kernel), if_neg (show ¬ (("BadCell" : Str) = "BadLink") by decide +kernel), if_neg (show ¬ (("BadCell" : Str) = "TooMany") by decide +kernel), if_pos rfl]
theorem cm_Web (T : Txt K mg) : (Gof T).cm "Web" = some T.C_Web := by
  show cmOf T "Web" = _
  unfold cmOf
  rw [if_neg (show ¬ (("Web" : Str) = "Refused") by decide +kernel), if_neg (show ¬ (("Web" : Str) = "BadSize") by decide +kernel), if_neg (show ¬ (("Web" : Str) = "BadLink") by decide +kernel), if_neg (show ¬ (("Web" : Str) = "TooMany") by decide +kernel), if_neg (show ¬ (("Web" : Str) = "BadCell") by decide +kernel), if_pos rfl]
theorem sub_BadCell (T : Txt K mg) (cl : Str) (C : Addr) (ie : isErr cl = true) (h : (Gof T).cm cl = some C) : PySem.W.exmOne K (.ref C) (.ref T.C_BadCell) = some (esub cl "BadCell") := by
  have h : cmOf T cl = some C := h
  unfold cmOf at h
  by_cases z : cl = "Refused"
  · subst z
    rw [if_pos rfl] at h
    cases h
    exact T.x_Refused_BadCell.trans (by decide +kernel)
  rw [if_neg z] at h
  by_cases z : cl = "BadSize"
  · subst z
    rw [if_pos rfl] at h
    cases h
    exact T.x_BadSize_BadCell.trans (by decide +kernel)
  rw [if_neg z] at h
  by_cases z : cl = "BadLink"
  · subst z
    rw [if_pos rfl] at h
    cases h
    exact T.x_BadLink_BadCell.trans (by decide +kernel)
  rw [if_neg z] at h
  by_cases z : cl = "TooMany"
  · subst z
    rw [if_pos rfl] at h
    cases h
    exact T.x_TooMany_BadCell.trans (by decide +kernel)
  rw [if_neg z] at h
  by_cases z : cl = "BadCell"
  · subst z
    rw [if_pos rfl] at h
    cases h
    exact T.x_BadCell_BadCell.trans (by decide +kernel)
  rw [if_neg z] at h
  by_cases z : cl = "Web"
  · subst z
    exact absurd ie (by decide +kernel)
  rw [if_neg z] at h
  cases h
theorem sub_Refused (T : Txt K mg) (cl : Str) (C : Addr) (ie : isErr cl = true) (h : (Gof T).cm cl = some C) : PySem.W.exmOne K (.ref C) (.ref T.C_Refused) = some (esub cl "Refused") := by
  have h : cmOf T cl = some C := h
  unfold cmOf at h
  by_cases z : cl = "Refused"
  · subst z
    rw [if_pos rfl] at h
    cases h
    exact T.x_Refused_Refused.trans (by decide +kernel)
  rw [if_neg z] at h
  by_cases z : cl = "BadSize"
  · subst z
    rw [if_pos rfl] at h
    cases h
    exact T.x_BadSize_Refused.trans (by decide +kernel)
  rw [if_neg z] at h
  by_cases z : cl = "BadLink"
  · subst z
    rw [if_pos rfl] at h
    cases h
    exact T.x_BadLink_Refused.trans (by decide +kernel)
  rw [if_neg z] at h
  by_cases z : cl = "TooMany"
  · subst z
    rw [if_pos rfl] at h
    cases h
    exact T.x_TooMany_Refused.trans (by decide +kernel)
  rw [if_neg z] at h
  by_cases z : cl = "BadCell"
  · subst z
    rw [if_pos rfl] at h
    cases h
    exact T.x_BadCell_Refused.trans (by decide +kernel)
  rw [if_neg z] at h
  by_cases z : cl = "Web"
  · subst z
    exact absurd ie (by decide +kernel)
  rw [if_neg z] at h
  cases h
theorem fC_Web_rows (T : Txt K mg) : ∀ C, (Gof T).cm "Web" = some C → Cls K C ∧ NoAttr K C "_rows" := fun C h => by
  rw [cm_Web T] at h
  cases h
  exact ⟨T.cl_Web, T.na_Web__rows⟩
theorem fC_Web_links (T : Txt K mg) : ∀ C, (Gof T).cm "Web" = some C → Cls K C ∧ NoAttr K C "links" := fun C h => by
  rw [cm_Web T] at h
  cases h
  exact ⟨T.cl_Web, T.na_Web_links⟩
theorem fC_Web_size (T : Txt K mg) : ∀ C, (Gof T).cm "Web" = some C → Cls K C ∧ NoAttr K C "size" := fun C h => by
  rw [cm_Web T] at h
  cases h
  exact ⟨T.cl_Web, T.na_Web_size⟩
end

theorem rowsD_eq (n : Int) (ps : List (Int × Int)) : R.rowsD n ps = Pu.rowsD n ps := rfl
theorem rowOf_eq (ps : List (Int × Int)) (x : Int) : R.rowOf ps x = Pu.rowOf ps x := rfl
theorem k_nw1 : ¬ (("size" : Str) = "near") := by decide +kernel
section
variable {P : Program} {w : World} {K : PySem.W.Frag} {mg : Str → Option Value} {base : Heap}
theorem webF_is (n : Int) (lt rt : V) : webF n lt rt = ([("size", .int n), ("links", lt), ("_rows", rt)] : List (Str × V)) := by
  have a := k_ls
  have b := k_lr
  have c := k_sr
  simp [webF, putF, a, b, c]
theorem web_at {c : Cfg} {F : Addr → Prop} {H : Hp} {T : Txt K mg} {v : V} {n : Int} {ps : List (Int × Int)} (hg : c.g = Gof T) (h : Rv c.g.cm F H v (Pu.webD n ps)) : ∃ p lt, v = .ref p ∧ WebAt T.C_Web H p n lt ps := by
  unfold Pu.webD at h
  cases h with
  | ob hc h r =>
    rw [hg, cm_Web T] at hc
    cases hc
    cases r with
    | cons r1 r =>
      cases r with
      | cons r2 r =>
        cases r with
        | @cons _ v3 _ _ _ r3 r =>
          cases r
          cases r1
          obtain ⟨rt, e3⟩ : ∃ rt, v3 = V.ref rt := by
            cases r3 with
            | tup _ _ => exact ⟨_, rfl⟩
          subst e3
          have t3 := r3.tp (by
            show tupDs (Pu.rowsD n ps) = true
            exact tupDs_map (fun a => by
              show tupDs (List.map PyData.int _) = true
              exact tupDs_map (fun _ => rfl) _) _)
          have t2 := r2.tp (by
            show tupDs (ps.map Pu.prD) = true
            exact tupDs_map (fun _ => rfl) _)
          exact ⟨_, _, rfl, ⟨_, rt, by rw [webF_is]; exact h, t3⟩, t2⟩
theorem near_ok (T : Txt K mg) : MethOk (Gof T) (spNear T (TTof T)) M_Web_near := fun c hg F ρ σ H vs ds Q E e r p => by
  obtain ⟨n, ps, x, rfl⟩ := M_near_inv (MR.not_no (A := True) (B := True) p)
  rw [M_near_eq] at p
  cases r with
  | cons r1 r =>
    cases r with
    | cons r2 r =>
      cases r
      cases r2
      obtain ⟨a, lt, rfl, wa⟩ := web_at hg r1
      refine ⟨a, x, n, lt, ps, rfl, wa, fun hx => ?_, fun hx => ?_⟩
      · intro v H' x1 hv
        obtain ⟨r, rfl, hr⟩ := hv
        rw [if_pos hx] at p
        obtain ⟨e1, l1⟩ := e.ofExt (by rw [hg]; exact x1)
        exact p H' _ e1 l1 (.tup hr (Rvs.ints _))
      · intro v d H' x1 hd hv
        subst hv
        rw [if_neg hx] at p
        obtain ⟨e1, l1⟩ := e.ofExt (by rw [hg]; exact x1)
        exact p H' d _ _ e1 l1 (by rw [hg]; exact cm_BadCell T) hd (.int x)
theorem linked_ok (T : Txt K mg) : MethOk (Gof T) (spLinked T (TTof T)) M_Web_linked := fun c hg F ρ σ H vs ds Q E e r p => by
  obtain ⟨n, ps, x, y, rfl⟩ := M_linked_inv (MR.not_no (A := True) (B := True) p)
  rw [M_linked_eq] at p
  cases r with
  | cons r1 r =>
    cases r with
    | cons r2 r =>
      cases r with
      | cons r3 r =>
        cases r
        cases r2
        cases r3
        obtain ⟨a, lt, rfl, wa⟩ := web_at hg r1
        refine ⟨a, x, y, n, lt, ps, rfl, wa, fun H' x1 => ?_⟩
        obtain ⟨e1, l1⟩ := e.ofExt (by rw [hg]; exact x1)
        exact p H' _ e1 l1 (.bl _)
theorem web_ok (T : Txt K mg) : MakeOk (Gof T) T.C_Web (spWebInit T (TTof T)) M_Web := fun c hg F ρ σ H x dx vs ds Q E e nx nd ne r p => by
  obtain ⟨n, ps, rfl, w⟩ := M_Web_inv (MR.not_no (A := True) (B := True) p)
  rw [M_Web_eq w] at p
  cases r with
  | cons r1 r =>
    cases r with
    | @cons v2 _ _ _ r2 r =>
      cases r
      cases r1
      have hv : R.Valid n ps := ⟨w.ok.lk, w.ok.asc⟩
      have t2 := r2.tp (by
        show tupDs (ps.map Pu.prD) = true
        exact tupDs_map (fun _ => rfl) _)
      obtain ⟨lt, e2⟩ : ∃ lt, v2 = V.ref lt := by
        cases r2 with
        | tup _ _ => exact ⟨_, rfl⟩
      subst e2
      have mk := make_new (TT := TTof T) (C := T.C_Web) nx nd ne
      have tb : TabsN (TTof T) H := by
        have := e.fr.tb c.tt
        rw [hg] at this
        exact this
      refine ⟨x, dx, n, lt, ps, rfl, upd_same, t2.mono mk.tk, mk.tb tb, fun h => ?_, fun _ h => ?_, fun _ _ i hi h1 h2 => ?_, fun _ _ _ H' ex wa => ⟨rfl, ?_⟩⟩
      · exact absurd ⟨w.lo, w.hi⟩ h
      · exact absurd h (Nat.not_lt.mpr w.len)
      · exact absurd (valid_nofault hv i hi) h1
      · have ex1 := make_ext nx nd ex
        obtain ⟨e1, l1⟩ := e.ofExt (by rw [hg]; exact ex1)
        refine p H' e1 l1 ?_
        obtain ⟨⟨dx', rt, h1, h2⟩, h3⟩ := wa
        rw [webF_is] at h1
        exact .ob (by rw [hg]; exact cm_Web T) h1 (.cons (.int _) (.cons (tp_rv h3) (.cons (tp_rv h2) .nil)))
theorem pk_near_rows (T : Txt K mg) (TB : TabB base mg T.c_check_links T.P_check_links) : FnOk P w K mg base CX0 1 T.a_near_rows T.d_near_rows ["many", "pairs"] (spFn (Gof T) F_near_rows) :=
  (ok_near_rows T (TTof T)).imp fun vs H Q E h => by
    obtain ⟨c, F, args, hg, h0, f0, ht, e, p⟩ := h
    have nn : F_near_rows args ≠ .no := fun z => by rw [z] at p; exact p
    obtain ⟨n, ps, rfl, ok, ex⟩ := nr_inv rfl nn
    rw [ex] at p
    dsimp only at p
    obtain ⟨o1, s1, v1, rfl, r1⟩ := e.sl 0 _ rfl
    obtain ⟨o2, s2, v2, rfl, r2⟩ := e.sl 1 _ rfl
    have ln := e.len
    rw [List.length_map] at ln
    match vs, ln, s1, s2 with
    | [u1, u2], _, s1, s2 =>
      cases s1
      cases s2
      cases r1
      have t2 := r2.tp (by
        show tupDs (ps.map Pu.prD) = true
        exact tupDs_map (fun _ => rfl) _)
      obtain ⟨lt, rfl⟩ : ∃ lt, v2 = V.ref lt := by
        cases r2 with
        | tup _ _ => exact ⟨_, rfl⟩
      refine ⟨n, lt, ps, rfl, t2, ok.2.1, ok.2.2.1, ok.2.2.2, ok.1, ?_⟩
      intro v H' x1 hv
      obtain ⟨rt, rfl, tr⟩ := hv
      obtain ⟨e1, l1⟩ := e.ofExt (by rw [hg]; exact x1)
      exact p _ _ H' _ e1 l1 (tp_rv tr)
end
end R
end

-- ParC
section
set_option Elab.async false
set_option linter.all false
set_option maxRecDepth 100000
set_option maxHeartbeats 4000000
/-! ParC: a, b = x, y where one of the names lives in a cell: stored from the left; the pair itself is not tracked. -/
namespace L2
open PySem PySem.Spec PyProof.Rows
section
variable {X : Cx}
theorem ps_parC {i j : Nat} {x y : Str} {a b : Expr} {ta : TA} {px py pt pos : Pos} {kt k2 pt2} (hc : X.calm = true) (hN : X.N.Nodup) (hi : X.N[i]? = some x) (hj : X.N[j]? = some y)
    (hx : Loc X.env.scope x) (hy : Loc X.env.scope y) (ha : PA X [a, b] ta)
    (hw : swappedStores [.Tuple [.Name x px, .Name y py] kt pt] (.Tuple [a, b] k2 pt2) X.env = pure none)
    (hs : swapsWithSole [.Tuple [.Name x px, .Name y py] kt pt] (.Tuple [a, b] k2 pt2) pos.line X.env = pure false := by rfl)
    (fx : X.fn x = true ∨ X.env.scope.names.lookup x = some .local := by first | exact .inl rfl | exact .inr rfl | assumption)
    (fy : X.fn y = true ∨ X.env.scope.names.lookup y = some .local := by first | exact .inl rfl | exact .inr rfl | assumption) :
    PS X (.Assign [.Tuple [.Name x px, .Name y py] kt pt] (.Tuple [a, b] k2 pt2) pos) (tPar i j ta) := by
  refine ⟨fun pins s σ H D I h => ?_⟩
  rw [exec_Assign_arm]
  refine wpAny_bind (wpAny_standAt ?_)
  rw [hs]
  refine wpAny_bind (wpAny_pure ?_)
  rw [if_neg (by decide)]
  refine wpAny_bind (Tuple_ (thn (ha.run _ pins s σ H _ I h) fun us s1 ⟨vs, H1, I1, r1, q1⟩ => ?_))
  obtain ⟨v, w, e1, q1⟩ := q1
  subst e1
  obtain ⟨u1, u2, rfl, rv, rw'⟩ : ∃ u1 u2, us = [u1, u2] ∧ RelV v u1 ∧ RelV w u2 := by
    cases r1 with
    | cons p q =>
      cases q with
      | cons p' q' =>
        cases q'
        exact ⟨_, _, rfl, p, p'⟩
  refine wpAny_newObj_type ?_ (by show 2 ≤ sizeLine; decide)
  have I2 : Inv X pins σ H1 { s1 with heap := s1.heap.push { cls := .type "tuple", data := .seq [u1, u2].toArray } } := I1.kept (t' := s1.toks) fun b o e => Heap.get?_push_of_some _ e
  rw [hw]
  refine wpAny_bind (wpAny_pure ?_)
  show wpAny (model X.prog X.w) X.A (do assignAll (.ref s1.heap.objs.size) [assign (.Tuple [.Name x px, .Name y py] kt pt) X.env]; pure Flow.next) _ _ _
  refine wpAny_bind ?_
  show wpAny (model X.prog X.w) X.A (assign (.Tuple [.Name x px, .Name y py] kt pt) X.env (.ref s1.heap.objs.size)) _ _ _
  refine assign_Tuple_tuple (items := #[u1, u2]) (I.ok.hd hc) (IsTup.new s1.heap _) rfl rfl fun h' hx' => ?_
  have I3 := I2.kept (h' := h') (t' := s1.toks) fun b o e => hx' b o (Nat.ne_of_lt (Heap.lt_size e)) e
  show wpAny _ _ (assignInOrder [assign (.Name x px) X.env, assign (.Name y py) X.env] [u1, u2]) _ _ _
  refine assignInOrder_cons (wpAny_assign_Name (store_ok I3 hN hi hx rv (fun s2 I4 => ?_) fx))
  refine assignInOrder_cons (wpAny_assign_Name (store_ok I4 hN hj hy rw' (fun s3 I5 => assignInOrder_nil (wpAny_pure ?_)) fy))
  exact ⟨_, H1, I5, q1⟩
end
end L2
end

-- Pt
section
set_option Elab.async false
set_option linter.all false
set_option maxRecDepth 100000
set_option maxHeartbeats 4000000
namespace R
noncomputable section
open PySem PySem.Spec PyProof.Rows L2 LamX NdefX LamP BlkX Pu
section
variable {P : Program} {w : World} {K : PySem.W.Frag} {mg : Str → Option Value} {base : Heap}
theorem pk_is_number (T : Txt K mg) (TB : TabB base mg T.c_check_links T.P_check_links) : FnOk P w K mg base CX0 1 T.a_is_number T.d_is_number ["value"] (spFn (Gof T) F_is_number) := by
  refine T.F_is_number.ok sc_is_number (fun vs H Q E h => spFn_len (m := 1) h) (fun cdv A outer s H vs Q E hr h => ?_)
  have nd := sc_is_number.nd
  exact ⟨_, (pss_one (ps_ret (pe_and (pe_callB (xisi K) (by rfl) T.n_isinstance (by decide +kernel) (pa_cons (pv 0) (pa_cons (pe_bltn (v := .ty "int") (u := Value.type "int") (by rfl) T.n_int (by decide +kernel) rfl) pa_nil))) (pe_one (pe_not (pe_callB (xisi K) (by rfl) T.n_isinstance (by decide +kernel) (pa_cons (pv 0) (pa_cons (pe_bltn (v := .ty "bool") (u := Value.type "bool") (by rfl) T.n_bool (by decide +kernel) rfl) pa_nil)))))))),
    fn_run (m := 1) (N := N_is_number) (sRet (sAndV (sIsi sVar) (sNotV (sIsi sVar)))) h⟩
theorem pk_is_below (T : Txt K mg) (TB : TabB base mg T.c_check_links T.P_check_links) : FnOk P w K mg base CX0 2 T.a_is_below T.d_is_below ["value", "limit"] (spFn (Gof T) F_is_below) := by
  refine T.F_is_below.ok sc_is_below (fun vs H Q E h => spFn_len (m := 2) h) (fun cdv A outer s H vs Q E hr h => ?_)
  have nd := sc_is_below.nd
  exact ⟨_, (pss_one (ps_ret (pe_and (pe_call (pk_is_number T TB) (hr.mono (by decide)) rfl T.g_is_number T.F_is_number.kp T.b_is_number .nil pass0 (pa_cons (pv 0) pa_nil)) (pe_one (pe_chain op_le op_lt pe_int (pv 0) (pv 1)))))),
    fn_run (m := 2) (N := N_is_below) (sRet (sAndV (sCall0 (io := none) (saV sVar saNil)) (sChain (p := pLe) (q := pLt) sInt sVar sVar))) h⟩
theorem pk_check_cell (T : Txt K mg) (TB : TabB base mg T.c_check_links T.P_check_links) : FnOk P w K mg base (L2.CX P w) 3 T.a_check_cell T.d_check_cell ["web", "x"] (spFn (Gof T) F_check_cell) := by
  refine T.F_check_cell.okX sc_check_cell (fun vs H Q E h => spFn_len (m := 2) h) (fun cdv A outer s H vs Q E hr h => ?_)
  have nd := sc_check_cell.nd
  exact ⟨_, (pss_one (ps_if (pt_not (ptru K (pe_call (pk_is_below T TB) (hr.mono (by decide)) rfl T.g_is_below T.F_is_below.kp T.b_is_below .nil pass0 (pa_cons (pv 1) (pa_cons (xfld K (pv 0)) pa_nil))))) (pss_one (ps_raise rfl (takes_of rfl rfl rfl rfl) (pmk_err (C := T.C_BadCell) T T.e_BadCell (hr.mono (by decide)) rfl (pa_cons (pv 1) pa_nil)))) pss_nil)),
    fn_run (m := 2) (N := N_check_cell) (sIf (sNot (sTru (K := K) (sCall0 (io := none) (saV sVar (saV (sFld' (fC_Web_size T) sVar) saNil))))) (sRaise (C := T.C_BadCell) (cm_BadCell T) sVar) sNext) h⟩
theorem pk_steps_from (T : Txt K mg) (TB : TabB base mg T.c_check_links T.P_check_links) : FnOk P w K mg base CX0 1 T.a_steps_from T.d_steps_from ["rows", "start"] (spFn (Gof T) F_steps_from) := by
  refine T.F_steps_from.ok sc_steps_from (fun vs H Q E h => spFn_len (m := 2) h) (fun cdv A outer s H vs Q E hr h => ?_)
  have nd := sc_steps_from.nd
  exact ⟨_, (pss_cons (ps_set (i := 2) nd rfl (Or.inl rfl) (pe_op op_rep (pe_lst (pa_cons (pe_un un_neg pe_int) pa_nil)) (pe_callB (clen K) (by rfl) T.n_len PySem.boot_len (pa_cons (pv 0) pa_nil))))
  (pss_cons (ps_asg pe_int (pg_sub (pv 2) (pv 1) set_list))
  (pss_cons (ps_set (i := 3) nd rfl (Or.inl rfl) (pe_lst (pa_cons (pv 1) pa_nil)))
  (pss_cons (ps_set (i := 4) nd rfl (Or.inl rfl) pe_int)
  (pss_cons (ps_while PassesOwn.never (pt_cmpR op_lt (pv 4) (pe_callB (clen K) (by rfl) T.n_len PySem.boot_len (pa_cons (pv 3) pa_nil)) (nomark _)) (pss_cons (ps_set (i := 5) nd rfl (Or.inl rfl) (pe_ix (ixl K) (pv 3) (pv 4) (fun _ _ => rfl)))
  (pss_cons (ps_aug (i := 4) nd rfl (Or.inl rfl) pe_int ip_add)
  (pss_one (ps_for PassesOwn.never rfl (pit K (pe_ix (ixt K) (pv 0) (pv 5) (fun _ _ => rfl))) (pg_name (i := 6) nd rfl (Or.inl rfl)) (pss_one (ps_if (pt_cmpR op_lt (pe_ix (ixl K) (pv 2) (pv 6) (fun _ _ => rfl)) pe_int (nomark _)) (pss_cons (ps_asg (pe_op op_add (pe_ix (ixl K) (pv 2) (pv 5) (fun _ _ => rfl)) pe_int) (pg_sub (pv 2) (pv 6) set_list))
  (pss_one (ps_expr (pe_bm PySem.F.plainAttrs_list PySem.F.slot_list_append PySem.F.type_list_append mt_append (pv 3) (pa_cons (pv 6) pa_nil))))) pss_nil)))))))
  (pss_one (ps_ret (pe_callTy (ctup K) (by rfl) T.n_tuple (by decide +kernel) (pa_cons (pv 2) pa_nil))))))))),
    fn_run (m := 2) (N := N_steps_from) (sSeq (sSet (sOp oRep (sLst (sCons (sV (sUn uNeg sInt)) sNil)) (sCB1 uLen sVar)))
  (sSeq (sSto sVar sInt)
  (sSeq (sSet (sLst (sCons (sV sVar) sNil)))
  (sSeq (sSet sInt)
  (sSeq (sWhile (sTst (sOp oLt sVar (sCB1 uLen sVar))) (sSeq (sSet (sOp oIxL sVar sVar))
  (sSeq (sAug iAdd sInt)
  (sFor (sIt (sOp oIxT sVar sVar)) sgName (sIf (sTst (sOp oLt (sOp oIxL sVar sVar) sInt)) (sSeq (sSto sVar (sOp oAdd (sOp oIxL sVar sVar) sInt))
  (sExpr (sApp sVar))) sNext)))))
  (sRet (sCB1 uTuple sVar))))))) h⟩
theorem pk_first_row (T : Txt K mg) (TB : TabB base mg T.c_check_links T.P_check_links) : FnOk P w K mg base CX0 2 T.a_first_row T.d_first_row ["rows", "start", "end"] (spFn (Gof T) F_first_row) := by
  refine T.F_first_row.ok sc_first_row (fun vs H Q E h => spFn_len (m := 3) h) (fun cdv A outer s H vs Q E hr h => ?_)
  have nd := sc_first_row.nd
  exact ⟨_, (pss_cons (ps_set (i := 3) nd rfl (Or.inr rfl) (pe_call (pk_steps_from T TB) (hr.mono (by decide)) rfl T.g_steps_from T.F_steps_from.kp T.b_steps_from .nil pass0 (pa_cons (pv 0) (pa_cons (pv 2) pa_nil))))
  (pss_cons (ps_if (pt_cmpR op_lt (pe_ix (ixt K) (pv 3) (pv 1) (fun _ _ => rfl)) pe_int (nomark _)) (pss_one (ps_ret pe_non)) pss_nil)
  (pss_cons (ps_set (i := 4) nd rfl (Or.inl rfl) (pe_lst (pa_cons (pv 1) pa_nil)))
  (pss_cons (ps_for PassesOwn.never rfl (pi_range3 (by rfl) T.n_range (pa_cons (pe_op op_sub (pe_ix (ixt K) (pv 3) (pv 1) (fun _ _ => rfl)) pe_int) (pa_cons (pe_un un_neg pe_int) (pa_cons (pe_un un_neg pe_int) pa_nil)))) (pg_name (i := 5) nd rfl (Or.inr rfl)) (pss_cons (ps_setLc (i := 6) (own := [("x", 7)]) (g := gName 7)  rfl nd rfl rfl (sw_true rfl rfl rfl (by decide +kernel)) (pit K (pe_ix (ixt K) (pv 0) (pe_ix (ixl K) (pv 4) (pe_un un_neg pe_int) (fun _ _ => rfl)) (fun _ _ => rfl))) (blkOk_by (own := [("x", 7)]) (N := N_first_row) (sc := defScope s_first_row) (by decide +kernel)) (fun _ _ _ _ _ => (pg_name (i := 7) nd rfl (Or.inl rfl))) (fun _ _ _ _ _ => (pts_one (pt_cmpR (xeq K hr.units) (pe_ix (ixt K) (pv 3) (pv 7) (fun _ _ => rfl)) (pv 5) (nomark _)))) (fun _ _ _ _ _ => (pv 7)))
  (pss_one (ps_expr (pe_bm PySem.F.plainAttrs_list PySem.F.slot_list_append PySem.F.type_list_append mt_append (pv 4) (pa_cons (pe_ix (ixl K) (pv 6) pe_int (fun _ _ => rfl)) pa_nil))))))
  (pss_one (ps_ret (pe_callTy (ctup K) (by rfl) T.n_tuple (by decide +kernel) (pa_cons (pv 4) pa_nil)))))))),
    fn_run (m := 3) (N := N_first_row) (sSeq (sSet (sCall0 (io := none) (saV sVar (saV sVar saNil))))
  (sSeq (sIf (sTst (sOp oLt (sOp oIxT sVar sVar) sInt)) (sRet sNon) sNext)
  (sSeq (sSet (sLst (sCons (sV sVar) sNil)))
  (sSeq (sFor (sR3 (sCons (sV (sOp oSub (sOp oIxT sVar sVar) sInt)) (sCons (sV (sUn uNeg sInt)) (sCons (sV (sUn uNeg sInt)) sNil)))) sgName (sSeq (sSet (sLc (own := [7]) (sIt (sOp oIxT sVar (sOp oIxL sVar (sUn uNeg sInt)))) sgName (sTst (sOp oEq (sOp oIxT sVar sVar) sVar)) sVar (by decide)))
  (sExpr (sApp (sOp oIxL sVar sInt)))))
  (sRet (sCB1 uTuple sVar)))))) h⟩
theorem pk_way (T : Txt K mg) (TB : TabB base mg T.c_check_links T.P_check_links) : FnOk P w K mg base (L2.CX P w) 4 T.a_way T.d_way ["web", "x", "y"] (spFn (Gof T) F_way) := by
  refine T.F_way.okX sc_way (fun vs H Q E h => spFn_len (m := 3) h) (fun cdv A outer s H vs Q E hr h => ?_)
  have nd := sc_way.nd
  exact ⟨_, (pss_cons (ps_expr (pe_call (pk_check_cell T TB) (hr.mono (by decide)) rfl T.g_check_cell T.F_check_cell.kp T.b_check_cell .nil (passes_call (takes_of rfl rfl rfl rfl) (fun _ _ _ _ h => h)) (pa_cons (pv 0) (pa_cons (pv 1) pa_nil))))
  (pss_cons (ps_expr (pe_call (pk_check_cell T TB) (hr.mono (by decide)) rfl T.g_check_cell T.F_check_cell.kp T.b_check_cell .nil (passes_call (takes_of rfl rfl rfl rfl) (fun _ _ _ _ h => h)) (pa_cons (pv 0) (pa_cons (pv 2) pa_nil))))
  (pss_one (ps_ret (pe_call (pk_first_row T TB) (hr.mono (by decide)) rfl T.g_first_row T.F_first_row.kp T.b_first_row .nil pass0 (pa_cons (pe_call (pk_near_rows T TB) (hr.mono (by decide)) rfl T.g_near_rows T.F_near_rows.kp T.b_near_rows .nil pass0 (pa_cons (xfld K (pv 0)) (pa_cons (xfld K (pv 0)) pa_nil))) (pa_cons (pv 1) (pa_cons (pv 2) pa_nil)))))))),
    fn_run (m := 3) (N := N_way) (sSeq (sExpr (sCallE (io := none) (saV sVar (saV sVar saNil))))
  (sSeq (sExpr (sCallE (io := none) (saV sVar (saV sVar saNil))))
  (sRet (sCall0 (io := none) (saV (sCall0 (io := none) (saV (sFld' (fC_Web_size T) sVar) (saV (sFld' (fC_Web_links T) sVar) saNil))) (saV sVar (saV sVar saNil))))))) h⟩
theorem pk_Ltake (T : Txt K mg) (TB : TabB base mg T.c_check_links T.P_check_links) : FnOk P w K mg base CX0 1 T.a_Ltake T.d_Ltake ["_law_source", "_law_top"] (spFn (Gof T) F_Ltake) := by
  refine T.F_Ltake.ok sc_Ltake (fun vs H Q E h => spFn_len (m := 2) h) (fun cdv A outer s H vs Q E hr h => ?_)
  have nd := sc_Ltake.nd
  exact ⟨_, (pss_cons (ps_if (pt_cmpR op_gt (pe_ix (ixl K) (pv 0) pe_int (fun _ _ => rfl)) pe_int (nomark _)) (pss_cons (ps_set (i := 2) nd rfl (Or.inl rfl) (pe_op op_mod (pe_callTy call_int1 (by rfl) T.n_int (by decide +kernel) (pa_cons (pe_ix (ixl K) (pv 0) pe_int (fun _ _ => rfl)) pa_nil)) (pv 1)))
  (pss_cons (ps_asg (pe_op op_fdivZ (pe_ix (ixl K) (pv 0) pe_int (fun _ _ => rfl)) (pv 1)) (pg_sub (pv 0) pe_int set_list))
  (pss_one (ps_ret (pv 2))))) pss_nil)
  (pss_cons (ps_asg (pe_op op_mod (pe_callTy call_int1 (by rfl) T.n_int (by decide +kernel) (pa_cons (pe_op op_add (pe_op op_mul (pe_ix (ixl K) (pv 0) pe_int (fun _ _ => rfl)) pe_int) pe_int) pa_nil)) pe_int) (pg_sub (pv 0) pe_int set_list))
  (pss_one (ps_ret (pe_op op_mod (pe_callTy call_int1 (by rfl) T.n_int (by decide +kernel) (pa_cons (pe_op op_fdivZ (pe_op op_mod (pe_callTy call_int1 (by rfl) T.n_int (by decide +kernel) (pa_cons (pe_op op_mul (pe_ix (ixl K) (pv 0) pe_int (fun _ _ => rfl)) (pe_ix (ixl K) (pv 0) pe_int (fun _ _ => rfl))) pa_nil)) pe_int) pe_int) pa_nil)) (pv 1)))))),
    fn_run (m := 2) (N := N_Ltake) (sSeq (sIf (sTst (sOp oGt (sOp oIxL sVar sInt) sInt)) (sSeq (sSet (sOp oMod (sCB1 uInt (sOp oIxL sVar sInt)) sVar))
  (sSeq (sSto sInt (sOp oDiv (sOp oIxL sVar sInt) sVar))
  (sRet sVar))) sNext)
  (sSeq (sSto sInt (sOp oMod (sCB1 uInt (sOp oAdd (sOp oMul (sOp oIxL sVar sInt) sInt) sInt)) sInt))
  (sRet (sOp oMod (sCB1 uInt (sOp oDiv (sOp oMod (sCB1 uInt (sOp oMul (sOp oIxL sVar sInt) (sOp oIxL sVar sInt))) sInt) sInt)) sVar)))) h⟩
theorem pk_Lone (T : Txt K mg) (TB : TabB base mg T.c_check_links T.P_check_links) : FnOk P w K mg base CX0 2 T.a_Lone T.d_Lone ["_law_source", "_law_things"] (spFn (Gof T) F_Lone) := by
  refine T.F_Lone.ok sc_Lone (fun vs H Q E h => spFn_len (m := 2) h) (fun cdv A outer s H vs Q E hr h => ?_)
  have nd := sc_Lone.nd
  exact ⟨_, (pss_one (ps_ret (pe_ix (ixl K) (pv 1) (pe_call (pk_Ltake T TB) (hr.mono (by decide)) rfl T.g_Ltake T.F_Ltake.kp T.b_Ltake .nil pass0 (pa_cons (pv 0) (pa_cons (pe_callB (clen K) (by rfl) T.n_len PySem.boot_len (pa_cons (pv 1) pa_nil)) pa_nil))) (fun _ _ => rfl)))),
    fn_run (m := 2) (N := N_Lone) (sRet (sOp oIxL sVar (sCall0 (io := (some (0, 0))) (saIo (saV (sCB1 uLen sVar) saNil))))) h⟩
theorem pk_Lshuffled (T : Txt K mg) (TB : TabB base mg T.c_check_links T.P_check_links) : FnOk P w K mg base CX0 2 T.a_Lshuffled T.d_Lshuffled ["_law_source", "_law_count"] (spFn (Gof T) F_Lshuffled) := by
  refine T.F_Lshuffled.ok sc_Lshuffled (fun vs H Q E h => spFn_len (m := 2) h) (fun cdv A outer s H vs Q E hr h => ?_)
  have nd := sc_Lshuffled.nd
  exact ⟨_, (pss_cons (ps_par (i := 2) (j := 3) (by rfl) nd rfl rfl (by decide) rfl rfl (pa_cons (pe_lc (own := [("_law_x", 5)]) (g := gName 5) (tt := tYes)  rfl nd (pi_range1 (by rfl) T.n_range (pa_cons (pv 1) pa_nil)) (blkOk_by (own := [("_law_x", 5)]) (N := N_Lshuffled) (sc := defScope s_Lshuffled) (by decide +kernel)) (fun _ _ _ _ _ => (pg_name (i := 5) nd rfl (Or.inl rfl))) (fun _ _ _ _ _ => pts_nil) (fun _ _ _ _ _ => (pv 5))) (pa_cons (pe_lst pa_nil) pa_nil)) (by rfl))
  (pss_cons (ps_for PassesOwn.never rfl (pi_range1 (by rfl) T.n_range (pa_cons (pv 1) pa_nil)) (pg_name (i := 4) nd rfl (Or.inl rfl)) (pss_one (ps_expr (pe_bm PySem.F.plainAttrs_list PySem.F.slot_list_append PySem.F.type_list_append mt_append (pv 3) (pa_cons (pe_bm PySem.F.plainAttrs_list PySem.F.slot_list_pop PySem.F.type_list_pop mt_popAt (pv 2) (pa_cons (pe_call (pk_Ltake T TB) (hr.mono (by decide)) rfl T.g_Ltake T.F_Ltake.kp T.b_Ltake .nil pass0 (pa_cons (pv 0) (pa_cons (pe_callB (clen K) (by rfl) T.n_len PySem.boot_len (pa_cons (pv 2) pa_nil)) pa_nil))) pa_nil)) pa_nil)))))
  (pss_one (ps_ret (pv 3))))),
    fn_run (m := 2) (N := N_Lshuffled) (sSeq (sPar (sLc (own := [5]) (sR1 sVar) sgName sYes sVar (by decide)) (sLst sNil))
  (sSeq (sFor (sR1 sVar) sgName (sExpr (sApp (sPopAt (sCall0 (io := (some (0, 0))) (saIo (saV (sCB1 uLen sVar) saNil)))))))
  (sRet sVar))) h⟩
theorem pk_Lnear (T : Txt K mg) (TB : TabB base mg T.c_check_links T.P_check_links) : FnOk P w K mg base CX0 1 T.a_Lnear T.d_Lnear ["_law_links", "_law_x"] (spFn (Gof T) F_Lnear) := by
  refine T.F_Lnear.ok sc_Lnear (fun vs H Q E h => spFn_len (m := 2) h) (fun cdv A outer s H vs Q E hr h => ?_)
  have nd := sc_Lnear.nd
  exact ⟨_, (pss_one (ps_ret (pe_callB (xsortI K) (by rfl) T.n_sorted (by decide +kernel) (pa_cons (pe_op op_cat (pe_lc (own := [("_law_a", 2), ("_law_b", 3)]) (g := gTup K 2 (gCons (gName 2) (gCons (gName 3) gNil)))  rfl nd (pil K (pv 0)) (blkOk_by (own := [("_law_a", 2), ("_law_b", 3)]) (N := N_Lnear) (sc := defScope s_Lnear) (by decide +kernel)) (fun _ _ _ _ _ => (pg_tup rfl (pgs_cons (pg_name (i := 2) nd rfl (Or.inl rfl)) (pgs_cons (pg_name (i := 3) nd rfl (Or.inl rfl)) pgs_nil)))) (fun _ _ _ _ _ => (pts_one (pt_cmpR (xeq K hr.units) (pv 2) (pv 1) (nomark _)))) (fun _ _ _ _ _ => (pv 3))) (pe_lc (own := [("_law_a", 2), ("_law_b", 3)]) (g := gTup K 2 (gCons (gName 2) (gCons (gName 3) gNil)))  rfl nd (pil K (pv 0)) (blkOk_by (own := [("_law_a", 2), ("_law_b", 3)]) (N := N_Lnear) (sc := defScope s_Lnear) (by decide +kernel)) (fun _ _ _ _ _ => (pg_tup rfl (pgs_cons (pg_name (i := 2) nd rfl (Or.inl rfl)) (pgs_cons (pg_name (i := 3) nd rfl (Or.inl rfl)) pgs_nil)))) (fun _ _ _ _ _ => (pts_one (pt_cmpR (xeq K hr.units) (pv 3) (pv 1) (nomark _)))) (fun _ _ _ _ _ => (pv 2)))) pa_nil)))),
    fn_run (m := 2) (N := N_Lnear) (sRet (sCB1 uSortI (sOp oCat (sLc (own := [2, 3]) (sIl sVar) (sgTup (sgCons sgName (sgCons sgName sgNil))) (sTst (sOp oEq sVar sVar)) sVar (by decide)) (sLc (own := [2, 3]) (sIl sVar) (sgTup (sgCons sgName (sgCons sgName sgNil))) (sTst (sOp oEq sVar sVar)) sVar (by decide))))) h⟩
theorem pk_Llink (T : Txt K mg) (TB : TabB base mg T.c_check_links T.P_check_links) : FnOk P w K mg base CX0 1 T.a_Llink T.d_Llink ["_law_a", "_law_b"] (spFn (Gof T) F_Llink) := by
  refine T.F_Llink.ok sc_Llink (fun vs H Q E h => spFn_len (m := 2) h) (fun cdv A outer s H vs Q E hr h => ?_)
  have nd := sc_Llink.nd
  exact ⟨_, (pss_one (ps_ret (pe_tupZ (pa_cons (pe_callB (call_min2 rfl) (by rfl) T.n_min (by decide +kernel) (pa_cons (pv 0) (pa_cons (pv 1) pa_nil))) (pa_cons (pe_callB (call_max2 rfl) (by rfl) T.n_max (by decide +kernel) (pa_cons (pv 0) (pa_cons (pv 1) pa_nil))) pa_nil))))),
    fn_run (m := 2) (N := N_Llink) (sRet (sTup (sCons (sV (sCB2 oMin sVar sVar)) (sCons (sV (sCB2 oMax sVar sVar)) sNil)))) h⟩
theorem pk_Lcorner (T : Txt K mg) (TB : TabB base mg T.c_check_links T.P_check_links) : FnOk P w K mg base CX0 2 T.a_Lcorner T.d_Lcorner ["_law_source", "_law_size", "_law_links"] (spFn (Gof T) F_Lcorner) := by
  refine T.F_Lcorner.ok sc_Lcorner (fun vs H Q E h => spFn_len (m := 3) h) (fun cdv A outer s H vs Q E hr h => ?_)
  have nd := sc_Lcorner.nd
  exact ⟨_, (pss_cons (ps_set (i := 3) nd rfl (Or.inl rfl) (pe_call (pk_Lnear T TB) (hr.mono (by decide)) rfl T.g_Lnear T.F_Lnear.kp T.b_Lnear .nil pass0 (pa_cons (pv 2) (pa_cons (pe_call (pk_Ltake T TB) (hr.mono (by decide)) rfl T.g_Ltake T.F_Ltake.kp T.b_Ltake .nil pass0 (pa_cons (pv 0) (pa_cons (pv 1) pa_nil))) pa_nil))))
  (pss_cons (ps_set (i := 4) nd rfl (Or.inl rfl) (pe_bm PySem.F.plainAttrs_list PySem.F.slot_list_pop PySem.F.type_list_pop mt_popAt (pv 3) (pa_cons (pe_call (pk_Ltake T TB) (hr.mono (by decide)) rfl T.g_Ltake T.F_Ltake.kp T.b_Ltake .nil pass0 (pa_cons (pv 0) (pa_cons (pe_callB (clen K) (by rfl) T.n_len PySem.boot_len (pa_cons (pv 3) pa_nil)) pa_nil))) pa_nil)))
  (pss_cons (ps_set (i := 5) nd rfl (Or.inl rfl) (pe_bm PySem.F.plainAttrs_list PySem.F.slot_list_pop PySem.F.type_list_pop mt_popAt (pv 3) (pa_cons (pe_call (pk_Ltake T TB) (hr.mono (by decide)) rfl T.g_Ltake T.F_Ltake.kp T.b_Ltake .nil pass0 (pa_cons (pv 0) (pa_cons (pe_callB (clen K) (by rfl) T.n_len PySem.boot_len (pa_cons (pv 3) pa_nil)) pa_nil))) pa_nil)))
  (pss_one (ps_ret (pe_tupZ (pa_cons (pe_op op_add (pv 1) pe_int) (pa_cons (pe_callB (xsortP K) (by rfl) T.n_sorted (by decide +kernel) (pa_cons (pe_op op_cat (pv 2) (pe_lst (pa_cons (pe_tupZ (pa_cons (pv 4) (pa_cons (pv 1) pa_nil))) (pa_cons (pe_tupZ (pa_cons (pv 5) (pa_cons (pv 1) pa_nil))) pa_nil)))) pa_nil)) pa_nil)))))))),
    fn_run (m := 3) (N := N_Lcorner) (sSeq (sSet (sCall0 (io := none) (saV sVar (saV (sCall0 (io := (some (0, 0))) (saIo (saV sVar saNil))) saNil))))
  (sSeq (sSet (sPopAt (sCall0 (io := (some (0, 0))) (saIo (saV (sCB1 uLen sVar) saNil)))))
  (sSeq (sSet (sPopAt (sCall0 (io := (some (0, 0))) (saIo (saV (sCB1 uLen sVar) saNil)))))
  (sRet (sTup (sCons (sV (sOp oAdd sVar sInt)) (sCons (sV (sCB1 uSortP (sOp oCat sVar (sLst (sCons (sV (sTup (sCons (sV sVar) (sCons (sV sVar) sNil)))) (sCons (sV (sTup (sCons (sV sVar) (sCons (sV sVar) sNil)))) sNil)))))) sNil))))))) h⟩
theorem pk_Lbridge (T : Txt K mg) (TB : TabB base mg T.c_check_links T.P_check_links) : FnOk P w K mg base CX0 3 T.a_Lbridge T.d_Lbridge ["_law_source", "_law_size", "_law_links"] (spFn (Gof T) F_Lbridge) := by
  refine T.F_Lbridge.ok sc_Lbridge (fun vs H Q E h => spFn_len (m := 3) h) (fun cdv A outer s H vs Q E hr h => ?_)
  have nd := sc_Lbridge.nd
  exact ⟨_, (pss_cons (ps_set (i := 3) nd rfl (Or.inl rfl) (pe_call (pk_Ltake T TB) (hr.mono (by decide)) rfl T.g_Ltake T.F_Ltake.kp T.b_Ltake .nil pass0 (pa_cons (pv 0) (pa_cons (pv 1) pa_nil))))
  (pss_cons (ps_set (i := 4) nd rfl (Or.inl rfl) (pe_call (pk_Lone T TB) (hr.mono (by decide)) rfl T.g_Lone T.F_Lone.kp T.b_Lone .nil pass0 (pa_cons (pv 0) (pa_cons (pe_call (pk_Lnear T TB) (hr.mono (by decide)) rfl T.g_Lnear T.F_Lnear.kp T.b_Lnear .nil pass0 (pa_cons (pv 2) (pa_cons (pv 3) pa_nil))) pa_nil))))
  (pss_cons (ps_set (i := 5) nd rfl (Or.inl rfl) (pe_call (pk_Lone T TB) (hr.mono (by decide)) rfl T.g_Lone T.F_Lone.kp T.b_Lone .nil pass0 (pa_cons (pv 0) (pa_cons (pe_call (pk_Lnear T TB) (hr.mono (by decide)) rfl T.g_Lnear T.F_Lnear.kp T.b_Lnear .nil pass0 (pa_cons (pv 2) (pa_cons (pv 4) pa_nil))) pa_nil))))
  (pss_cons (ps_set (i := 6) nd rfl (Or.inl rfl) (pe_call (pk_Lone T TB) (hr.mono (by decide)) rfl T.g_Lone T.F_Lone.kp T.b_Lone .nil pass0 (pa_cons (pv 0) (pa_cons (pe_call (pk_Lnear T TB) (hr.mono (by decide)) rfl T.g_Lnear T.F_Lnear.kp T.b_Lnear .nil pass0 (pa_cons (pv 2) (pa_cons (pv 5) pa_nil))) pa_nil))))
  (pss_cons (ps_if (PW.pt (pw_or (pt_cmpR (xeq K hr.units) (pv 3) (pv 5) (nomark _)) (pw_or (pt_cmpR (xeq K hr.units) (pv 3) (pv 6) (nomark _)) (pw_or (pt_cmpR (xeq K hr.units) (pv 4) (pv 6) (nomark _)) (pw_or1 (pt_cmpR (xinD K (room65 hr)) (pe_call (pk_Llink T TB) (hr.mono (by decide)) rfl T.g_Llink T.F_Llink.kp T.b_Llink .nil pass0 (pa_cons (pv 3) (pa_cons (pv 6) pa_nil))) (pv 2) (by with_unfolding_all rfl))))))) (pss_one (ps_ret (pe_tupZ (pa_cons (pv 1) (pa_cons (pv 2) pa_nil))))) pss_nil)
  (pss_one (ps_ret (pe_tupZ (pa_cons (pv 1) (pa_cons (pe_callB (xsortP K) (by rfl) T.n_sorted (by decide +kernel) (pa_cons (pe_op op_cat (pv 2) (pe_lst (pa_cons (pe_call (pk_Llink T TB) (hr.mono (by decide)) rfl T.g_Llink T.F_Llink.kp T.b_Llink .nil pass0 (pa_cons (pv 3) (pa_cons (pv 6) pa_nil))) pa_nil))) pa_nil)) pa_nil)))))))))),
    fn_run (m := 3) (N := N_Lbridge) (sSeq (sSet (sCall0 (io := (some (0, 0))) (saIo (saV sVar saNil))))
  (sSeq (sSet (sCall0 (io := (some (0, 0))) (saIo (saV (sCall0 (io := none) (saV sVar (saV sVar saNil))) saNil))))
  (sSeq (sSet (sCall0 (io := (some (0, 0))) (saIo (saV (sCall0 (io := none) (saV sVar (saV sVar saNil))) saNil))))
  (sSeq (sSet (sCall0 (io := (some (0, 0))) (saIo (saV (sCall0 (io := none) (saV sVar (saV sVar saNil))) saNil))))
  (sSeq (sIf (sOr (sTst (sOp oEq sVar sVar)) (sOr (sTst (sOp oEq sVar sVar)) (sOr (sTst (sOp oEq sVar sVar)) (sTst (sOp oIn (sCall0 (io := none) (saV sVar (saV sVar saNil))) sVar))))) (sRet (sTup (sCons (sV sVar) (sCons (sV sVar) sNil)))) sNext)
  (sRet (sTup (sCons (sV sVar) (sCons (sV (sCB1 uSortP (sOp oCat sVar (sLst (sCons (sV (sCall0 (io := none) (saV sVar (saV sVar saNil)))) sNil))))) sNil))))))))) h⟩
theorem pk_Lrenamed (T : Txt K mg) (TB : TabB base mg T.c_check_links T.P_check_links) : FnOk P w K mg base CX0 3 T.a_Lrenamed T.d_Lrenamed ["_law_source", "_law_size", "_law_links"] (spFn (Gof T) F_Lrenamed) := by
  refine T.F_Lrenamed.ok sc_Lrenamed (fun vs H Q E h => spFn_len (m := 3) h) (fun cdv A outer s H vs Q E hr h => ?_)
  have nd := sc_Lrenamed.nd
  exact ⟨_, (pss_cons (ps_set (i := 3) nd rfl (Or.inr rfl) (pe_call (pk_Lshuffled T TB) (hr.mono (by decide)) rfl T.g_Lshuffled T.F_Lshuffled.kp T.b_Lshuffled .nil pass0 (pa_cons (pv 0) (pa_cons (pv 1) pa_nil))))
  (pss_one (ps_ret (pe_tupZ (pa_cons (pv 1) (pa_cons (pe_callB (xsortP K) (by rfl) T.n_sorted (by decide +kernel) (pa_cons (pe_lc (own := [("_law_a", 4), ("_law_b", 5)]) (g := gTup K 2 (gCons (gName 4) (gCons (gName 5) gNil))) (tt := tYes)  rfl nd (pil K (pv 2)) (blkOk_by (own := [("_law_a", 4), ("_law_b", 5)]) (N := N_Lrenamed) (sc := defScope s_Lrenamed) (by decide +kernel)) (fun _ _ _ _ _ => (pg_tup rfl (pgs_cons (pg_name (i := 4) nd rfl (Or.inl rfl)) (pgs_cons (pg_name (i := 5) nd rfl (Or.inl rfl)) pgs_nil)))) (fun _ _ _ _ _ => pts_nil) (fun _ _ _ _ _ => (pe_call (pk_Llink T TB) (hr.mono (by decide)) rfl T.g_Llink T.F_Llink.kp T.b_Llink .nil pass0 (pa_cons (pe_ix (ixl K) (pv 3) (pv 4) (fun _ _ => rfl)) (pa_cons (pe_ix (ixl K) (pv 3) (pv 5) (fun _ _ => rfl)) pa_nil))))) pa_nil)) pa_nil)))))),
    fn_run (m := 3) (N := N_Lrenamed) (sSeq (sSet (sCall0 (io := (some (0, 0))) (saIo (saV sVar saNil))))
  (sRet (sTup (sCons (sV sVar) (sCons (sV (sCB1 uSortP (sLc (own := [4, 5]) (sIl sVar) (sgTup (sgCons sgName (sgCons sgName sgNil))) sYes (sCall0 (io := none) (saV (sOp oIxL sVar sVar) (saV (sOp oIxL sVar sVar) saNil))) (by decide)))) sNil))))) h⟩
theorem pk_Lstout (T : Txt K mg) (TB : TabB base mg T.c_check_links T.P_check_links) : FnOk P w K mg base CX0 4 T.a_Lstout T.d_Lstout ["_law_source", "_law_most", "_law_kinds"] (spFn (Gof T) F_Lstout) := by
  refine T.F_Lstout.ok sc_Lstout (fun vs H Q E h => spFn_len (m := 3) h) (fun cdv A outer s H vs Q E hr h => ?_)
  have nd := sc_Lstout.nd
  exact ⟨_, (pss_cons (ps_set (i := 3) nd rfl (Or.inl rfl) (pe_lst (pa_cons (pe_tupZ (pa_cons pe_int (pa_cons pe_int pa_nil))) (pa_cons (pe_tupZ (pa_cons pe_int (pa_cons pe_int pa_nil))) (pa_cons (pe_tupZ (pa_cons pe_int (pa_cons pe_int pa_nil))) (pa_cons (pe_tupZ (pa_cons pe_int (pa_cons pe_int pa_nil))) pa_nil))))))
  (pss_cons (ps_set (i := 4) nd rfl (Or.inl rfl) (pe_lst (pa_cons (pe_tupZ (pa_cons pe_int (pa_cons pe_int pa_nil))) (pa_cons (pe_tupZ (pa_cons pe_int (pa_cons pe_int pa_nil))) (pa_cons (pe_tupZ (pa_cons pe_int (pa_cons pe_int pa_nil))) (pa_cons (pe_tupZ (pa_cons pe_int (pa_cons pe_int pa_nil))) (pa_cons (pe_tupZ (pa_cons pe_int (pa_cons pe_int pa_nil))) (pa_cons (pe_tupZ (pa_cons pe_int (pa_cons pe_int pa_nil))) pa_nil))))))))
  (pss_cons (ps_set (i := 5) nd rfl (Or.inl rfl) (pe_lst (pa_cons (pe_tupZ (pa_cons pe_int (pa_cons pe_int pa_nil))) (pa_cons (pe_tupZ (pa_cons pe_int (pa_cons pe_int pa_nil))) (pa_cons (pe_tupZ (pa_cons pe_int (pa_cons pe_int pa_nil))) (pa_cons (pe_tupZ (pa_cons pe_int (pa_cons pe_int pa_nil))) (pa_cons (pe_tupZ (pa_cons pe_int (pa_cons pe_int pa_nil))) (pa_cons (pe_tupZ (pa_cons pe_int (pa_cons pe_int pa_nil))) (pa_cons (pe_tupZ (pa_cons pe_int (pa_cons pe_int pa_nil))) (pa_cons (pe_tupZ (pa_cons pe_int (pa_cons pe_int pa_nil))) (pa_cons (pe_tupZ (pa_cons pe_int (pa_cons pe_int pa_nil))) pa_nil)))))))))))
  (pss_cons (ps_par (i := 6) (j := 7) (by rfl) nd rfl rfl (by decide) rfl rfl (pa_cons pe_int (pa_cons (pv 3) pa_nil)) (by rfl))
  (pss_cons (ps_if (PW.pt (pw_or (pt_cmpR (xeq K hr.units) (pv 2) pe_int (nomark _)) (pw_or1 (PW.pt (pw_and (pt_cmpR (xeq K hr.units) (pv 2) pe_int (nomark _)) (pw_and1 (pt_cmpR (xeq K hr.units) (pe_call (pk_Ltake T TB) (hr.mono (by decide)) rfl T.g_Ltake T.F_Ltake.kp T.b_Ltake .nil pass0 (pa_cons (pv 0) (pa_cons pe_int pa_nil))) pe_int (nomark _)))))))) (pss_cons (ps_set (i := 7) nd rfl (Or.inl rfl) (pv 4))
  (pss_one (ps_if (PW.pt (pw_and (pt_cmpR op_ge (pv 1) pe_int (nomark _)) (pw_and1 (pt_cmpR (xeq K hr.units) (pe_call (pk_Ltake T TB) (hr.mono (by decide)) rfl T.g_Ltake T.F_Ltake.kp T.b_Ltake .nil pass0 (pa_cons (pv 0) (pa_cons pe_int pa_nil))) pe_int (nomark _))))) (pss_one (ps_par (i := 6) (j := 7) (by rfl) nd rfl rfl (by decide) rfl rfl (pa_cons pe_int (pa_cons (pv 5) pa_nil)) (by rfl))) pss_nil))) pss_nil)
  (pss_cons (ps_for PassesOwn.never rfl (pi_range1 (by rfl) T.n_range (pa_cons (pe_call (pk_Ltake T TB) (hr.mono (by decide)) rfl T.g_Ltake T.F_Ltake.kp T.b_Ltake .nil pass0 (pa_cons (pv 0) (pa_cons (pv 1) pa_nil))) pa_nil)) (pg_name (i := 8) nd rfl (Or.inl rfl)) (pss_one (ps_if (PW.pt (pw_and (pt_cmpR op_lt (pv 6) (pv 1) (nomark _)) (pw_and1 (pt_cmpR op_lt (pe_call (pk_Ltake T TB) (hr.mono (by decide)) rfl T.g_Ltake T.F_Ltake.kp T.b_Ltake .nil pass0 (pa_cons (pv 0) (pa_cons pe_int pa_nil))) pe_int (nomark _))))) (pss_one (ps_asg (pe_call (pk_Lcorner T TB) (hr.mono (by decide)) rfl T.g_Lcorner T.F_Lcorner.kp T.b_Lcorner .nil pass0 (pa_cons (pv 0) (pa_cons (pv 6) (pa_cons (pv 7) pa_nil)))) (pg_tup rfl (pgs_cons (pg_name (i := 6) nd rfl (Or.inl rfl)) (pgs_cons (pg_name (i := 7) nd rfl (Or.inl rfl)) pgs_nil))))) (pss_one (ps_asg (pe_call (pk_Lbridge T TB) (hr.mono (by decide)) rfl T.g_Lbridge T.F_Lbridge.kp T.b_Lbridge .nil pass0 (pa_cons (pv 0) (pa_cons (pv 6) (pa_cons (pv 7) pa_nil)))) (pg_tup rfl (pgs_cons (pg_name (i := 6) nd rfl (Or.inl rfl)) (pgs_cons (pg_name (i := 7) nd rfl (Or.inl rfl)) pgs_nil))))))))
  (pss_one (ps_ret (pe_call (pk_Lrenamed T TB) (hr.mono (by decide)) rfl T.g_Lrenamed T.F_Lrenamed.kp T.b_Lrenamed .nil pass0 (pa_cons (pv 0) (pa_cons (pv 6) (pa_cons (pv 7) pa_nil)))))))))))),
    fn_run (m := 3) (N := N_Lstout) (sSeq (sSet (sLst (sCons (sV (sTup (sCons (sV sInt) (sCons (sV sInt) sNil)))) (sCons (sV (sTup (sCons (sV sInt) (sCons (sV sInt) sNil)))) (sCons (sV (sTup (sCons (sV sInt) (sCons (sV sInt) sNil)))) (sCons (sV (sTup (sCons (sV sInt) (sCons (sV sInt) sNil)))) sNil))))))
  (sSeq (sSet (sLst (sCons (sV (sTup (sCons (sV sInt) (sCons (sV sInt) sNil)))) (sCons (sV (sTup (sCons (sV sInt) (sCons (sV sInt) sNil)))) (sCons (sV (sTup (sCons (sV sInt) (sCons (sV sInt) sNil)))) (sCons (sV (sTup (sCons (sV sInt) (sCons (sV sInt) sNil)))) (sCons (sV (sTup (sCons (sV sInt) (sCons (sV sInt) sNil)))) (sCons (sV (sTup (sCons (sV sInt) (sCons (sV sInt) sNil)))) sNil))))))))
  (sSeq (sSet (sLst (sCons (sV (sTup (sCons (sV sInt) (sCons (sV sInt) sNil)))) (sCons (sV (sTup (sCons (sV sInt) (sCons (sV sInt) sNil)))) (sCons (sV (sTup (sCons (sV sInt) (sCons (sV sInt) sNil)))) (sCons (sV (sTup (sCons (sV sInt) (sCons (sV sInt) sNil)))) (sCons (sV (sTup (sCons (sV sInt) (sCons (sV sInt) sNil)))) (sCons (sV (sTup (sCons (sV sInt) (sCons (sV sInt) sNil)))) (sCons (sV (sTup (sCons (sV sInt) (sCons (sV sInt) sNil)))) (sCons (sV (sTup (sCons (sV sInt) (sCons (sV sInt) sNil)))) (sCons (sV (sTup (sCons (sV sInt) (sCons (sV sInt) sNil)))) sNil)))))))))))
  (sSeq (sPar sInt sVar)
  (sSeq (sIf (sOr (sTst (sOp oEq sVar sInt)) (sAnd (sTst (sOp oEq sVar sInt)) (sTst (sOp oEq (sCall0 (io := (some (0, 0))) (saIo (saV sInt saNil))) sInt)))) (sSeq (sSet sVar)
  (sIf (sAnd (sTst (sOp oGe sVar sInt)) (sTst (sOp oEq (sCall0 (io := (some (0, 0))) (saIo (saV sInt saNil))) sInt))) (sPar sInt sVar) sNext)) sNext)
  (sSeq (sFor (sR1 (sCall0 (io := (some (0, 0))) (saIo (saV sVar saNil)))) sgName (sIf (sAnd (sTst (sOp oLt sVar sVar)) (sTst (sOp oLt (sCall0 (io := (some (0, 0))) (saIo (saV sInt saNil))) sInt))) (sAsg (sCall0 (io := (some (0, 0))) (saIo (saV sVar (saV sVar saNil)))) (sgTup (sgCons sgName (sgCons sgName sgNil)))) (sAsg (sCall0 (io := (some (0, 0))) (saIo (saV sVar (saV sVar saNil)))) (sgTup (sgCons sgName (sgCons sgName sgNil))))))
  (sRet (sCall0 (io := (some (0, 0))) (saIo (saV sVar (saV sVar saNil))))))))))) h⟩
theorem pk_Lround (T : Txt K mg) (TB : TabB base mg T.c_check_links T.P_check_links) : FnOk P w K mg base CX0 4 T.a_Lround T.d_Lround ["_law_source", "_law_count"] (spFn (Gof T) F_Lround) := by
  refine T.F_Lround.ok sc_Lround (fun vs H Q E h => spFn_len (m := 2) h) (fun cdv A outer s H vs Q E hr h => ?_)
  have nd := sc_Lround.nd
  exact ⟨_, (pss_one (ps_ret (pe_call (pk_Lrenamed T TB) (hr.mono (by decide)) rfl T.g_Lrenamed T.F_Lrenamed.kp T.b_Lrenamed .nil pass0 (pa_cons (pv 0) (pa_cons (pv 1) (pa_cons (pe_op op_cat (pe_lc (own := [("_law_x", 2)]) (g := gName 2) (tt := tYes)  rfl nd (pi_range1 (by rfl) T.n_range (pa_cons (pe_op op_sub (pv 1) pe_int) pa_nil)) (blkOk_by (own := [("_law_x", 2)]) (N := N_Lround) (sc := defScope s_Lround) (by decide +kernel)) (fun _ _ _ _ _ => (pg_name (i := 2) nd rfl (Or.inl rfl))) (fun _ _ _ _ _ => pts_nil) (fun _ _ _ _ _ => (pe_tupZ (pa_cons (pv 2) (pa_cons (pe_op op_add (pv 2) pe_int) pa_nil))))) (pe_lst (pa_cons (pe_tupZ (pa_cons pe_int (pa_cons (pe_op op_sub (pv 1) pe_int) pa_nil))) pa_nil))) pa_nil)))))),
    fn_run (m := 2) (N := N_Lround) (sRet (sCall0 (io := (some (0, 0))) (saIo (saV sVar (saV (sOp oCat (sLc (own := [2]) (sR1 (sOp oSub sVar sInt)) sgName sYes (sTup (sCons (sV sVar) (sCons (sV (sOp oAdd sVar sInt)) sNil))) (by decide)) (sLst (sCons (sV (sTup (sCons (sV sInt) (sCons (sV (sOp oSub sVar sInt)) sNil)))) sNil))) saNil))))) h⟩
theorem pk_Ltree (T : Txt K mg) (TB : TabB base mg T.c_check_links T.P_check_links) : FnOk P w K mg base CX0 4 T.a_Ltree T.d_Ltree ["_law_source", "_law_count"] (spFn (Gof T) F_Ltree) := by
  refine T.F_Ltree.ok sc_Ltree (fun vs H Q E h => spFn_len (m := 2) h) (fun cdv A outer s H vs Q E hr h => ?_)
  have nd := sc_Ltree.nd
  exact ⟨_, (pss_cons (ps_set (i := 2) nd rfl (Or.inl rfl) (pe_lst pa_nil))
  (pss_cons (ps_for PassesOwn.never rfl (pi_range2 (by rfl) T.n_range (pa_cons pe_int (pa_cons (pv 1) pa_nil))) (pg_name (i := 3) nd rfl (Or.inl rfl)) (pss_one (ps_expr (pe_bm PySem.F.plainAttrs_list PySem.F.slot_list_append PySem.F.type_list_append mt_append (pv 2) (pa_cons (pe_tupZ (pa_cons (pe_call (pk_Lone T TB) (hr.mono (by decide)) rfl T.g_Lone T.F_Lone.kp T.b_Lone .nil pass0 (pa_cons (pv 0) (pa_cons (pe_lst (pa_cons (pe_op op_sub (pv 3) pe_int) (pa_cons (pe_call (pk_Ltake T TB) (hr.mono (by decide)) rfl T.g_Ltake T.F_Ltake.kp T.b_Ltake .nil pass0 (pa_cons (pv 0) (pa_cons (pv 3) pa_nil))) pa_nil))) pa_nil))) (pa_cons (pv 3) pa_nil))) pa_nil)))))
  (pss_one (ps_ret (pe_call (pk_Lrenamed T TB) (hr.mono (by decide)) rfl T.g_Lrenamed T.F_Lrenamed.kp T.b_Lrenamed .nil pass0 (pa_cons (pv 0) (pa_cons (pv 1) (pa_cons (pe_callB (xsortP K) (by rfl) T.n_sorted (by decide +kernel) (pa_cons (pv 2) pa_nil)) pa_nil)))))))),
    fn_run (m := 2) (N := N_Ltree) (sSeq (sSet (sLst sNil))
  (sSeq (sFor (sR2 sInt sVar) sgName (sExpr (sApp (sTup (sCons (sV (sCall0 (io := (some (0, 0))) (saIo (saV (sLst (sCons (sV (sOp oSub sVar sInt)) (sCons (sV (sCall0 (io := (some (0, 0))) (saIo (saV sVar saNil)))) sNil))) saNil)))) (sCons (sV sVar) sNil))))))
  (sRet (sCall0 (io := (some (0, 0))) (saIo (saV sVar (saV (sCB1 uSortP sVar) saNil))))))) h⟩
theorem pk_Lany (T : Txt K mg) (TB : TabB base mg T.c_check_links T.P_check_links) : FnOk P w K mg base CX0 2 T.a_Lany T.d_Lany ["_law_source", "_law_count"] (spFn (Gof T) F_Lany) := by
  refine T.F_Lany.ok sc_Lany (fun vs H Q E h => spFn_len (m := 2) h) (fun cdv A outer s H vs Q E hr h => ?_)
  have nd := sc_Lany.nd
  exact ⟨_, (pss_cons (ps_set (i := 2) nd rfl (Or.inl rfl) (pe_lst pa_nil))
  (pss_cons (ps_for PassesOwn.never rfl (pi_range1 (by rfl) T.n_range (pa_cons (pv 1) pa_nil)) (pg_name (i := 3) nd rfl (Or.inl rfl)) (pss_one (ps_for PassesOwn.never rfl (pi_range1 (by rfl) T.n_range (pa_cons (pv 3) pa_nil)) (pg_name (i := 4) nd rfl (Or.inl rfl)) (pss_one (ps_if (pt_cmpR op_lt (pe_call (pk_Ltake T TB) (hr.mono (by decide)) rfl T.g_Ltake T.F_Ltake.kp T.b_Ltake .nil pass0 (pa_cons (pv 0) (pa_cons pe_int pa_nil))) pe_int (nomark _)) (pss_one (ps_expr (pe_bm PySem.F.plainAttrs_list PySem.F.slot_list_append PySem.F.type_list_append mt_append (pv 2) (pa_cons (pe_tupZ (pa_cons (pv 4) (pa_cons (pv 3) pa_nil))) pa_nil)))) pss_nil)))))
  (pss_one (ps_ret (pe_tupZ (pa_cons (pv 1) (pa_cons (pe_callB (xsortP K) (by rfl) T.n_sorted (by decide +kernel) (pa_cons (pv 2) pa_nil)) pa_nil))))))),
    fn_run (m := 2) (N := N_Lany) (sSeq (sSet (sLst sNil))
  (sSeq (sFor (sR1 sVar) sgName (sFor (sR1 sVar) sgName (sIf (sTst (sOp oLt (sCall0 (io := (some (0, 0))) (saIo (saV sInt saNil))) sInt)) (sExpr (sApp (sTup (sCons (sV sVar) (sCons (sV sVar) sNil))))) sNext)))
  (sRet (sTup (sCons (sV sVar) (sCons (sV (sCB1 uSortP sVar)) sNil)))))) h⟩
theorem pk_Lbeside (T : Txt K mg) (TB : TabB base mg T.c_check_links T.P_check_links) : FnOk P w K mg base CX0 4 T.a_Lbeside T.d_Lbeside ["_law_source", "_law_one_here", "_law_other"] (spFn (Gof T) F_Lbeside) := by
  refine T.F_Lbeside.ok sc_Lbeside (fun vs H Q E h => spFn_len (m := 3) h) (fun cdv A outer s H vs Q E hr h => ?_)
  have nd := sc_Lbeside.nd
  exact ⟨_, (pss_cons (ps_set (i := 3) nd rfl (Or.inl rfl) (pe_op op_cat (pe_ix (ixt K) (pv 1) pe_int (fun _ _ => rfl)) (pe_lc (own := [("_law_a", 4), ("_law_b", 5)]) (g := gTup K 2 (gCons (gName 4) (gCons (gName 5) gNil))) (tt := tYes)  rfl nd (pil K (pe_ix (ixt K) (pv 2) pe_int (fun _ _ => rfl))) (blkOk_by (own := [("_law_a", 4), ("_law_b", 5)]) (N := N_Lbeside) (sc := defScope s_Lbeside) (by decide +kernel)) (fun _ _ _ _ _ => (pg_tup rfl (pgs_cons (pg_name (i := 4) nd rfl (Or.inl rfl)) (pgs_cons (pg_name (i := 5) nd rfl (Or.inl rfl)) pgs_nil)))) (fun _ _ _ _ _ => pts_nil) (fun _ _ _ _ _ => (pe_tupZ (pa_cons (pe_op op_add (pv 4) (pe_ix (ixt K) (pv 1) pe_int (fun _ _ => rfl))) (pa_cons (pe_op op_add (pv 5) (pe_ix (ixt K) (pv 1) pe_int (fun _ _ => rfl))) pa_nil)))))))
  (pss_one (ps_ret (pe_call (pk_Lrenamed T TB) (hr.mono (by decide)) rfl T.g_Lrenamed T.F_Lrenamed.kp T.b_Lrenamed .nil pass0 (pa_cons (pv 0) (pa_cons (pe_op op_add (pe_ix (ixt K) (pv 1) pe_int (fun _ _ => rfl)) (pe_ix (ixt K) (pv 2) pe_int (fun _ _ => rfl))) (pa_cons (pv 3) pa_nil))))))),
    fn_run (m := 3) (N := N_Lbeside) (sSeq (sSet (sOp oCat (sOp oIxT sVar sInt) (sLc (own := [4, 5]) (sIl (sOp oIxT sVar sInt)) (sgTup (sgCons sgName (sgCons sgName sgNil))) sYes (sTup (sCons (sV (sOp oAdd sVar (sOp oIxT sVar sInt))) (sCons (sV (sOp oAdd sVar (sOp oIxT sVar sInt))) sNil))) (by decide))))
  (sRet (sCall0 (io := (some (0, 0))) (saIo (saV (sOp oAdd (sOp oIxT sVar sInt) (sOp oIxT sVar sInt)) (saV sVar saNil)))))) h⟩
theorem pk_Lsome (T : Txt K mg) (TB : TabB base mg T.c_check_links T.P_check_links) : FnOk P w K mg base CX0 5 T.a_Lsome T.d_Lsome ["_law_source", "_law_most"] (spFn (Gof T) F_Lsome) := by
  refine T.F_Lsome.ok sc_Lsome (fun vs H Q E h => spFn_len (m := 2) h) (fun cdv A outer s H vs Q E hr h => ?_)
  have nd := sc_Lsome.nd
  exact ⟨_, (pss_cons (ps_set (i := 2) nd rfl (Or.inl rfl) (pe_call (pk_Ltake T TB) (hr.mono (by decide)) rfl T.g_Ltake T.F_Ltake.kp T.b_Ltake .nil pass0 (pa_cons (pv 0) (pa_cons pe_int pa_nil))))
  (pss_cons (ps_if (pt_cmpR (xeq K hr.units) (pv 2) pe_int (nomark _)) (pss_one (ps_ret (pe_call (pk_Lany T TB) (hr.mono (by decide)) rfl T.g_Lany T.F_Lany.kp T.b_Lany .nil pass0 (pa_cons (pv 0) (pa_cons (pe_op op_add pe_int (pe_call (pk_Ltake T TB) (hr.mono (by decide)) rfl T.g_Ltake T.F_Ltake.kp T.b_Ltake .nil pass0 (pa_cons (pv 0) (pa_cons (pv 1) pa_nil)))) pa_nil))))) pss_nil)
  (pss_cons (ps_if (pt_cmpR (xeq K hr.units) (pv 2) pe_int (nomark _)) (pss_one (ps_ret (pe_call (pk_Ltree T TB) (hr.mono (by decide)) rfl T.g_Ltree T.F_Ltree.kp T.b_Ltree .nil pass0 (pa_cons (pv 0) (pa_cons (pe_op op_add pe_int (pe_call (pk_Ltake T TB) (hr.mono (by decide)) rfl T.g_Ltake T.F_Ltake.kp T.b_Ltake .nil pass0 (pa_cons (pv 0) (pa_cons (pv 1) pa_nil)))) pa_nil))))) pss_nil)
  (pss_cons (ps_if (pt_cmpR (xeq K hr.units) (pv 2) pe_int (nomark _)) (pss_one (ps_ret (pe_call (pk_Lround T TB) (hr.mono (by decide)) rfl T.g_Lround T.F_Lround.kp T.b_Lround .nil pass0 (pa_cons (pv 0) (pa_cons (pe_op op_add pe_int (pe_call (pk_Ltake T TB) (hr.mono (by decide)) rfl T.g_Ltake T.F_Ltake.kp T.b_Ltake .nil pass0 (pa_cons (pv 0) (pa_cons (pe_op op_sub (pv 1) pe_int) pa_nil)))) pa_nil))))) pss_nil)
  (pss_one (ps_ret (pe_call (pk_Lstout T TB) (hr.mono (by decide)) rfl T.g_Lstout T.F_Lstout.kp T.b_Lstout .nil pass0 (pa_cons (pv 0) (pa_cons (pv 1) (pa_cons pe_int pa_nil)))))))))),
    fn_run (m := 2) (N := N_Lsome) (sSeq (sSet (sCall0 (io := (some (0, 0))) (saIo (saV sInt saNil))))
  (sSeq (sIf (sTst (sOp oEq sVar sInt)) (sRet (sCall0 (io := (some (0, 0))) (saIo (saV (sOp oAdd sInt (sCall0 (io := (some (0, 0))) (saIo (saV sVar saNil)))) saNil)))) sNext)
  (sSeq (sIf (sTst (sOp oEq sVar sInt)) (sRet (sCall0 (io := (some (0, 0))) (saIo (saV (sOp oAdd sInt (sCall0 (io := (some (0, 0))) (saIo (saV sVar saNil)))) saNil)))) sNext)
  (sSeq (sIf (sTst (sOp oEq sVar sInt)) (sRet (sCall0 (io := (some (0, 0))) (saIo (saV (sOp oAdd sInt (sCall0 (io := (some (0, 0))) (saIo (saV (sOp oSub sVar sInt) saNil)))) saNil)))) sNext)
  (sRet (sCall0 (io := (some (0, 0))) (saIo (saV sVar (saV sInt saNil))))))))) h⟩
theorem pk_Lnumber (T : Txt K mg) (TB : TabB base mg T.c_check_links T.P_check_links) : FnOk P w K mg base CX0 1 T.a_Lnumber T.d_Lnumber ["_law_thing"] (spFn (Gof T) F_Lnumber) := by
  refine T.F_Lnumber.ok sc_Lnumber (fun vs H Q E h => spFn_len (m := 1) h) (fun cdv A outer s H vs Q E hr h => ?_)
  have nd := sc_Lnumber.nd
  exact ⟨_, (pss_one (ps_ret (pe_and (pe_callB (xisi K) (by rfl) T.n_isinstance (by decide +kernel) (pa_cons (pv 0) (pa_cons (pe_bltn (v := .ty "int") (u := Value.type "int") (by rfl) T.n_int (by decide +kernel) rfl) pa_nil))) (pe_one (pe_not (pe_callB (xisi K) (by rfl) T.n_isinstance (by decide +kernel) (pa_cons (pv 0) (pa_cons (pe_bltn (v := .ty "bool") (u := Value.type "bool") (by rfl) T.n_bool (by decide +kernel) rfl) pa_nil)))))))),
    fn_run (m := 1) (N := N_Lnumber) (sRet (sAndV (sIsi sVar) (sNotV (sIsi sVar)))) h⟩
theorem pk_Lrow (T : Txt K mg) (TB : TabB base mg T.c_check_links T.P_check_links) : FnOk P w K mg base CX0 2 T.a_Lrow T.d_Lrow ["_law_told", "_law_due"] (spFn (Gof T) F_Lrow) := by
  refine T.F_Lrow.ok sc_Lrow (fun vs H Q E h => spFn_len (m := 2) h) (fun cdv A outer s H vs Q E hr h => ?_)
  have nd := sc_Lrow.nd
  exact ⟨_, (pss_cons (ps_if (PW.pt (pw_or (pt_not (ptru K (pe_callB (xisi K) (by rfl) T.n_isinstance (by decide +kernel) (pa_cons (pv 0) (pa_cons (pe_bltn (v := .ty "tuple") (u := Value.type "tuple") (by rfl) T.n_tuple (by decide +kernel) rfl) pa_nil))))) (pw_or1 (pt_cmpR (xne K hr.units) (pe_callB (clen K) (by rfl) T.n_len PySem.boot_len (pa_cons (pv 0) pa_nil)) (pe_callB (clen K) (by rfl) T.n_len PySem.boot_len (pa_cons (pv 1) pa_nil)) (nomark _))))) (pss_one (ps_ret pe_bl)) pss_nil)
  (pss_cons (ps_for PassesOwn.never rfl (pi_zipB true true (by rfl) T.n_zip (pa_cons (pv 0) (pa_cons (pv 1) pa_nil))) (pg_tup rfl (pgs_cons (pg_name (i := 2) nd rfl (Or.inl rfl)) (pgs_cons (pg_name (i := 3) nd rfl (Or.inl rfl)) pgs_nil))) (pss_one (ps_if (PW.pt (pw_or (pt_not (ptru K (pe_call (pk_Lnumber T TB) (hr.mono (by decide)) rfl T.g_Lnumber T.F_Lnumber.kp T.b_Lnumber .nil pass0 (pa_cons (pv 2) pa_nil)))) (pw_or1 (pt_cmpR (xne K hr.units) (pv 2) (pv 3) (nomark _))))) (pss_one (ps_ret pe_bl)) pss_nil)))
  (pss_one (ps_ret pe_bl)))),
    fn_run (m := 2) (N := N_Lrow) (sSeq (sIf (sOr (sNot (sTru (K := K) (sIsi sVar))) (sTst (sOp oNe (sCB1 uLen sVar) (sCB1 uLen sVar)))) (sRet sBl) sNext)
  (sSeq (sFor (sZp (t := true) (u := true) (sCons (sV sVar) (sCons (sV sVar) sNil))) (sgTup (sgCons sgName (sgCons sgName sgNil))) (sIf (sOr (sNot (sTru (K := K) (sCall0 (io := none) (saV sVar saNil)))) (sTst (sOp oNe sVar sVar))) (sRet sBl) sNext))
  (sRet sBl))) h⟩
theorem pk_Loutside (T : Txt K mg) (TB : TabB base mg T.c_check_links T.P_check_links) : FnOk P w K mg base CX0 3 T.a_Loutside T.d_Loutside ["_law_source", "_law_size"] (spFn (Gof T) F_Loutside) := by
  refine T.F_Loutside.ok sc_Loutside (fun vs H Q E h => spFn_len (m := 2) h) (fun cdv A outer s H vs Q E hr h => ?_)
  have nd := sc_Loutside.nd
  exact ⟨_, (pss_one (ps_ret (pe_call (pk_Lone T TB) (hr.mono (by decide)) rfl T.g_Lone T.F_Lone.kp T.b_Lone .nil pass0 (pa_cons (pv 0) (pa_cons (pe_lst (pa_cons (pv 1) (pa_cons (pe_un un_neg pe_int) (pa_cons (pe_op op_add (pe_op op_add (pv 1) pe_int) (pe_call (pk_Ltake T TB) (hr.mono (by decide)) rfl T.g_Ltake T.F_Ltake.kp T.b_Ltake .nil pass0 (pa_cons (pv 0) (pa_cons pe_int pa_nil)))) (pa_cons (pe_op op_sub (pe_un un_neg pe_int) (pe_call (pk_Ltake T TB) (hr.mono (by decide)) rfl T.g_Ltake T.F_Ltake.kp T.b_Ltake .nil pass0 (pa_cons (pv 0) (pa_cons pe_int pa_nil)))) (pa_cons (pe_op op_pow pe_int pe_int) (pa_cons (pe_un un_neg (pe_op op_pow pe_int pe_int)) pa_nil))))))) pa_nil))))),
    fn_run (m := 2) (N := N_Loutside) (sRet (sCall0 (io := (some (0, 0))) (saIo (saV (sLst (sCons (sV sVar) (sCons (sV (sUn uNeg sInt)) (sCons (sV (sOp oAdd (sOp oAdd sVar sInt) (sCall0 (io := (some (0, 0))) (saIo (saV sInt saNil))))) (sCons (sV (sOp oSub (sUn uNeg sInt) (sCall0 (io := (some (0, 0))) (saIo (saV sInt saNil))))) (sCons (sV (sOp oPow sInt sInt)) (sCons (sV (sUn uNeg (sOp oPow sInt sInt))) sNil))))))) saNil)))) h⟩
theorem pk_Lways (T : Txt K mg) (TB : TabB base mg T.c_check_links T.P_check_links) : FnOk P w K mg base CX0 1 T.a_Lways T.d_Lways ["_law_size", "_law_rows", "_law_x"] (spFn (Gof T) F_Lways) := by
  refine T.F_Lways.ok sc_Lways (fun vs H Q E h => spFn_len (m := 3) h) (fun cdv A outer s H vs Q E hr h => ?_)
  have nd := sc_Lways.nd
  exact ⟨_, (pss_cons (ps_set (i := 4) nd rfl (Or.inr rfl) (pe_lc (own := [("_law_y", 3)]) (g := gName 3) (tt := tYes)  rfl nd (pi_range1 (by rfl) T.n_range (pa_cons (pv 0) pa_nil)) (blkOk_by (own := [("_law_y", 3)]) (N := N_Lways) (sc := defScope s_Lways) (by decide +kernel)) (fun _ _ _ _ _ => (pg_name (i := 3) nd rfl (Or.inl rfl))) (fun _ _ _ _ _ => pts_nil) (fun _ _ _ _ _ => (pe_lst pa_nil))))
  (pss_cons (ps_asg (pe_lst (pa_cons (pe_tupZ (pa_cons (pv 2) pa_nil)) pa_nil)) (pg_sub (pv 4) (pv 2) set_list))
  (pss_cons (ps_set (i := 5) nd rfl (Or.inl rfl) (pe_lst (pa_cons (pv 2) pa_nil)))
  (pss_cons (ps_for PassesOwn.never rfl (pi_range1 (by rfl) T.n_range (pa_cons (pv 0) pa_nil)) (pg_name (i := 6) nd rfl (Or.inl rfl)) (pss_cons (ps_setLc (i := 7) (own := [("_law_y", 3)]) (g := gName 3)  rfl nd rfl rfl (sw_true rfl rfl rfl (by decide +kernel)) (pi_range1 (by rfl) T.n_range (pa_cons (pv 0) pa_nil)) (blkOk_by (own := [("_law_y", 3)]) (N := N_Lways) (sc := defScope s_Lways) (by decide +kernel)) (fun _ _ _ _ _ => (pg_name (i := 3) nd rfl (Or.inl rfl))) (fun _ _ _ _ _ => (pts_one (pt_cmpR (xeq K hr.units) (pe_ix (ixl K) (pv 4) (pv 3) (fun _ _ => rfl)) (pe_lst pa_nil) (nomark _)))) (fun _ _ _ _ _ => (pv 3)))
  (pss_cons (ps_for PassesOwn.never rfl (pil K (pv 7)) (pg_name (i := 3) nd rfl (Or.inr rfl)) (pss_one (ps_for PassesOwn.never rfl (pil K (pv 5)) (pg_name (i := 8) nd rfl (Or.inl rfl)) (pss_one (ps_if (pt_cmpR (xin K) (pv 3) (pe_ix (ixl K) (pv 1) (pv 8) (fun _ _ => rfl)) (by with_unfolding_all rfl)) (pss_one (ps_asg (pe_op op_cat (pe_ix (ixl K) (pv 4) (pv 3) (fun _ _ => rfl)) (pe_lc (own := [("_law_row_here", 9)]) (g := gName 9) (tt := tYes)  rfl nd (pil K (pe_ix (ixl K) (pv 4) (pv 8) (fun _ _ => rfl))) (blkOk_by (own := [("_law_row_here", 9)]) (N := N_Lways) (sc := defScope s_Lways) (by decide +kernel)) (fun _ _ _ _ _ => (pg_name (i := 9) nd rfl (Or.inl rfl))) (fun _ _ _ _ _ => pts_nil) (fun _ _ _ _ _ => (pe_op (TupX.catAK K) (pv 9) (pe_tupZ (pa_cons (pv 3) pa_nil)))))) (pg_sub (pv 4) (pv 3) set_list))) pss_nil)))))
  (pss_one (ps_setLc (i := 5) (own := [("_law_y", 3)]) (g := gName 3)  rfl nd rfl rfl (sw_true rfl rfl rfl (by decide +kernel)) (pil K (pv 7)) (blkOk_by (own := [("_law_y", 3)]) (N := N_Lways) (sc := defScope s_Lways) (by decide +kernel)) (fun _ _ _ _ _ => (pg_name (i := 3) nd rfl (Or.inl rfl))) (fun _ _ _ _ _ => (pts_one (pt_cmpR (xne K hr.units) (pe_ix (ixl K) (pv 4) (pv 3) (fun _ _ => rfl)) (pe_lst pa_nil) (nomark _)))) (fun _ _ _ _ _ => (pv 3)))))))
  (pss_one (ps_ret (pv 4))))))),
    fn_run (m := 3) (N := N_Lways) (sSeq (sSet (sLc (own := [3]) (sR1 sVar) sgName sYes (sLst sNil) (by decide)))
  (sSeq (sSto sVar (sLst (sCons (sV (sTup (sCons (sV sVar) sNil))) sNil)))
  (sSeq (sSet (sLst (sCons (sV sVar) sNil)))
  (sSeq (sFor (sR1 sVar) sgName (sSeq (sSet (sLc (own := [3]) (sR1 sVar) sgName (sTst (sOp oEq (sOp oIxL sVar sVar) (sLst sNil))) sVar (by decide)))
  (sSeq (sFor (sIl sVar) sgName (sFor (sIl sVar) sgName (sIf (sTst (sOp oInF sVar (sOp oIxL sVar sVar))) (sSto sVar (sOp oCat (sOp oIxL sVar sVar) (sLc (own := [9]) (sIl (sOp oIxL sVar sVar)) sgName sYes (sOp oCatT sVar (sTup (sCons (sV sVar) sNil))) (by decide)))) sNext)))
  (sSet (sLc (own := [3]) (sIl sVar) sgName (sTst (sOp oNe (sOp oIxL sVar sVar) (sLst sNil))) sVar (by decide))))))
  (sRet sVar))))) h⟩
theorem pk_Lrefusal (T : Txt K mg) (TB : TabB base mg T.c_check_links T.P_check_links) : FnOk P w K mg base CX0 5 T.a_Lrefusal T.d_Lrefusal ["_law_web", "_law_x", "_law_y"] (spFn (Gof T) F_Lrefusal) := by
  refine T.F_Lrefusal.ok sc_Lrefusal (fun vs H Q E h => spFn_len (m := 3) h) (fun cdv A outer s H vs Q E hr h => ?_)
  have nd := sc_Lrefusal.nd
  exact ⟨_, (pss_cons (TryB.ps_try_clauses (i := 3) (n := "e") (Wout := fun _ _ _ _ => False) rfl rfl nd rfl rfl takes_none5 (fun W pn xe tk _ => (pss_one (ps_expr (pe_callSD (pk_way T TB) (hr.mono (by decide)) rfl T.g_way T.F_way.kp T.b_way .nil (fun σ => passAt tk σ) (pa_cons (pv 0) (pa_cons (pv 1) (pa_cons (pv 2) pa_nil)))))))
    (.one ⟨rfl, by decide, Or.inl T.e_BadCell.gC⟩ (fun a oe cls d pn hz hf => (pss_one (ps_ret (pe_lst (pa_cons pe_str (pa_cons (pe_xf T.e_BadCell.xf T.e_BadCell.nw hz hf (pv 3)) pa_nil))))))
    (.bare ⟨rfl, by decide, Or.inl T.e_Refused.gC⟩ (fun a oe cls d pn hz hf => (pss_one (ps_ret (pe_lst (pa_cons pe_str (pa_cons pe_int pa_nil))))))
    .none)))
  (pss_one (ps_ret (pe_lst pa_nil)))),
    (by
    exact fn_run (g := Gof T) (Q := Q) (E := E) (vs := vs) (H := H) (m := 3) (N := N_Lrefusal) (sSeq (sTry0 rfl (fun W => (sExpr (sCall (io := none) (saV sVar (saV sVar (saV sVar saNil))))))
    (.cons (sub_BadCell T) (fun a cls d => (sRet (sLst (sCons (sV sStr) (sCons (sV (sXf (cm_BadCell T))) sNil)))))
    (.cons (sub_Refused T) (fun a cls d => (sRet (sLst (sCons (sV sStr) (sCons (sV sInt) sNil)))))
    .nil)))
  (sRet (sLst sNil))) h)⟩
theorem pk_Lway_right (T : Txt K mg) (TB : TabB base mg T.c_check_links T.P_check_links) : FnOk P w K mg base CX0 5 T.a_Lway_right T.d_Lway_right ["_law_web", "_law_x", "_law_y", "_law_found"] (spFn (Gof T) F_Lway_right) := by
  refine T.F_Lway_right.ok sc_Lway_right (fun vs H Q E h => spFn_len (m := 4) h) (fun cdv A outer s H vs Q E hr h => ?_)
  have nd := sc_Lway_right.nd
  exact ⟨_, (pss_cons (ps_set (i := 4) nd rfl (Or.inl rfl) (KwX.pe_callK0 (ks := ["y", "x", "web"]) (pk_way T TB) (hr.mono (by decide)) rfl T.g_way T.F_way.kp (KwX.kb_pick T.F_way 0 [2, 1, 0] (fun _ _ _ _ _ _ us ws l1 l2 => match us, l1, ws, l2 with | [], _, [_, _, _], _ => rfl)) (KwX.atAll passL) (pk_cons (pv 2) (pk_cons (pv 1) (pk_cons (pv 0) pk_nil)))))
  (pss_cons (ps_if (pt_cmpR (xeq K hr.units) (pv 3) (pe_lst pa_nil) (nomark _)) (pss_one (ps_ret (pe_cmpR op_isN (pv 4) pe_non (nomark _)))) pss_nil)
  (pss_one (ps_ret (pe_call (pk_Lrow T TB) (hr.mono (by decide)) rfl T.g_Lrow T.F_Lrow.kp T.b_Lrow .nil pass0 (pa_cons (pv 4) (pa_cons (pe_callB (xminT K (room65 hr)) (by rfl) T.n_min (by decide +kernel) (pa_cons (pv 3) pa_nil)) pa_nil))))))),
    fn_run (m := 4) (N := N_Lway_right) (sSeq (sSet (sCallK0 sNil (sCons (sV sVar) (sCons (sV sVar) (sCons (sV sVar) sNil))) qNil_len (qCons_len (qCons_len (qCons_len qNil_len)))))
  (sSeq (sIf (sTst (sOp oEq sVar (sLst sNil))) (sRet (sOp oIsN sVar sNon)) sNext)
  (sRet (sCall0 (io := none) (saV sVar (saV (sCB1 uMinT sVar) saNil)))))) h⟩
theorem pk_Lright (T : Txt K mg) (TB : TabB base mg T.c_check_links T.P_check_links) : FnOk P w K mg base CX0 9 T.a_Lright T.d_Lright ["_law_source"] (spFn (Gof T) F_Lright) := by
  refine T.F_Lright.ok sc_Lright (fun vs H Q E h => spFn_len (m := 1) h) (fun cdv A outer s H vs Q E hr h => ?_)
  have nd := sc_Lright.nd
  exact ⟨_, (pss_cons (ps_asg (pe_call (pk_Lsome T TB) (hr.mono (by decide)) rfl T.g_Lsome T.F_Lsome.kp T.b_Lsome .nil pass0 (pa_cons (pv 0) (pa_cons (pe_call (pk_Lone T TB) (hr.mono (by decide)) rfl T.g_Lone T.F_Lone.kp T.b_Lone .nil pass0 (pa_cons (pv 0) (pa_cons (pe_lst (pa_cons pe_int (pa_cons pe_int (pa_cons pe_int (pa_cons pe_int (pa_cons pe_int pa_nil)))))) pa_nil))) pa_nil))) (pg_tup rfl (pgs_cons (pg_name (i := 1) nd rfl (Or.inr rfl)) (pgs_cons (pg_name (i := 2) nd rfl (Or.inr rfl)) pgs_nil))))
  (pss_cons (ps_if (pt_cmpR (xeq K hr.units) (pe_call (pk_Ltake T TB) (hr.mono (by decide)) rfl T.g_Ltake T.F_Ltake.kp T.b_Ltake .nil pass0 (pa_cons (pv 0) (pa_cons pe_int pa_nil))) pe_int (nomark _)) (pss_one (ps_asg (pe_call (pk_Lbeside T TB) (hr.mono (by decide)) rfl T.g_Lbeside T.F_Lbeside.kp T.b_Lbeside .nil pass0 (pa_cons (pv 0) (pa_cons (pe_call (pk_Lsome T TB) (hr.mono (by decide)) rfl T.g_Lsome T.F_Lsome.kp T.b_Lsome .nil pass0 (pa_cons (pv 0) (pa_cons pe_int pa_nil))) (pa_cons (pe_call (pk_Lsome T TB) (hr.mono (by decide)) rfl T.g_Lsome T.F_Lsome.kp T.b_Lsome .nil pass0 (pa_cons (pv 0) (pa_cons pe_int pa_nil))) pa_nil)))) (pg_tup rfl (pgs_cons (pg_name (i := 1) nd rfl (Or.inr rfl)) (pgs_cons (pg_name (i := 2) nd rfl (Or.inr rfl)) pgs_nil))))) pss_nil)
  (pss_cons (ps_par (i := 4) (j := 5) (by rfl) nd rfl rfl (by decide) rfl rfl (pa_cons (pe_lc (own := [("_law_x", 3)]) (g := gName 3) (tt := tYes)  rfl nd (pi_range1 (by rfl) T.n_range (pa_cons (pv 1) pa_nil)) (blkOk_by (own := [("_law_x", 3)]) (N := N_Lright) (sc := defScope s_Lright) (by decide +kernel)) (fun _ _ _ _ _ => (pg_name (i := 3) nd rfl (Or.inl rfl))) (fun _ _ _ _ _ => pts_nil) (fun _ _ _ _ _ => (pv 3))) (pa_cons (pe_lc (own := [("_law_x", 3)]) (g := gName 3) (tt := tYes)  rfl nd (pi_range1 (by rfl) T.n_range (pa_cons (pv 1) pa_nil)) (blkOk_by (own := [("_law_x", 3)]) (N := N_Lright) (sc := defScope s_Lright) (by decide +kernel)) (fun _ _ _ _ _ => (pg_name (i := 3) nd rfl (Or.inl rfl))) (fun _ _ _ _ _ => pts_nil) (fun _ _ _ _ _ => (pv 3))) pa_nil)) (by rfl))
  (pss_cons (ps_if (pt_cmpR (xeq K hr.units) (pe_call (pk_Ltake T TB) (hr.mono (by decide)) rfl T.g_Ltake T.F_Ltake.kp T.b_Ltake .nil pass0 (pa_cons (pv 0) (pa_cons pe_int pa_nil))) pe_int (nomark _)) (pss_cons (ps_asg (pe_call (pk_Lround T TB) (hr.mono (by decide)) rfl T.g_Lround T.F_Lround.kp T.b_Lround .nil pass0 (pa_cons (pv 0) (pa_cons (pe_op op_sub pe_int (pe_call (pk_Ltake T TB) (hr.mono (by decide)) rfl T.g_Ltake T.F_Ltake.kp T.b_Ltake .nil pass0 (pa_cons (pv 0) (pa_cons pe_int pa_nil)))) pa_nil))) (pg_tup rfl (pgs_cons (pg_name (i := 1) nd rfl (Or.inr rfl)) (pgs_cons (pg_name (i := 2) nd rfl (Or.inr rfl)) pgs_nil))))
  (pss_cons (ps_if (pt_cmpR (xeq K hr.units) (pe_call (pk_Ltake T TB) (hr.mono (by decide)) rfl T.g_Ltake T.F_Ltake.kp T.b_Ltake .nil pass0 (pa_cons (pv 0) (pa_cons pe_int pa_nil))) pe_int (nomark _)) (pss_one (ps_asg (pe_call (pk_Ltree T TB) (hr.mono (by decide)) rfl T.g_Ltree T.F_Ltree.kp T.b_Ltree .nil pass0 (pa_cons (pv 0) (pa_cons (pv 1) pa_nil))) (pg_tup rfl (pgs_cons (pg_name (i := 1) nd rfl (Or.inr rfl)) (pgs_cons (pg_name (i := 2) nd rfl (Or.inr rfl)) pgs_nil))))) pss_nil)
  (pss_cons (ps_set (i := 4) nd rfl (Or.inl rfl) (pe_lst (pa_cons pe_int (pa_cons (pe_call (pk_Ltake T TB) (hr.mono (by decide)) rfl T.g_Ltake T.F_Ltake.kp T.b_Ltake .nil pass0 (pa_cons (pv 0) (pa_cons (pv 1) pa_nil))) pa_nil))))
  (pss_one (ps_set (i := 5) nd rfl (Or.inl rfl) (pe_op op_cat (pe_lst (pa_cons pe_int (pa_cons (pe_op op_sub (pv 1) pe_int) pa_nil))) (pe_lc (own := [("_law_turn", 12)]) (g := gName 12) (tt := tYes)  rfl nd (pi_range1 (by rfl) T.n_range (pa_cons pe_int pa_nil)) (blkOk_by (own := [("_law_turn", 12)]) (N := N_Lright) (sc := defScope s_Lright) (by decide +kernel)) (fun _ _ _ _ _ => (pg_name (i := 12) nd rfl (Or.inl rfl))) (fun _ _ _ _ _ => pts_nil) (fun _ _ _ _ _ => (pe_call (pk_Ltake T TB) (hr.mono (by decide)) rfl T.g_Ltake T.F_Ltake.kp T.b_Ltake .nil pass0 (pa_cons (pv 0) (pa_cons (pv 1) pa_nil))))))))))) pss_nil)
  (pss_cons (ps_par (i := 6) (j := 7) (by rfl) nd rfl rfl (by decide) rfl rfl (pa_cons (pe_make T.mk_Web (ok_web_init T TB) (hr.mono (by decide)) rfl T.mg_Web T.b_Web_init .nil passL (pa_cons (pv 1) (pa_cons (pe_callTy (ctup K) (by rfl) T.n_tuple (by decide +kernel) (pa_cons (pv 2) pa_nil)) pa_nil))) (pa_cons (pe_lc (own := [("_law_x", 3)]) (g := gName 3) (tt := tYes)  rfl nd (pi_range1 (by rfl) T.n_range (pa_cons (pv 1) pa_nil)) (blkOk_by (own := [("_law_x", 3)]) (N := N_Lright) (sc := defScope s_Lright) (by decide +kernel)) (fun _ _ _ _ _ => (pg_name (i := 3) nd rfl (Or.inl rfl))) (fun _ _ _ _ _ => pts_nil) (fun _ _ _ _ _ => (pe_call (pk_Lnear T TB) (hr.mono (by decide)) rfl T.g_Lnear T.F_Lnear.kp T.b_Lnear .nil pass0 (pa_cons (pv 2) (pa_cons (pv 3) pa_nil))))) pa_nil)) (by rfl))
  (pss_cons (ps_for PassesOwn.never rfl (pil K (pv 4)) (pg_name (i := 3) nd rfl (Or.inl rfl)) (pss_cons (ps_set (i := 8) nd rfl (Or.inl rfl) (pe_call (pk_Lways T TB) (hr.mono (by decide)) rfl T.g_Lways T.F_Lways.kp T.b_Lways .nil pass0 (pa_cons (pv 1) (pa_cons (pv 7) (pa_cons (pv 3) pa_nil)))))
  (pss_one (ps_for PassesOwn.never rfl (pil K (pv 5)) (pg_name (i := 9) nd rfl (Or.inl rfl)) (pss_one (ps_if (pt_not (ptru K (pe_call (pk_Lway_right T TB) (hr.mono (by decide)) rfl T.g_Lway_right T.F_Lway_right.kp T.b_Lway_right .nil pass0 (pa_cons (pv 6) (pa_cons (pv 3) (pa_cons (pv 9) (pa_cons (pe_ix (ixl K) (pv 8) (pv 9) (fun _ _ => rfl)) pa_nil))))))) (pss_one (ps_ret pe_bl)) pss_nil))))))
  (pss_cons (ps_par3 (i := 3) (j := 10) (l := 11) (by rfl) nd rfl rfl rfl (by decide) (by decide) (by decide) rfl rfl rfl (pa_cons (pe_call (pk_Ltake T TB) (hr.mono (by decide)) rfl T.g_Ltake T.F_Ltake.kp T.b_Ltake .nil pass0 (pa_cons (pv 0) (pa_cons (pv 1) pa_nil))) (pa_cons (pe_call (pk_Loutside T TB) (hr.mono (by decide)) rfl T.g_Loutside T.F_Loutside.kp T.b_Loutside .nil pass0 (pa_cons (pv 0) (pa_cons (pv 1) pa_nil))) (pa_cons (pe_call (pk_Loutside T TB) (hr.mono (by decide)) rfl T.g_Loutside T.F_Loutside.kp T.b_Loutside .nil pass0 (pa_cons (pv 0) (pa_cons (pv 1) pa_nil))) pa_nil))) (by rfl))
  (pss_cons (ps_if (PW.pt (pw_or (pt_cmpR (xne K hr.units) (pe_call (pk_Lrefusal T TB) (hr.mono (by decide)) rfl T.g_Lrefusal T.F_Lrefusal.kp T.b_Lrefusal .nil pass0 (pa_cons (pv 6) (pa_cons (pv 10) (pa_cons (pv 3) pa_nil)))) (pe_lst (pa_cons pe_str (pa_cons (pv 10) pa_nil))) (nomark _)) (pw_or1 (pt_cmpR (xne K hr.units) (pe_call (pk_Lrefusal T TB) (hr.mono (by decide)) rfl T.g_Lrefusal T.F_Lrefusal.kp T.b_Lrefusal .nil pass0 (pa_cons (pv 6) (pa_cons (pv 3) (pa_cons (pv 10) pa_nil)))) (pe_lst (pa_cons pe_str (pa_cons (pv 10) pa_nil))) (nomark _))))) (pss_one (ps_ret pe_bl)) pss_nil)
  (pss_one (ps_ret (pe_cmpR (xeq K hr.units) (pe_call (pk_Lrefusal T TB) (hr.mono (by decide)) rfl T.g_Lrefusal T.F_Lrefusal.kp T.b_Lrefusal .nil pass0 (pa_cons (pv 6) (pa_cons (pv 10) (pa_cons (pv 11) pa_nil)))) (pe_lst (pa_cons pe_str (pa_cons (pv 10) pa_nil))) (nomark _)))))))))))),
    fn_run (m := 1) (N := N_Lright) (sSeq (sAsg (sCall0 (io := (some (0, 0))) (saIo (saV (sCall0 (io := (some (0, 0))) (saIo (saV (sLst (sCons (sV sInt) (sCons (sV sInt) (sCons (sV sInt) (sCons (sV sInt) (sCons (sV sInt) sNil)))))) saNil))) saNil))) (sgTup (sgCons sgName (sgCons sgName sgNil))))
  (sSeq (sIf (sTst (sOp oEq (sCall0 (io := (some (0, 0))) (saIo (saV sInt saNil))) sInt)) (sAsg (sCall0 (io := (some (0, 0))) (saIo (saV (sCall0 (io := (some (0, 0))) (saIo (saV sInt saNil))) (saV (sCall0 (io := (some (0, 0))) (saIo (saV sInt saNil))) saNil)))) (sgTup (sgCons sgName (sgCons sgName sgNil)))) sNext)
  (sSeq (sPar (sLc (own := [3]) (sR1 sVar) sgName sYes sVar (by decide)) (sLc (own := [3]) (sR1 sVar) sgName sYes sVar (by decide)))
  (sSeq (sIf (sTst (sOp oEq (sCall0 (io := (some (0, 0))) (saIo (saV sInt saNil))) sInt)) (sSeq (sAsg (sCall0 (io := (some (0, 0))) (saIo (saV (sOp oSub sInt (sCall0 (io := (some (0, 0))) (saIo (saV sInt saNil)))) saNil))) (sgTup (sgCons sgName (sgCons sgName sgNil))))
  (sSeq (sIf (sTst (sOp oEq (sCall0 (io := (some (0, 0))) (saIo (saV sInt saNil))) sInt)) (sAsg (sCall0 (io := (some (0, 0))) (saIo (saV sVar saNil))) (sgTup (sgCons sgName (sgCons sgName sgNil)))) sNext)
  (sSeq (sSet (sLst (sCons (sV sInt) (sCons (sV (sCall0 (io := (some (0, 0))) (saIo (saV sVar saNil)))) sNil))))
  (sSet (sOp oCat (sLst (sCons (sV sInt) (sCons (sV (sOp oSub sVar sInt)) sNil))) (sLc (own := [12]) (sR1 sInt) sgName sYes (sCall0 (io := (some (0, 0))) (saIo (saV sVar saNil))) (by decide))))))) sNext)
  (sSeq (sPar (sMake0 (web_ok T) (saV sVar (saV (sCB1 uTuple sVar) saNil))) (sLc (own := [3]) (sR1 sVar) sgName sYes (sCall0 (io := none) (saV sVar (saV sVar saNil))) (by decide)))
  (sSeq (sFor (sIl sVar) sgName (sSeq (sSet (sCall0 (io := none) (saV sVar (saV sVar (saV sVar saNil)))))
  (sFor (sIl sVar) sgName (sIf (sNot (sTru (K := K) (sCall0 (io := none) (saV sVar (saV sVar (saV sVar (saV (sOp oIxL sVar sVar) saNil))))))) (sRet sBl) sNext))))
  (sSeq (sPar3 (sCons (sV (sCall0 (io := (some (0, 0))) (saIo (saV sVar saNil)))) (sCons (sV (sCall0 (io := (some (0, 0))) (saIo (saV sVar saNil)))) (sCons (sV (sCall0 (io := (some (0, 0))) (saIo (saV sVar saNil)))) sNil))))
  (sSeq (sIf (sOr (sTst (sOp oNe (sCall0 (io := none) (saV sVar (saV sVar (saV sVar saNil)))) (sLst (sCons (sV sStr) (sCons (sV sVar) sNil))))) (sTst (sOp oNe (sCall0 (io := none) (saV sVar (saV sVar (saV sVar saNil)))) (sLst (sCons (sV sStr) (sCons (sV sVar) sNil)))))) (sRet sBl) sNext)
  (sRet (sOp oEq (sCall0 (io := none) (saV sVar (saV sVar (saV sVar saNil)))) (sLst (sCons (sV sStr) (sCons (sV sVar) sNil))))))))))))) h⟩
end
end
end R
end

-- DrawW
section
set_option Elab.async false
set_option linter.all false
set_option maxRecDepth 100000
set_option maxHeartbeats 4000000
set_option exponentiation.threshold 100
/-! Draw: the laws' own draws over any text that has them. -/
namespace R
open PySem PySem.Spec PyProof.Rows L2 LamX NdefX LamP
theorem seq_cut {t R : TS} {D : Ends} {σ : L2.St} {H : Hp} (J : L2.St → Hp → Prop) (h1 : ∀ R' : L2.St → Hp → Prop, (∀ σ' H', J σ' H' → R' σ' H') → t { D with nx := R' } σ H) (h2 : ∀ σ' H', J σ' H' → R D σ' H') : tSeq t R D σ H := h1 (R D) h2
theorem iteF' {c : Bool} {A B : Prop} (h : c = false) (k : B) : if c = true then A else B := by rw [h]; exact iteF k
theorem iteT' {c : Bool} {A B : Prop} (h : c = true) (k : A) : if c = true then A else B := by rw [h]; exact iteT k
theorem bits_lt {z : Int} (h : Builtin.Int.intBits z ≤ 1048576) : z.natAbs < 2 ^ 1048576 := by
  unfold Builtin.Int.intBits at h
  by_cases e : z = 0
  · subst e
    exact Nat.two_pow_pos _
  · rw [if_neg (by simpa using e)] at h
    exact Nat.lt_of_lt_of_le Nat.lt_log2_self (Nat.pow_le_pow_right (by decide) h)
theorem big_lt {c : Int} {v : Nat} (h : c.natAbs < 2 ^ 1048576) (hv : v ≤ c.natAbs) : v < 2 ^ BIG :=
  Nat.lt_of_le_of_lt hv (Nat.lt_of_lt_of_le h (Nat.pow_le_pow_right (by decide) (by unfold BIG; decide)))
section
variable {P : Program} {w : World} {K : PySem.W.Frag} {mg : Str → Option Value} {base : Heap}
/-- what a def that draws gives back: the source has moved on, nothing else has changed -/
def RetS (TT : List NTab) (so : Addr) (H : Hp) (Q : VK) (good : V → Hp → Prop) : Prop := ∀ v H', Ext TT (some so) H H' → Src H' so → good v H' → Q v H'
theorem Ext.srcSet {TT : List NTab} {so : Addr} {H H1 : Hp} {x y : Int} (x1 : Ext TT (some so) H H1) (s1 : Src H1 so) (hx : 0 ≤ x ∧ x.natAbs < 2 ^ BIG) (hy : 0 ≤ y ∧ y < 2147483647) :
    Ext TT (some so) H (upd H1 so (.lst [.int x, .int y])) ∧ Src (upd H1 so (.lst [.int x, .int y])) so := by
  obtain ⟨a, b, h, _⟩ := s1
  have me : Src (upd H1 so (.lst [.int x, .int y])) so := ⟨x, y, upd_same, hx.1, hx.2, hy.1, hy.2⟩
  refine ⟨⟨fun c o ne nt e => ?_, fun t => ?_, fun c e _ => ?_, fun c e => x1.fr c (upd_none' e)⟩, me⟩
  · rw [upd_ne (fun z => ne (by rw [z]))]
    exact x1.kp c o ne nt e
  · have q := x1.tb t
    intro p hp
    obtain ⟨ps, a1, a2, a3⟩ := q p hp
    refine ⟨ps, (upd_ne (ne_of a1 h (Ne.symm (lst_nt ps)))).trans a1, a2, fun pos cv hc => ?_⟩
    obtain ⟨d, e1, e2⟩ := a3 pos cv hc
    exact ⟨d, e1, (upd_ne (ne_of e2 h (Ne.symm (lst_nc d _)))).trans e2⟩
  · cases e
    exact me
/-- a source that the beginning does not know is forgotten -/
theorem Ext.dropS {TT : List NTab} {so : Addr} {H H1 H2 : Hp} (x : Ext TT none H H1) (n : H so = none) (y : Ext TT (some so) H1 H2) : Ext TT none H H2 :=
  ⟨fun b o _ nt e => y.kp b o (fun z => by cases z; rw [n] at e; cases e) nt (x.kp b o (fun z => nomatch z) nt e), fun t => y.tb (x.tb t), fun _ e => (nomatch e), fun b e => x.fr b (y.fr b e)⟩
theorem SqL.ext {TT : List NTab} {H H1 : Hp} {a : Addr} {xs : List V} (h : SqL K H a xs) (x : Ext TT none H H1) : SqL K H1 a xs := by
  rcases h with (h | ⟨o, h⟩) | h
  · exact .inl (.inl (x.lst h))
  · exact .inl (.inr ⟨o, x.kp a _ (fun z => nomatch z) frz_nt h⟩)
  · exact .inr h
/-- a new object: what is kept, and where it stands -/
theorem newX {TT : List NTab} {H H1 : Hp} {p : Addr} {o : HO} {so : Option Addr} (x : Ext TT so H H1) (n : H1 p = none) : Ext TT so H (upd H1 p o) ∧ upd H1 p o p = some o := ⟨x.trans (Ext.new n), upd_same⟩
def spPool (K : PySem.W.Frag) (TT : List NTab) : Sp := fun vs H Q _ => ∃ (l : Addr) (ns : List Int) (k : Int), vs = [.ref l, .int k] ∧ 0 ≤ k ∧ k < 1000 ∧ SqL K H l (ns.map V.int) ∧ (∀ z ∈ ns, Builtin.Int.intBits z ≤ 1048576) ∧ Ret TT H Q fun v H' => ∃ so, v = .ref so ∧ Src H' so ∧ H so = none
theorem ok_pool (T : Txt K mg) (TT : List NTab) : FnOk P w K mg base CX0 1 T.a_Lpool T.d_Lpool ["_law_script", "_law_k"] (spPool K TT) := by
  refine T.F_Lpool.ok sc_Lpool (fun vs H Q E h => ?_) (fun cdv A outer s H vs Q E hr h => ?_)
  · obtain ⟨l, ns, k, rfl, _⟩ := h
    rfl
  · obtain ⟨l, ns, k, rfl, k0, k1, hl, hb, q⟩ := h
    have nd := sc_Lpool.nd
    refine ⟨_, pss_cons (ps_set (i := 2) nd rfl (Or.inl rfl) pe_int)
      (pss_cons (ps_if (pt_cmpR op_lt (pv 1) (pe_callB call_len_seq (by rfl) T.n_len PySem.boot_len (pa_cons (pv 0) pa_nil)) (nomark _)) (pss_one (ps_set (i := 2) nd rfl (Or.inl rfl) (pe_ix ix_list (pv 0) (pv 1) (fun _ _ => rfl))))
        (pss_one (ps_if (pt_truth (pv 0) (by intro _; rfl)) (pss_one (ps_set (i := 2) nd rfl (Or.inl rfl) (pe_ix ix_list (pv 0) pe_int (fun _ _ => rfl)))) pss_nil)))
      (pss_cons (ps_set (i := 3) nd rfl (Or.inl rfl) (pe_callB (call_max2 rfl) (by rfl) T.n_max (by decide +kernel) (pa_cons (pe_callTy call_int1 (by rfl) T.n_int (by decide +kernel) (pa_cons (pv 2) pa_nil)) (pa_cons (pe_callTy call_int1 (by rfl) T.n_int (by decide +kernel) (pa_cons (pe_op op_sub (pe_un un_neg pe_int) (pv 2)) pa_nil)) pa_nil))))
      (pss_cons (ps_set (i := 4) nd rfl (Or.inl rfl) (pe_op op_mod (pe_callTy call_int1 (by rfl) T.n_int (by decide +kernel) (pa_cons (pe_op op_mul (pe_op op_add (pe_op op_add (pe_op op_add (pe_op op_mod (pe_callTy call_int1 (by rfl) T.n_int (by decide +kernel) (pa_cons (pv 3) pa_nil)) pe_int)
          (pe_op op_mul (pe_op op_mul pe_int (pv 1)) (pv 1))) (pe_op op_mul pe_int (pv 1))) pe_int) pe_int) pa_nil)) pe_int))
      (pss_one (ps_ret (pe_lst (pa_cons (pe_op op_mul (pv 3) (pe_callTy call_int1 (by rfl) T.n_int (by decide +kernel) (pa_cons (pe_cmpR op_ge (pv 3) (pe_op op_pow pe_int pe_int) (nomark _)) pa_nil))) (pa_cons (pv 4) pa_nil)))))))), ?_⟩
    dsimp only
    refine seq_cut (fun σ H' => H = H' ∧ σ = [some (.ref l), some (.int k), some (.int 0), none, none]) (fun R join => join _ _ ⟨rfl, rfl⟩) ?_
    rintro σ _ ⟨rfl, rfl⟩
    refine seq_cut (fun σ H' => H = H' ∧ ∃ c : Int, c.natAbs < 2 ^ 1048576 ∧ σ = [some (.ref l), some (.int k), some (.int c), none, none]) (fun R join => ?_) ?_
    · refine ⟨_, rfl, _, rfl, l, _, rfl, .inl hl, _, _, rfl, rfl, _, rfl, ?_⟩
      refine iteB (fun h => ?_) (fun h => ?_)
      · have h0 : k < ((ns.map V.int).length : Nat) := of_decide_eq_true h
        rw [List.length_map] at h0
        obtain ⟨j, rfl⟩ : ∃ j : Nat, k = (j : Int) := ⟨k.toNat, by omega⟩
        have hj : j < ns.length := by omega
        refine ⟨_, rfl, _, rfl, l, _, _, .int ns[j], rfl, rfl, hl, atI_nat (by rw [List.getElem?_map, List.getElem?_eq_getElem hj]; rfl), ?_⟩
        exact join _ _ ⟨rfl, _, bits_lt (hb _ (List.getElem_mem hj)), rfl⟩
      · refine ⟨_, rfl, _, .inl ⟨_, hl, rfl⟩, ?_⟩
        cases ns with
        | nil => exact iteF' rfl (join _ _ ⟨rfl, 0, Nat.two_pow_pos _, rfl⟩)
        | cons c r =>
          refine iteT' rfl ⟨_, rfl, l, _, 0, .int c, rfl, rfl, hl, atI_nat (j := 0) rfl, ?_⟩
          exact join _ _ ⟨rfl, _, bits_lt (hb _ List.mem_cons_self), rfl⟩
    · rintro σ _ ⟨rfl, c, hcb, rfl⟩
      obtain ⟨B, hB⟩ : ∃ B : Int, B = (if (-1 - c) > c then (-1 - c) else c) := ⟨_, rfl⟩
      have B0 : 0 ≤ B := by rw [hB]; split <;> omega
      have B1 : B.natAbs ≤ (c).natAbs := by rw [hB]; split <;> omega
      have BB := big_lt hcb B1
      have kk : 0 ≤ 7919 * k ∧ 7919 * k < 2 ^ 62 := by omega
      refine ⟨_, rfl, .inl ⟨_, rfl, _, rfl, _, rfl, _, _, rfl, rfl, .inl ⟨_, rfl, c, -1 - c, rfl, ?_⟩⟩⟩
      rw [← hB]
      refine ⟨_, rfl, .inl ⟨_, rfl, _, _, rfl, rfl, (by show (0 : Int) < 2147483629; decide), _, rfl, _, _, rfl, rfl, .inl ⟨by decide, by decide⟩, _, rfl, _, _, rfl, rfl, .inl ⟨by omega, by omega⟩, _, _, rfl, rfl, _, rfl, _, _, rfl, rfl, .inl ⟨by decide, by decide⟩, _, _, rfl, rfl, _, _, rfl, rfl, _, _, rfl, rfl, .inr ⟨by decide, by decide⟩, .inl ⟨_, rfl, _, _, rfl, rfl, (by show (0 : Int) < 2147483647; decide), ?_⟩⟩⟩
      refine ⟨_, rfl, _, rfl, _, _, rfl, rfl, ⟨by decide, by decide, by decide⟩, _, _, rfl, rfl, .inr ⟨_, rfl, _, _, rfl, rfl, .inr ?_, _, rfl, (by show 2 ≤ sizeLine; decide), fun so nso => ?_⟩⟩
      · split <;> exact ⟨by decide, by decide⟩
      · refine q _ _ (Ext.new nso) ⟨so, rfl, ⟨_, _, upd_same, ?_, ?_, Int.emod_nonneg _ (by decide), Int.emod_lt_of_pos _ (by decide)⟩, nso⟩
        · split
          · rw [Int.mul_one]; exact B0
          · rw [Int.mul_zero]; exact Int.le_refl _
        · split
          · rw [Int.mul_one]; exact BB
          · rw [Int.mul_zero]; exact Nat.two_pow_pos _
end
end R
end

-- LawL
section
set_option Elab.async false
set_option linter.all false
set_option maxRecDepth 100000
set_option maxHeartbeats 4000000
namespace R
open PySem PySem.Spec PyProof.Rows L2 LamX NdefX LamP BlkX Pu
section
variable {P : Program} {w : World} {K : PySem.W.Frag} {mg : Str → Option Value} {base : Heap}
def spCase (T : Txt K mg) : Sp := fun vs H Q _ => ∃ (so : Addr) (x y : Int), vs = [.ref so] ∧ H so = some (.lst [.int x, .int y]) ∧ 0 ≤ x ∧ 0 ≤ y ∧ y < 2147483647 ∧ TabsN (TTof T) H ∧
  ∀ H', (∀ b o, b ≠ so → (∀ ps, o ≠ HO.tbl ps) → H b = some o → H' b = some o) → TabsN (TTof T) H' → (∀ b, H' b = none → H b = none) → Q (.bl true) H'
theorem ok_case (T : Txt K mg) (TB : TabB base mg T.c_check_links T.P_check_links) : FnOk P w K mg base CX0 9 T.a_Lright T.d_Lright ["_law_source"] (spCase T) :=
  (pk_Lright T TB).imp fun vs H Q E h => by
    obtain ⟨so, x, y, rfl, hs, hx, hy, hy2, tt, k⟩ := h
    obtain ⟨u, s', e, _⟩ := right_is ⟨x, y, hx, hy, hy2⟩
    obtain ⟨ρ, e1, e2⟩ := run1_inv e
    change F_Lright [.io [.int x, .int y]] = _ at e1
    refine ⟨⟨Gof T, H, fun _ => False, fun i => if i = 0 then some so else none, tt, fun _ => none⟩, fun _ => False, [.io [.int x, .int y]], rfl, rfl, rfl, fun _ => rfl, ?_, ?_⟩
    · refine ⟨rfl, fun i s hi => ?_, fun i j a hi hj => ?_, fun i a hi => ?_, Fr.refl _ _ _, fun a z => z, fun a z => z.elim, fun a z => z.elim, fun a vs z => nomatch z⟩
      · cases i with
        | zero =>
          cases hi
          exact ⟨_, rfl, so, _, rfl, hs, .cons (.int _) (.cons (.int _) .nil), fun z => z, rfl⟩
        | succ i => simp at hi
      · obtain ⟨h1, xs, h2⟩ := hi
        obtain ⟨h3, ys, h4⟩ := hj
        cases i with
        | zero => cases j with
          | zero => rfl
          | succ j => simp at h3
        | succ i => simp at h1
      · dsimp only at hi
        split at hi
        · rename_i z; subst z; exact ⟨_, rfl⟩
        · cases hi
    · rw [e1]
      intro F' σ' H' v er le rr
      have rv : Rv (Gof T).cm F' H' v (.bool true) := rr
      cases rv
      refine k H' (fun b o nb nt hb => ?_) (er.fr.tb tt) er.fr.fr
      refine er.fr.kp b o (fun ⟨i, z⟩ => ?_) nt hb
      dsimp only at z
      split at z
      · cases z; exact nb rfl
      · cases z
def spLaw (K : PySem.W.Frag) (TT : List NTab) : Sp := fun vs H Q _ => ∃ (l : Addr) (ns : List Int), vs = [.ref l] ∧ SqL K H l (ns.map V.int) ∧ (∀ z ∈ ns, Builtin.Int.intBits z ≤ 1048576) ∧ TabsN TT H ∧ ∀ H', Q (.bl true) H'
theorem ok_law (T : Txt K mg) (TB : TabB base mg T.c_check_links T.P_check_links) : FnOk P w K mg base CX0 10 T.a_law T.d_law ["_law_script"] (spLaw K (TTof T)) := by
  refine T.F_law.ok sc_law (fun vs H Q E h => ?_) (fun cdv A outer s H vs Q E hr h => ?_)
  · obtain ⟨l, ns, rfl, _⟩ := h
    rfl
  · obtain ⟨l0, ns, rfl, hl0, hb, hT, k⟩ := h
    have nd := sc_law.nd
    refine ⟨_, (pss_cons (ps_for PassesOwn.never rfl (pi_range1 (by rfl) T.n_range (pa_cons (pe_callB (call_max2 rfl) (by rfl) T.n_max (by decide +kernel) (pa_cons pe_int (pa_cons (pe_callB (call_min2 rfl) (by rfl) T.n_min (by decide +kernel) (pa_cons (pe_callB call_len_seq (by rfl) T.n_len PySem.boot_len (pa_cons (pv 0) pa_nil)) (pa_cons pe_int pa_nil))) pa_nil))) pa_nil)) (pg_name (i := 1) nd rfl (Or.inl rfl))
      (pss_one (ps_if (pt_not (pt_val (pe_call (ok_case T TB) (hr.mono (by decide)) rfl T.g_Lright T.F_Lright.kp T.b_Lright .nil pass0 (pa_cons (pe_call (ok_pool T (TTof T)) (hr.mono (by decide)) rfl T.g_Lpool T.F_Lpool.kp T.b_Lpool .nil pass0 (pa_cons (pv 0) (pa_cons (pv 1) pa_nil))) pa_nil)))) (pss_one (ps_ret pe_bl)) pss_nil)))
      (pss_one (ps_ret pe_bl))), ?_⟩
    refine ⟨_, rfl, l0, _, rfl, .inl hl0, _, _, rfl, _, _, rfl, ?_⟩
    obtain ⟨m, hm⟩ : ∃ m : Int, m = (if (if (2 : Int) < ((ns.map V.int).length : Nat) then (2 : Int) else ((ns.map V.int).length : Nat)) > 1 then (if (2 : Int) < ((ns.map V.int).length : Nat) then (2 : Int) else ((ns.map V.int).length : Nat)) else 1) := ⟨_, rfl⟩
    have mb : 1 ≤ m ∧ m ≤ 100 := by rw [hm]; split <;> split <;> omega
    refine ⟨m, by rw [hm], by omega, by omega, for_range (lo := 0) (n := m.toNat) (fun i σ H' => ∃ u, σ = [some (.ref l0), u] ∧ SqL K H' l0 (ns.map V.int) ∧ TabsN (TTof T) H') ⟨none, rfl, hl0, hT⟩ ?_ ?_⟩
    · rintro i σ H1 hi ⟨u, rfl, hl, ht⟩
      refine ⟨_, rfl, _, rfl, l0, ns, 0 + (i : Int), rfl, by omega, by omega, hl, hb, fun v H2 x2 hv => ?_⟩
      obtain ⟨so, rfl, ⟨x, y, h2, hx, _, hy, hy2⟩, nso⟩ := hv
      refine ⟨so, x, y, rfl, h2, hx, hy, hy2, x2.tb ht, fun H3 kp tb fr => ?_⟩
      refine ⟨true, rfl, ?_⟩
      refine iteF ?_
      have x3 : Ext (TTof T) none H1 H3 := ⟨fun b o _ nt hb => kp b o (fun z => by subst z; rw [nso] at hb; cases hb) nt (x2.kp b o (fun z => nomatch z) nt hb), fun _ => tb, fun _ z => (nomatch z), fun b e => x2.fr b (fr b e)⟩
      exact ⟨_, rfl, SqL.ext hl x3, tb⟩
    · rintro σ H1 ⟨u, rfl, hl, ht⟩
      exact k H1
end
end R
end

-- EndMk
section
set_option Elab.async false
set_option linter.all false
set_option maxRecDepth 100000
set_option maxHeartbeats 4000000
namespace R
open PySem PySem.Spec PyProof.Rows L2 LamX NdefX LamP
theorem exm_by {K : PySem.W.Frag} {S F : Addr} {b : Bool} (h1 : PySem.W.subIn K (.ref F) (.type "BaseException") = some true) (h2 : PySem.W.isClsIn K F = true) (h3 : PySem.W.typeIn K (.ref F) = some (.type "type")) (h4 : PySem.W.subIn K (.ref S) (.ref F) = some b) : PySem.W.exmOne K (.ref S) (.ref F) = some b := by
  have a1 : (PySem.W.subIn K (.ref F) (.type "BaseException") == some true) = true := by rw [h1] <;> rfl
  have a2 : ((PySem.W.clsIn K F).isSome && PySem.W.typeIn K (.ref F) == some (.type "type")) = true := by
    rw [show (PySem.W.clsIn K F).isSome = true from h2, h3] <;> rfl
  unfold PySem.W.exmOne
  first
    | rw [if_pos a1, if_pos a2, h4]
    | (show (if _ = true then (if _ = true then _ else _) else _) = _; rw [if_pos a1, if_pos a2, h4])
theorem law_at {l : PySem.W.OpenLaw} {w : World} {K : PySem.W.Frag} {h : Heap} {mg : Str → Option Value} {fa : Addr} (X : K.In h) (T : Txt K mg) (hfa : mg "law" = some (.ref fa)) (ht0 : h.get? T.P_check_links = some { cls := .none, data := .fields #[] })
    (hb : ∀ (s : Shared) (u : Value), BindsTo s T.d_law ⟨[u], []⟩ [("_law_script", u)]) : LawAtS l w K CX0 10 63 "_law_script" mg fa h := by
  have e := hfa.symm.trans T.g_law
  cases e
  refine ⟨T.d_law, [(T.c_check_links, T.P_check_links)], spLaw K (TTof T), ?_, ?_, ?_, hb, ?_, ?_⟩
  · intro p hp
    cases List.mem_singleton.mp hp
    exact ht0
  · intro p hp
    cases List.mem_singleton.mp hp
    exact T.nl_check_links
  · intro p hp
    cases List.mem_singleton.mp hp
    exact PySem.W.codeHd_of_K X T.ch_check_links
  · intro H a ns _ hbits htab hS
    refine ⟨a, ns, rfl, hS, hbits, ?_, fun _ => rfl⟩
    intro p hp
    cases List.mem_singleton.mp hp
    exact TabN.nil (htab (T.c_check_links, T.P_check_links) List.mem_cons_self)
  · intro base _ _ TB
    exact ok_law T (TB (T.c_check_links, T.P_check_links) List.mem_cons_self)
theorem all_mk {l : PySem.W.OpenLaw} {w : World} {K : PySem.W.Frag} {h : Heap} {mg : Str → Option Value} {fa : Addr} (X : K.In h) (G : h.Ns mainGlobals mg) (hfa : mg "law" = some (.ref fa))
    {C_Refused N_Refused : Addr} {nm_Refused q_Refused : Str} {bs_Refused bm_Refused sub_Refused : List Value} {sn_Refused : List Str} {ab_Refused : Bool} {col_Refused : Option Bool} {dd_Refused : Option Addr} {m0_Refused m1_Refused m2_Refused m3_Refused m5_Refused : Option Value}
    {C_BadSize N_BadSize : Addr} {nm_BadSize q_BadSize : Str} {bs_BadSize bm_BadSize sub_BadSize : List Value} {sn_BadSize : List Str} {ab_BadSize : Bool} {col_BadSize : Option Bool} {dd_BadSize : Option Addr} {m0_BadSize m1_BadSize m2_BadSize m3_BadSize m5_BadSize : Option Value}
    {C_BadLink N_BadLink : Addr} {nm_BadLink q_BadLink : Str} {bs_BadLink bm_BadLink sub_BadLink : List Value} {sn_BadLink : List Str} {ab_BadLink : Bool} {col_BadLink : Option Bool} {dd_BadLink : Option Addr} {m0_BadLink m1_BadLink m2_BadLink m3_BadLink m5_BadLink : Option Value}
    {C_TooMany N_TooMany : Addr} {nm_TooMany q_TooMany : Str} {bs_TooMany bm_TooMany sub_TooMany : List Value} {sn_TooMany : List Str} {ab_TooMany : Bool} {col_TooMany : Option Bool} {dd_TooMany : Option Addr} {m0_TooMany m1_TooMany m2_TooMany m3_TooMany m5_TooMany : Option Value}
    {C_BadCell N_BadCell : Addr} {nm_BadCell q_BadCell : Str} {bs_BadCell bm_BadCell sub_BadCell : List Value} {sn_BadCell : List Str} {ab_BadCell : Bool} {col_BadCell : Option Bool} {dd_BadCell : Option Addr} {m0_BadCell m1_BadCell m2_BadCell m3_BadCell m5_BadCell : Option Value}
    {C_Web : Addr}
    {a_Refused_init : Addr} {od_Refused_init an_Refused_init : Option Addr} {sl_Refused_init : Array (Option Value)} {oc_Refused_init kV_Refused_init dc_Refused_init pm_Refused_init ct_Refused_init : Value} {cd_Refused_init : Value}
    {a_is_number : Addr} {od_is_number an_is_number : Option Addr} {sl_is_number : Array (Option Value)} {oc_is_number kV_is_number dc_is_number pm_is_number ct_is_number : Value} {cd_is_number : Value}
    {a_is_below : Addr} {od_is_below an_is_below : Option Addr} {sl_is_below : Array (Option Value)} {oc_is_below kV_is_below dc_is_below pm_is_below ct_is_below : Value} {cd_is_below : Value}
    {a_are_numbers : Addr} {od_are_numbers an_are_numbers : Option Addr} {sl_are_numbers : Array (Option Value)} {oc_are_numbers kV_are_numbers dc_are_numbers pm_are_numbers ct_are_numbers : Value} {cd_are_numbers : Value}
    {a_is_rising_pair : Addr} {od_is_rising_pair an_is_rising_pair : Option Addr} {sl_is_rising_pair : Array (Option Value)} {oc_is_rising_pair kV_is_rising_pair dc_is_rising_pair pm_is_rising_pair ct_is_rising_pair : Value} {cd_is_rising_pair : Value}
    {a_first_fault : Addr} {od_first_fault an_first_fault : Option Addr} {sl_first_fault : Array (Option Value)} {oc_first_fault kV_first_fault dc_first_fault pm_first_fault ct_first_fault : Value} {cd_first_fault : Value}
    {a_check_cell : Addr} {od_check_cell an_check_cell : Option Addr} {sl_check_cell : Array (Option Value)} {oc_check_cell kV_check_cell dc_check_cell pm_check_cell ct_check_cell : Value} {cd_check_cell : Value}
    {a_Web_init : Addr} {od_Web_init an_Web_init : Option Addr} {sl_Web_init : Array (Option Value)} {oc_Web_init kV_Web_init dc_Web_init pm_Web_init ct_Web_init : Value} {cd_Web_init : Value}
    {a_Web_near : Addr} {od_Web_near an_Web_near : Option Addr} {sl_Web_near : Array (Option Value)} {oc_Web_near kV_Web_near dc_Web_near pm_Web_near ct_Web_near : Value} {cd_Web_near : Value}
    {a_Web_linked : Addr} {od_Web_linked an_Web_linked : Option Addr} {sl_Web_linked : Array (Option Value)} {oc_Web_linked kV_Web_linked dc_Web_linked pm_Web_linked ct_Web_linked : Value} {cd_Web_linked : Value}
    {a_check_links : Addr} {od_check_links an_check_links : Option Addr} {sl_check_links : Array (Option Value)} {oc_check_links kV_check_links dc_check_links pm_check_links ct_check_links : Value} {c_check_links P_check_links : Addr}
    {a_near_rows : Addr} {od_near_rows an_near_rows : Option Addr} {sl_near_rows : Array (Option Value)} {oc_near_rows kV_near_rows dc_near_rows pm_near_rows ct_near_rows : Value} {cd_near_rows : Value}
    {a_way : Addr} {od_way an_way : Option Addr} {sl_way : Array (Option Value)} {oc_way kV_way dc_way pm_way ct_way : Value} {cd_way : Value}
    {a_steps_from : Addr} {od_steps_from an_steps_from : Option Addr} {sl_steps_from : Array (Option Value)} {oc_steps_from kV_steps_from dc_steps_from pm_steps_from ct_steps_from : Value} {cd_steps_from : Value}
    {a_first_row : Addr} {od_first_row an_first_row : Option Addr} {sl_first_row : Array (Option Value)} {oc_first_row kV_first_row dc_first_row pm_first_row ct_first_row : Value} {cd_first_row : Value}
    {a_Lpool : Addr} {od_Lpool an_Lpool : Option Addr} {sl_Lpool : Array (Option Value)} {oc_Lpool kV_Lpool dc_Lpool pm_Lpool ct_Lpool : Value} {cd_Lpool : Value}
    {a_Ltake : Addr} {od_Ltake an_Ltake : Option Addr} {sl_Ltake : Array (Option Value)} {oc_Ltake kV_Ltake dc_Ltake pm_Ltake ct_Ltake : Value} {cd_Ltake : Value}
    {a_Lone : Addr} {od_Lone an_Lone : Option Addr} {sl_Lone : Array (Option Value)} {oc_Lone kV_Lone dc_Lone pm_Lone ct_Lone : Value} {cd_Lone : Value}
    {a_Lshuffled : Addr} {od_Lshuffled an_Lshuffled : Option Addr} {sl_Lshuffled : Array (Option Value)} {oc_Lshuffled kV_Lshuffled dc_Lshuffled pm_Lshuffled ct_Lshuffled : Value} {cd_Lshuffled : Value}
    {a_Lnear : Addr} {od_Lnear an_Lnear : Option Addr} {sl_Lnear : Array (Option Value)} {oc_Lnear kV_Lnear dc_Lnear pm_Lnear ct_Lnear : Value} {cd_Lnear : Value}
    {a_Llink : Addr} {od_Llink an_Llink : Option Addr} {sl_Llink : Array (Option Value)} {oc_Llink kV_Llink dc_Llink pm_Llink ct_Llink : Value} {cd_Llink : Value}
    {a_Lcorner : Addr} {od_Lcorner an_Lcorner : Option Addr} {sl_Lcorner : Array (Option Value)} {oc_Lcorner kV_Lcorner dc_Lcorner pm_Lcorner ct_Lcorner : Value} {cd_Lcorner : Value}
    {a_Lbridge : Addr} {od_Lbridge an_Lbridge : Option Addr} {sl_Lbridge : Array (Option Value)} {oc_Lbridge kV_Lbridge dc_Lbridge pm_Lbridge ct_Lbridge : Value} {cd_Lbridge : Value}
    {a_Lrenamed : Addr} {od_Lrenamed an_Lrenamed : Option Addr} {sl_Lrenamed : Array (Option Value)} {oc_Lrenamed kV_Lrenamed dc_Lrenamed pm_Lrenamed ct_Lrenamed : Value} {cd_Lrenamed : Value}
    {a_Lstout : Addr} {od_Lstout an_Lstout : Option Addr} {sl_Lstout : Array (Option Value)} {oc_Lstout kV_Lstout dc_Lstout pm_Lstout ct_Lstout : Value} {cd_Lstout : Value}
    {a_Lround : Addr} {od_Lround an_Lround : Option Addr} {sl_Lround : Array (Option Value)} {oc_Lround kV_Lround dc_Lround pm_Lround ct_Lround : Value} {cd_Lround : Value}
    {a_Ltree : Addr} {od_Ltree an_Ltree : Option Addr} {sl_Ltree : Array (Option Value)} {oc_Ltree kV_Ltree dc_Ltree pm_Ltree ct_Ltree : Value} {cd_Ltree : Value}
    {a_Lany : Addr} {od_Lany an_Lany : Option Addr} {sl_Lany : Array (Option Value)} {oc_Lany kV_Lany dc_Lany pm_Lany ct_Lany : Value} {cd_Lany : Value}
    {a_Lbeside : Addr} {od_Lbeside an_Lbeside : Option Addr} {sl_Lbeside : Array (Option Value)} {oc_Lbeside kV_Lbeside dc_Lbeside pm_Lbeside ct_Lbeside : Value} {cd_Lbeside : Value}
    {a_Lsome : Addr} {od_Lsome an_Lsome : Option Addr} {sl_Lsome : Array (Option Value)} {oc_Lsome kV_Lsome dc_Lsome pm_Lsome ct_Lsome : Value} {cd_Lsome : Value}
    {a_Lnumber : Addr} {od_Lnumber an_Lnumber : Option Addr} {sl_Lnumber : Array (Option Value)} {oc_Lnumber kV_Lnumber dc_Lnumber pm_Lnumber ct_Lnumber : Value} {cd_Lnumber : Value}
    {a_Lrow : Addr} {od_Lrow an_Lrow : Option Addr} {sl_Lrow : Array (Option Value)} {oc_Lrow kV_Lrow dc_Lrow pm_Lrow ct_Lrow : Value} {cd_Lrow : Value}
    {a_Loutside : Addr} {od_Loutside an_Loutside : Option Addr} {sl_Loutside : Array (Option Value)} {oc_Loutside kV_Loutside dc_Loutside pm_Loutside ct_Loutside : Value} {cd_Loutside : Value}
    {a_Lways : Addr} {od_Lways an_Lways : Option Addr} {sl_Lways : Array (Option Value)} {oc_Lways kV_Lways dc_Lways pm_Lways ct_Lways : Value} {cd_Lways : Value}
    {a_Lrefusal : Addr} {od_Lrefusal an_Lrefusal : Option Addr} {sl_Lrefusal : Array (Option Value)} {oc_Lrefusal kV_Lrefusal dc_Lrefusal pm_Lrefusal ct_Lrefusal : Value} {cd_Lrefusal : Value}
    {a_Lway_right : Addr} {od_Lway_right an_Lway_right : Option Addr} {sl_Lway_right : Array (Option Value)} {oc_Lway_right kV_Lway_right dc_Lway_right pm_Lway_right ct_Lway_right : Value} {cd_Lway_right : Value}
    {a_Lright : Addr} {od_Lright an_Lright : Option Addr} {sl_Lright : Array (Option Value)} {oc_Lright kV_Lright dc_Lright pm_Lright ct_Lright : Value} {cd_Lright : Value}
    {a_law : Addr} {od_law an_law : Option Addr} {sl_law : Array (Option Value)} {oc_law kV_law dc_law pm_law ct_law : Value} {cd_law : Value}
    {t_MOST_CELLS : Tok}
    {t_MOST_LINKS : Tok}
    (aC_Refused : PySem.W.nsIn K mainGlobals "Refused" = some (some (.ref C_Refused)))
    (xL_Refused : K.lookup C_Refused = some (excClassObj nm_Refused q_Refused C_Refused N_Refused bs_Refused bm_Refused true sn_Refused sub_Refused ab_Refused col_Refused dd_Refused m0_Refused m1_Refused m2_Refused m3_Refused m5_Refused "ValueError.__new__"))
    (rV_Refused : PySem.HandSPX.refsVE bm_Refused = true)
    (sa_Refused : PySem.W.findIn K (.ref C_Refused) "__setattr__" = some (some (.builtin "object.__setattr__")))
    (ex_Refused : PySem.W.subIn K (.ref C_Refused) (.type "BaseException") = some true)
    (ty_Refused : PySem.W.typeIn K (.ref C_Refused) = some (.type "type"))
    (kC_Refused : PySem.W.keepIn K (.ref C_Refused) = true)
    (ga_Refused : PySem.W.findIn K (.ref C_Refused) "__getattribute__" = some (some (.builtin "BaseException.__getattribute__")))
    (gg_Refused : PySem.W.findIn K (.ref C_Refused) "__getattr__" = some none)
    (hd_Refused : PySem.W.hasDictIn K C_Refused = true)
    (is_Refused : PySem.W.isClsIn K C_Refused = true)
    (iC_Refused : PySem.W.findIn K (.ref C_Refused) "__init__" = some (some (.ref a_Refused_init)))
    (nw_Refused : PySem.W.findIn K (.ref C_Refused) "what" = some none)
    (aC_BadSize : PySem.W.nsIn K mainGlobals "BadSize" = some (some (.ref C_BadSize)))
    (xL_BadSize : K.lookup C_BadSize = some (excClassObj nm_BadSize q_BadSize C_BadSize N_BadSize bs_BadSize bm_BadSize true sn_BadSize sub_BadSize ab_BadSize col_BadSize dd_BadSize m0_BadSize m1_BadSize m2_BadSize m3_BadSize m5_BadSize "ValueError.__new__"))
    (rV_BadSize : PySem.HandSPX.refsVE bm_BadSize = true)
    (sa_BadSize : PySem.W.findIn K (.ref C_BadSize) "__setattr__" = some (some (.builtin "object.__setattr__")))
    (ex_BadSize : PySem.W.subIn K (.ref C_BadSize) (.type "BaseException") = some true)
    (ty_BadSize : PySem.W.typeIn K (.ref C_BadSize) = some (.type "type"))
    (kC_BadSize : PySem.W.keepIn K (.ref C_BadSize) = true)
    (ga_BadSize : PySem.W.findIn K (.ref C_BadSize) "__getattribute__" = some (some (.builtin "BaseException.__getattribute__")))
    (gg_BadSize : PySem.W.findIn K (.ref C_BadSize) "__getattr__" = some none)
    (hd_BadSize : PySem.W.hasDictIn K C_BadSize = true)
    (is_BadSize : PySem.W.isClsIn K C_BadSize = true)
    (iC_BadSize : PySem.W.findIn K (.ref C_BadSize) "__init__" = some (some (.ref a_Refused_init)))
    (nw_BadSize : PySem.W.findIn K (.ref C_BadSize) "what" = some none)
    (aC_BadLink : PySem.W.nsIn K mainGlobals "BadLink" = some (some (.ref C_BadLink)))
    (xL_BadLink : K.lookup C_BadLink = some (excClassObj nm_BadLink q_BadLink C_BadLink N_BadLink bs_BadLink bm_BadLink true sn_BadLink sub_BadLink ab_BadLink col_BadLink dd_BadLink m0_BadLink m1_BadLink m2_BadLink m3_BadLink m5_BadLink "ValueError.__new__"))
    (rV_BadLink : PySem.HandSPX.refsVE bm_BadLink = true)
    (sa_BadLink : PySem.W.findIn K (.ref C_BadLink) "__setattr__" = some (some (.builtin "object.__setattr__")))
    (ex_BadLink : PySem.W.subIn K (.ref C_BadLink) (.type "BaseException") = some true)
    (ty_BadLink : PySem.W.typeIn K (.ref C_BadLink) = some (.type "type"))
    (kC_BadLink : PySem.W.keepIn K (.ref C_BadLink) = true)
    (ga_BadLink : PySem.W.findIn K (.ref C_BadLink) "__getattribute__" = some (some (.builtin "BaseException.__getattribute__")))
    (gg_BadLink : PySem.W.findIn K (.ref C_BadLink) "__getattr__" = some none)
    (hd_BadLink : PySem.W.hasDictIn K C_BadLink = true)
    (is_BadLink : PySem.W.isClsIn K C_BadLink = true)
    (iC_BadLink : PySem.W.findIn K (.ref C_BadLink) "__init__" = some (some (.ref a_Refused_init)))
    (nw_BadLink : PySem.W.findIn K (.ref C_BadLink) "what" = some none)
    (aC_TooMany : PySem.W.nsIn K mainGlobals "TooMany" = some (some (.ref C_TooMany)))
    (xL_TooMany : K.lookup C_TooMany = some (excClassObj nm_TooMany q_TooMany C_TooMany N_TooMany bs_TooMany bm_TooMany true sn_TooMany sub_TooMany ab_TooMany col_TooMany dd_TooMany m0_TooMany m1_TooMany m2_TooMany m3_TooMany m5_TooMany "ValueError.__new__"))
    (rV_TooMany : PySem.HandSPX.refsVE bm_TooMany = true)
    (sa_TooMany : PySem.W.findIn K (.ref C_TooMany) "__setattr__" = some (some (.builtin "object.__setattr__")))
    (ex_TooMany : PySem.W.subIn K (.ref C_TooMany) (.type "BaseException") = some true)
    (ty_TooMany : PySem.W.typeIn K (.ref C_TooMany) = some (.type "type"))
    (kC_TooMany : PySem.W.keepIn K (.ref C_TooMany) = true)
    (ga_TooMany : PySem.W.findIn K (.ref C_TooMany) "__getattribute__" = some (some (.builtin "BaseException.__getattribute__")))
    (gg_TooMany : PySem.W.findIn K (.ref C_TooMany) "__getattr__" = some none)
    (hd_TooMany : PySem.W.hasDictIn K C_TooMany = true)
    (is_TooMany : PySem.W.isClsIn K C_TooMany = true)
    (iC_TooMany : PySem.W.findIn K (.ref C_TooMany) "__init__" = some (some (.ref a_Refused_init)))
    (nw_TooMany : PySem.W.findIn K (.ref C_TooMany) "what" = some none)
    (aC_BadCell : PySem.W.nsIn K mainGlobals "BadCell" = some (some (.ref C_BadCell)))
    (xL_BadCell : K.lookup C_BadCell = some (excClassObj nm_BadCell q_BadCell C_BadCell N_BadCell bs_BadCell bm_BadCell true sn_BadCell sub_BadCell ab_BadCell col_BadCell dd_BadCell m0_BadCell m1_BadCell m2_BadCell m3_BadCell m5_BadCell "ValueError.__new__"))
    (rV_BadCell : PySem.HandSPX.refsVE bm_BadCell = true)
    (sa_BadCell : PySem.W.findIn K (.ref C_BadCell) "__setattr__" = some (some (.builtin "object.__setattr__")))
    (ex_BadCell : PySem.W.subIn K (.ref C_BadCell) (.type "BaseException") = some true)
    (ty_BadCell : PySem.W.typeIn K (.ref C_BadCell) = some (.type "type"))
    (kC_BadCell : PySem.W.keepIn K (.ref C_BadCell) = true)
    (ga_BadCell : PySem.W.findIn K (.ref C_BadCell) "__getattribute__" = some (some (.builtin "BaseException.__getattribute__")))
    (gg_BadCell : PySem.W.findIn K (.ref C_BadCell) "__getattr__" = some none)
    (hd_BadCell : PySem.W.hasDictIn K C_BadCell = true)
    (is_BadCell : PySem.W.isClsIn K C_BadCell = true)
    (iC_BadCell : PySem.W.findIn K (.ref C_BadCell) "__init__" = some (some (.ref a_Refused_init)))
    (nw_BadCell : PySem.W.findIn K (.ref C_BadCell) "what" = some none)
    (s_Refused_BadCell : PySem.W.subIn K (.ref C_Refused) (.ref C_BadCell) = some false)
    (s_Refused_Refused : PySem.W.subIn K (.ref C_Refused) (.ref C_Refused) = some true)
    (s_BadSize_BadCell : PySem.W.subIn K (.ref C_BadSize) (.ref C_BadCell) = some false)
    (s_BadSize_Refused : PySem.W.subIn K (.ref C_BadSize) (.ref C_Refused) = some true)
    (s_BadLink_BadCell : PySem.W.subIn K (.ref C_BadLink) (.ref C_BadCell) = some false)
    (s_BadLink_Refused : PySem.W.subIn K (.ref C_BadLink) (.ref C_Refused) = some true)
    (s_TooMany_BadCell : PySem.W.subIn K (.ref C_TooMany) (.ref C_BadCell) = some false)
    (s_TooMany_Refused : PySem.W.subIn K (.ref C_TooMany) (.ref C_Refused) = some true)
    (s_BadCell_BadCell : PySem.W.subIn K (.ref C_BadCell) (.ref C_BadCell) = some true)
    (s_BadCell_Refused : PySem.W.subIn K (.ref C_BadCell) (.ref C_Refused) = some true)
    (aC_Web : PySem.W.nsIn K mainGlobals "Web" = some (some (.ref C_Web)))
    (pg_Web : PySem.W.plainGet K C_Web Str.empty = true)
    (hd_Web : PySem.W.hasDictIn K C_Web = true)
    (po_Web : PySem.W.plainOver K C_Web = true)
    (sa_Web : PySem.W.findIn K (.ref C_Web) "__setattr__" = some (some (.builtin "object.__setattr__")))
    (mk_Web : PySem.W.makesIn K C_Web = true)
    (kC_Web : PySem.W.keepIn K (.ref C_Web) = true)
    (na_Web__rows : PySem.W.findIn K (.ref C_Web) "_rows" = some none)
    (na_Web_links : PySem.W.findIn K (.ref C_Web) "links" = some none)
    (na_Web_size : PySem.W.findIn K (.ref C_Web) "size" = some none)
    (at_Web_init : PySem.W.findIn K (.ref C_Web) "__init__" = some (some (.ref a_Web_init)))
    (fn_Web_init : PySem.W.isFn K (.ref a_Web_init) = true)
    (at_Web_near : PySem.W.findIn K (.ref C_Web) "near" = some (some (.ref a_Web_near)))
    (fn_Web_near : PySem.W.isFn K (.ref a_Web_near) = true)
    (at_Web_linked : PySem.W.findIn K (.ref C_Web) "linked" = some (some (.ref a_Web_linked)))
    (fn_Web_linked : PySem.W.isFn K (.ref a_Web_linked) = true)
    (l_Refused_init : K.lookup a_Refused_init = some ⟨oc_Refused_init, od_Refused_init, .func (PySem.W.fnOf "__init__" "Refused.__init__" (defArgs s_Refused_init) (defBody s_Refused_init) (defScope s_Refused_init) .none kV_Refused_init dc_Refused_init pm_Refused_init an_Refused_init cd_Refused_init ct_Refused_init), sl_Refused_init⟩)
    (co_Refused_init : PySem.W.codeIn K cd_Refused_init "Refused.__init__" = true)
    (k_Refused_init : PySem.W.keepIn K (.ref a_Refused_init) = true)
    (g_is_number : PySem.W.nsIn K mainGlobals "is_number" = some (some (.ref a_is_number)))
    (l_is_number : K.lookup a_is_number = some ⟨oc_is_number, od_is_number, .func (PySem.W.fnOf "is_number" "is_number" (defArgs s_is_number) (defBody s_is_number) (defScope s_is_number) .none kV_is_number dc_is_number pm_is_number an_is_number cd_is_number ct_is_number), sl_is_number⟩)
    (co_is_number : PySem.W.codeIn K cd_is_number "is_number" = true)
    (k_is_number : PySem.W.keepIn K (.ref a_is_number) = true)
    (g_is_below : PySem.W.nsIn K mainGlobals "is_below" = some (some (.ref a_is_below)))
    (l_is_below : K.lookup a_is_below = some ⟨oc_is_below, od_is_below, .func (PySem.W.fnOf "is_below" "is_below" (defArgs s_is_below) (defBody s_is_below) (defScope s_is_below) .none kV_is_below dc_is_below pm_is_below an_is_below cd_is_below ct_is_below), sl_is_below⟩)
    (co_is_below : PySem.W.codeIn K cd_is_below "is_below" = true)
    (k_is_below : PySem.W.keepIn K (.ref a_is_below) = true)
    (g_are_numbers : PySem.W.nsIn K mainGlobals "are_numbers" = some (some (.ref a_are_numbers)))
    (l_are_numbers : K.lookup a_are_numbers = some ⟨oc_are_numbers, od_are_numbers, .func (PySem.W.fnOf "are_numbers" "are_numbers" (defArgs s_are_numbers) (defBody s_are_numbers) (defScope s_are_numbers) .none kV_are_numbers dc_are_numbers pm_are_numbers an_are_numbers cd_are_numbers ct_are_numbers), sl_are_numbers⟩)
    (co_are_numbers : PySem.W.codeIn K cd_are_numbers "are_numbers" = true)
    (k_are_numbers : PySem.W.keepIn K (.ref a_are_numbers) = true)
    (g_is_rising_pair : PySem.W.nsIn K mainGlobals "is_rising_pair" = some (some (.ref a_is_rising_pair)))
    (l_is_rising_pair : K.lookup a_is_rising_pair = some ⟨oc_is_rising_pair, od_is_rising_pair, .func (PySem.W.fnOf "is_rising_pair" "is_rising_pair" (defArgs s_is_rising_pair) (defBody s_is_rising_pair) (defScope s_is_rising_pair) .none kV_is_rising_pair dc_is_rising_pair pm_is_rising_pair an_is_rising_pair cd_is_rising_pair ct_is_rising_pair), sl_is_rising_pair⟩)
    (co_is_rising_pair : PySem.W.codeIn K cd_is_rising_pair "is_rising_pair" = true)
    (k_is_rising_pair : PySem.W.keepIn K (.ref a_is_rising_pair) = true)
    (g_first_fault : PySem.W.nsIn K mainGlobals "first_fault" = some (some (.ref a_first_fault)))
    (l_first_fault : K.lookup a_first_fault = some ⟨oc_first_fault, od_first_fault, .func (PySem.W.fnOf "first_fault" "first_fault" (defArgs s_first_fault) (defBody s_first_fault) (defScope s_first_fault) .none kV_first_fault dc_first_fault pm_first_fault an_first_fault cd_first_fault ct_first_fault), sl_first_fault⟩)
    (co_first_fault : PySem.W.codeIn K cd_first_fault "first_fault" = true)
    (k_first_fault : PySem.W.keepIn K (.ref a_first_fault) = true)
    (g_check_cell : PySem.W.nsIn K mainGlobals "check_cell" = some (some (.ref a_check_cell)))
    (l_check_cell : K.lookup a_check_cell = some ⟨oc_check_cell, od_check_cell, .func (PySem.W.fnOf "check_cell" "check_cell" (defArgs s_check_cell) (defBody s_check_cell) (defScope s_check_cell) .none kV_check_cell dc_check_cell pm_check_cell an_check_cell cd_check_cell ct_check_cell), sl_check_cell⟩)
    (co_check_cell : PySem.W.codeIn K cd_check_cell "check_cell" = true)
    (k_check_cell : PySem.W.keepIn K (.ref a_check_cell) = true)
    (l_Web_init : K.lookup a_Web_init = some ⟨oc_Web_init, od_Web_init, .func (PySem.W.fnOf "__init__" "Web.__init__" (defArgs s_Web_init) (defBody s_Web_init) (defScope s_Web_init) .none kV_Web_init dc_Web_init pm_Web_init an_Web_init cd_Web_init ct_Web_init), sl_Web_init⟩)
    (co_Web_init : PySem.W.codeIn K cd_Web_init "Web.__init__" = true)
    (k_Web_init : PySem.W.keepIn K (.ref a_Web_init) = true)
    (l_Web_near : K.lookup a_Web_near = some ⟨oc_Web_near, od_Web_near, .func (PySem.W.fnOf "near" "Web.near" (defArgs s_Web_near) (defBody s_Web_near) (defScope s_Web_near) .none kV_Web_near dc_Web_near pm_Web_near an_Web_near cd_Web_near ct_Web_near), sl_Web_near⟩)
    (co_Web_near : PySem.W.codeIn K cd_Web_near "Web.near" = true)
    (k_Web_near : PySem.W.keepIn K (.ref a_Web_near) = true)
    (l_Web_linked : K.lookup a_Web_linked = some ⟨oc_Web_linked, od_Web_linked, .func (PySem.W.fnOf "linked" "Web.linked" (defArgs s_Web_linked) (defBody s_Web_linked) (defScope s_Web_linked) .none kV_Web_linked dc_Web_linked pm_Web_linked an_Web_linked cd_Web_linked ct_Web_linked), sl_Web_linked⟩)
    (co_Web_linked : PySem.W.codeIn K cd_Web_linked "Web.linked" = true)
    (k_Web_linked : PySem.W.keepIn K (.ref a_Web_linked) = true)
    (g_check_links : PySem.W.nsIn K mainGlobals "check_links" = some (some (.ref a_check_links)))
    (l_check_links : K.lookup a_check_links = some ⟨oc_check_links, od_check_links, .func (PySem.W.fnOf "check_links" "check_links" (defArgs s_check_links) (defBody s_check_links) (defScope s_check_links) .none kV_check_links dc_check_links pm_check_links an_check_links (.ref c_check_links) ct_check_links), sl_check_links⟩)
    (co_check_links : PySem.W.codeIn K (.ref c_check_links) "check_links" = true)
    (k_check_links : PySem.W.keepIn K (.ref a_check_links) = true)
    (ch_check_links : PySem.W.codeHdIn K c_check_links P_check_links = true)
    (nl_check_links : K.lookup P_check_links = none)
    (g_near_rows : PySem.W.nsIn K mainGlobals "near_rows" = some (some (.ref a_near_rows)))
    (l_near_rows : K.lookup a_near_rows = some ⟨oc_near_rows, od_near_rows, .func (PySem.W.fnOf "near_rows" "near_rows" (defArgs s_near_rows) (defBody s_near_rows) (defScope s_near_rows) .none kV_near_rows dc_near_rows pm_near_rows an_near_rows cd_near_rows ct_near_rows), sl_near_rows⟩)
    (co_near_rows : PySem.W.codeIn K cd_near_rows "near_rows" = true)
    (k_near_rows : PySem.W.keepIn K (.ref a_near_rows) = true)
    (g_way : PySem.W.nsIn K mainGlobals "way" = some (some (.ref a_way)))
    (l_way : K.lookup a_way = some ⟨oc_way, od_way, .func (PySem.W.fnOf "way" "way" (defArgs s_way) (defBody s_way) (defScope s_way) .none kV_way dc_way pm_way an_way cd_way ct_way), sl_way⟩)
    (co_way : PySem.W.codeIn K cd_way "way" = true)
    (k_way : PySem.W.keepIn K (.ref a_way) = true)
    (g_steps_from : PySem.W.nsIn K mainGlobals "steps_from" = some (some (.ref a_steps_from)))
    (l_steps_from : K.lookup a_steps_from = some ⟨oc_steps_from, od_steps_from, .func (PySem.W.fnOf "steps_from" "steps_from" (defArgs s_steps_from) (defBody s_steps_from) (defScope s_steps_from) .none kV_steps_from dc_steps_from pm_steps_from an_steps_from cd_steps_from ct_steps_from), sl_steps_from⟩)
    (co_steps_from : PySem.W.codeIn K cd_steps_from "steps_from" = true)
    (k_steps_from : PySem.W.keepIn K (.ref a_steps_from) = true)
    (g_first_row : PySem.W.nsIn K mainGlobals "first_row" = some (some (.ref a_first_row)))
    (l_first_row : K.lookup a_first_row = some ⟨oc_first_row, od_first_row, .func (PySem.W.fnOf "first_row" "first_row" (defArgs s_first_row) (defBody s_first_row) (defScope s_first_row) .none kV_first_row dc_first_row pm_first_row an_first_row cd_first_row ct_first_row), sl_first_row⟩)
    (co_first_row : PySem.W.codeIn K cd_first_row "first_row" = true)
    (k_first_row : PySem.W.keepIn K (.ref a_first_row) = true)
    (g_Lpool : PySem.W.nsIn K mainGlobals "_law_pool" = some (some (.ref a_Lpool)))
    (l_Lpool : K.lookup a_Lpool = some ⟨oc_Lpool, od_Lpool, .func (PySem.W.fnOf "_law_pool" "_law_pool" (defArgs s_Lpool) (defBody s_Lpool) (defScope s_Lpool) .none kV_Lpool dc_Lpool pm_Lpool an_Lpool cd_Lpool ct_Lpool), sl_Lpool⟩)
    (co_Lpool : PySem.W.codeIn K cd_Lpool "_law_pool" = true)
    (k_Lpool : PySem.W.keepIn K (.ref a_Lpool) = true)
    (g_Ltake : PySem.W.nsIn K mainGlobals "_law_take" = some (some (.ref a_Ltake)))
    (l_Ltake : K.lookup a_Ltake = some ⟨oc_Ltake, od_Ltake, .func (PySem.W.fnOf "_law_take" "_law_take" (defArgs s_Ltake) (defBody s_Ltake) (defScope s_Ltake) .none kV_Ltake dc_Ltake pm_Ltake an_Ltake cd_Ltake ct_Ltake), sl_Ltake⟩)
    (co_Ltake : PySem.W.codeIn K cd_Ltake "_law_take" = true)
    (k_Ltake : PySem.W.keepIn K (.ref a_Ltake) = true)
    (g_Lone : PySem.W.nsIn K mainGlobals "_law_one" = some (some (.ref a_Lone)))
    (l_Lone : K.lookup a_Lone = some ⟨oc_Lone, od_Lone, .func (PySem.W.fnOf "_law_one" "_law_one" (defArgs s_Lone) (defBody s_Lone) (defScope s_Lone) .none kV_Lone dc_Lone pm_Lone an_Lone cd_Lone ct_Lone), sl_Lone⟩)
    (co_Lone : PySem.W.codeIn K cd_Lone "_law_one" = true)
    (k_Lone : PySem.W.keepIn K (.ref a_Lone) = true)
    (g_Lshuffled : PySem.W.nsIn K mainGlobals "_law_shuffled" = some (some (.ref a_Lshuffled)))
    (l_Lshuffled : K.lookup a_Lshuffled = some ⟨oc_Lshuffled, od_Lshuffled, .func (PySem.W.fnOf "_law_shuffled" "_law_shuffled" (defArgs s_Lshuffled) (defBody s_Lshuffled) (defScope s_Lshuffled) .none kV_Lshuffled dc_Lshuffled pm_Lshuffled an_Lshuffled cd_Lshuffled ct_Lshuffled), sl_Lshuffled⟩)
    (co_Lshuffled : PySem.W.codeIn K cd_Lshuffled "_law_shuffled" = true)
    (k_Lshuffled : PySem.W.keepIn K (.ref a_Lshuffled) = true)
    (g_Lnear : PySem.W.nsIn K mainGlobals "_law_near" = some (some (.ref a_Lnear)))
    (l_Lnear : K.lookup a_Lnear = some ⟨oc_Lnear, od_Lnear, .func (PySem.W.fnOf "_law_near" "_law_near" (defArgs s_Lnear) (defBody s_Lnear) (defScope s_Lnear) .none kV_Lnear dc_Lnear pm_Lnear an_Lnear cd_Lnear ct_Lnear), sl_Lnear⟩)
    (co_Lnear : PySem.W.codeIn K cd_Lnear "_law_near" = true)
    (k_Lnear : PySem.W.keepIn K (.ref a_Lnear) = true)
    (g_Llink : PySem.W.nsIn K mainGlobals "_law_link" = some (some (.ref a_Llink)))
    (l_Llink : K.lookup a_Llink = some ⟨oc_Llink, od_Llink, .func (PySem.W.fnOf "_law_link" "_law_link" (defArgs s_Llink) (defBody s_Llink) (defScope s_Llink) .none kV_Llink dc_Llink pm_Llink an_Llink cd_Llink ct_Llink), sl_Llink⟩)
    (co_Llink : PySem.W.codeIn K cd_Llink "_law_link" = true)
    (k_Llink : PySem.W.keepIn K (.ref a_Llink) = true)
    (g_Lcorner : PySem.W.nsIn K mainGlobals "_law_corner" = some (some (.ref a_Lcorner)))
    (l_Lcorner : K.lookup a_Lcorner = some ⟨oc_Lcorner, od_Lcorner, .func (PySem.W.fnOf "_law_corner" "_law_corner" (defArgs s_Lcorner) (defBody s_Lcorner) (defScope s_Lcorner) .none kV_Lcorner dc_Lcorner pm_Lcorner an_Lcorner cd_Lcorner ct_Lcorner), sl_Lcorner⟩)
    (co_Lcorner : PySem.W.codeIn K cd_Lcorner "_law_corner" = true)
    (k_Lcorner : PySem.W.keepIn K (.ref a_Lcorner) = true)
    (g_Lbridge : PySem.W.nsIn K mainGlobals "_law_bridge" = some (some (.ref a_Lbridge)))
    (l_Lbridge : K.lookup a_Lbridge = some ⟨oc_Lbridge, od_Lbridge, .func (PySem.W.fnOf "_law_bridge" "_law_bridge" (defArgs s_Lbridge) (defBody s_Lbridge) (defScope s_Lbridge) .none kV_Lbridge dc_Lbridge pm_Lbridge an_Lbridge cd_Lbridge ct_Lbridge), sl_Lbridge⟩)
    (co_Lbridge : PySem.W.codeIn K cd_Lbridge "_law_bridge" = true)
    (k_Lbridge : PySem.W.keepIn K (.ref a_Lbridge) = true)
    (g_Lrenamed : PySem.W.nsIn K mainGlobals "_law_renamed" = some (some (.ref a_Lrenamed)))
    (l_Lrenamed : K.lookup a_Lrenamed = some ⟨oc_Lrenamed, od_Lrenamed, .func (PySem.W.fnOf "_law_renamed" "_law_renamed" (defArgs s_Lrenamed) (defBody s_Lrenamed) (defScope s_Lrenamed) .none kV_Lrenamed dc_Lrenamed pm_Lrenamed an_Lrenamed cd_Lrenamed ct_Lrenamed), sl_Lrenamed⟩)
    (co_Lrenamed : PySem.W.codeIn K cd_Lrenamed "_law_renamed" = true)
    (k_Lrenamed : PySem.W.keepIn K (.ref a_Lrenamed) = true)
    (g_Lstout : PySem.W.nsIn K mainGlobals "_law_stout" = some (some (.ref a_Lstout)))
    (l_Lstout : K.lookup a_Lstout = some ⟨oc_Lstout, od_Lstout, .func (PySem.W.fnOf "_law_stout" "_law_stout" (defArgs s_Lstout) (defBody s_Lstout) (defScope s_Lstout) .none kV_Lstout dc_Lstout pm_Lstout an_Lstout cd_Lstout ct_Lstout), sl_Lstout⟩)
    (co_Lstout : PySem.W.codeIn K cd_Lstout "_law_stout" = true)
    (k_Lstout : PySem.W.keepIn K (.ref a_Lstout) = true)
    (g_Lround : PySem.W.nsIn K mainGlobals "_law_round" = some (some (.ref a_Lround)))
    (l_Lround : K.lookup a_Lround = some ⟨oc_Lround, od_Lround, .func (PySem.W.fnOf "_law_round" "_law_round" (defArgs s_Lround) (defBody s_Lround) (defScope s_Lround) .none kV_Lround dc_Lround pm_Lround an_Lround cd_Lround ct_Lround), sl_Lround⟩)
    (co_Lround : PySem.W.codeIn K cd_Lround "_law_round" = true)
    (k_Lround : PySem.W.keepIn K (.ref a_Lround) = true)
    (g_Ltree : PySem.W.nsIn K mainGlobals "_law_tree" = some (some (.ref a_Ltree)))
    (l_Ltree : K.lookup a_Ltree = some ⟨oc_Ltree, od_Ltree, .func (PySem.W.fnOf "_law_tree" "_law_tree" (defArgs s_Ltree) (defBody s_Ltree) (defScope s_Ltree) .none kV_Ltree dc_Ltree pm_Ltree an_Ltree cd_Ltree ct_Ltree), sl_Ltree⟩)
    (co_Ltree : PySem.W.codeIn K cd_Ltree "_law_tree" = true)
    (k_Ltree : PySem.W.keepIn K (.ref a_Ltree) = true)
    (g_Lany : PySem.W.nsIn K mainGlobals "_law_any" = some (some (.ref a_Lany)))
    (l_Lany : K.lookup a_Lany = some ⟨oc_Lany, od_Lany, .func (PySem.W.fnOf "_law_any" "_law_any" (defArgs s_Lany) (defBody s_Lany) (defScope s_Lany) .none kV_Lany dc_Lany pm_Lany an_Lany cd_Lany ct_Lany), sl_Lany⟩)
    (co_Lany : PySem.W.codeIn K cd_Lany "_law_any" = true)
    (k_Lany : PySem.W.keepIn K (.ref a_Lany) = true)
    (g_Lbeside : PySem.W.nsIn K mainGlobals "_law_beside" = some (some (.ref a_Lbeside)))
    (l_Lbeside : K.lookup a_Lbeside = some ⟨oc_Lbeside, od_Lbeside, .func (PySem.W.fnOf "_law_beside" "_law_beside" (defArgs s_Lbeside) (defBody s_Lbeside) (defScope s_Lbeside) .none kV_Lbeside dc_Lbeside pm_Lbeside an_Lbeside cd_Lbeside ct_Lbeside), sl_Lbeside⟩)
    (co_Lbeside : PySem.W.codeIn K cd_Lbeside "_law_beside" = true)
    (k_Lbeside : PySem.W.keepIn K (.ref a_Lbeside) = true)
    (g_Lsome : PySem.W.nsIn K mainGlobals "_law_some" = some (some (.ref a_Lsome)))
    (l_Lsome : K.lookup a_Lsome = some ⟨oc_Lsome, od_Lsome, .func (PySem.W.fnOf "_law_some" "_law_some" (defArgs s_Lsome) (defBody s_Lsome) (defScope s_Lsome) .none kV_Lsome dc_Lsome pm_Lsome an_Lsome cd_Lsome ct_Lsome), sl_Lsome⟩)
    (co_Lsome : PySem.W.codeIn K cd_Lsome "_law_some" = true)
    (k_Lsome : PySem.W.keepIn K (.ref a_Lsome) = true)
    (g_Lnumber : PySem.W.nsIn K mainGlobals "_law_number" = some (some (.ref a_Lnumber)))
    (l_Lnumber : K.lookup a_Lnumber = some ⟨oc_Lnumber, od_Lnumber, .func (PySem.W.fnOf "_law_number" "_law_number" (defArgs s_Lnumber) (defBody s_Lnumber) (defScope s_Lnumber) .none kV_Lnumber dc_Lnumber pm_Lnumber an_Lnumber cd_Lnumber ct_Lnumber), sl_Lnumber⟩)
    (co_Lnumber : PySem.W.codeIn K cd_Lnumber "_law_number" = true)
    (k_Lnumber : PySem.W.keepIn K (.ref a_Lnumber) = true)
    (g_Lrow : PySem.W.nsIn K mainGlobals "_law_row" = some (some (.ref a_Lrow)))
    (l_Lrow : K.lookup a_Lrow = some ⟨oc_Lrow, od_Lrow, .func (PySem.W.fnOf "_law_row" "_law_row" (defArgs s_Lrow) (defBody s_Lrow) (defScope s_Lrow) .none kV_Lrow dc_Lrow pm_Lrow an_Lrow cd_Lrow ct_Lrow), sl_Lrow⟩)
    (co_Lrow : PySem.W.codeIn K cd_Lrow "_law_row" = true)
    (k_Lrow : PySem.W.keepIn K (.ref a_Lrow) = true)
    (g_Loutside : PySem.W.nsIn K mainGlobals "_law_outside" = some (some (.ref a_Loutside)))
    (l_Loutside : K.lookup a_Loutside = some ⟨oc_Loutside, od_Loutside, .func (PySem.W.fnOf "_law_outside" "_law_outside" (defArgs s_Loutside) (defBody s_Loutside) (defScope s_Loutside) .none kV_Loutside dc_Loutside pm_Loutside an_Loutside cd_Loutside ct_Loutside), sl_Loutside⟩)
    (co_Loutside : PySem.W.codeIn K cd_Loutside "_law_outside" = true)
    (k_Loutside : PySem.W.keepIn K (.ref a_Loutside) = true)
    (g_Lways : PySem.W.nsIn K mainGlobals "_law_ways" = some (some (.ref a_Lways)))
    (l_Lways : K.lookup a_Lways = some ⟨oc_Lways, od_Lways, .func (PySem.W.fnOf "_law_ways" "_law_ways" (defArgs s_Lways) (defBody s_Lways) (defScope s_Lways) .none kV_Lways dc_Lways pm_Lways an_Lways cd_Lways ct_Lways), sl_Lways⟩)
    (co_Lways : PySem.W.codeIn K cd_Lways "_law_ways" = true)
    (k_Lways : PySem.W.keepIn K (.ref a_Lways) = true)
    (g_Lrefusal : PySem.W.nsIn K mainGlobals "_law_refusal" = some (some (.ref a_Lrefusal)))
    (l_Lrefusal : K.lookup a_Lrefusal = some ⟨oc_Lrefusal, od_Lrefusal, .func (PySem.W.fnOf "_law_refusal" "_law_refusal" (defArgs s_Lrefusal) (defBody s_Lrefusal) (defScope s_Lrefusal) .none kV_Lrefusal dc_Lrefusal pm_Lrefusal an_Lrefusal cd_Lrefusal ct_Lrefusal), sl_Lrefusal⟩)
    (co_Lrefusal : PySem.W.codeIn K cd_Lrefusal "_law_refusal" = true)
    (k_Lrefusal : PySem.W.keepIn K (.ref a_Lrefusal) = true)
    (g_Lway_right : PySem.W.nsIn K mainGlobals "_law_way_right" = some (some (.ref a_Lway_right)))
    (l_Lway_right : K.lookup a_Lway_right = some ⟨oc_Lway_right, od_Lway_right, .func (PySem.W.fnOf "_law_way_right" "_law_way_right" (defArgs s_Lway_right) (defBody s_Lway_right) (defScope s_Lway_right) .none kV_Lway_right dc_Lway_right pm_Lway_right an_Lway_right cd_Lway_right ct_Lway_right), sl_Lway_right⟩)
    (co_Lway_right : PySem.W.codeIn K cd_Lway_right "_law_way_right" = true)
    (k_Lway_right : PySem.W.keepIn K (.ref a_Lway_right) = true)
    (g_Lright : PySem.W.nsIn K mainGlobals "_law_right" = some (some (.ref a_Lright)))
    (l_Lright : K.lookup a_Lright = some ⟨oc_Lright, od_Lright, .func (PySem.W.fnOf "_law_right" "_law_right" (defArgs s_Lright) (defBody s_Lright) (defScope s_Lright) .none kV_Lright dc_Lright pm_Lright an_Lright cd_Lright ct_Lright), sl_Lright⟩)
    (co_Lright : PySem.W.codeIn K cd_Lright "_law_right" = true)
    (k_Lright : PySem.W.keepIn K (.ref a_Lright) = true)
    (g_law : PySem.W.nsIn K mainGlobals "law" = some (some (.ref a_law)))
    (l_law : K.lookup a_law = some ⟨oc_law, od_law, .func (PySem.W.fnOf "law" "law" (defArgs s_law) (defBody s_law) (defScope s_law) .none kV_law dc_law pm_law an_law cd_law ct_law), sl_law⟩)
    (co_law : PySem.W.codeIn K cd_law "law" = true)
    (k_law : PySem.W.keepIn K (.ref a_law) = true)
    (tI : PySem.W.typeIn K (.ref a_Refused_init) = some (.type "function"))
    (c_MOST_CELLS : PySem.W.nsIn K mainGlobals "MOST_CELLS" = some (some (.int (40) t_MOST_CELLS)))
    (c_MOST_LINKS : PySem.W.nsIn K mainGlobals "MOST_LINKS" = some (some (.int (160) t_MOST_LINKS)))
    (n_all : PySem.W.nsIn K mainGlobals "all" = some (none))
    (n_bool : PySem.W.nsIn K mainGlobals "bool" = some (none))
    (n_enumerate : PySem.W.nsIn K mainGlobals "enumerate" = some (none))
    (n_int : PySem.W.nsIn K mainGlobals "int" = some (none))
    (n_isinstance : PySem.W.nsIn K mainGlobals "isinstance" = some (none))
    (n_len : PySem.W.nsIn K mainGlobals "len" = some (none))
    (n_max : PySem.W.nsIn K mainGlobals "max" = some (none))
    (n_min : PySem.W.nsIn K mainGlobals "min" = some (none))
    (n_range : PySem.W.nsIn K mainGlobals "range" = some (none))
    (n_sorted : PySem.W.nsIn K mainGlobals "sorted" = some (none))
    (n_tuple : PySem.W.nsIn K mainGlobals "tuple" = some (none))
    (n_zip : PySem.W.nsIn K mainGlobals "zip" = some (none))
  (ht0 : h.get? P_check_links = some { cls := .none, data := .fields #[] }) : LawAtS l w K CX0 10 63 "_law_script" mg fa h :=
  law_at X {
    C_Refused := C_Refused,
    e_Refused := ⟨PySem.W.mg_of X G aC_Refused, ⟨⟨_, _, _, _, _, _, _, _, _, _, _, _, _, _, _, xL_Refused, rV_Refused⟩, sa_Refused, ex_Refused, ty_Refused, kC_Refused⟩, ⟨ga_Refused, gg_Refused, ex_Refused, hd_Refused⟩, iC_Refused, nw_Refused⟩,
    C_BadSize := C_BadSize,
    e_BadSize := ⟨PySem.W.mg_of X G aC_BadSize, ⟨⟨_, _, _, _, _, _, _, _, _, _, _, _, _, _, _, xL_BadSize, rV_BadSize⟩, sa_BadSize, ex_BadSize, ty_BadSize, kC_BadSize⟩, ⟨ga_BadSize, gg_BadSize, ex_BadSize, hd_BadSize⟩, iC_BadSize, nw_BadSize⟩,
    C_BadLink := C_BadLink,
    e_BadLink := ⟨PySem.W.mg_of X G aC_BadLink, ⟨⟨_, _, _, _, _, _, _, _, _, _, _, _, _, _, _, xL_BadLink, rV_BadLink⟩, sa_BadLink, ex_BadLink, ty_BadLink, kC_BadLink⟩, ⟨ga_BadLink, gg_BadLink, ex_BadLink, hd_BadLink⟩, iC_BadLink, nw_BadLink⟩,
    C_TooMany := C_TooMany,
    e_TooMany := ⟨PySem.W.mg_of X G aC_TooMany, ⟨⟨_, _, _, _, _, _, _, _, _, _, _, _, _, _, _, xL_TooMany, rV_TooMany⟩, sa_TooMany, ex_TooMany, ty_TooMany, kC_TooMany⟩, ⟨ga_TooMany, gg_TooMany, ex_TooMany, hd_TooMany⟩, iC_TooMany, nw_TooMany⟩,
    C_BadCell := C_BadCell,
    e_BadCell := ⟨PySem.W.mg_of X G aC_BadCell, ⟨⟨_, _, _, _, _, _, _, _, _, _, _, _, _, _, _, xL_BadCell, rV_BadCell⟩, sa_BadCell, ex_BadCell, ty_BadCell, kC_BadCell⟩, ⟨ga_BadCell, gg_BadCell, ex_BadCell, hd_BadCell⟩, iC_BadCell, nw_BadCell⟩,
    x_Refused_BadCell := exm_by ex_BadCell is_BadCell ty_BadCell s_Refused_BadCell,
    x_Refused_Refused := exm_by ex_Refused is_Refused ty_Refused s_Refused_Refused,
    x_BadSize_BadCell := exm_by ex_BadCell is_BadCell ty_BadCell s_BadSize_BadCell,
    x_BadSize_Refused := exm_by ex_Refused is_Refused ty_Refused s_BadSize_Refused,
    x_BadLink_BadCell := exm_by ex_BadCell is_BadCell ty_BadCell s_BadLink_BadCell,
    x_BadLink_Refused := exm_by ex_Refused is_Refused ty_Refused s_BadLink_Refused,
    x_TooMany_BadCell := exm_by ex_BadCell is_BadCell ty_BadCell s_TooMany_BadCell,
    x_TooMany_Refused := exm_by ex_Refused is_Refused ty_Refused s_TooMany_Refused,
    x_BadCell_BadCell := exm_by ex_BadCell is_BadCell ty_BadCell s_BadCell_BadCell,
    x_BadCell_Refused := exm_by ex_Refused is_Refused ty_Refused s_BadCell_Refused,
    C_Web := C_Web,
    cl_Web := ⟨pg_Web, hd_Web, po_Web, sa_Web⟩,
    mg_Web := PySem.W.mg_of X G aC_Web,
    na_Web__rows := na_Web__rows,
    na_Web_links := na_Web_links,
    na_Web_size := na_Web_size,
    mk_Web := ⟨mk_Web, at_Web_init, fn_Web_init, kC_Web⟩,
    mt_Web_near := ⟨at_Web_near, fn_Web_near, k_Web_near⟩,
    mt_Web_linked := ⟨at_Web_linked, fn_Web_linked, k_Web_linked⟩,
    a_Refused_init := a_Refused_init,
    d_Refused_init := (PySem.W.fnOf "__init__" "Refused.__init__" (defArgs s_Refused_init) (defBody s_Refused_init) (defScope s_Refused_init) .none kV_Refused_init dc_Refused_init pm_Refused_init an_Refused_init cd_Refused_init ct_Refused_init),
    F_Refused_init := fun_mk l_Refused_init co_Refused_init k_Refused_init,
    b_Refused_init := (fun_mk (st := s_Refused_init) l_Refused_init co_Refused_init k_Refused_init).binds (ps := ["self", "what"]) (fun _ _ _ _ _ _ us hl => match us, hl with | [_, _], _ => rfl),
    g_is_number := PySem.W.mg_of X G g_is_number,
    a_is_number := a_is_number,
    d_is_number := (PySem.W.fnOf "is_number" "is_number" (defArgs s_is_number) (defBody s_is_number) (defScope s_is_number) .none kV_is_number dc_is_number pm_is_number an_is_number cd_is_number ct_is_number),
    F_is_number := fun_mk l_is_number co_is_number k_is_number,
    b_is_number := (fun_mk (st := s_is_number) l_is_number co_is_number k_is_number).binds (ps := ["value"]) (fun _ _ _ _ _ _ us hl => match us, hl with | [_], _ => rfl),
    g_is_below := PySem.W.mg_of X G g_is_below,
    a_is_below := a_is_below,
    d_is_below := (PySem.W.fnOf "is_below" "is_below" (defArgs s_is_below) (defBody s_is_below) (defScope s_is_below) .none kV_is_below dc_is_below pm_is_below an_is_below cd_is_below ct_is_below),
    F_is_below := fun_mk l_is_below co_is_below k_is_below,
    b_is_below := (fun_mk (st := s_is_below) l_is_below co_is_below k_is_below).binds (ps := ["value", "limit"]) (fun _ _ _ _ _ _ us hl => match us, hl with | [_, _], _ => rfl),
    g_are_numbers := PySem.W.mg_of X G g_are_numbers,
    a_are_numbers := a_are_numbers,
    d_are_numbers := (PySem.W.fnOf "are_numbers" "are_numbers" (defArgs s_are_numbers) (defBody s_are_numbers) (defScope s_are_numbers) .none kV_are_numbers dc_are_numbers pm_are_numbers an_are_numbers cd_are_numbers ct_are_numbers),
    F_are_numbers := fun_mk l_are_numbers co_are_numbers k_are_numbers,
    b_are_numbers := (fun_mk (st := s_are_numbers) l_are_numbers co_are_numbers k_are_numbers).binds (ps := ["value", "many"]) (fun _ _ _ _ _ _ us hl => match us, hl with | [_, _], _ => rfl),
    g_is_rising_pair := PySem.W.mg_of X G g_is_rising_pair,
    a_is_rising_pair := a_is_rising_pair,
    d_is_rising_pair := (PySem.W.fnOf "is_rising_pair" "is_rising_pair" (defArgs s_is_rising_pair) (defBody s_is_rising_pair) (defScope s_is_rising_pair) .none kV_is_rising_pair dc_is_rising_pair pm_is_rising_pair an_is_rising_pair cd_is_rising_pair ct_is_rising_pair),
    F_is_rising_pair := fun_mk l_is_rising_pair co_is_rising_pair k_is_rising_pair,
    b_is_rising_pair := (fun_mk (st := s_is_rising_pair) l_is_rising_pair co_is_rising_pair k_is_rising_pair).binds (ps := ["value", "limit"]) (fun _ _ _ _ _ _ us hl => match us, hl with | [_, _], _ => rfl),
    g_first_fault := PySem.W.mg_of X G g_first_fault,
    a_first_fault := a_first_fault,
    d_first_fault := (PySem.W.fnOf "first_fault" "first_fault" (defArgs s_first_fault) (defBody s_first_fault) (defScope s_first_fault) .none kV_first_fault dc_first_fault pm_first_fault an_first_fault cd_first_fault ct_first_fault),
    F_first_fault := fun_mk l_first_fault co_first_fault k_first_fault,
    b_first_fault := (fun_mk (st := s_first_fault) l_first_fault co_first_fault k_first_fault).binds (ps := ["things", "fits"]) (fun _ _ _ _ _ _ us hl => match us, hl with | [_, _], _ => rfl),
    g_check_cell := PySem.W.mg_of X G g_check_cell,
    a_check_cell := a_check_cell,
    d_check_cell := (PySem.W.fnOf "check_cell" "check_cell" (defArgs s_check_cell) (defBody s_check_cell) (defScope s_check_cell) .none kV_check_cell dc_check_cell pm_check_cell an_check_cell cd_check_cell ct_check_cell),
    F_check_cell := fun_mk l_check_cell co_check_cell k_check_cell,
    b_check_cell := (fun_mk (st := s_check_cell) l_check_cell co_check_cell k_check_cell).binds (ps := ["web", "x"]) (fun _ _ _ _ _ _ us hl => match us, hl with | [_, _], _ => rfl),
    a_Web_init := a_Web_init,
    d_Web_init := (PySem.W.fnOf "__init__" "Web.__init__" (defArgs s_Web_init) (defBody s_Web_init) (defScope s_Web_init) .none kV_Web_init dc_Web_init pm_Web_init an_Web_init cd_Web_init ct_Web_init),
    F_Web_init := fun_mk l_Web_init co_Web_init k_Web_init,
    b_Web_init := (fun_mk (st := s_Web_init) l_Web_init co_Web_init k_Web_init).binds (ps := ["self", "size", "links"]) (fun _ _ _ _ _ _ us hl => match us, hl with | [_, _, _], _ => rfl),
    a_Web_near := a_Web_near,
    d_Web_near := (PySem.W.fnOf "near" "Web.near" (defArgs s_Web_near) (defBody s_Web_near) (defScope s_Web_near) .none kV_Web_near dc_Web_near pm_Web_near an_Web_near cd_Web_near ct_Web_near),
    F_Web_near := fun_mk l_Web_near co_Web_near k_Web_near,
    b_Web_near := (fun_mk (st := s_Web_near) l_Web_near co_Web_near k_Web_near).binds (ps := ["self", "x"]) (fun _ _ _ _ _ _ us hl => match us, hl with | [_, _], _ => rfl),
    a_Web_linked := a_Web_linked,
    d_Web_linked := (PySem.W.fnOf "linked" "Web.linked" (defArgs s_Web_linked) (defBody s_Web_linked) (defScope s_Web_linked) .none kV_Web_linked dc_Web_linked pm_Web_linked an_Web_linked cd_Web_linked ct_Web_linked),
    F_Web_linked := fun_mk l_Web_linked co_Web_linked k_Web_linked,
    b_Web_linked := (fun_mk (st := s_Web_linked) l_Web_linked co_Web_linked k_Web_linked).binds (ps := ["self", "x", "y"]) (fun _ _ _ _ _ _ us hl => match us, hl with | [_, _, _], _ => rfl),
    g_check_links := PySem.W.mg_of X G g_check_links,
    a_check_links := a_check_links,
    d_check_links := (PySem.W.fnOf "check_links" "check_links" (defArgs s_check_links) (defBody s_check_links) (defScope s_check_links) .none kV_check_links dc_check_links pm_check_links an_check_links (.ref c_check_links) ct_check_links),
    F_check_links := fun_mk l_check_links co_check_links k_check_links,
    b_check_links := (fun_mk (st := s_check_links) l_check_links co_check_links k_check_links).binds (ps := ["size", "links"]) (fun _ _ _ _ _ _ us hl => match us, hl with | [_, _], _ => rfl),
    c_check_links := c_check_links,
    P_check_links := P_check_links,
    FC_check_links := ⟨_, _, _, _, _, _, _, _, rfl, l_check_links, co_check_links⟩,
    ch_check_links := ch_check_links,
    nl_check_links := nl_check_links,
    g_near_rows := PySem.W.mg_of X G g_near_rows,
    a_near_rows := a_near_rows,
    d_near_rows := (PySem.W.fnOf "near_rows" "near_rows" (defArgs s_near_rows) (defBody s_near_rows) (defScope s_near_rows) .none kV_near_rows dc_near_rows pm_near_rows an_near_rows cd_near_rows ct_near_rows),
    F_near_rows := fun_mk l_near_rows co_near_rows k_near_rows,
    b_near_rows := (fun_mk (st := s_near_rows) l_near_rows co_near_rows k_near_rows).binds (ps := ["many", "pairs"]) (fun _ _ _ _ _ _ us hl => match us, hl with | [_, _], _ => rfl),
    g_way := PySem.W.mg_of X G g_way,
    a_way := a_way,
    d_way := (PySem.W.fnOf "way" "way" (defArgs s_way) (defBody s_way) (defScope s_way) .none kV_way dc_way pm_way an_way cd_way ct_way),
    F_way := fun_mk l_way co_way k_way,
    b_way := (fun_mk (st := s_way) l_way co_way k_way).binds (ps := ["web", "x", "y"]) (fun _ _ _ _ _ _ us hl => match us, hl with | [_, _, _], _ => rfl),
    g_steps_from := PySem.W.mg_of X G g_steps_from,
    a_steps_from := a_steps_from,
    d_steps_from := (PySem.W.fnOf "steps_from" "steps_from" (defArgs s_steps_from) (defBody s_steps_from) (defScope s_steps_from) .none kV_steps_from dc_steps_from pm_steps_from an_steps_from cd_steps_from ct_steps_from),
    F_steps_from := fun_mk l_steps_from co_steps_from k_steps_from,
    b_steps_from := (fun_mk (st := s_steps_from) l_steps_from co_steps_from k_steps_from).binds (ps := ["rows", "start"]) (fun _ _ _ _ _ _ us hl => match us, hl with | [_, _], _ => rfl),
    g_first_row := PySem.W.mg_of X G g_first_row,
    a_first_row := a_first_row,
    d_first_row := (PySem.W.fnOf "first_row" "first_row" (defArgs s_first_row) (defBody s_first_row) (defScope s_first_row) .none kV_first_row dc_first_row pm_first_row an_first_row cd_first_row ct_first_row),
    F_first_row := fun_mk l_first_row co_first_row k_first_row,
    b_first_row := (fun_mk (st := s_first_row) l_first_row co_first_row k_first_row).binds (ps := ["rows", "start", "end"]) (fun _ _ _ _ _ _ us hl => match us, hl with | [_, _, _], _ => rfl),
    g_Lpool := PySem.W.mg_of X G g_Lpool,
    a_Lpool := a_Lpool,
    d_Lpool := (PySem.W.fnOf "_law_pool" "_law_pool" (defArgs s_Lpool) (defBody s_Lpool) (defScope s_Lpool) .none kV_Lpool dc_Lpool pm_Lpool an_Lpool cd_Lpool ct_Lpool),
    F_Lpool := fun_mk l_Lpool co_Lpool k_Lpool,
    b_Lpool := (fun_mk (st := s_Lpool) l_Lpool co_Lpool k_Lpool).binds (ps := ["_law_script", "_law_k"]) (fun _ _ _ _ _ _ us hl => match us, hl with | [_, _], _ => rfl),
    g_Ltake := PySem.W.mg_of X G g_Ltake,
    a_Ltake := a_Ltake,
    d_Ltake := (PySem.W.fnOf "_law_take" "_law_take" (defArgs s_Ltake) (defBody s_Ltake) (defScope s_Ltake) .none kV_Ltake dc_Ltake pm_Ltake an_Ltake cd_Ltake ct_Ltake),
    F_Ltake := fun_mk l_Ltake co_Ltake k_Ltake,
    b_Ltake := (fun_mk (st := s_Ltake) l_Ltake co_Ltake k_Ltake).binds (ps := ["_law_source", "_law_top"]) (fun _ _ _ _ _ _ us hl => match us, hl with | [_, _], _ => rfl),
    g_Lone := PySem.W.mg_of X G g_Lone,
    a_Lone := a_Lone,
    d_Lone := (PySem.W.fnOf "_law_one" "_law_one" (defArgs s_Lone) (defBody s_Lone) (defScope s_Lone) .none kV_Lone dc_Lone pm_Lone an_Lone cd_Lone ct_Lone),
    F_Lone := fun_mk l_Lone co_Lone k_Lone,
    b_Lone := (fun_mk (st := s_Lone) l_Lone co_Lone k_Lone).binds (ps := ["_law_source", "_law_things"]) (fun _ _ _ _ _ _ us hl => match us, hl with | [_, _], _ => rfl),
    g_Lshuffled := PySem.W.mg_of X G g_Lshuffled,
    a_Lshuffled := a_Lshuffled,
    d_Lshuffled := (PySem.W.fnOf "_law_shuffled" "_law_shuffled" (defArgs s_Lshuffled) (defBody s_Lshuffled) (defScope s_Lshuffled) .none kV_Lshuffled dc_Lshuffled pm_Lshuffled an_Lshuffled cd_Lshuffled ct_Lshuffled),
    F_Lshuffled := fun_mk l_Lshuffled co_Lshuffled k_Lshuffled,
    b_Lshuffled := (fun_mk (st := s_Lshuffled) l_Lshuffled co_Lshuffled k_Lshuffled).binds (ps := ["_law_source", "_law_count"]) (fun _ _ _ _ _ _ us hl => match us, hl with | [_, _], _ => rfl),
    g_Lnear := PySem.W.mg_of X G g_Lnear,
    a_Lnear := a_Lnear,
    d_Lnear := (PySem.W.fnOf "_law_near" "_law_near" (defArgs s_Lnear) (defBody s_Lnear) (defScope s_Lnear) .none kV_Lnear dc_Lnear pm_Lnear an_Lnear cd_Lnear ct_Lnear),
    F_Lnear := fun_mk l_Lnear co_Lnear k_Lnear,
    b_Lnear := (fun_mk (st := s_Lnear) l_Lnear co_Lnear k_Lnear).binds (ps := ["_law_links", "_law_x"]) (fun _ _ _ _ _ _ us hl => match us, hl with | [_, _], _ => rfl),
    g_Llink := PySem.W.mg_of X G g_Llink,
    a_Llink := a_Llink,
    d_Llink := (PySem.W.fnOf "_law_link" "_law_link" (defArgs s_Llink) (defBody s_Llink) (defScope s_Llink) .none kV_Llink dc_Llink pm_Llink an_Llink cd_Llink ct_Llink),
    F_Llink := fun_mk l_Llink co_Llink k_Llink,
    b_Llink := (fun_mk (st := s_Llink) l_Llink co_Llink k_Llink).binds (ps := ["_law_a", "_law_b"]) (fun _ _ _ _ _ _ us hl => match us, hl with | [_, _], _ => rfl),
    g_Lcorner := PySem.W.mg_of X G g_Lcorner,
    a_Lcorner := a_Lcorner,
    d_Lcorner := (PySem.W.fnOf "_law_corner" "_law_corner" (defArgs s_Lcorner) (defBody s_Lcorner) (defScope s_Lcorner) .none kV_Lcorner dc_Lcorner pm_Lcorner an_Lcorner cd_Lcorner ct_Lcorner),
    F_Lcorner := fun_mk l_Lcorner co_Lcorner k_Lcorner,
    b_Lcorner := (fun_mk (st := s_Lcorner) l_Lcorner co_Lcorner k_Lcorner).binds (ps := ["_law_source", "_law_size", "_law_links"]) (fun _ _ _ _ _ _ us hl => match us, hl with | [_, _, _], _ => rfl),
    g_Lbridge := PySem.W.mg_of X G g_Lbridge,
    a_Lbridge := a_Lbridge,
    d_Lbridge := (PySem.W.fnOf "_law_bridge" "_law_bridge" (defArgs s_Lbridge) (defBody s_Lbridge) (defScope s_Lbridge) .none kV_Lbridge dc_Lbridge pm_Lbridge an_Lbridge cd_Lbridge ct_Lbridge),
    F_Lbridge := fun_mk l_Lbridge co_Lbridge k_Lbridge,
    b_Lbridge := (fun_mk (st := s_Lbridge) l_Lbridge co_Lbridge k_Lbridge).binds (ps := ["_law_source", "_law_size", "_law_links"]) (fun _ _ _ _ _ _ us hl => match us, hl with | [_, _, _], _ => rfl),
    g_Lrenamed := PySem.W.mg_of X G g_Lrenamed,
    a_Lrenamed := a_Lrenamed,
    d_Lrenamed := (PySem.W.fnOf "_law_renamed" "_law_renamed" (defArgs s_Lrenamed) (defBody s_Lrenamed) (defScope s_Lrenamed) .none kV_Lrenamed dc_Lrenamed pm_Lrenamed an_Lrenamed cd_Lrenamed ct_Lrenamed),
    F_Lrenamed := fun_mk l_Lrenamed co_Lrenamed k_Lrenamed,
    b_Lrenamed := (fun_mk (st := s_Lrenamed) l_Lrenamed co_Lrenamed k_Lrenamed).binds (ps := ["_law_source", "_law_size", "_law_links"]) (fun _ _ _ _ _ _ us hl => match us, hl with | [_, _, _], _ => rfl),
    g_Lstout := PySem.W.mg_of X G g_Lstout,
    a_Lstout := a_Lstout,
    d_Lstout := (PySem.W.fnOf "_law_stout" "_law_stout" (defArgs s_Lstout) (defBody s_Lstout) (defScope s_Lstout) .none kV_Lstout dc_Lstout pm_Lstout an_Lstout cd_Lstout ct_Lstout),
    F_Lstout := fun_mk l_Lstout co_Lstout k_Lstout,
    b_Lstout := (fun_mk (st := s_Lstout) l_Lstout co_Lstout k_Lstout).binds (ps := ["_law_source", "_law_most", "_law_kinds"]) (fun _ _ _ _ _ _ us hl => match us, hl with | [_, _, _], _ => rfl),
    g_Lround := PySem.W.mg_of X G g_Lround,
    a_Lround := a_Lround,
    d_Lround := (PySem.W.fnOf "_law_round" "_law_round" (defArgs s_Lround) (defBody s_Lround) (defScope s_Lround) .none kV_Lround dc_Lround pm_Lround an_Lround cd_Lround ct_Lround),
    F_Lround := fun_mk l_Lround co_Lround k_Lround,
    b_Lround := (fun_mk (st := s_Lround) l_Lround co_Lround k_Lround).binds (ps := ["_law_source", "_law_count"]) (fun _ _ _ _ _ _ us hl => match us, hl with | [_, _], _ => rfl),
    g_Ltree := PySem.W.mg_of X G g_Ltree,
    a_Ltree := a_Ltree,
    d_Ltree := (PySem.W.fnOf "_law_tree" "_law_tree" (defArgs s_Ltree) (defBody s_Ltree) (defScope s_Ltree) .none kV_Ltree dc_Ltree pm_Ltree an_Ltree cd_Ltree ct_Ltree),
    F_Ltree := fun_mk l_Ltree co_Ltree k_Ltree,
    b_Ltree := (fun_mk (st := s_Ltree) l_Ltree co_Ltree k_Ltree).binds (ps := ["_law_source", "_law_count"]) (fun _ _ _ _ _ _ us hl => match us, hl with | [_, _], _ => rfl),
    g_Lany := PySem.W.mg_of X G g_Lany,
    a_Lany := a_Lany,
    d_Lany := (PySem.W.fnOf "_law_any" "_law_any" (defArgs s_Lany) (defBody s_Lany) (defScope s_Lany) .none kV_Lany dc_Lany pm_Lany an_Lany cd_Lany ct_Lany),
    F_Lany := fun_mk l_Lany co_Lany k_Lany,
    b_Lany := (fun_mk (st := s_Lany) l_Lany co_Lany k_Lany).binds (ps := ["_law_source", "_law_count"]) (fun _ _ _ _ _ _ us hl => match us, hl with | [_, _], _ => rfl),
    g_Lbeside := PySem.W.mg_of X G g_Lbeside,
    a_Lbeside := a_Lbeside,
    d_Lbeside := (PySem.W.fnOf "_law_beside" "_law_beside" (defArgs s_Lbeside) (defBody s_Lbeside) (defScope s_Lbeside) .none kV_Lbeside dc_Lbeside pm_Lbeside an_Lbeside cd_Lbeside ct_Lbeside),
    F_Lbeside := fun_mk l_Lbeside co_Lbeside k_Lbeside,
    b_Lbeside := (fun_mk (st := s_Lbeside) l_Lbeside co_Lbeside k_Lbeside).binds (ps := ["_law_source", "_law_one_here", "_law_other"]) (fun _ _ _ _ _ _ us hl => match us, hl with | [_, _, _], _ => rfl),
    g_Lsome := PySem.W.mg_of X G g_Lsome,
    a_Lsome := a_Lsome,
    d_Lsome := (PySem.W.fnOf "_law_some" "_law_some" (defArgs s_Lsome) (defBody s_Lsome) (defScope s_Lsome) .none kV_Lsome dc_Lsome pm_Lsome an_Lsome cd_Lsome ct_Lsome),
    F_Lsome := fun_mk l_Lsome co_Lsome k_Lsome,
    b_Lsome := (fun_mk (st := s_Lsome) l_Lsome co_Lsome k_Lsome).binds (ps := ["_law_source", "_law_most"]) (fun _ _ _ _ _ _ us hl => match us, hl with | [_, _], _ => rfl),
    g_Lnumber := PySem.W.mg_of X G g_Lnumber,
    a_Lnumber := a_Lnumber,
    d_Lnumber := (PySem.W.fnOf "_law_number" "_law_number" (defArgs s_Lnumber) (defBody s_Lnumber) (defScope s_Lnumber) .none kV_Lnumber dc_Lnumber pm_Lnumber an_Lnumber cd_Lnumber ct_Lnumber),
    F_Lnumber := fun_mk l_Lnumber co_Lnumber k_Lnumber,
    b_Lnumber := (fun_mk (st := s_Lnumber) l_Lnumber co_Lnumber k_Lnumber).binds (ps := ["_law_thing"]) (fun _ _ _ _ _ _ us hl => match us, hl with | [_], _ => rfl),
    g_Lrow := PySem.W.mg_of X G g_Lrow,
    a_Lrow := a_Lrow,
    d_Lrow := (PySem.W.fnOf "_law_row" "_law_row" (defArgs s_Lrow) (defBody s_Lrow) (defScope s_Lrow) .none kV_Lrow dc_Lrow pm_Lrow an_Lrow cd_Lrow ct_Lrow),
    F_Lrow := fun_mk l_Lrow co_Lrow k_Lrow,
    b_Lrow := (fun_mk (st := s_Lrow) l_Lrow co_Lrow k_Lrow).binds (ps := ["_law_told", "_law_due"]) (fun _ _ _ _ _ _ us hl => match us, hl with | [_, _], _ => rfl),
    g_Loutside := PySem.W.mg_of X G g_Loutside,
    a_Loutside := a_Loutside,
    d_Loutside := (PySem.W.fnOf "_law_outside" "_law_outside" (defArgs s_Loutside) (defBody s_Loutside) (defScope s_Loutside) .none kV_Loutside dc_Loutside pm_Loutside an_Loutside cd_Loutside ct_Loutside),
    F_Loutside := fun_mk l_Loutside co_Loutside k_Loutside,
    b_Loutside := (fun_mk (st := s_Loutside) l_Loutside co_Loutside k_Loutside).binds (ps := ["_law_source", "_law_size"]) (fun _ _ _ _ _ _ us hl => match us, hl with | [_, _], _ => rfl),
    g_Lways := PySem.W.mg_of X G g_Lways,
    a_Lways := a_Lways,
    d_Lways := (PySem.W.fnOf "_law_ways" "_law_ways" (defArgs s_Lways) (defBody s_Lways) (defScope s_Lways) .none kV_Lways dc_Lways pm_Lways an_Lways cd_Lways ct_Lways),
    F_Lways := fun_mk l_Lways co_Lways k_Lways,
    b_Lways := (fun_mk (st := s_Lways) l_Lways co_Lways k_Lways).binds (ps := ["_law_size", "_law_rows", "_law_x"]) (fun _ _ _ _ _ _ us hl => match us, hl with | [_, _, _], _ => rfl),
    g_Lrefusal := PySem.W.mg_of X G g_Lrefusal,
    a_Lrefusal := a_Lrefusal,
    d_Lrefusal := (PySem.W.fnOf "_law_refusal" "_law_refusal" (defArgs s_Lrefusal) (defBody s_Lrefusal) (defScope s_Lrefusal) .none kV_Lrefusal dc_Lrefusal pm_Lrefusal an_Lrefusal cd_Lrefusal ct_Lrefusal),
    F_Lrefusal := fun_mk l_Lrefusal co_Lrefusal k_Lrefusal,
    b_Lrefusal := (fun_mk (st := s_Lrefusal) l_Lrefusal co_Lrefusal k_Lrefusal).binds (ps := ["_law_web", "_law_x", "_law_y"]) (fun _ _ _ _ _ _ us hl => match us, hl with | [_, _, _], _ => rfl),
    g_Lway_right := PySem.W.mg_of X G g_Lway_right,
    a_Lway_right := a_Lway_right,
    d_Lway_right := (PySem.W.fnOf "_law_way_right" "_law_way_right" (defArgs s_Lway_right) (defBody s_Lway_right) (defScope s_Lway_right) .none kV_Lway_right dc_Lway_right pm_Lway_right an_Lway_right cd_Lway_right ct_Lway_right),
    F_Lway_right := fun_mk l_Lway_right co_Lway_right k_Lway_right,
    b_Lway_right := (fun_mk (st := s_Lway_right) l_Lway_right co_Lway_right k_Lway_right).binds (ps := ["_law_web", "_law_x", "_law_y", "_law_found"]) (fun _ _ _ _ _ _ us hl => match us, hl with | [_, _, _, _], _ => rfl),
    g_Lright := PySem.W.mg_of X G g_Lright,
    a_Lright := a_Lright,
    d_Lright := (PySem.W.fnOf "_law_right" "_law_right" (defArgs s_Lright) (defBody s_Lright) (defScope s_Lright) .none kV_Lright dc_Lright pm_Lright an_Lright cd_Lright ct_Lright),
    F_Lright := fun_mk l_Lright co_Lright k_Lright,
    b_Lright := (fun_mk (st := s_Lright) l_Lright co_Lright k_Lright).binds (ps := ["_law_source"]) (fun _ _ _ _ _ _ us hl => match us, hl with | [_], _ => rfl),
    g_law := PySem.W.mg_of X G g_law,
    a_law := a_law,
    d_law := (PySem.W.fnOf "law" "law" (defArgs s_law) (defBody s_law) (defScope s_law) .none kV_law dc_law pm_law an_law cd_law ct_law),
    F_law := fun_mk l_law co_law k_law,
    b_law := (fun_mk (st := s_law) l_law co_law k_law).binds (ps := ["_law_script"]) (fun _ _ _ _ _ _ us hl => match us, hl with | [_], _ => rfl),
    tI := tI,
    t_MOST_CELLS := t_MOST_CELLS,
    c_MOST_CELLS := PySem.W.mg_of X G c_MOST_CELLS,
    t_MOST_LINKS := t_MOST_LINKS,
    c_MOST_LINKS := PySem.W.mg_of X G c_MOST_LINKS,
    n_all := PySem.W.mg_none_of X G n_all,
    n_bool := PySem.W.mg_none_of X G n_bool,
    n_enumerate := PySem.W.mg_none_of X G n_enumerate,
    n_int := PySem.W.mg_none_of X G n_int,
    n_isinstance := PySem.W.mg_none_of X G n_isinstance,
    n_len := PySem.W.mg_none_of X G n_len,
    n_max := PySem.W.mg_none_of X G n_max,
    n_min := PySem.W.mg_none_of X G n_min,
    n_range := PySem.W.mg_none_of X G n_range,
    n_sorted := PySem.W.mg_none_of X G n_sorted,
    n_tuple := PySem.W.mg_none_of X G n_tuple,
    n_zip := PySem.W.mg_none_of X G n_zip } hfa ht0 fun s u => .of_eq rfl
end R
end

-- Final
section
open PySem PySem.W PyProof.Rows
set_option Elab.async false
set_option maxRecDepth 100000 in
set_option maxHeartbeats 0 in
theorem PySem.Challenge.cw_pairfloors_k08_first_shortest_ways_holds : PySem.Challenge.rw_pairfloors_k08_first_shortest_ways.Holds := by
  w_on; o_law; k_head; (case hw => w_witness2)
  k_fill
  refine LamX.walk_ofTs (l := PySem.Challenge.rw_pairfloors_k08_first_shortest_ways) (n := 63) (k := 10) (CX := fun _ => L2.CX0) (x := "_law_script") rfl (by decide) rfl ⟨rfl, by decide, by decide⟩ (fun w h Y => PySem.W.km_in_of Y) ?F (fun _ _ _ _ _ z => z)
  case F =>
    intro w mg fa h Y KX G hmg
    refine' R.all_mk (P_check_links := 159)  KX G hmg ?aC_Refused ?xL_Refused ?rV_Refused ?sa_Refused ?ex_Refused ?ty_Refused ?kC_Refused ?ga_Refused ?gg_Refused ?hd_Refused ?is_Refused ?iC_Refused ?nw_Refused ?aC_BadSize ?xL_BadSize ?rV_BadSize ?sa_BadSize ?ex_BadSize ?ty_BadSize ?kC_BadSize ?ga_BadSize ?gg_BadSize ?hd_BadSize ?is_BadSize ?iC_BadSize ?nw_BadSize ?aC_BadLink ?xL_BadLink ?rV_BadLink ?sa_BadLink ?ex_BadLink ?ty_BadLink ?kC_BadLink ?ga_BadLink ?gg_BadLink ?hd_BadLink ?is_BadLink ?iC_BadLink ?nw_BadLink ?aC_TooMany ?xL_TooMany ?rV_TooMany ?sa_TooMany ?ex_TooMany ?ty_TooMany ?kC_TooMany ?ga_TooMany ?gg_TooMany ?hd_TooMany ?is_TooMany ?iC_TooMany ?nw_TooMany ?aC_BadCell ?xL_BadCell ?rV_BadCell ?sa_BadCell ?ex_BadCell ?ty_BadCell ?kC_BadCell ?ga_BadCell ?gg_BadCell ?hd_BadCell ?is_BadCell ?iC_BadCell ?nw_BadCell ?s_Refused_BadCell ?s_Refused_Refused ?s_BadSize_BadCell ?s_BadSize_Refused ?s_BadLink_BadCell ?s_BadLink_Refused ?s_TooMany_BadCell ?s_TooMany_Refused ?s_BadCell_BadCell ?s_BadCell_Refused ?aC_Web ?pg_Web ?hd_Web ?po_Web ?sa_Web ?mk_Web ?kC_Web ?na_Web__rows ?na_Web_links ?na_Web_size ?at_Web_init ?fn_Web_init ?at_Web_near ?fn_Web_near ?at_Web_linked ?fn_Web_linked ?l_Refused_init ?co_Refused_init ?k_Refused_init ?g_is_number ?l_is_number ?co_is_number ?k_is_number ?g_is_below ?l_is_below ?co_is_below ?k_is_below ?g_are_numbers ?l_are_numbers ?co_are_numbers ?k_are_numbers ?g_is_rising_pair ?l_is_rising_pair ?co_is_rising_pair ?k_is_rising_pair ?g_first_fault ?l_first_fault ?co_first_fault ?k_first_fault ?g_check_cell ?l_check_cell ?co_check_cell ?k_check_cell ?l_Web_init ?co_Web_init ?k_Web_init ?l_Web_near ?co_Web_near ?k_Web_near ?l_Web_linked ?co_Web_linked ?k_Web_linked ?g_check_links ?l_check_links ?co_check_links ?k_check_links ?ch_check_links ?nl_check_links ?g_near_rows ?l_near_rows ?co_near_rows ?k_near_rows ?g_way ?l_way ?co_way ?k_way ?g_steps_from ?l_steps_from ?co_steps_from ?k_steps_from ?g_first_row ?l_first_row ?co_first_row ?k_first_row ?g_Lpool ?l_Lpool ?co_Lpool ?k_Lpool ?g_Ltake ?l_Ltake ?co_Ltake ?k_Ltake ?g_Lone ?l_Lone ?co_Lone ?k_Lone ?g_Lshuffled ?l_Lshuffled ?co_Lshuffled ?k_Lshuffled ?g_Lnear ?l_Lnear ?co_Lnear ?k_Lnear ?g_Llink ?l_Llink ?co_Llink ?k_Llink ?g_Lcorner ?l_Lcorner ?co_Lcorner ?k_Lcorner ?g_Lbridge ?l_Lbridge ?co_Lbridge ?k_Lbridge ?g_Lrenamed ?l_Lrenamed ?co_Lrenamed ?k_Lrenamed ?g_Lstout ?l_Lstout ?co_Lstout ?k_Lstout ?g_Lround ?l_Lround ?co_Lround ?k_Lround ?g_Ltree ?l_Ltree ?co_Ltree ?k_Ltree ?g_Lany ?l_Lany ?co_Lany ?k_Lany ?g_Lbeside ?l_Lbeside ?co_Lbeside ?k_Lbeside ?g_Lsome ?l_Lsome ?co_Lsome ?k_Lsome ?g_Lnumber ?l_Lnumber ?co_Lnumber ?k_Lnumber ?g_Lrow ?l_Lrow ?co_Lrow ?k_Lrow ?g_Loutside ?l_Loutside ?co_Loutside ?k_Loutside ?g_Lways ?l_Lways ?co_Lways ?k_Lways ?g_Lrefusal ?l_Lrefusal ?co_Lrefusal ?k_Lrefusal ?g_Lway_right ?l_Lway_right ?co_Lway_right ?k_Lway_right ?g_Lright ?l_Lright ?co_Lright ?k_Lright ?g_law ?l_law ?co_law ?k_law ?tI ?c_MOST_CELLS ?c_MOST_LINKS ?n_all ?n_bool ?n_enumerate ?n_int ?n_isinstance ?n_len ?n_max ?n_min ?n_range ?n_sorted ?n_tuple ?n_zip ?ht0
    case aC_Refused => k_is
    case xL_Refused => k_is
    case rV_Refused => first | rfl | decide +kernel | k_is
    case sa_Refused => k_is
    case ex_Refused => k_is
    case ty_Refused => k_is
    case kC_Refused => k_is
    case ga_Refused => k_is
    case gg_Refused => k_is
    case hd_Refused => k_is
    case is_Refused => k_is
    case iC_Refused => k_is
    case nw_Refused => k_is
    case aC_BadSize => k_is
    case xL_BadSize => k_is
    case rV_BadSize => first | rfl | decide +kernel | k_is
    case sa_BadSize => k_is
    case ex_BadSize => k_is
    case ty_BadSize => k_is
    case kC_BadSize => k_is
    case ga_BadSize => k_is
    case gg_BadSize => k_is
    case hd_BadSize => k_is
    case is_BadSize => k_is
    case iC_BadSize => k_is
    case nw_BadSize => k_is
    case aC_BadLink => k_is
    case xL_BadLink => k_is
    case rV_BadLink => first | rfl | decide +kernel | k_is
    case sa_BadLink => k_is
    case ex_BadLink => k_is
    case ty_BadLink => k_is
    case kC_BadLink => k_is
    case ga_BadLink => k_is
    case gg_BadLink => k_is
    case hd_BadLink => k_is
    case is_BadLink => k_is
    case iC_BadLink => k_is
    case nw_BadLink => k_is
    case aC_TooMany => k_is
    case xL_TooMany => k_is
    case rV_TooMany => first | rfl | decide +kernel | k_is
    case sa_TooMany => k_is
    case ex_TooMany => k_is
    case ty_TooMany => k_is
    case kC_TooMany => k_is
    case ga_TooMany => k_is
    case gg_TooMany => k_is
    case hd_TooMany => k_is
    case is_TooMany => k_is
    case iC_TooMany => k_is
    case nw_TooMany => k_is
    case aC_BadCell => k_is
    case xL_BadCell => k_is
    case rV_BadCell => first | rfl | decide +kernel | k_is
    case sa_BadCell => k_is
    case ex_BadCell => k_is
    case ty_BadCell => k_is
    case kC_BadCell => k_is
    case ga_BadCell => k_is
    case gg_BadCell => k_is
    case hd_BadCell => k_is
    case is_BadCell => k_is
    case iC_BadCell => k_is
    case nw_BadCell => k_is
    case s_Refused_BadCell => first | rfl | k_is | decide +kernel
    case s_Refused_Refused => first | rfl | k_is | decide +kernel
    case s_BadSize_BadCell => first | rfl | k_is | decide +kernel
    case s_BadSize_Refused => first | rfl | k_is | decide +kernel
    case s_BadLink_BadCell => first | rfl | k_is | decide +kernel
    case s_BadLink_Refused => first | rfl | k_is | decide +kernel
    case s_TooMany_BadCell => first | rfl | k_is | decide +kernel
    case s_TooMany_Refused => first | rfl | k_is | decide +kernel
    case s_BadCell_BadCell => first | rfl | k_is | decide +kernel
    case s_BadCell_Refused => first | rfl | k_is | decide +kernel
    case aC_Web => k_is
    case pg_Web => k_is
    case hd_Web => k_is
    case po_Web => k_is
    case sa_Web => k_is
    case mk_Web => k_is
    case kC_Web => k_is
    case na_Web__rows => k_is
    case na_Web_links => k_is
    case na_Web_size => k_is
    case at_Web_init => k_is
    case fn_Web_init => k_is
    case at_Web_near => k_is
    case fn_Web_near => k_is
    case at_Web_linked => k_is
    case fn_Web_linked => k_is
    case l_Refused_init => k_is
    case co_Refused_init => k_is
    case k_Refused_init => k_is
    case g_is_number => k_is
    case l_is_number => k_is
    case co_is_number => k_is
    case k_is_number => k_is
    case g_is_below => k_is
    case l_is_below => k_is
    case co_is_below => k_is
    case k_is_below => k_is
    case g_are_numbers => k_is
    case l_are_numbers => k_is
    case co_are_numbers => k_is
    case k_are_numbers => k_is
    case g_is_rising_pair => k_is
    case l_is_rising_pair => k_is
    case co_is_rising_pair => k_is
    case k_is_rising_pair => k_is
    case g_first_fault => k_is
    case l_first_fault => k_is
    case co_first_fault => k_is
    case k_first_fault => k_is
    case g_check_cell => k_is
    case l_check_cell => k_is
    case co_check_cell => k_is
    case k_check_cell => k_is
    case l_Web_init => k_is
    case co_Web_init => k_is
    case k_Web_init => k_is
    case l_Web_near => k_is
    case co_Web_near => k_is
    case k_Web_near => k_is
    case l_Web_linked => k_is
    case co_Web_linked => k_is
    case k_Web_linked => k_is
    case g_check_links => k_is
    case l_check_links => k_is
    case co_check_links => k_is
    case k_check_links => k_is
    case ch_check_links => first | rfl | decide +kernel | kernel_rfl
    case nl_check_links => first | rfl | decide +kernel | k_is
    case g_near_rows => k_is
    case l_near_rows => k_is
    case co_near_rows => k_is
    case k_near_rows => k_is
    case g_way => k_is
    case l_way => k_is
    case co_way => k_is
    case k_way => k_is
    case g_steps_from => k_is
    case l_steps_from => k_is
    case co_steps_from => k_is
    case k_steps_from => k_is
    case g_first_row => k_is
    case l_first_row => k_is
    case co_first_row => k_is
    case k_first_row => k_is
    case g_Lpool => k_is
    case l_Lpool => k_is
    case co_Lpool => k_is
    case k_Lpool => k_is
    case g_Ltake => k_is
    case l_Ltake => k_is
    case co_Ltake => k_is
    case k_Ltake => k_is
    case g_Lone => k_is
    case l_Lone => k_is
    case co_Lone => k_is
    case k_Lone => k_is
    case g_Lshuffled => k_is
    case l_Lshuffled => k_is
    case co_Lshuffled => k_is
    case k_Lshuffled => k_is
    case g_Lnear => k_is
    case l_Lnear => k_is
    case co_Lnear => k_is
    case k_Lnear => k_is
    case g_Llink => k_is
    case l_Llink => k_is
    case co_Llink => k_is
    case k_Llink => k_is
    case g_Lcorner => k_is
    case l_Lcorner => k_is
    case co_Lcorner => k_is
    case k_Lcorner => k_is
    case g_Lbridge => k_is
    case l_Lbridge => k_is
    case co_Lbridge => k_is
    case k_Lbridge => k_is
    case g_Lrenamed => k_is
    case l_Lrenamed => k_is
    case co_Lrenamed => k_is
    case k_Lrenamed => k_is
    case g_Lstout => k_is
    case l_Lstout => k_is
    case co_Lstout => k_is
    case k_Lstout => k_is
    case g_Lround => k_is
    case l_Lround => k_is
    case co_Lround => k_is
    case k_Lround => k_is
    case g_Ltree => k_is
    case l_Ltree => k_is
    case co_Ltree => k_is
    case k_Ltree => k_is
    case g_Lany => k_is
    case l_Lany => k_is
    case co_Lany => k_is
    case k_Lany => k_is
    case g_Lbeside => k_is
    case l_Lbeside => k_is
    case co_Lbeside => k_is
    case k_Lbeside => k_is
    case g_Lsome => k_is
    case l_Lsome => k_is
    case co_Lsome => k_is
    case k_Lsome => k_is
    case g_Lnumber => k_is
    case l_Lnumber => k_is
    case co_Lnumber => k_is
    case k_Lnumber => k_is
    case g_Lrow => k_is
    case l_Lrow => k_is
    case co_Lrow => k_is
    case k_Lrow => k_is
    case g_Loutside => k_is
    case l_Loutside => k_is
    case co_Loutside => k_is
    case k_Loutside => k_is
    case g_Lways => k_is
    case l_Lways => k_is
    case co_Lways => k_is
    case k_Lways => k_is
    case g_Lrefusal => k_is
    case l_Lrefusal => k_is
    case co_Lrefusal => k_is
    case k_Lrefusal => k_is
    case g_Lway_right => k_is
    case l_Lway_right => k_is
    case co_Lway_right => k_is
    case k_Lway_right => k_is
    case g_Lright => k_is
    case l_Lright => k_is
    case co_Lright => k_is
    case k_Lright => k_is
    case g_law => k_is
    case l_law => k_is
    case co_law => k_is
    case k_law => k_is
    case tI => k_is
    case c_MOST_CELLS => k_is
    case c_MOST_LINKS => k_is
    case n_all => k_is
    case n_bool => k_is
    case n_enumerate => k_is
    case n_int => k_is
    case n_isinstance => k_is
    case n_len => k_is
    case n_max => k_is
    case n_min => k_is
    case n_range => k_is
    case n_sorted => k_is
    case n_tuple => k_is
    case n_zip => k_is
    case ht0 => exact PySem.W.km_tabs_of Y 159 (by simp)
end
