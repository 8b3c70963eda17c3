import PyProof.Rows.All
import Wide.All
import OpenK.AllK
import Wide.FinOn
import PyProof.ReprRoads
import HandS.ForMost
import HandS.EndBits
import KE.KExcInit
import HandS.Exc
import HandS.ExcInit
import HandS.ExcOwn
import HandS.IsInst
import HandS.ExcIs
import HandS.Defaults
import KE.KExcIs
import HandS.ExcValue
import HandS.DeepEq
import HandS.DictComp
import PySem.Challenge.RW_fewhands_k00_errors_and_limits
import KE.KStateDown
import HandS.Head0
import HandS.Head1
import HandS.Head2
import HandS.HeadEnd
import HandS.HeadHook1
import HandS.HeadHook2
import HandS.HeadHook3
import HandS.HeadHook4
set_option Elab.async false
set_option linter.all false
set_option maxRecDepth 100000
set_option maxHeartbeats 4000000
/-! FhA: a def's promise where no repr is under way (FnG), data in the abstract heap (DA), repr of it -/
namespace Fh
open PySem PySem.Spec PyProof.Rows L2

/-! ### 1. promises that hold where the stack shows no repr -/
structure FnG (P : Program) (w : World) (K : PySem.W.Frag) (mg : Str → Option Value) (base : Heap) (CX : CXT) (k : Nat) (f : Addr) (fd : FuncData) (ps : List Str) (sp : Sp) : Prop where
  len : ∀ vs H Q E, sp vs H Q E → vs.length = ps.length
  run : ∀ (A : Around) (outer : List Env) (s : Shared) (H : Hp) (args : Args) (us : List Value) (vs : List V) (Q : VK) (E : XK), A.guards = some [] → Room k A → Env0 P w K mg base A outer s H →
    BindsTo s fd args (ps.zip us) → Vals vs us → sp vs H Q E → codeAny (model P w) A (.call (.ref f) args) (CR CX outer P w H s Q E) s

theorem guards_deeper (A : Around) (env : Env) : (A.deeper env).guards = A.guards := by
  first
    | rfl
    | simp [Around.deeper]

/-- the body's rule under no repr -/
theorem FunG_ok {P : Program} {w : World} {K : PySem.W.Frag} {mg : Str → Option Value} {base : Heap} {x qual : Str} {st : Stmt} {f : Addr} {fd : FuncData} {N ps : List Str} {k : Nat} {sp : Sp} {CX : CXT}
    (F : Fun K x qual st f fd) (S : FnScope N ps (defScope st)) (len : ∀ vs H Q E, sp vs H Q E → vs.length = ps.length)
    (hbody : ∀ (cdv : Value) (A : Around) (outer : List Env) (s : Shared) (H : Hp) (vs : List V) (Q : VK) (E : XK), A.guards = some [] → Room k (A.deeper (envOfC qual (defScope st) s.heap.objs.size f cdv)) → sp vs H Q E →
      ∃ t, PSs (cxOf CX P w K mg base N qual (defScope st) f cdv A outer s H E) (defBody st) t ∧ t { nx := fun _ H' => Q .non H', rt := Q } (start N vs) H) : FnG P w K mg base CX (k + 1) f fd ps sp := by
  obtain ⟨oc, od, kV, doc, pm, an, cdv, ct, osl, rfl, lk, hcd⟩ := F.ex
  refine ⟨len, fun A outer s H args us vs Q E hg hr e0 hb rv hsp => ?_⟩
  have nvs := len vs H Q E hsp
  have inK : K.In s.heap := e0.mod.kin.keeps (fun b o z => (e0.bs b o z).1)
  have nolim : s.heap.NoLimit := e0.mod.nolimit.keeps (fun b o z => (e0.bs b o z).1)
  have kinds : ∀ y ∈ ps.zip us, (defScope st).names.lookup y.1 = some .local ∨ ((defScope st).names.lookup y.1 = some .cell ∧ ((cellsFrom (s.heap.objs.size + 1) (defScope st).names []).lookup y.1).isSome = true) := by
    rintro ⟨n, v⟩ hy
    cases S.par n (List.of_mem_zip hy).1 with
    | inl q => exact Or.inl q
    | inr q => exact Or.inr ⟨q, PySem.W.cellsFrom_some _ _ _ (Or.inl q)⟩
  refine codeAny_call_function hr.depth (inK _ _ lk) rfl S.co S.gen rfl (PySem.W.codeRec_of inK hcd) (hb _ _ _ _ ?_)
  refine wpAny_newFunctionEnv_cells S.kind kinds fun env henv s1 ic => ?_
  subst henv
  refine ⟨nolim.keeps ic.toInCall.keep, codeAny_func ?_⟩
  obtain ⟨t, ht, hq⟩ := hbody cdv A outer s H vs Q E hg (hr.deeper _) hsp
  have J0 : Inv (cxOf CX P w K mg base N qual (defScope st) f cdv A outer s H E) [] (start N vs) H s1 := inv_start S hr.hd e0 nvs rv ic
  refine wpAny_mono (ht.run [] s1 (start N vs) H _ J0 hq) ?_ (fun e s' z => z)
  intro fl s' hs
  match fl, hs with
  | .ret u, hs =>
    obtain ⟨v, σ', H', J, ru, q⟩ := hs
    exact ⟨v, H', J.os, J.bare, J.base, J.hok, ru, q⟩
  | .next, hs =>
    obtain ⟨σ', H', J, q⟩ := hs
    exact ⟨V.non, H', J.os, J.bare, J.base, J.hok, rfl, q⟩
  | .brk, hs =>
    obtain ⟨_, _, _, q⟩ := hs
    exact q.elim
  | .cont, hs =>
    obtain ⟨_, _, _, q⟩ := hs
    exact q.elim

theorem FnOk.toG {P : Program} {w : World} {K : PySem.W.Frag} {mg : Str → Option Value} {base : Heap} {CX : CXT} {k : Nat} {f : Addr} {fd : FuncData} {ps : List Str} {sp : Sp} (F : FnOk P w K mg base CX k f fd ps sp) : FnG P w K mg base CX k f fd ps sp :=
  ⟨F.len, fun A outer s H args us vs Q E _ hr e0 hb rv hsp => F.run A outer s H args us vs Q E hr e0 hb rv hsp⟩

section
variable {X : Cx} {CX : CXT} {k : Nat} {f : Addr} {fd : FuncData} {ps : List Str} {sp : Sp} {dvs : List V} {ds : List Value} {E : XK} {x : Str} {p pos : Pos} {e : Expr} {es : List Expr} {t : TA}
theorem run_fnG {pins : List (Addr × Obj)} {σ : L2.St} {H : Hp} {s : Shared} {Q : VK} {us : List Value} {vs : List V} (F : FnG X.prog X.w X.K X.mg X.base CX k f fd ps sp) (hg : X.A.guards = some []) (hr : Room k X.A) (hb : Binds X.K fd ps ds) (hd : Vals dvs ds)
    (hx : Passes CX X E) (I : Inv X pins σ H s) (r : Vals vs us) (h : sp (vs ++ dvs) H Q E) : wpAny (model X.prog X.w) X.A (call (.ref f) us) (EP X pins σ Q) X.xe s := by
  have both : Vals (vs ++ dvs) (us ++ ds) := r.append hd
  have many : (us ++ ds).length = ps.length := by
    rw [← both.length]
    exact F.len _ _ _ _ h
  refine wpAny_call (codeAny_mono (F.run X.A X.stack s H ⟨us, []⟩ (us ++ ds) (vs ++ dvs) Q E hg hr I.env0 (hb s us I.kIn many) both h) ?_)
  intro res s' hq
  match res, hq with
  | .error er, hq => exact hx pins σ H s er s' I hq
  | .ok (.ret u), hq => exact I.after hq
theorem pe_callG (F : FnG X.prog X.w X.K X.mg X.base CX k f fd ps sp) (hgd : X.A.guards = some []) (hr : Room k X.A) (hg : Gl X x) (hm : X.mg x = some (.ref f)) (hk : PySem.W.keepIn X.K (.ref f) = true) (hb : Binds X.K fd ps ds) (hd : Vals dvs ds) (hx : Passes CX X E)
    (ha : PA X (e :: es) t) (hdb : (x == ("__debug__" : Str)) = false := by decide) (he : starEach (e :: es) X.env = (false, eval e X.env) :: starEach es X.env := by rfl) (hpl : (backTo pos (starEach es X.env)).any (·.1) = false := by rfl) :
    PE X (.Call (.Name x p) (e :: es) [] pos) (tCall sp dvs E t) :=
  ⟨fun pins s σ H Q I h => wpAny_Call_Name_kw (ld_glob I hg hm (PySem.W.callWith_K (h₀ := X.base) I.ok.mod.kin hk
    (thn (ha.run pos pins s σ H _ I h) fun us s1 ⟨vs, H1, I1, r, q⟩ => ⟨I1.kIn, run_fnG F hgd hr hb hd hx I1 r q⟩) he hpl) hdb)⟩
end

/-! ### 2. the end of a law whose def is promised under no repr -/
/-- from FnG to a promise of calls at one A: an FnOk is asked by the library; here its core is gone through anew -/
theorem law_callG {P : Program} {w : World} {K : PySem.W.Frag} {mg mb : Str → Option Value} {CX : CXT} {k : Nat} {fa a : Addr} {fd : FuncData} {x : Str} {sp : Sp} {s1 : Shared} {vs : List Value} {ns : List Int}
    (KX : K.In s1.heap) (hns : s1.heap.Ns mainGlobals mg) (hb : s1.heap.Ns builtinsNs mb) (hbb : ∀ x : Str, x ≠ "__name__" → mb x = bootBuiltins x) (hlim : s1.heap.NoLimit) (hg : s1.gens = #[])
    (ha : s1.heap.get? a = some { cls := .type "list", data := .seq vs.toArray }) (hi : IntsAre vs ns) (hl : ns.length ≤ sizeLine) (hr : Room k callerA)
    (F : ∀ base : Heap, K.In base → base.Ns mainGlobals mg → FnG P w K mg base CX k fa fd [x] sp) (hbind : ∀ (s : Shared) (u : Value), BindsTo s fd ⟨[u], []⟩ [(x, u)])
    (hsp : ∀ H : Hp, Only H → SqL K H a (ns.map V.int) → sp [.ref a] H (fun v _ => v = .bl true) fun _ _ _ => False)
    (hCX : ∀ H e s', CX [] H s1 (fun _ _ _ => False) e s' → False) :
    codeAny (model P w) callerA (.call (.ref fa) ⟨[.ref a], []⟩) (fun r s' => r = .ok (.ret (.bool true)) ∧ OldK s1.heap s'.heap ∧ s'.os = s1.os ∧ AllBare s'.gens) s1 := by
  have rv := vals_ints hi
  have lenV := hi.length
  -- H tracks at most the script, and that as a known object
  have main : ∀ H : Hp, Only H → SqL K H a (ns.map V.int) → HOk P w H s1.heap → (∀ b, H b ≠ none → b = a) → (H a ≠ none → K.lookup a = none) →
      codeAny (model P w) callerA (.call (.ref fa) ⟨[.ref a], []⟩) (fun r s' => r = .ok (.ret (.bool true)) ∧ OldK s1.heap s'.heap ∧ s'.os = s1.os ∧ AllBare s'.gens) s1 := by
    intro H hO hS hok only noK
    have under : ∀ {b : Addr} {o : Obj}, s1.heap.get? b = some o → H b = none → (hidT s1.heap H).get? b = some o := fun z n => hidT_get z n
    have dictFree : ∀ {b : Addr} {o : Obj} {es : Array DictEntry} {ep : Nat}, s1.heap.get? b = some o → o.data = .dict es ep → H b = none := by
      intro b o es ep z d
      by_cases q : H b = none
      · exact q
      · have hba : b = a := only b q
        rw [hba, ha] at z
        have zo := Option.some.inj z
        rw [← zo] at d
        exact nomatch (show Data.seq vs.toArray _ = Data.dict es ep from d)
    have nsU : ∀ {b : Addr} {m : Str → Option Value}, s1.heap.Ns b m → (hidT s1.heap H).Ns b m := fun {b m} ⟨o, es, ep, z, d, r⟩ => ⟨o, es, ep, under z (dictFree z d), d, r⟩
    have kU : K.In (hidT s1.heap H) := by
      intro b o z
      refine under (KX b o z) ?_
      by_cases q : H b = none
      · exact q
      · have hba : b = a := only b q
        rw [hba] at z q
        rw [noK q] at z
        exact nomatch z
    have mU : Mod K mg (hidT s1.heap H) := ⟨kU, nsU hns, ⟨mb, nsU hb, hbb⟩, (let ⟨mc, h1, h2⟩ := hlim; ⟨mc, nsU h1, h2⟩)⟩
    have e0 : Env0 P w K mg (hidT s1.heap H) callerA [] s1 H := ⟨rfl, mU, fun b o z => of_hidT z, Nat.le_of_eq (hidT_size _ _), trivial, fun b q => (nomatch (show b ∈ ([] : List Addr) from q)), hok, .of_eq hg⟩
    refine codeAny_mono ((F _ kU (nsU hns)).run callerA [] s1 H ⟨[.ref a], []⟩ [.ref a] [.ref a] _ _ rfl hr e0 (hbind s1 (.ref a)) (.cons rfl .nil) (hsp H hO hS)) ?_
    intro r s' hq
    match r, hq with
    | .error e, hq => exact (hCX H e s' hq).elim
    | .ok (.ret u), hq =>
      obtain ⟨v, H', os, bare, un, hok', ru, q⟩ := hq
      have q1 : v = .bl true := q
      rw [q1] at ru
      have q2 : u = Value.bool true := ru
      subst q2
      refine ⟨rfl, OldK.of_keep (fun b o z => ?_), os, bare⟩
      by_cases n : H b = none
      · exact un.keep b o z n (fun y => (nomatch (show b ∈ ([] : List Addr) from y))) (fun y => (nomatch y))
      · cases hO b with
        | inl y => exact absurd y n
        | inr y =>
          obtain ⟨ob, xs, y⟩ := y
          have y2 := un.frzs b ob _ y
          have g1 := (hok b _ y).1
          have g2 := (hok' b _ y2).1
          rw [z] at g1
          rw [Option.some.inj g1]
          exact g2
  by_cases hk : K.lookup a = none
  · refine main (fun b => if b = a then some (.frz { cls := .type "list", data := .seq vs.toArray } (.lst (ns.map V.int))) else none) ?_ ?_ ?_ ?_ (fun _ => hk)
    · intro b
      by_cases hb : b = a
      · exact Or.inr ⟨_, _, if_pos hb⟩
      · exact Or.inl (if_neg hb)
    · exact Or.inl (Or.inr ⟨{ cls := .type "list", data := .seq vs.toArray }, if_pos rfl⟩)
    · intro b u z
      by_cases hb : b = a
      · rw [hb] at z ⊢
        have z2 := Option.some.inj ((if_pos rfl).symm.trans z)
        rw [← z2]
        exact ⟨ha, by rw [List.length_map]; exact hl, vs, _, rv, ha⟩
      · exact nomatch (if_neg hb).symm.trans z
    · intro b z
      by_cases hb : b = a
      · exact hb
      · exact absurd (if_neg hb) z
  · obtain ⟨o, ho⟩ := Option.ne_none_iff_exists'.mp hk
    have z := KX a o ho
    rw [ha] at z
    have zo := Option.some.inj z
    subst zo
    refine main (fun _ => none) (fun _ => Or.inl rfl) (Or.inr ⟨_, vs.toArray, _, ho, rfl, rfl, rfl, ?_, ?_⟩) (fun b u y => (nomatch (show (none : Option HO) = some u from y))) (fun b y => absurd rfl y) (fun y => absurd rfl y)
    · rw [List.size_toArray, lenV]
      exact hl
    · simpa using rv

theorem walk_ofG {l : PySem.W.OpenLaw} {n k : Nat} {q : Program} {loose : List Str} {XP : (Str → Option Value) → Heap → Prop} {YP : World → Heap → Prop} {d : DefRec} {K : Params → PySem.W.Frag} {CX : World → CXT} {sp : World → Sp} {x : Str}
    (hn : l.most = some n) (hn2 : n ≤ sizeLine) (hdf : d.params.defaults = []) (hr : Room k callerA)
    (hY : ∀ (w : World) (h : Heap), YP w h → (K w.params).In h)
    (F : ∀ (w : World) (mg : Str → Option Value) (fa : Addr) (h : Heap), (K w.params).In h → h.Ns mainGlobals mg → mg d.name = some (.ref fa) →
      ∃ fd : FuncData, (∀ (s : Shared) (u : Value), BindsTo s fd ⟨[u], []⟩ [(x, u)]) ∧
        ∀ base : Heap, (K w.params).In base → base.Ns mainGlobals mg → FnG l.prog w (K w.params) mg base (CX w) k fa fd [x] (sp w))
    (hsp : ∀ (w : World) (H : Hp) (a : Addr) (ns : List Int), ns.length ≤ n → (∀ z ∈ ns, Builtin.Int.intBits z ≤ 1048576) → Only H → SqL (K w.params) H a (ns.map V.int) → sp w [.ref a] H (fun v _ => v = .bl true) fun _ _ _ => False)
    (hCX : ∀ (w : World) (H : Hp) (s : Shared) (e : Value) (s' : Shared), CX w [] H s (fun _ _ _ => False) e s' → False) :
    PySem.W.WalkO q loose XP YP l.row.toRowW d [] (fun f vs => PySem.call f vs) :=
  Att.attach_callB hn hdf fun w s0 s1 mg mb fa o pm cd doc a vs ns G Y ho hd hcd hmg hobj hints hlen hbits hg =>
    let ⟨fd, hb, hF⟩ := F w mg fa _ (hY w _ Y) G.T.g hmg
    law_callG (hY w _ Y) G.T.g G.T.b G.T.builtins G.T.nolimit hg hobj hints (Nat.le_trans hlen hn2) hr hF hb (fun H hO hS => hsp w H a ns hlen hbits hO hS) (fun H e s' => hCX w H s1 e s')

/-! ### 3. data in the abstract heap -/
def kP : Key → PyData
  | .inl i => .int i
  | .inr x => .str x
mutual
/-- v is the data d -/
inductive DA (N : Addr → Prop) (H : Hp) : V → PyData → Prop where
  | non : DA N H .non .none
  | bl (b : Bool) : DA N H (.bl b) (.bool b)
  | int (i : Int) : DA N H (.int i) (.int i)
  | str (x : Str) : DA N H (.str x) (.str x)
  | lst {a : Addr} {xs : List V} {ds : List PyData} : H a = some (.lst xs) → a ≠ sysModules → ¬ N a → DAs N H xs ds → DA N H (.ref a) (.list ds)
  | tup {a : Addr} {xs : List V} {ds : List PyData} : H a = some (.tup xs) → ¬ N a → DAs N H xs ds → DA N H (.ref a) (.tuple ds)
  | dK {a : Addr} {es : List (Key × V)} {kvs : List (PyData × PyData)} : H a = some (.dK es) → ¬ N a → DKs N H es kvs → DA N H (.ref a) (.dict kvs)
inductive DAs (N : Addr → Prop) (H : Hp) : List V → List PyData → Prop where
  | nil : DAs N H [] []
  | cons {x : V} {d : PyData} {xs : List V} {ds : List PyData} : DA N H x d → DAs N H xs ds → DAs N H (x :: xs) (d :: ds)
inductive DKs (N : Addr → Prop) (H : Hp) : List (Key × V) → List (PyData × PyData) → Prop where
  | nil : DKs N H [] []
  | cons {k : Key} {v : V} {d : PyData} {es : List (Key × V)} {kvs : List (PyData × PyData)} : DA N H v d → DKs N H es kvs → DKs N H ((k, v) :: es) ((kP k, d) :: kvs)
end
mutual
theorem DA.same {N : Addr → Prop} {H H' : Hp} (s : Same H H') : ∀ {v : V} {d : PyData}, DA N H v d → DA N H' v d
  | _, _, .non => .non
  | _, _, .bl b => .bl b
  | _, _, .int i => .int i
  | _, _, .str x => .str x
  | _, _, .lst h n m r => .lst (s _ _ h) n m (DAs.same s r)
  | _, _, .tup h m r => .tup (s _ _ h) m (DAs.same s r)
  | _, _, .dK h m r => .dK (s _ _ h) m (DKs.same s r)
theorem DAs.same {N : Addr → Prop} {H H' : Hp} (s : Same H H') : ∀ {v : List V} {d : List PyData}, DAs N H v d → DAs N H' v d
  | _, _, .nil => .nil
  | _, _, .cons h r => .cons (DA.same s h) (DAs.same s r)
theorem DKs.same {N : Addr → Prop} {H H' : Hp} (s : Same H H') : ∀ {v : List (Key × V)} {d : List (PyData × PyData)}, DKs N H v d → DKs N H' v d
  | _, _, .nil => .nil
  | _, _, .cons h r => .cons (DA.same s h) (DKs.same s r)
end
theorem key_reads {h : Heap} {k : Key} {u : Value} (z : keyIs k u = true) : Reads h u (kP k) [] := by
  cases k with
  | inl i =>
    obtain ⟨t, e⟩ := Value.isInt_shape (show Value.isInt i u = true from z)
    rw [e]
    exact .int i t
  | inr x =>
    obtain ⟨t, e⟩ := Value.isStrOf_shape (show Value.isStrOf x u = true from z)
    rw [e]
    exact .str x t
section
variable {P : Program} {w : World} {N : Addr → Prop} {H : Hp} {h : Heap}
mutual
theorem DA.reads (ok : HOk P w H h) : ∀ {v : V} {d : PyData} {u : Value}, DA N H v d → RelV v u → ∃ as, Reads h u d as ∧ sysModules ∉ as
  | _, _, u, .non, r => by
    have e : u = Value.none := r
    rw [e]
    exact ⟨[], .none, List.not_mem_nil⟩
  | _, _, u, .bl b, r => by
    have e : u = Value.bool b := r
    rw [e]
    exact ⟨[], .bool b, List.not_mem_nil⟩
  | _, _, u, .int i, r => by
    obtain ⟨t, e⟩ := (show ∃ t, u = Value.int i t from r)
    rw [e]
    exact ⟨[], .int i t, List.not_mem_nil⟩
  | _, _, u, .str x, r => by
    obtain ⟨t, e⟩ := (show ∃ t, u = Value.str x t from r)
    rw [e]
    exact ⟨[], .str x t, List.not_mem_nil⟩
  | _, _, u, .lst (a := a) (xs := xs) hA n _ rs, r => by
    have e : u = Value.ref a := r
    rw [e]
    obtain ⟨_, its, m, rv, ho⟩ := (show ObjOk P w H h a (.lst xs) from ok a _ hA)
    obtain ⟨as, ra, ns⟩ := DAs.reads ok rs rv
    exact ⟨a :: as, .list ho rfl rfl (by simpa using ra), fun z => (List.mem_cons.mp z).elim (fun y => n y.symm) ns⟩
  | _, _, u, .tup (a := a) (xs := xs) hA _ rs, r => by
    have e : u = Value.ref a := r
    rw [e]
    obtain ⟨_, its, rv, o, ho, hc, m, hd⟩ := (show ObjOk P w H h a (.tup xs) from ok a _ hA)
    obtain ⟨as, ra, ns⟩ := DAs.reads ok rs rv
    exact ⟨as, .tuple ho hc hd (by simpa using ra), ns⟩
  | _, _, u, .dK (a := a) (es := es) hA _ rs, r => by
    have e : u = Value.ref a := r
    rw [e]
    obtain ⟨_, hs, vs, rv, o, ds, ep, ho, hx, hd, _, hp, _⟩ := (show ObjOk P w H h a (.dK es) from ok a _ hA)
    obtain ⟨as, bs, r1, r2, n1, n2⟩ := DKs.reads ok rs rv hp
    refine ⟨a :: as ++ bs, .dict ho hx.1 hd r1 r2, fun z => ?_⟩
    rcases List.mem_append.mp z with y | y
    · rcases List.mem_cons.mp y with x | x
      · exact absurd x.symm (beq_eq_false_iff_ne.mp hs)
      · exact n1 x
    · exact n2 y
theorem DAs.reads (ok : HOk P w H h) : ∀ {vs : List V} {ds : List PyData} {us : List Value}, DAs N H vs ds → Vals vs us → ∃ as, ReadsAll h us ds as ∧ sysModules ∉ as
  | _, _, _, .nil, .nil => ⟨[], .nil, List.not_mem_nil⟩
  | _, _, _, .cons hd rs, .cons r1 r2 => by
    obtain ⟨as, a1, a2⟩ := DA.reads ok hd r1
    obtain ⟨bs, b1, b2⟩ := DAs.reads ok rs r2
    exact ⟨as ++ bs, .cons a1 b1, fun z => (List.mem_append.mp z).elim a2 b2⟩
theorem DKs.reads (ok : HOk P w H h) : ∀ {es : List (Key × V)} {kvs : List (PyData × PyData)} {vs : List (Key × Value)} {ds : List DictEntry}, DKs N H es kvs → KV es vs → Pairs (mixKind P w) ds vs →
    ∃ as bs, ReadsAll h (ds.map (·.key)) (kvs.map (·.1)) as ∧ ReadsAll h (ds.map (·.val)) (kvs.map (·.2)) bs ∧ sysModules ∉ as ∧ sysModules ∉ bs
  | _, _, _, _, .nil, .nil, .nil => ⟨[], [], .nil, .nil, List.not_mem_nil, List.not_mem_nil⟩
  | _, _, _, _, .cons hd rs, .cons r1 r2, .cons p1 p2 p3 => by
    obtain ⟨as, bs, a1, b1, a2, b2⟩ := DKs.reads ok rs r2 p3
    obtain ⟨cs, c1, c2⟩ := DA.reads ok hd (show RelV _ _ from p2 ▸ r1.2)
    have k1 := key_reads (h := h) p1
    rw [← r1.1] at k1
    exact ⟨[] ++ as, cs ++ bs, .cons k1 a1, .cons c1 b1, a2, fun z => (List.mem_append.mp z).elim c2 b2⟩
end
end

/-! ### 4. repr of data -/
def rRepr : List V → Hp → VK → Prop := fun xs H Q => ∃ (N : Addr → Prop) (v : V) (d : PyData), xs = [v] ∧ DA N H v d ∧ d.showable = true ∧ d.depth ≤ 60 ∧ d.shown.length ≤ sizeLine ∧ Q (.str d.shown) H
theorem call_repr {X : Cx} (hg : X.A.guards = some []) (hu : X.A.units + 64 < cLine) : CallR X (.builtin "repr") rRepr := by
  intro pins s σ H xs us Q I r h
  obtain ⟨N, v, d, rfl, hd, hs, hz, hl, q⟩ := h
  obtain ⟨u, rfl, ru⟩ := vals1 r
  obtain ⟨as, ra, ns⟩ := DA.reads I.hok hd ru
  match hd, ra with
  | .non, .none => exact PySem.P.repr_of_none ⟨.str _, H, I.tok _, ⟨_, rfl⟩, q⟩
  | .bl b, .bool _ => exact PySem.P.repr_of_bool ⟨.str _, H, I.tok _, ⟨_, rfl⟩, q⟩
  | .int i, .int _ t => exact PySem.P.repr_of_int (by simpa [PyData.showable] using hs) ⟨.str _, H, I.tok _, ⟨_, rfl⟩, q⟩
  | .str x, .str _ t => exact PySem.P.repr_of_str ⟨.str _, H, I.tok _, ⟨_, rfl⟩, q⟩ (by simpa only [PyData.shown] using hl)
  | .lst _ _ _ _, .list a b c e => exact PySem.repr_of_reads' (.list a b c e) hs (fun _ => ns) hg (by omega) (fun _ _ z => z) (fun h' t tk k => ⟨.str _, H, I.kept (t' := tk) k, ⟨_, rfl⟩, q⟩) hl
  | .tup _ _ _, .tuple a b c e => exact PySem.repr_of_reads' (.tuple a b c e) hs (fun _ => ns) hg (by omega) (fun _ _ z => z) (fun h' t tk k => ⟨.str _, H, I.kept (t' := tk) k, ⟨_, rfl⟩, q⟩) hl
  | .dK _ _ _, .dict a b c e f => exact PySem.repr_of_reads' (.dict a b c e f) hs (fun _ => ns) hg (by omega) (fun _ _ z => z) (fun h' t tk k => ⟨.str _, H, I.kept (t' := tk) k, ⟨_, rfl⟩, q⟩) hl
end Fh
set_option Elab.async false
set_option linter.all false
set_option maxRecDepth 100000
set_option maxHeartbeats 4000000
namespace PySem
namespace FhX
open Builtin Builtin.ObjectAttr
/-! ### own error classes over any of the built-in bases: made with positions or keywords -/
section
variable {prog : Program} {w : World} {A : Around} {E : Value → Shared → Prop} {R : Result → Shared → Prop} {h : Heap} {g : Array GenState} {d : Drawn} {t : Nat} {os : OsState}
variable {nm q : Str} {C N : Addr} {bs bm bmB : List Value} {hdct : Bool} {sn : List Str} {sub : List Value} {ab : Bool} {col : Option Bool} {dd : Option Addr} {k0 k1 k2 k3 k5 : Option Value} {B newId initId : String}

theorem newK_check {M : Model} (F : ExcBaseFacts B newId initId bmB) (hT : ∀ X : String, bm.contains (.type X) = bmB.contains (.type X)) {rest : List Value} {kw : List (Str × Value)} {Q : Unit → Shared → Prop}
    (hC : h.get? C = some (excClassObj nm q C N bs bm hdct sn sub ab col dd k0 k1 k2 k3 k5 newId)) (hq : Q () ⟨h, g, d, t, os⟩) : wpAny M A (checkBuiltinCall newId ⟨.ref C :: rest, kw⟩) Q E ⟨h, g, d, t, os⟩ := by
  have isB : (Value.ref C :: bm).contains (.type B) = true := by
    rw [List.contains_cons, hT, F.hasB, Bool.or_true]
  have star := F.noStar
  simp only [checkBuiltinCall, F.newKind, F.newSplit, F.newRow]
  repeat (first
    | refine wpAny_loadPart_at hC ?_
    | (refine wpAny_isSubtype_exc hC ?_; rw [isB])
    | refine wpAny_staticBase_exc hC ?_
    | refine wpAny_madeBy_exc hC ?_
    | simp only [bne_self_eq_false, Bool.false_eq_true, if_false]
    | wp_step)
  exact hq

theorem newK_made (F : ExcBaseFacts B newId initId bmB) (hT : ∀ X : String, bm.contains (.type X) = bmB.contains (.type X)) {rest : List Value} {kw : List (Str × Value)}
    (hC : h.get? C = some (excClassObj nm q C N bs bm hdct sn sub ab col dd k0 k1 k2 k3 k5 newId))
    (hq : R (.ok (.ret (.ref (h.objs.size + 1)))) ⟨(h.push (PySem.W.kdv_tup rest)).push (HandSPX.excO C h.objs.size), g, d, t, os⟩) (hz : rest.length ≤ sizeLine) :
    codeAny (model prog w) A (.builtin newId ⟨.ref C :: rest, kw⟩) R ⟨h, g, d, t, os⟩ := by
  have hends := F.ends
  have isB : (Value.ref C :: bm).contains (.type B) = true := by
    rw [List.contains_cons, hT, F.hasB, Bool.or_true]
  have noA : (Value.ref C :: bm).contains (.type "AttributeError") = false := by
    rw [List.contains_cons, hT, F.noAttr]
    rfl
  have noN : (Value.ref C :: bm).contains (.type "NameError") = false := by
    rw [List.contains_cons, hT, F.noName]
    rfl
  refine codeAny_builtinAt F.entry ?_
  unfold Builtin.«BaseException.__new__»
  refine wpAt_bind ?_
  show wpAt _ _ _ (stack >>= _) _ _ _
  refine wpAt_bind (wpAt_stack fun p below => wpAt_of_wpAny ?_)
  wp_walk
  refine wpAt_of_wpAny ?_
  rw [F.owner]
  repeat (first
    | with_reducible refine wpAny_madeHere_exc F.canon hC ?_
    | with_reducible refine wpAny_loadPart_at hC ?_
    | (with_reducible refine wpAny_isSubtype_exc hC ?_; first | rw [isB] | rw [noA] | rw [noN])
    | wp_step)
  show R _ _
  rw [Heap.size_push]
  exact hq

theorem typeCallK (F : ExcBaseFacts B newId initId bmB) (hT : ∀ X : String, bm.contains (.type X) = bmB.contains (.type X)) {rest : List Value} {kw : List (Str × Value)} {fI : Addr} {Q : Fin → Shared → Prop}
    (hC : h.get? C = some (excClassObj nm q C N bs bm hdct sn sub ab col dd k0 k1 k2 k3 k5 newId))
    (hi : PySem.W.Looks (model prog w) h (typeLookup (.ref C) "__init__") (some (.ref fI))) (hb : ∀ self, PySem.W.Looks (model prog w) h (bindSpecial (.ref fI) self) (.ref fI, [self])) (hz : rest.length ≤ sizeLine)
    (hq : codeAny (model prog w) A (.call (.ref fI) ⟨.ref (h.objs.size + 1) :: rest, kw⟩)
      (fun r s' => match r with | .ok (.ret v) => v = .none ∧ Q (.done (.ret (.ref (h.objs.size + 1)))) s' | .ok _ => False | .error e => E e s')
      ⟨(h.push (PySem.W.kdv_tup rest)).push (HandSPX.excO C h.objs.size), g, d, t, os⟩) :
    wpAny (model prog w) A (Builtin.«type.__call__» ⟨.ref C :: rest, kw⟩) Q E ⟨h, g, d, t, os⟩ := by
  repeat (first
    | with_reducible refine wpAny_loadPart_at hC ?_
    | with_reducible refine wpAny_madeBy_exc hC ?_
    | wp_step)
  refine codeAny_call_builtin_code (Code.quiet_builtin _ F.quiet) (newK_check F hT hC ?_)
  refine newK_made F hT hC ?_ hz
  show wpAny _ _ _ _ _ _
  have up : ∀ b o, h.get? b = some o → ((h.push (PySem.W.kdv_tup rest)).push (HandSPX.excO C h.objs.size)).get? b = some o := fun b o z => Heap.get?_push_of_some _ (Heap.get?_push_of_some _ z)
  have hC1 := up _ _ hC
  have here : ((h.push (PySem.W.kdv_tup rest)).push (HandSPX.excO C h.objs.size)).get? (h.objs.size + 1) = some (HandSPX.excO C h.objs.size) := by heap_get
  have self : (Value.ref C :: bm).contains (.ref C) = true := by simp
  have i1 := hi.keeps up
  have b1 := (hb (.ref (h.objs.size + 1))).keeps up
  unfold isInstance
  repeat (first
    | with_reducible refine wpAny_loadPart_at here ?_
    | (with_reducible refine wpAny_isSubtype_exc hC1 ?_; rw [self])
    | wp_step)
  show wpAny _ _ (typeLookup (.ref C) _) _ _ _
  refine i1.at (wpAny_holding (wpAny_bind (b1.at (wpAny_bind (wpAny_call (codeAny_mono hq ?_))))))
  intro r s' z
  match r, z with
  | .error e, z => exact z
  | .ok (.ret v), z =>
    obtain ⟨rfl, z⟩ := z
    first
      | exact wpAny_pure (wpAny_pure z)
      | (wp_walk; exact z)

theorem callK_check {M : Model} {rest : List Value} {kw : List (Str × Value)} {Q : Unit → Shared → Prop} (hC : h.get? C = some (excClassObj nm q C N bs bm hdct sn sub ab col dd k0 k1 k2 k3 k5 newId))
    (hq : Q () ⟨h, g, d, t, os⟩) : wpAny M A (checkBuiltinCall "type.__call__" ⟨.ref C :: rest, kw⟩) Q E ⟨h, g, d, t, os⟩ := by
  have f3 := tc_sub
  have isT : (⟨h, g, d, t, os⟩ : Shared).TypeIs (.ref C) "type" := ⟨_, hC, rfl⟩
  simp only [checkBuiltinCall, tc_kind, tc_split]
  repeat (any_goals (first
    | assumption
    | with_reducible refine wpAny_loadPart_at hC ?_
    | with_reducible refine wpAny_onRaise ?_
    | with_reducible refine wpAny_map ?_
    | wp_step))

theorem callK_own (F : ExcBaseFacts B newId initId bmB) (hT : ∀ X : String, bm.contains (.type X) = bmB.contains (.type X)) {rest : List Value} {kw : List (Str × Value)} {fI : Addr}
    (hC : h.get? C = some (excClassObj nm q C N bs bm hdct sn sub ab col dd k0 k1 k2 k3 k5 newId))
    (hi : PySem.W.Looks (model prog w) h (typeLookup (.ref C) "__init__") (some (.ref fI))) (hb : ∀ self, PySem.W.Looks (model prog w) h (bindSpecial (.ref fI) self) (.ref fI, [self])) (hz : rest.length ≤ sizeLine)
    (hq : codeAny (model prog w) (A.under (.builtin "type.__call__" ⟨.ref C :: rest, kw⟩)) (.call (.ref fI) ⟨.ref (h.objs.size + 1) :: rest, kw⟩) (PySem.W.InitBack (h.objs.size + 1) R)
      ⟨(h.push (PySem.W.kdv_tup rest)).push (HandSPX.excO C h.objs.size), g, d, t, os⟩) :
    codeAny (model prog w) A (.call (.ref C) ⟨rest, kw⟩) R ⟨h, g, d, t, os⟩ := by
  have f1 := tc_lookup
  have f2 := tc_bind (.ref C)
  have isT : (⟨h, g, d, t, os⟩ : Shared).TypeIs (.ref C) "type" := ⟨_, hC, rfl⟩
  refine codeAny_of_tree ?_
  show wpAny _ _ (callAny (.ref C) _) _ _ _
  repeat (any_goals (first
    | assumption
    | with_reducible refine wpAny_loadPart_at hC ?_
    | wp_step))
  refine ⟨rfl, ?_⟩
  refine codeAny_call_builtin_at (Code.quiet_builtin _ (by decide +kernel)) entry_typeCall (callK_check hC (typeCallK F hT hC hi hb hz ?_))
  refine codeAny_mono hq ?_
  intro r s' z
  match r, z with
  | .error e, z => exact z
  | .ok (.ret v), z => exact z
  | .ok .next, z => exact z
  | .ok .brk, z => exact z
  | .ok .cont, z => exact z
end
end FhX
end PySem
set_option Elab.async false
set_option linter.all false
set_option maxRecDepth 100000
set_option maxHeartbeats 4000000
namespace Fh
open PySem PySem.Spec PyProof.Rows L2
open PySem.W (Frag)

/-- what the written part says of an own error class at C, straight below the built-in class with mro bmB -/
structure EI (K : Frag) (C : Addr) (bmB : List Value) (newId : String) : Prop where
  q : PySem.W.excInitIn K C bmB newId = true
  mro : (PySem.W.clsIn K C).map (·.mro) = some (.ref C :: bmB)
  hd : PySem.W.hasDictIn K C = true
  ty : PySem.W.typeIn K (.ref C) = some (.type "type")
  sa : PySem.W.findIn K (.ref C) "__setattr__" = some (some (.builtin "object.__setattr__"))
  ga : PySem.W.findIn K (.ref C) "__getattribute__" = some (some (.builtin "BaseException.__getattribute__"))
  gg : PySem.W.findIn K (.ref C) "__getattr__" = some none
  cl : PySem.W.findIn K (.ref C) "__class__" = some (some (.builtin "object.__class__"))
  kC : PySem.W.keepIn K (.ref C) = true
  hn : PySem.W.specialIn K (.builtin "object.__class__") "__get__" = some (some (.builtin "getset_descriptor.__get__"))
  ht : PySem.W.takesIn K (.builtin "object.__class__") = some true

section
variable {K : Frag} {C : Addr} {bmB : List Value} {newId : String}
theorem EI.cls (T : EI K C bmB newId) : ∃ cd, PySem.W.clsIn K C = some cd ∧ cd.mro = .ref C :: bmB := Option.map_eq_some_iff.mp T.mro
theorem EI.sub (T : EI K C bmB newId) {b : Value} : PySem.W.subIn K (.ref C) b = some (List.contains (.ref C :: bmB) b) := by
  obtain ⟨cd, h1, h2⟩ := T.cls
  show PySem.W.mroIn K C b = _
  unfold PySem.W.mroIn
  rw [h1, Option.bind_some, h2, if_neg (by simp)]
theorem EI.mroI (T : EI K C bmB newId) {b : Value} : PySem.W.mroIn K C b = some (List.contains (.ref C :: bmB) b) := T.sub
theorem EI.tail (T : EI K C bmB newId) : PySem.W.excTail bmB bmB = true := by
  have q := T.q
  obtain ⟨cd, h1, h2⟩ := T.cls
  unfold PySem.W.clsIn at h1
  unfold PySem.W.excInitIn at q
  split at h1
  · rename_i c d cd' sl ho
    have e := Option.some.inj h1
    subst e
    rw [ho] at q
    split at q
    · rename_i dd cd2 sl2 ho2
      have e2 := Option.some.inj ho2
      injection e2 with e3 e4 e5 e6
      injection e5 with e5
      subst e5
      rw [h2] at q
      split at q
      · rename_i C' bm _ _ _ _ _ _ hm _
        injection hm with hm1 hm2
        subst hm2
        simp only [Bool.and_eq_true] at q
        exact q.2
      · exact nomatch q
    · exact nomatch q
  · exact nomatch h1
theorem EI.over (T : EI K C bmB newId) : PySem.W.excOver K C bmB = true := by
  obtain ⟨cd, h1, h2⟩ := T.cls
  unfold PySem.W.excOver
  rw [h1]
  show (match cd.mro with | .ref C' :: bm => C' == C && PySem.W.excTail bmB bm | _ => false) = true
  rw [h2]
  show (C == C && PySem.W.excTail bmB bmB) = true
  rw [T.tail]
  simp
end

/-! ### self.f = v in such a class's __init__ -/
section
variable {prog : Program} {w : World} {A : Around} {R : Result → Shared → Prop} {hp : Heap} {g : Array GenState} {d : Drawn} {t : Nat} {os : OsState} {K : Frag} {C : Addr} {bmB : List Value} {newId B : String} {name : Str} {tk : Tok} {v : Value} {x : Addr} {fv : Array Value}
open Builtin Builtin.ObjectAttr in
theorem osaG_new (T : EI K C bmB newId) (SF : StoreFacts B bmB "object.__setattr__" "object") (X : K.In hp) (hx : hp.get? x = some { cls := .ref C, data := .fields fv }) (no : PySem.W.findIn K (.ref C) name = some none)
    (hq : ∀ h' tk' dx, (∀ b o, b ≠ x → hp.get? b = some o → h'.get? b = some o) → hp.objs.size ≤ dx → dx ≠ x → h'.get? x = some { cls := .ref C, dict := some dx, data := .fields fv } →
      h'.Ns1 dx (fun y => if y = name then some v else none) → R (.ok (.ret .none)) ⟨h', g, d, tk', os⟩) :
    codeAny (model prog w) A (.call (.builtin "object.__setattr__") ⟨[.ref x, .str name tk, v], []⟩) R ⟨hp, g, d, t, os⟩ := by
  obtain ⟨cd, hcd, hdict⟩ := PySem.W.any_some T.hd
  have apart : x ≠ hp.objs.size := Nat.ne_of_lt (Heap.lt_size hx)
  have hcls : PySem.W.Looks (model prog w) hp (classData C) cd := PySem.W.looks_clsIn X hcd
  refine PySem.W.osa_openX (od := none) (r := none) SF X ⟨hx, rfl, rfl, trivial⟩ T.over ?_ fun b => ?_
  · unfold PySem.W.takerIn
    rw [no]
    rfl
  · show wpAny _ _ (storeInOwnDict (.ref x) (.ref C) (.str name tk) name v b) _ _ _
    obtain ⟨n1, n2, n3, n4, n5, n6, n7, n8, n9, n10, n11⟩ := cd
    have e6 : n6 = true := hdict
    subst e6
    unfold storeInOwnDict ownDictForStores
    repeat (first
      | with_reducible refine HandSPX.store_in_new ?_ ?_
      | with_reducible refine wpAny_loadPart_at hx ?_
      | with_reducible refine hcls.at ?_
      | wp_step)
    · exact ⟨_, #[], _, (Heap.get?_update_ne _ _ _ _ apart.symm).trans (Heap.get?_push_at rfl rfl), rfl, fun e he => absurd he (by simp), fun _ => rfl⟩
    · intro h' tk' ns same
      have hx1 : (hp.push { cls := .type "dict", data := .dict #[] }).get? x = some { cls := .ref C, data := .fields fv } := Heap.get?_push_of_some _ hx
      refine hq h' tk' hp.objs.size (fun b o hb ho => ?_) (Nat.le_refl _) apart.symm ?_ ns
      · exact (same.2 b (Nat.ne_of_lt (Heap.lt_size ho))).trans ((Heap.get?_update_ne _ _ _ _ hb).trans (Heap.get?_push_of_some _ ho))
      · exact (same.2 x apart).trans (Heap.get?_update_self _ hx1 rfl)

open Builtin Builtin.ObjectAttr in
theorem osaG_old {dx : Addr} {m0 : Str → Option Value} {nl : List Str} (T : EI K C bmB newId) (SF : StoreFacts B bmB "object.__setattr__" "object") (X : K.In hp) (hx : hp.get? x = some { cls := .ref C, dict := some dx, data := .fields fv })
    (hns : hp.Ns1 dx m0) (hw : Within m0 nl) (hz : nl.length ≤ 1000) (no : PySem.W.findIn K (.ref C) name = some none)
    (hq : ∀ h' tk', (∀ b o, b ≠ dx → hp.get? b = some o → h'.get? b = some o) → h'.Ns1 dx (fun y => if y = name then some v else m0 y) → R (.ok (.ret .none)) ⟨h', g, d, tk', os⟩) :
    codeAny (model prog w) A (.call (.builtin "object.__setattr__") ⟨[.ref x, .str name tk, v], []⟩) R ⟨hp, g, d, t, os⟩ := by
  obtain ⟨cd, hcd, hdict⟩ := PySem.W.any_some T.hd
  obtain ⟨oD, _, _, hoD, _, _⟩ := hns.count hw
  have hcls : PySem.W.Looks (model prog w) hp (classData C) cd := PySem.W.looks_clsIn X hcd
  refine PySem.W.osa_openX (od := some oD) (r := none) SF X ⟨hx, rfl, rfl, hoD⟩ T.over ?_ fun b => ?_
  · unfold PySem.W.takerIn
    rw [no]
    rfl
  · show wpAny _ _ (storeInOwnDict (.ref x) (.ref C) (.str name tk) name v b) _ _ _
    obtain ⟨n1, n2, n3, n4, n5, n6, n7, n8, n9, n10, n11⟩ := cd
    have e6 : n6 = true := hdict
    subst e6
    unfold storeInOwnDict ownDictForStores
    repeat (first
      | with_reducible refine OEX.store_in_old hns hw hz ?_
      | with_reducible refine wpAny_loadPart_at hx ?_
      | with_reducible refine hcls.at ?_
      | wp_step)
    intro h' tk' ns same
    exact hq h' tk' (fun b o hb ho => (same.2 b hb).trans ho) ns
end

section
variable {X : Cx} {pins : List (Addr × Obj)} {σ : L2.St} {H : Hp} {s : Shared} {a C dx : Addr} {f : Str} {y : V} {u : Value} {fs : List (Str × V)} {Q : Unit → Shared → Prop} {E : Value → Shared → Prop} {A : Around} {bmB : List Value} {newId B : String}
theorem ostG_new (T : EI X.K C bmB newId) (SF : StoreFacts B bmB "object.__setattr__" "object") (I : Inv X pins σ H s) (e : H a = some (exo a C none)) (no : PySem.W.findIn X.K (.ref C) f = some none) (ry : RelV y u)
    (h : ∀ dx s', H dx = none → dx ≠ a → Inv X pins σ (upd (upd H dx (exd dx [(f, y)])) a (exo a C (some dx))) s' → Q () s') : wpAny (model X.prog X.w) A (setAttr (.ref a) f u) Q E s := by
  obtain ⟨t1, ho⟩ := exo_at I.hok e
  obtain ⟨hp, g, d, t, os⟩ := s
  refine PySem.W.set_plain I.kIn (ox := { cls := .ref C, dict := none, data := .fields #[.ref t1, .none, .none, .none, .bool false, .none] }) (od := none) ⟨ho, rfl, rfl, trivial⟩ T.sa ?_
  refine osaG_new T SF I.kIn ho no (fun h' tk' dx k dn dne hx hn => ?_)
  have fresh : H dx = none := I.hok.fresh dn
  have below : ∀ {b : Addr} {o : Obj}, hp.get? b = some o → b ≠ dx := fun {b o} q => Nat.ne_of_lt (Nat.lt_of_lt_of_le (Heap.lt_size q) dn)
  have off : ∀ {b : Addr}, H b = none → b ≠ a := fun {b} n z => by
    rw [z, e] at n
    exact nomatch n
  have U : Un X.fs [] H (upd (upd H dx (exd dx [(f, y)])) a (exo a C (some dx))) hp h' := by
    refine ⟨fun b o q n _ _ => k b o (off n) q, fun b o q n _ _ => ⟨o.slots, k b o (off n) q⟩, fun b o q n _ => ?_, fun b o q _ => ?_, fun b xs q => ?_, fun b o v q => ?_, fun b ps q => ?_⟩
    · rw [upd_ne (off n), upd_ne (below q)]
      exact n
    · by_cases hb : b = a
      · exact ⟨_, by rw [hb]; exact hx⟩
      · exact ⟨o, k b o hb q⟩
    · rw [upd_ne (at_ne e q exo_tup), upd_ne (ne_of_none q fresh)]
      exact q
    · rw [upd_ne (at_ne e q exo_frz), upd_ne (ne_of_none q fresh)]
      exact q
    · refine ⟨#[], ?_⟩
      rw [upd_ne (at_ne e q exo_tbl), upd_ne (ne_of_none q fresh), q]
      simp
  refine h dx _ fresh dne (I.un (t' := tk') U fun b o q => ?_)
  by_cases hb : b = a
  · subst hb
    rw [upd_same] at q
    have q2 := Option.some.inj q
    rw [← q2]
    exact exo_ok hx
  · rw [upd_ne hb] at q
    by_cases hd : b = dx
    · subst hd
      rw [upd_same] at q
      have q2 := Option.some.inj q
      rw [← q2]
      exact exd_ok hn (relO_put (fs := []) ry fun g => True.intro)
    · rw [upd_ne hd] at q
      refine (I.hok b o q).stay (fun c v hc z => k c v ?_ z) (fun c hc => ?_) (fun c xs hc => ?_)
      · cases hc with
        | inl hc =>
          rw [hc]
          exact hb
        | inr hc => exact at_ne e hc exo_own
      · rw [upd_ne (at_ne e hc exo_own), upd_ne (ne_of_none hc fresh)]
        exact hc
      · rw [upd_ne (at_ne e hc exo_tup), upd_ne (ne_of_none hc fresh)]
        exact hc
theorem ostG_old (T : EI X.K C bmB newId) (SF : StoreFacts B bmB "object.__setattr__" "object") (I : Inv X pins σ H s) (e : H a = some (exo a C (some dx))) (ed : H dx = some (exd dx fs)) (hl : fs.length ≤ 900) (no : PySem.W.findIn X.K (.ref C) f = some none) (ry : RelV y u)
    (h : ∀ s', Inv X pins σ (upd H dx (exd dx ((f, y) :: fs))) s' → Q () s') : wpAny (model X.prog X.w) A (setAttr (.ref a) f u) Q E s := by
  obtain ⟨t1, ho⟩ := exo_at I.hok e
  obtain ⟨mA, hns, rel⟩ := exd_at I.hok ed
  have hw := within_of rel
  obtain ⟨hp, g, d, t, os⟩ := s
  obtain ⟨oD, _, _, hoD, _, _⟩ := hns.count hw
  refine PySem.W.set_plain I.kIn (ox := { cls := .ref C, dict := some dx, data := .fields #[.ref t1, .none, .none, .none, .bool false, .none] }) (od := some oD) ⟨ho, rfl, rfl, hoD⟩ T.sa ?_
  refine osaG_old T SF I.kIn ho hns hw (by rw [List.length_map]; omega) no (fun h' tk' k hn => ?_)
  obtain ⟨o2, _, _, e2, _⟩ := id hn
  exact h _ (I.write (t' := tk') (x := dx) (e := dx) (o := exd dx ((f, y) :: fs)) (by rw [ed]; exact True.intro) (.inl rfl) k ⟨o2, e2⟩ (exd_ok hn (relO_put ry rel)))
end

/-- self.f = e: the first store, a later one -/
def tOstG (to te : TE) (f : Str) : TS := fun D σ H => te σ H fun y H1 => to σ H1 fun x H2 => ∃ a C : Addr, x = .ref a ∧
  ((H2 a = some (exo a C none) ∧ ∀ dx, H2 dx = none → dx ≠ a → D.nx σ (upd (upd H2 dx (exd dx [(f, y)])) a (exo a C (some dx)))) ∨
    ∃ (dx : Addr) (fs : List (Str × V)), H2 a = some (exo a C (some dx)) ∧ H2 dx = some (exd dx fs) ∧ fs.length ≤ 900 ∧ D.nx σ (upd H2 dx (exd dx ((f, y) :: fs))))

/-- the promise of __init__(self, f): self.f = f -/
def spI1 (C : Addr) (f : Str) : Sp := fun vs H Q _ => ∃ (a : Addr) (v : V), vs = [.ref a, v] ∧ H a = some (exo a C none) ∧ ∀ d, H d = none → d ≠ a → Q .non (upd (upd H d (exd d [(f, v)])) a (exo a C (some d)))
/-- .. of __init__(self, f, g): self.f = f; self.g = g -/
def spI2 (C : Addr) (f g : Str) : Sp := fun vs H Q _ => ∃ (a : Addr) (v u : V), vs = [.ref a, v, u] ∧ H a = some (exo a C none) ∧
  ∀ d, H d = none → d ≠ a → Q .non (upd (upd (upd H d (exd d [(f, v)])) a (exo a C (some d))) d (exd d [(g, u), (f, v)]))

section
variable {X : Cx} {o e : Expr} {to te : TE} {f : Str} {p' pos : Pos} {C : Addr} {bmB : List Value} {newId B : String}
/-- the store as a statement, the class known -/
theorem ps_ostG (T : EI X.K C bmB newId) (SF : StoreFacts B bmB "object.__setattr__" "object") (no : PySem.W.findIn X.K (.ref C) f = some none) (ho : PE X o to) (he : PE X e te) (hs : swapsWith e (some (.Attribute o f p')) pos.line X.env = pure false := by rfl) :
    PS X (.Assign [.Attribute o f p'] e pos) (fun D σ H => te σ H fun y H1 => to σ H1 fun x H2 => ∃ a : Addr, x = .ref a ∧
      ((H2 a = some (exo a C none) ∧ ∀ dx, H2 dx = none → dx ≠ a → D.nx σ (upd (upd H2 dx (exd dx [(f, y)])) a (exo a C (some dx)))) ∨
        ∃ (dx : Addr) (fs : List (Str × V)), H2 a = some (exo a C (some dx)) ∧ H2 dx = some (exd dx fs) ∧ fs.length ≤ 900 ∧ D.nx σ (upd H2 dx (exd dx ((f, y) :: fs))))) := by
  refine ⟨fun pins s σ H D I h => ?_⟩
  refine plainObj_wpAny_Assign_Attribute (thn (he.run pins s σ H _ I h) fun v s1 ⟨y, H1, I1, r1, q1⟩ => thn (ho.run pins s1 σ H1 _ I1 q1) fun u s2 ⟨x, H2, I2, r2, a, ex, q⟩ => ?_) hs
  rw [ex] at r2
  have eu : u = Value.ref a := r2
  rw [eu]
  cases q with
  | inl q => exact ostG_new T SF I2 q.1 no r1 fun dx s' n ne J => ⟨σ, _, J, q.2 dx n ne⟩
  | inr q =>
    obtain ⟨dx, fs, ea, ed, hl, q⟩ := q
    exact ostG_old T SF I2 ea ed hl no r1 fun s' J => ⟨σ, _, J, q⟩
end

section
variable {P : Program} {w : World} {K : Frag} {mg : Str → Option Value} {base : Heap} {C fI : Addr} {bmB : List Value} {newId B : String} {f g qual : Str} {fd : FuncData} {st : Stmt}
/-- the class's __init__ of one field keeps its promise -/
theorem fn_init1 (F : Fun K "__init__" qual st fI fd) (T : EI K C bmB newId) (SF : StoreFacts B bmB "object.__setattr__" "object") (no : PySem.W.findIn K (.ref C) f = some none) (S : FnScope ["self", f] ["self", f] (defScope st))
    {p1 p2 p3 p4 : Pos} (hb : defBody st = [.Assign [.Attribute (.Name "self" p1) f p2] (.Name f p3) p4]) (hl : (defScope st).names.lookup f = some .local) (hl2 : (defScope st).names.lookup ("self" : Str) = some .local)
    (hd : (f == ("__debug__" : Str)) = false) (hcd : (f == ("__classdict__" : Str)) = false)
    (hs : ∀ env, swapsWith (.Name f p3) (some (.Attribute (.Name "self" p1) f p2)) p4.line env = pure false) : FnOk P w K mg base CX0 1 fI fd ["self", f] (spI1 C f) := by
  refine F.ok S (fun vs H Q E h => ?_) (fun cdv A outer s H vs Q E hr h => ?_)
  · obtain ⟨a, v, rfl, _⟩ := h
    rfl
  · obtain ⟨a, v, rfl, ha, k⟩ := h
    rw [hb]
    refine ⟨_, pss_one (ps_ostG T SF no (pe_var (i := 0) rfl (Or.inl hl2)) (pe_var (i := 1) rfl (Or.inl hl) hd hcd) (hs _)), ?_⟩
    exact ⟨v, rfl, .ref a, rfl, a, rfl, Or.inl ⟨ha, fun d n ne => k d n ne⟩⟩
theorem fn_init2 (F : Fun K "__init__" qual st fI fd) (T : EI K C bmB newId) (SF : StoreFacts B bmB "object.__setattr__" "object") (no : PySem.W.findIn K (.ref C) f = some none) (no2 : PySem.W.findIn K (.ref C) g = some none) (S : FnScope ["self", f, g] ["self", f, g] (defScope st))
    {p1 p2 p3 p4 q1 q2 q3 q4 : Pos} (hb : defBody st = [.Assign [.Attribute (.Name "self" p1) f p2] (.Name f p3) p4, .Assign [.Attribute (.Name "self" q1) g q2] (.Name g q3) q4])
    (hl : (defScope st).names.lookup f = some .local) (hl2 : (defScope st).names.lookup ("self" : Str) = some .local) (hl3 : (defScope st).names.lookup g = some .local)
    (hd : (f == ("__debug__" : Str)) = false) (hcd : (f == ("__classdict__" : Str)) = false) (hd2 : (g == ("__debug__" : Str)) = false) (hcd2 : (g == ("__classdict__" : Str)) = false)
    (hs : ∀ env, swapsWith (.Name f p3) (some (.Attribute (.Name "self" p1) f p2)) p4.line env = pure false) (hs2 : ∀ env, swapsWith (.Name g q3) (some (.Attribute (.Name "self" q1) g q2)) q4.line env = pure false) :
    FnOk P w K mg base CX0 1 fI fd ["self", f, g] (spI2 C f g) := by
  refine F.ok S (fun vs H Q E h => ?_) (fun cdv A outer s H vs Q E hr h => ?_)
  · obtain ⟨a, v, u, rfl, _⟩ := h
    rfl
  · obtain ⟨a, v, u, rfl, ha, k⟩ := h
    rw [hb]
    refine ⟨_, pss_cons (ps_ostG T SF no (pe_var (i := 0) rfl (Or.inl hl2)) (pe_var (i := 1) rfl (Or.inl hl) hd hcd) (hs _))
      (pss_one (ps_ostG T SF no2 (pe_var (i := 0) rfl (Or.inl hl2)) (pe_var (i := 2) rfl (Or.inl hl3) hd2 hcd2) (hs2 _))), ?_⟩
    refine ⟨v, rfl, .ref a, rfl, a, rfl, Or.inl ⟨ha, fun d n ne => ?_⟩⟩
    refine ⟨u, rfl, .ref a, rfl, a, rfl, Or.inr ⟨d, [(f, v)], upd_same, ?_, (show 1 ≤ 900 by decide), k d n ne⟩⟩
    rw [upd_ne ne, upd_same]
end

/-! ### C(..): made, by positions, by keywords -/
/-- the reading: the new error at a -/
def tMkE (C : Addr) (n m : Nat) (sp : Sp) (gV : List V → List V → List V) (t tk : TA) : TE := fun σ H Q => t σ H fun vs H1 => tk σ H1 fun zs H2 => vs.length = n ∧ zs.length = m ∧
  ∀ a, H2 a = none → sp (gV (.ref a :: vs) zs) (upd H2 a (exo a C none)) (fun v H3 => v = .non ∧ Q (.ref a) H3) E0
section
variable {X : Cx} {k n : Nat} {fI C : Addr} {fd : FuncData} {ps ks : List Str} {sp : Sp} {x : Str} {p pos : Pos} {e : Expr} {es : List Expr} {kws : List Keyword} {t tk : TA} {g : List Value → List Value → List Value} {gV : List V → List V → List V} {bmB : List Value} {newId initId B : String}
theorem run_mkE {pins : List (Addr × Obj)} {σ : L2.St} {H : Hp} {s : Shared} {Q : VK} {us ws : List Value} {vs zs : List V} (T : EI X.K C bmB newId) (FB : ExcBaseFacts B newId initId bmB) (iC : PySem.W.findIn X.K (.ref C) "__init__" = some (some (.ref fI))) (tI : PySem.W.typeIn X.K (.ref fI) = some (.type "function"))
    (F : FnOk X.prog X.w X.K X.mg X.base CX0 k fI fd ps sp) (hr : Room (k + 1) X.A) (hb : KBn X.K fd ps (n + 1) ks g gV)
    (I : Inv X pins σ H s) (r : Vals vs us) (rz : Vals zs ws) (l1 : vs.length = n) (l2 : zs.length = ks.length) (hn : n ≤ 1000)
    (h : ∀ a, H a = none → sp (gV (.ref a :: vs) zs) (upd H a (exo a C none)) (fun v H3 => v = .non ∧ Q (.ref a) H3) E0) :
    wpAny (model X.prog X.w) X.A (call (.ref C) us (ks.zip ws)) (EP X pins σ Q) X.xe s := by
  obtain ⟨nm, N', qn, bs, bm, hdct, sn, sub, ab, col, dd, k0, k1, k2, k3, k5, hC, hT⟩ := PySem.W.excInit_of I.kIn T.q
  have KI := I.kIn
  have bound : us.length ≤ sizeLine := by
    rw [← r.length, l1, sizeLine_eq]
    omega
  obtain ⟨hp, gs, dr, tk, os⟩ := s
  have far : hp.objs.size ≤ hp.objs.size + 1 := Nat.le_succ _
  have free : H (hp.objs.size + 1) = none := I.hok.fresh far
  have hq := h (hp.objs.size + 1) free
  have up : ∀ b o, hp.get? b = some o → ((hp.push (PySem.W.kdv_tup us)).push (HandSPX.excO C hp.objs.size)).get? b = some o := fun b o z => Heap.get?_push_of_some _ (Heap.get?_push_of_some _ z)
  have here : ((hp.push (PySem.W.kdv_tup us)).push (HandSPX.excO C hp.objs.size)).get? (hp.objs.size + 1) = some (HandSPX.excO C hp.objs.size) := by heap_get
  have I2 : Inv X pins σ (upd H (hp.objs.size + 1) (exo (hp.objs.size + 1) C none)) ⟨(hp.push (PySem.W.kdv_tup us)).push (HandSPX.excO C hp.objs.size), gs, dr, tk, os⟩ :=
    I.laid (t' := tk) (a := hp.objs.size + 1) (o := exo (hp.objs.size + 1) C none) (h' := (hp.push (PySem.W.kdv_tup us)).push (HandSPX.excO C hp.objs.size)) up far (exo_ok here)
  have r2 := hb.rel (.cons (show RelV (V.ref (hp.objs.size + 1)) (Value.ref (hp.objs.size + 1)) from rfl) r) rz
  have c1 : (Value.ref (hp.objs.size + 1) :: us).length = n + 1 := by
    rw [List.length_cons, ← r.length, l1]
  have c2 : ws.length = ks.length := rz.length.symm.trans l2
  refine wpAny_call (FhX.callK_own FB hT hC (PySem.W.looks_findIn KI iC) (fun self => PySem.W.bind_fn KI self tI) bound
    (codeAny_mono (F.run _ X.stack _ _ ⟨Value.ref (hp.objs.size + 1) :: us, ks.zip ws⟩ (g (Value.ref (hp.objs.size + 1) :: us) ws) _ _ E0 (hr.make C us (ks.zip ws)) (I2.env0.make C us (ks.zip ws)) (hb.to _ (Value.ref (hp.objs.size + 1) :: us) ws I2.kIn c1 c2) r2 hq) ?_))
  intro res s' z
  match res, z with
  | .error er, z => exact (show False from z).elim
  | .ok (.ret u), z =>
    obtain ⟨v, H', I3, rv, ev, q3⟩ := I2.after z
    subst ev
    exact ⟨rv, ⟨V.ref (hp.objs.size + 1), H', I3, rfl, q3⟩⟩
theorem pe_mkE (T : EI X.K C bmB newId) (FB : ExcBaseFacts B newId initId bmB) (iC : PySem.W.findIn X.K (.ref C) "__init__" = some (some (.ref fI))) (tI : PySem.W.typeIn X.K (.ref fI) = some (.type "function"))
    (F : FnOk X.prog X.w X.K X.mg X.base CX0 k fI fd ps sp) (hr : Room (k + 1) X.A) (hb : KBn X.K fd ps (n + 1) ks g gV) (hn : n ≤ 1000) (hg : Gl X x) (hm : X.mg x = some (.ref C)) (ha : PA X (e :: es) t) (hkw : PK X kws tk)
    (hall : (backToKw pos (keywordEach kws X.env)).all (·.1.isSome) = true := by rfl) (hks : (backToKw pos (keywordEach kws X.env)).filterMap (·.1) = ks := by rfl) (hdb : (x == ("__debug__" : Str)) = false := by decide)
    (he : starEach (e :: es) X.env = (false, eval e X.env) :: starEach es X.env := by rfl) (hpl : ((backTo pos (starEach (e :: es) X.env)).any (·.1) || (backToKw pos (keywordEach kws X.env)).any (·.1.isNone)) = false := by rfl) :
    PE X (.Call (.Name x p) (e :: es) kws pos) (tMkE C n ks.length sp gV t tk) := by
  refine ⟨fun pins s σ H Q I h => ?_⟩
  refine wpAny_Call_Name_kw (ld_glob I hg hm ?_ hdb)
  refine PySem.W.callWith_KW (h₀ := X.base) I.ok.mod.kin T.kC hall (thn (ha.run pos pins s σ H _ I h) fun us s1 ⟨vs, H1, I1, r, q⟩ => ?_) hpl he
  refine thn (hkw.run pos pins s1 σ H1 _ I1 q) fun ws s2 ⟨zs, H2, I2, rz, l1, l2, q2⟩ => ⟨I2.kIn, ?_⟩
  rw [hks]
  exact run_mkE T FB iC tI F hr hb I2 r rz l1 l2 hn q2
theorem pe_mkE0 (T : EI X.K C bmB newId) (FB : ExcBaseFacts B newId initId bmB) (iC : PySem.W.findIn X.K (.ref C) "__init__" = some (some (.ref fI))) (tI : PySem.W.typeIn X.K (.ref fI) = some (.type "function"))
    (F : FnOk X.prog X.w X.K X.mg X.base CX0 k fI fd ps sp) (hr : Room (k + 1) X.A) (hb : KBn X.K fd ps 1 ks g gV) (hg : Gl X x) (hm : X.mg x = some (.ref C)) (hkw : PK X kws tk)
    (hall : (backToKw pos (keywordEach kws X.env)).all (·.1.isSome) = true := by rfl) (hks : (backToKw pos (keywordEach kws X.env)).filterMap (·.1) = ks := by rfl) (hdb : (x == ("__debug__" : Str)) = false := by decide)
    (hpl : ((backTo pos (starEach [] X.env)).any (·.1) || (backToKw pos (keywordEach kws X.env)).any (·.1.isNone)) = false := by rfl) :
    PE X (.Call (.Name x p) [] kws pos) (tMkE C 0 ks.length sp gV tNil tk) := by
  refine ⟨fun pins s σ H Q I h => ?_⟩
  refine wpAny_Call_Name_kw (ld_glob I hg hm ?_ hdb)
  refine PySem.W.callWith_KW0 (h₀ := X.base) I.ok.mod.kin T.kC hall ?_ hpl
  refine thn (hkw.run pos pins s σ H _ I h) fun ws s2 ⟨zs, H2, I2, rz, l1, l2, q2⟩ => ⟨I2.kIn, ?_⟩
  rw [hks]
  exact run_mkE (us := []) (vs := []) T FB iC tI F hr hb I2 .nil rz rfl l2 (Nat.zero_le _) q2
/-- C(), C without an __init__ of its own -/
theorem pe_mkE00 (T : EI X.K C bmB newId) (FB : ExcBaseFacts B newId initId bmB) (q : PySem.W.excIn X.K C bmB newId = true) (hg : Gl X x) (hm : X.mg x = some (.ref C)) (hdb : (x == ("__debug__" : Str)) = false := by decide) :
    PE X (.Call (.Name x p) [] [] pos) (fun _ H Q => ∀ a, H a = none → Q (.ref a) (upd H a (exo a C none))) := by
  refine ⟨fun pins s σ H Q I h => ?_⟩
  refine wpAny_Call_Name_kw (ld_glob I hg hm ?_ hdb)
  refine PySem.W.callWith_K0 I.kIn T.kC ?_
  show wpAny _ _ (call (.ref C) []) _ _ _
  obtain ⟨bm, N, nm, qn, bs, hdct, sn, sub, ab, col, dd, k0, k1, k2, k3, k5, mN, hC, hN, hni, TT⟩ := exc_obj I.kIn q
  refine wpAny_call_exc_subT FB TT hC hN hni (fun h' a hm => ?_) (Nat.zero_le _)
  have hn : H a = none := I.hok.gone hm.new
  obtain ⟨t, ht, _, _⟩ := hm.there
  exact ⟨.ref a, upd H a (exo a C none), I.laidN hm.keeps hm.new hn (exo_ok ht), rfl, h a hn⟩
end
end Fh
set_option Elab.async false
set_option linter.all false
set_option maxRecDepth 100000
set_option maxHeartbeats 4000000
namespace Fh
open PySem PySem.Spec PyProof.Rows L2
open PySem.W (Frag)

/-- an error of the class at C stands at a, with the fields fs -/
def ErrAt (H : Hp) (a C : Addr) (fs : List (Str × V)) : Prop := (fs = [] ∧ H a = some (exo a C none)) ∨ ∃ d, H a = some (exo a C (some d)) ∧ H d = some (exd d fs)
theorem ErrAt.same {H H' : Hp} {a C : Addr} {fs : List (Str × V)} (s : Same H H') (h : ErrAt H a C fs) : ErrAt H' a C fs := by
  rcases h with ⟨e, h⟩ | ⟨d, h1, h2⟩
  · exact Or.inl ⟨e, s _ _ h⟩
  · exact Or.inr ⟨d, s _ _ h1, s _ _ h2⟩
theorem ErrAt.inst {P : Program} {w : World} {H : Hp} {h : Heap} {a C : Addr} {fs : List (Str × V)} (ok : HOk P w H h) (z : ErrAt H a C fs) :
    ∃ (ox : Obj) (od : Option Obj), PySem.W.InstAt h a ox C od ∧ (∀ f v, fs.lookup f = some v → ∃ o u, od = some o ∧ PySem.W.lookIn f o = some (some u) ∧ RelV v u) := by
  rcases z with ⟨e, z⟩ | ⟨d, z1, z2⟩
  · obtain ⟨t1, ho⟩ := exo_at ok z
    refine ⟨_, none, ⟨ho, rfl, rfl, trivial⟩, fun f v l => ?_⟩
    rw [e] at l
    exact nomatch l
  · obtain ⟨t1, ho⟩ := exo_at ok z1
    obtain ⟨mA, hns, rel⟩ := exd_at ok z2
    obtain ⟨od, hod, hl⟩ := lookIn_ns hns
    refine ⟨_, some od, ⟨ho, rfl, rfl, hod⟩, fun f v l => ?_⟩
    obtain ⟨u, hu, ru⟩ := RelO.some_of (v := v) (o := mA f) (by rw [← l]; exact rel f)
    exact ⟨od, u, rfl, by rw [hl, hu], ru⟩

section
variable {K : Frag} {C D : Addr} {bmB bmD : List Value} {newId newD : String}
/-- no own class among the built-in ones -/
def NoRefs (l : List Value) : Prop := ∀ a, Value.ref a ∉ l
theorem EI.kit (T : EI K C bmB newId) (U : EI K D bmD newD) (n : NoRefs bmB) : PySem.W.kitOne K (.ref C) (.ref D) = some (decide (C = D)) := by
  unfold PySem.W.kitOne
  by_cases e : C = D
  · rw [if_pos (by simp [e]), decide_eq_true e]
  · rw [if_neg (by simp [e]), decide_eq_false e]
    obtain ⟨cd, h1, _⟩ := U.cls
    unfold PySem.W.kitCls
    show (if ((PySem.W.clsIn K D).isSome && PySem.W.typeIn K (.ref D) == some (.type "type")) = true then PySem.W.subIn K (.ref C) (.ref D) else none) = some false
    rw [if_pos (by rw [h1, U.ty]; rfl), T.sub]
    have q : ¬ (Value.ref D) ∈ (Value.ref C :: bmB) := fun z => by
      rcases List.mem_cons.mp z with y | y
      · exact e (Value.ref.inj y).symm
      · exact n D y
    have r : List.contains (Value.ref C :: bmB) (Value.ref D) = false := Bool.eq_false_iff.mpr fun z => q (List.contains_iff_mem.mp z)
    rw [r]
theorem EI.kitT (T : EI K C bmB newId) {t : String} (hm : PySem.W.kitMeta t = true) : PySem.W.kitOne K (.ref C) (.type t) = some (bmB.contains (.type t)) := by
  unfold PySem.W.kitOne
  rw [if_neg (by simp)]
  show (if PySem.W.kitMeta t = true then PySem.W.subIn K (.ref C) (.type t) else none) = _
  rw [if_pos hm, T.sub, List.contains_cons]
  rfl
end

/-- isinstance(e, c) of an own error -/
def rIsX (K : Frag) : List V → Hp → VK → Prop := fun xs H Q => ∃ (a C : Addr) (fs : List (Str × V)) (bmB : List Value) (newId : String) (c : V) (cv : Value) (b : Bool), xs = [.ref a, c] ∧ ErrAt H a C fs ∧ EI K C bmB newId ∧
  bmB.contains (.type "BaseException") = true ∧ bmB.contains (.type "object") = true ∧ ClsV c cv ∧ PySem.W.kitOne K (.ref C) cv = some b ∧ Q (.bl b) H
theorem call_isX {X : Cx} : CallR X (.builtin "isinstance") (rIsX X.K) := by
  intro pins s σ H xs us Q I r h
  obtain ⟨a, C, fs, bmB, newId, c, cv, b, rfl, ha, T, hB, hO, hc, e, q⟩ := h
  obtain ⟨u1, u2, rfl, r1, r2⟩ := vals2 r
  have e1 : u1 = Value.ref a := r1
  rw [e1, hc.eq r2]
  obtain ⟨ox, od, J, _⟩ := ha.inst I.hok
  obtain ⟨cd, hcd, _⟩ := T.cls
  exact PySem.W.kia_one (PySem.W.kitx_exc (od := od) (by rw [hcd]; rfl) T.ga T.gg (by rw [T.sub, List.contains_cons, hB, Bool.or_true]) T.cl T.hn T.ht (by rw [T.mroI, List.contains_cons, hO, Bool.or_true])) I.kIn J e (fun z => nomatch z) fun tk => ⟨.bl b, H, I.tok tk, rfl, q⟩

/-- e.f of an own error -/
def tErrF (K : Frag) (f : Str) (ta : TE) : TE := fun σ H Q => ta σ H fun x H1 => ∃ (a C : Addr) (fs : List (Str × V)) (bmB : List Value) (newId : String) (v : V), x = .ref a ∧ ErrAt H1 a C fs ∧ EI K C bmB newId ∧ bmB.contains (.type "BaseException") = true ∧
  PySem.W.findIn K (.ref C) f = some none ∧ fs.lookup f = some v ∧ Q v H1
theorem pe_errF {X : Cx} {e : Expr} {ta : TE} {f : Str} {pos : Pos} (he : PE X e ta) (hb : attributeBase e f X.env (eval e X.env) = eval e X.env := by rfl) : PE X (.Attribute e f pos) (tErrF X.K f ta) := by
  refine ⟨fun pins s σ H Q I h => attr_of hb (thn (he.run pins s σ H _ I h) fun u s1 ⟨x, H1, I1, rx, a, C, fs, bmB, newId, v, ex, ha, T, hB, no, l, q⟩ => ?_)⟩
  rw [ex] at rx
  have eu : u = Value.ref a := rx
  rw [eu]
  obtain ⟨ox, od, J, look⟩ := ha.inst I1.hok
  obtain ⟨o, u', hod, hl, ru⟩ := look f v l
  subst hod
  exact HandSPX.exc_get I1.kIn J T.ga T.gg (by rw [T.sub, List.contains_cons, hB, Bool.or_true]) (PySem.W.findObj_own T.hd no rfl hl) (handed_of ru) ⟨v, H1, I1.tok _, ru, q⟩

/-! ### a list display whose address is not that of sys.modules -/
def tLstS (t : TA) : TE := fun σ H Q => t σ H fun xs H1 => xs.length ≤ sizeLine ∧ ∀ p, H1 p = none → p ≠ sysModules → Q (.ref p) (upd H1 p (.lst xs))
theorem pe_lstS {X : Cx} {es : List Expr} {t : TA} {pos : Pos} (h : PA X es t) : PE X (.List es pos) (tLstS t) := by
  refine ⟨fun pins s σ H Q I hq => wpAny_List_spliced (thn (h.run pos pins s σ H _ I hq) fun us s1 ⟨xs, H1, I1, r, z, q⟩ => ⟨by rw [← r.length]; exact z, ?_⟩)⟩
  have new : H1 s1.heap.objs.size = none := I1.hok.fresh (Nat.le_refl _)
  have far : s1.heap.objs.size ≠ sysModules := Nat.ne_of_gt I1.big
  exact ⟨.ref s1.heap.objs.size, upd H1 s1.heap.objs.size (.lst xs), I1.laid (t' := s1.toks) (fun b u e => Heap.get?_push_of_some _ e) (Nat.le_refl _) ⟨z, us, 0, r, Heap.get?_push_size _ rfl⟩, rfl, q _ new far⟩

/-! ### a value and itself -/
def rNeSame : R2 := fun x y H Q => x = y ∧ ((∃ N d, DA N H x d ∧ SeqAt.shaped d = true ∧ PyData.eqv d d = true) ∨ ∃ a ks, x = .ref a ∧ H a = some (.dK ks)) ∧ Q (.bl false) H
theorem hits_same {A : Around} {s : Shared} {ks : List (Key × Value)} (nd : (ks.map (·.1)).Nodup) : ∀ l : List (Key × Value), (∀ p ∈ l, p ∈ ks) → PySem.W.KeqHits A s ks l true
  | [], _ => .nil
  | (k, v) :: r, h => by
    have m := h (k, v) List.mem_cons_self
    have e : valueAt ks k = some v := by
      clear h
      induction ks with
      | nil => exact nomatch m
      | cons p ks ih =>
        unfold valueAt
        rw [List.find?_cons]
        rcases List.mem_cons.mp m with z | z
        · rw [← z]
          simp
        · obtain ⟨n1, n2⟩ := List.nodup_cons.mp (show (p.1 :: ks.map (·.1)).Nodup from nd)
          have ne : ¬ p.1 = k := fun y => n1 (by rw [y]; exact List.mem_map.mpr ⟨(k, v), z, rfl⟩)
          rw [decide_eq_false ne]
          exact ih n2 z
    exact .hit e (SeqAt.EqAt.same _) (hits_same nd r fun p hp => h p (List.mem_cons_of_mem _ hp))
theorem op_neSame {X : Cx} (hu : X.A.units + 64 < cLine) : OpR X (compareOp .NotEq) rNeSame := by
  intro pins s σ H x y v u Q I rx ry h
  obtain ⟨exy, h, q⟩ := h
  subst exy
  rcases h with ⟨N, d, hd, hs, hv⟩ | ⟨a, ks, ex, ha⟩
  · obtain ⟨as, r1, _⟩ := DA.reads I.hok hd rx
    obtain ⟨bs, r2, _⟩ := DA.reads I.hok hd ry
    exact SeqAt.compareNe_shaped r1 r2 hs hs hu ⟨.bl _, H, I, rfl, by rw [hv]; exact q⟩
  · subst ex
    have e1 : v = Value.ref a := rx
    have e2 : u = Value.ref a := ry
    rw [e1, e2]
    obtain ⟨_, ya, va, ra, da⟩ := (show ObjOk X.prog X.w H s.heap a (.dK ks) from I.hok a _ ha)
    obtain ⟨o, es, ep, g1, g2, g3, g4, g5, nd⟩ := id da
    exact PySem.W.keq_ne (knd := mixKind X.prog X.w) (r := true) ya ya da da (by omega) (fun _ => hits_same nd va fun p hp => hp) ⟨.bl false, H, I, (by show Value.bool _ = Value.bool false; simp), q⟩
end Fh
set_option Elab.async false
set_option linter.all false
set_option maxRecDepth 100000
set_option maxHeartbeats 4000000
namespace Fh
open PySem PySem.Spec PyProof.Rows L2
open PySem.W (Frag)

theorem PE.imp {X : Cx} {e : Expr} {t t' : TE} (h : PE X e t) (i : ∀ σ H Q, t' σ H Q → t σ H Q) : PE X e t' := ⟨fun pins s σ H Q I q => h.run pins s σ H Q I (i σ H Q q)⟩
theorem PA.imp {X : Cx} {e : List Expr} {t t' : TA} (h : PA X e t) (i : ∀ σ H Q, t' σ H Q → t σ H Q) : PA X e t' := ⟨fun pos pins s σ H Q I q => h.run pos pins s σ H Q I (i σ H Q q)⟩
theorem PS.imp {X : Cx} {e : Stmt} {t t' : TS} (h : PS X e t) (i : ∀ D σ H, t' D σ H → t D σ H) : PS X e t' := ⟨fun pins s σ H D I q => h.run pins s σ H D I (i D σ H q)⟩
theorem Same.upd {H H' : Hp} {p : Addr} {o : HO} (s : Same H H') (n : H' p = none) : Same H (upd H' p o) := fun b u e => by
  rw [upd_ne (ne_of_none (s b u e) n)]
  exact s b u e
theorem Same.new {H : Hp} {p : Addr} {o : HO} (n : H p = none) : Same H (L2.upd H p o) := Same.upd (Same.refl H) n

/-! ### written data -/
/-- N: addresses that stand already and are kept apart -/
def Kept (N : Addr → Prop) (H : Hp) : Prop := ∀ a, N a → H a ≠ none
theorem Kept.same {N : Addr → Prop} {H H' : Hp} (k : Kept N H) (s : Same H H') : Kept N H' := fun a n z => by
  cases e : H a with
  | none => exact k a n e
  | some o =>
    rw [s a o e] at z
    exact nomatch z
theorem Kept.not {N : Addr → Prop} {H : Hp} (k : Kept N H) {p : Addr} (n : H p = none) : ¬ N p := fun z => k p z n
def tD (N : Addr → Prop) (d : PyData) : TE := fun _ H Q => Kept N H ∧ ∀ x H', Same H H' → DA N H' x d → Q x H'
def tDs (N : Addr → Prop) (ds : List PyData) : TA := fun _ H Q => Kept N H ∧ ∀ xs H', Same H H' → DAs N H' xs ds → Q xs H'
theorem DAs.length {N : Addr → Prop} {H : Hp} : ∀ {xs : List V} {ds : List PyData}, DAs N H xs ds → xs.length = ds.length
  | _, _, .nil => rfl
  | _, _, .cons _ r => congrArg Nat.succ (DAs.length r)
theorem DAs.append {N : Addr → Prop} {H : Hp} : ∀ {xs ys : List V} {ds es : List PyData}, DAs N H xs ds → DAs N H ys es → DAs N H (xs ++ ys) (ds ++ es)
  | _, _, _, _, .nil, h => h
  | _, _, _, _, .cons a r, h => .cons a (DAs.append r h)
theorem DAs.get {N : Addr → Prop} {H : Hp} : ∀ {xs : List V} {ds : List PyData}, DAs N H xs ds → ∀ {i : Nat} {x : V}, xs[i]? = some x → ∃ d, ds[i]? = some d ∧ DA N H x d
  | _, _, .nil, _, _, e => by simp at e
  | _, _, .cons a r, 0, x, e => by
    simp at e
    subst e
    exact ⟨_, rfl, a⟩
  | _, _, .cons a r, i + 1, x, e => by
    obtain ⟨d, h1, h2⟩ := DAs.get r (i := i) (x := x) (by simpa using e)
    exact ⟨d, by simpa using h1, h2⟩
section
variable {X : Cx} {e : Expr} {es : List Expr} {d : PyData} {ds : List PyData} {pos pos' pos2 : Pos} {j : Nat} {N : Addr → Prop}
theorem pd_non {j} : PE X (.Constant .none j pos) (tD N .none) := PE.imp pe_non fun σ H Q q => q.2 _ H (Same.refl H) .non
theorem pd_bl {b j} : PE X (.Constant (.bool b) j pos) (tD N (.bool b)) := PE.imp pe_bl fun σ H Q q => q.2 _ H (Same.refl H) (.bl b)
theorem pd_int {i j} : PE X (.Constant (.int i) j pos) (tD N (.int i)) := PE.imp pe_int fun σ H Q q => q.2 _ H (Same.refl H) (.int i)
theorem pd_str {x j} : PE X (.Constant (.str x) j pos) (tD N (.str x)) := PE.imp pe_str fun σ H Q q => q.2 _ H (Same.refl H) (.str x)
theorem pd_neg {i j} : PE X (.UnaryOp .USub (.Constant (.int i) j pos) pos') (tD N (.int (-i))) := PE.imp (pe_un un_neg pe_int) fun σ H Q q => ⟨i, rfl, q.2 _ H (Same.refl H) (.int _)⟩
theorem pd_pow {i j : Int} {a b} (h0 : 0 ≤ j ∧ j ≤ 1000000 ∧ i.natAbs < 2 ^ 64) : PE X (.BinOp (.Constant (.int i) a pos) .Pow (.Constant (.int j) b pos') pos2) (tD N (.int (i ^ j.toNat))) :=
  PE.imp (pe_op op_pow pe_int pe_int) fun σ H Q q => ⟨i, j, rfl, rfl, h0, q.2 _ H (Same.refl H) (.int _)⟩
theorem pds_nil : PA X [] (tDs N []) := PA.imp pa_nil fun σ H Q q => q.2 [] H (Same.refl H) .nil
theorem pds_cons (h : PE X e (tD N d)) (r : PA X es (tDs N ds)) (hs : starEach (e :: es) X.env = (false, eval e X.env) :: starEach es X.env := by rfl) : PA X (e :: es) (tDs N (d :: ds)) :=
  PA.imp (pa_cons h r hs) fun σ H Q q => ⟨q.1, fun x H1 s1 d1 => ⟨q.1.same s1, fun xs H2 s2 d2 => q.2 (x :: xs) H2 (s1.trans s2) (.cons (DA.same s2 d1) d2)⟩⟩
theorem pd_tup {x1} (h : PA X es (tDs N ds)) (hz : ds.length ≤ sizeLine := by decide) : PE X (.Tuple es x1 pos) (tD N (.tuple ds)) :=
  PE.imp (pe_tup h) fun σ H Q q => ⟨q.1, fun xs H1 s1 d1 => ⟨by rw [d1.length]; exact hz, fun p n => q.2 _ _ (Same.upd s1 n) (.tup upd_same ((q.1.same s1).not n) (DAs.same (Same.new n) d1))⟩⟩
theorem pd_lst (h : PA X es (tDs N ds)) (hz : ds.length ≤ sizeLine := by decide) : PE X (.List es pos) (tD N (.list ds)) :=
  PE.imp (pe_lstS h) fun σ H Q q => ⟨q.1, fun xs H1 s1 d1 => ⟨by rw [d1.length]; exact hz, fun p n far => q.2 _ _ (Same.upd s1 n) (.lst upd_same far ((q.1.same s1).not n) (DAs.same (Same.new n) d1))⟩⟩
theorem pd_dict0 : PE X (.Dict [] [] pos) (tD N (.dict [])) := PE.imp pe_dnewK fun σ H Q q p n => q.2 _ _ (Same.new n) (.dK upd_same (q.1.not n) .nil)
/-- {'k': a constant} -/
theorem pd_dictI {k : Str} {i : Int} {a b} : PE X (.Dict [some (.Constant (.str k) a pos)] [.Constant (.int i) b pos'] pos2) (tD N (.dict [(.str k, .int i)])) := by
  refine PE.imp (pe_disp (pps_cons pe_str pe_int pps_nil) (by rfl) (by rfl) (fun z => by cases z) (show 1 ≤ 15 by decide)) fun σ H Q q p n => ?_
  refine ⟨upd_same, [(Sum.inr k, .int i)], rfl, (show 1 ≤ 15 by decide), ?_⟩
  rw [upd_upd]
  exact q.2 _ _ (Same.new n) (.dK upd_same (q.1.not n) (.cons (k := Sum.inr k) (.int i) .nil))
/-- {'k': []} -/
theorem pd_dictL {k : Str} {a} : PE X (.Dict [some (.Constant (.str k) a pos)] [.List [] pos'] pos2) (tD N (.dict [(.str k, .list [])])) := by
  refine PE.imp (pe_disp (pps_cons pe_str (pe_lstS pa_nil) pps_nil) (by rfl) (by rfl) (fun z => by cases z) (show 1 ≤ 15 by decide)) fun σ H Q q p n => ?_
  refine ⟨by decide, fun l nl far => ?_⟩
  have pl : p ≠ l := fun z => by
    rw [← z, upd_same] at nl
    exact nomatch nl
  have hl : H l = none := by
    rw [upd_ne (Ne.symm pl)] at nl
    exact nl
  refine ⟨by rw [upd_ne pl, upd_same], [(Sum.inr k, .ref l)], rfl, (show 1 ≤ 15 by decide), ?_⟩
  refine q.2 _ _ (fun b u z => ?_) (.dK upd_same (q.1.not n) (.cons (k := Sum.inr k) (.lst (by rw [upd_ne (Ne.symm pl), upd_same]) far (q.1.not hl) .nil) .nil))
  rw [upd_ne (ne_of_none z n), upd_ne (ne_of_none z hl), upd_ne (ne_of_none z n)]
  exact z
end

/-! ### the pen of a law: its ints, its place, its rest -/
/-- a pen at p, its list at c; its place is at most n -/
structure PenAt (H : Hp) (p c : Addr) (n : Nat) : Prop where
  pc : p ≠ c
  ex : ∃ (cs : List Int) (spot rest : Int), H p = some (.dK [(Sum.inr "cells", .ref c), (Sum.inr "spot", .int spot), (Sum.inr "rest", .int rest)]) ∧ H c = some (.lst (cs.map V.int)) ∧ cs.length ≤ 1000 ∧ 0 ≤ spot ∧ spot ≤ n
/-- all but p stays -/
def But (p : Addr) (H H' : Hp) : Prop := ∀ b o, b ≠ p → H b = some o → H' b = some o
theorem But.refl (p : Addr) (H : Hp) : But p H H := fun _ _ _ h => h
theorem But.trans {p : Addr} {H H1 H2 : Hp} (a : But p H H1) (b : But p H1 H2) : But p H H2 := fun x o n h => b x o n (a x o n h)
theorem But.of {p : Addr} {H H1 : Hp} (a : Same H H1) : But p H H1 := fun x o _ h => a x o h
theorem But.upd {p : Addr} {H H1 : Hp} {u : HO} (a : But p H H1) : But p H (L2.upd H1 p u) := fun x o n h => by
  rw [upd_ne n]
  exact a x o n h
theorem PenAt.same {H H' : Hp} {p c : Addr} {n m : Nat} (s : Same H H') (h : PenAt H p c n) (hm : n ≤ m) : PenAt H' p c m := by
  obtain ⟨a, cs, spot, rest, h1, h2, h3, h4, h5⟩ := h
  exact ⟨a, cs, spot, rest, s _ _ h1, s _ _ h2, h3, h4, by omega⟩
mutual
theorem DA.but {N : Addr → Prop} {p : Addr} {H H' : Hp} (s : But p H H') (hp : N p) : ∀ {v : V} {d : PyData}, DA N H v d → DA N H' v d
  | _, _, .non => .non
  | _, _, .bl b => .bl b
  | _, _, .int i => .int i
  | _, _, .str x => .str x
  | _, _, .lst h n m r => .lst (s _ _ (fun z => m (z ▸ hp)) h) n m (DAs.but s hp r)
  | _, _, .tup h m r => .tup (s _ _ (fun z => m (z ▸ hp)) h) m (DAs.but s hp r)
  | _, _, .dK h m r => .dK (s _ _ (fun z => m (z ▸ hp)) h) m (DKs.but s hp r)
theorem DAs.but {N : Addr → Prop} {p : Addr} {H H' : Hp} (s : But p H H') (hp : N p) : ∀ {v : List V} {d : List PyData}, DAs N H v d → DAs N H' v d
  | _, _, .nil => .nil
  | _, _, .cons h r => .cons (DA.but s hp h) (DAs.but s hp r)
theorem DKs.but {N : Addr → Prop} {p : Addr} {H H' : Hp} (s : But p H H') (hp : N p) : ∀ {v : List (Key × V)} {d : List (PyData × PyData)}, DKs N H v d → DKs N H' v d
  | _, _, .nil => .nil
  | _, _, .cons h r => .cons (DA.but s hp h) (DKs.but s hp r)
end
end Fh
set_option Elab.async false
set_option linter.all false
set_option maxRecDepth 100000
set_option maxHeartbeats 4000000
namespace Fh
open PySem PySem.Spec PyProof.Rows L2
open PySem.W (Frag)

/-! ### a pen's pairs -/
def penKV (c : Addr) (s r : Int) : List (Key × V) := [(Sum.inr "cells", .ref c), (Sum.inr "spot", .int s), (Sum.inr "rest", .int r)]
theorem pen_cells {c : Addr} {s r : Int} : valV (penKV c s r) (Sum.inr "cells" : Key) = some (.ref c) := by
  first
    | rfl
    | simp [penKV, valV]
theorem pen_spot {c : Addr} {s r : Int} : valV (penKV c s r) (Sum.inr "spot" : Key) = some (.int s) := by
  first
    | rfl
    | simp [penKV, valV]
theorem pen_rest {c : Addr} {s r : Int} : valV (penKV c s r) (Sum.inr "rest" : Key) = some (.int r) := by
  first
    | rfl
    | simp [penKV, valV]
theorem put_spot {c : Addr} {s r z : Int} : putK (penKV c s r) (Sum.inr "spot" : Key) (.int z) = penKV c z r := by
  first
    | rfl
    | simp [penKV, putK]
theorem put_rest {c : Addr} {s r z : Int} : putK (penKV c s r) (Sum.inr "rest" : Key) (.int z) = penKV c s z := by
  first
    | rfl
    | simp [penKV, putK]
/-- a pen stands at p, its list at c; its place is s, its rest r -/
structure PenS (H : Hp) (p c : Addr) (cs : List Int) (s r : Int) : Prop where
  pc : p ≠ c
  hp : H p = some (.dK (penKV c s r))
  hc : H c = some (.lst (cs.map V.int))
  hl : cs.length ≤ 1000
theorem PenAt.open {H : Hp} {p c : Addr} {n : Nat} (h : PenAt H p c n) : ∃ cs s r, PenS H p c cs s r ∧ 0 ≤ s ∧ s ≤ n := by
  obtain ⟨a, cs, s, r, h1, h2, h3, h4, h5⟩ := h
  exact ⟨cs, s, r, ⟨a, h1, h2, h3⟩, h4, h5⟩
theorem PenS.at_ {H : Hp} {p c : Addr} {cs : List Int} {s r : Int} {n : Nat} (h : PenS H p c cs s r) (h0 : 0 ≤ s) (h1 : s ≤ n) : PenAt H p c n := ⟨h.pc, cs, s, r, h.hp, h.hc, h.hl, h0, h1⟩
theorem PenS.put {H : Hp} {p c : Addr} {cs : List Int} {s r s' r' : Int} (h : PenS H p c cs s r) : PenS (upd H p (.dK (penKV c s' r'))) p c cs s' r' :=
  ⟨h.pc, upd_same, by rw [upd_ne (Ne.symm h.pc)]; exact h.hc, h.hl⟩
theorem PenS.same {H H' : Hp} {p c : Addr} {cs : List Int} {s r : Int} (h : PenS H p c cs s r) (z : Same H H') : PenS H' p c cs s r := ⟨h.pc, z _ _ h.hp, z _ _ h.hc, h.hl⟩

section
variable {X : Cx} {o i : Expr} {x : Str} {p1 p2 p3 : Pos} {a k : Nat}
/-- pen['rest'], pen['spot'], pen['cells']: the pen's name stands in the slot k -/
def tPenV (g : Addr → Int → Int → V) (k : Nat) : TE := fun σ H Q => ∃ p c cs s r, σ[k]? = some (some (V.ref p)) ∧ PenS H p c cs s r ∧ Q (g c s r) H
theorem pe_rest (hu : X.A.units + 1 < cLine) (ho : PE X o (tVar k)) : PE X (.Subscript o (.Constant (.str "rest") a p2) p3) (tPenV (fun _ _ r => .int r) k) :=
  PE.imp (pe_dget hu ho pe_str (fun _ _ => rfl)) fun σ H Q ⟨p, c, cs, s, r, h1, h2, q⟩ => ⟨_, h1, p, _, rfl, by rw [← pen_rest (c := c) (s := s) (r := r)]; exact DGet.k (k := Sum.inr "rest") h2.hp, q⟩
theorem pe_spot (hu : X.A.units + 1 < cLine) (ho : PE X o (tVar k)) : PE X (.Subscript o (.Constant (.str "spot") a p2) p3) (tPenV (fun _ s _ => .int s) k) :=
  PE.imp (pe_dget hu ho pe_str (fun _ _ => rfl)) fun σ H Q ⟨p, c, cs, s, r, h1, h2, q⟩ => ⟨_, h1, p, _, rfl, by rw [← pen_spot (c := c) (s := s) (r := r)]; exact DGet.k (k := Sum.inr "spot") h2.hp, q⟩
theorem pe_cells (hu : X.A.units + 1 < cLine) (ho : PE X o (tVar k)) : PE X (.Subscript o (.Constant (.str "cells") a p2) p3) (tPenV (fun c _ _ => .ref c) k) :=
  PE.imp (pe_dget hu ho pe_str (fun _ _ => rfl)) fun σ H Q ⟨p, c, cs, s, r, h1, h2, q⟩ => ⟨_, h1, p, _, rfl, by rw [← pen_cells (c := c) (s := s) (r := r)]; exact DGet.k (k := Sum.inr "cells") h2.hp, q⟩
/-- int(e), an int -/
def tIntOf (te : TE) : TE := fun σ H Q => te σ H fun v H1 => ∃ n : Int, v = .int n ∧ Q v H1
end

theorem fm_lo (z b : Int) (h0 : 0 < b) (h1 : b < 2 ^ 64) : -(2 ^ 64) < z.fmod b ∧ z.fmod b < 2 ^ 64 := by
  have l := Int.fmod_nonneg_of_pos z h0
  have u := Int.fmod_lt_of_pos z h0
  omega
/-- the statement that takes a cell of the script, if there is one -/
def tCellIf : TS := fun D σ H => ∃ (p c : Addr) (cs : List Int) (z y re sz : Int) (m : V) (dg mx : Option V), σ = [some (.ref p), some m, dg, some (.int z), some (.int y), mx] ∧ PenS H p c cs sz re ∧ 0 ≤ z ∧
  ∀ (cell : Int) (H' : Hp), Same H H' → D.nx [some (.ref p), some m, dg, some (.int z), some (.int cell), mx] H'
/-! ### what a draw promises -/
def spDraw : Sp := fun vs H Q _ => ∃ (p c : Addr) (n : Nat) (m : Int), vs = [.ref p, .int m] ∧ PenAt H p c n ∧ n ≤ 1000000 ∧ 1 ≤ m ∧ m ≤ 1000000 ∧
  ∀ (k : Int) (H' : Hp), 0 ≤ k → k < m → PenAt H' p c (n + 1) → But p H H' → Q (.int k) H'
/-- items[draw]: an item of a list -/
def spPick (K : Frag) : Sp := fun vs H Q _ => ∃ (p c : Addr) (n : Nat) (l : Addr) (xs : List V), vs = [.ref p, .ref l] ∧ PenAt H p c n ∧ n ≤ 1000000 ∧ H l = some (.lst xs) ∧ 1 ≤ xs.length ∧ xs.length ≤ 1000 ∧
  ∀ (i : Nat) (x : V) (H' : Hp), xs[i]? = some x → PenAt H' p c (n + 1) → But p H H' → Q x H'
/-- the script's pen -/
def spPen (K : Frag) : Sp := fun vs H Q _ => ∃ (a : Addr) (ns : List Int), vs = [.ref a] ∧ SqL K H a (ns.map V.int) ∧ ns.length ≤ 63 ∧
  ∀ (p c : Addr) (H' : Hp), Same H H' → H p = none → PenAt H' p c 0 → Q (.ref p) H'
theorem dp_ints {K : Frag} {H : Hp} : ∀ cs : List Int, DpAll K H (cs.map V.int) (cs.map PyData.int)
  | [] => .nil
  | z :: cs => .cons (.int z) (dp_ints cs)
theorem lay_ints : ∀ cs : List Int, PyData.canLayAll0 (cs.map PyData.int) = true
  | [] => rfl
  | z :: cs => by
    show (PyData.canLay0 (.int z) && PyData.canLayAll0 (cs.map PyData.int)) = true
    rw [lay_ints cs]
    rfl
theorem depth_ints : ∀ cs : List Int, PyData.depthAll (cs.map PyData.int) ≤ 1
  | [] => by
    show PyData.depthAll [] ≤ 1
    simp [PyData.depthAll]
  | z :: cs => by
    have h := depth_ints cs
    simp only [List.map_cons, PyData.depthAll, PyData.depth]
    omega
theorem shaped_ints (cs : List Int) : SeqAt.shaped (.list (cs.map PyData.int)) = true := by
  have h1 := lay_ints cs
  have h2 := depth_ints cs
  have h3 : PyData.depth (.list (cs.map PyData.int)) ≤ 64 := by
    simp only [PyData.depth]
    omega
  unfold SeqAt.shaped
  rw [decide_eq_true h3, Bool.and_true]
  simpa [PyData.canLay0] using h1
theorem int_map_get {cs : List Int} {i : Nat} (h : i < cs.length) : (cs.map V.int)[i]? = some (.int cs[i]) := by
  rw [List.getElem?_map, List.getElem?_eq_getElem h]
  rfl
/-- slices at a start of 0 keep ints -/
theorem cut_ints (ns : List Int) (lo hi : Option Int) : ∃ ms : List Int, cutV (ns.map V.int) lo hi = ms.map V.int ∧ ms.length ≤ ns.length := by
  unfold cutV
  refine ⟨(ns.drop (HT.sIx (ns.map V.int).length 0 lo)).take (HT.sIx (ns.map V.int).length (ns.map V.int).length hi - HT.sIx (ns.map V.int).length 0 lo), ?_, ?_⟩
  · rw [List.map_take, List.map_drop]
  · rw [List.length_take, List.length_drop]
    omega
end Fh
set_option Elab.async false
set_option linter.all false
set_option maxRecDepth 100000
set_option maxHeartbeats 4000000
namespace Fh
open PySem PySem.Spec PyProof.Rows L2
open PySem.W (Frag)

/-! ### the four built-in classes below which a package's errors stand -/
inductive BK where
  | ve | le | oe | re
  deriving DecidableEq
def BK.nm : BK → String
  | .ve => "ValueError"
  | .le => "LookupError"
  | .oe => "OverflowError"
  | .re => "RuntimeError"
def BK.nw : BK → String
  | .ve => "ValueError.__new__"
  | .le => "LookupError.__new__"
  | .oe => "OverflowError.__new__"
  | .re => "RuntimeError.__new__"
def BK.ni : BK → String
  | .ve => "ValueError.__init__"
  | .le => "LookupError.__init__"
  | .oe => "OverflowError.__init__"
  | .re => "RuntimeError.__init__"
def BK.bm : BK → List Value
  | .oe => [.type "OverflowError", .type "ArithmeticError", .type "Exception", .type "BaseException", .type "object"]
  | b => [.type b.nm, .type "Exception", .type "BaseException", .type "object"]
def BK.no : BK → Int
  | .ve => 0
  | .le => 1
  | .oe => 2
  | .re => 3
theorem BK.fb : ∀ b : BK, ExcBaseFacts b.nm b.nw b.ni b.bm
  | .ve => PySem.F.excBase_ValueError
  | .le => PySem.F.excBase_LookupError
  | .oe => PySem.F.excBase_OverflowError
  | .re => PySem.F.excBase_RuntimeError
theorem BK.sf : ∀ b : BK, StoreFacts b.nm b.bm "object.__setattr__" "object"
  | .ve => PySem.F.store_ValueError
  | .le => PySem.F.store_LookupError
  | .oe => PySem.F.store_OverflowError
  | .re => PySem.F.store_RuntimeError
theorem BK.hB : ∀ b : BK, b.bm.contains (.type "BaseException") = true
  | .ve => by decide +kernel
  | .le => by decide +kernel
  | .oe => by decide +kernel
  | .re => by decide +kernel
theorem BK.hO : ∀ b : BK, b.bm.contains (.type "object") = true
  | .ve => by decide +kernel
  | .le => by decide +kernel
  | .oe => by decide +kernel
  | .re => by decide +kernel
theorem BK.noR : ∀ b : BK, NoRefs b.bm := fun b a h => by
  cases b <;> simp [BK.bm, BK.nm] at h
abbrev EK (K : Frag) (C : Addr) (b : BK) : Prop := EI K C b.bm b.nw

/-! ### a class of one field -/
structure Ok1 (K : Frag) (mg : Str → Option Value) (nm : Str) (b : BK) (f : Str) (C fI : Addr) : Prop where
  ei : EK K C b
  gC : mg nm = some (.ref C)
  iC : PySem.W.findIn K (.ref C) "__init__" = some (some (.ref fI))
  tI : PySem.W.typeIn K (.ref fI) = some (.type "function")
  no : PySem.W.findIn K (.ref C) f = some none
  fn : ∃ fd, (∀ (P : Program) (w : World) (base : Heap), FnOk P w K mg base CX0 1 fI fd ["self", f] (spI1 C f)) ∧
    KBn K fd ["self", f] 2 [] (fun us _ => us) (fun vs _ => vs) ∧ KBn K fd ["self", f] 1 [f] (fun us ws => us ++ ws) (fun vs zs => vs ++ zs)
structure Ok2 (K : Frag) (mg : Str → Option Value) (nm : Str) (b : BK) (f g : Str) (C fI : Addr) : Prop where
  ei : EK K C b
  gC : mg nm = some (.ref C)
  iC : PySem.W.findIn K (.ref C) "__init__" = some (some (.ref fI))
  tI : PySem.W.typeIn K (.ref fI) = some (.type "function")
  no : PySem.W.findIn K (.ref C) f = some none
  no2 : PySem.W.findIn K (.ref C) g = some none
  fn : ∃ fd, (∀ (P : Program) (w : World) (base : Heap), FnOk P w K mg base CX0 1 fI fd ["self", f, g] (spI2 C f g)) ∧
    KBn K fd ["self", f, g] 3 [] (fun us _ => us) (fun vs _ => vs) ∧ KBn K fd ["self", f, g] 1 [g, f] (fun us ws => us ++ ws.reverse) (fun vs zs => vs ++ zs.reverse)
structure Ok0 (K : Frag) (mg : Str → Option Value) (nm : Str) (b : BK) (C : Addr) : Prop where
  ei : EK K C b
  gC : mg nm = some (.ref C)
  ex : PySem.W.excIn K C b.bm b.nw = true
theorem Vals.reverse {xs : List V} {us : List Value} (r : Vals xs us) : Vals xs.reverse us.reverse := by
  induction r with
  | nil => exact .nil
  | cons h _ ih =>
    rw [List.reverse_cons, List.reverse_cons]
    exact ih.append (.cons h .nil)
section
variable {K : Frag} {mg : Str → Option Value} {nm f g qual : Str} {b : BK} {C fI : Addr} {st : Stmt} {fd : FuncData} {p1 p2 p3 p4 q1 q2 q3 q4 : Pos}
theorem ok1_of (ei : EK K C b) (gC : mg nm = some (.ref C)) (iC : PySem.W.findIn K (.ref C) "__init__" = some (some (.ref fI))) (tI : PySem.W.typeIn K (.ref fI) = some (.type "function")) (no : PySem.W.findIn K (.ref C) f = some none)
    (F : Fun K "__init__" qual st fI fd) (S : FnScope ["self", f] ["self", f] (defScope st)) (hb : defBody st = [.Assign [.Attribute (.Name "self" p1) f p2] (.Name f p3) p4])
    (hl : (defScope st).names.lookup f = some .local) (hl2 : (defScope st).names.lookup ("self" : Str) = some .local) (hd : (f == ("__debug__" : Str)) = false) (hcd : (f == ("__classdict__" : Str)) = false)
    (hs : ∀ env, swapsWith (.Name f p3) (some (.Attribute (.Name "self" p1) f p2)) p4.line env = pure false)
    (h0 : ∀ (kV doc pm : Value) (an : Option Addr) (cdv ct x y : Value), bindArgs (PySem.W.fnOf "__init__" qual (defArgs st) (defBody st) (defScope st) .none kV doc pm an cdv ct) ⟨[x, y], []⟩ = pure [(("self" : Str), x), (f, y)])
    (h1 : ∀ (kV doc pm : Value) (an : Option Addr) (cdv ct x y : Value), bindArgs (PySem.W.fnOf "__init__" qual (defArgs st) (defBody st) (defScope st) .none kV doc pm an cdv ct) ⟨[x], [(f, y)]⟩ = pure [(("self" : Str), x), (f, y)]) :
    Ok1 K mg nm b f C fI := by
  refine ⟨ei, gC, iC, tI, no, fd, fun P w base => fn_init1 F ei b.sf no S hb hl hl2 hd hcd hs, ⟨fun s us ws _ l1 l2 => ?_, fun r _ => r⟩, ⟨fun s us ws _ l1 l2 => ?_, fun r z => r.append z⟩⟩
  · obtain ⟨oc, od, kV, doc, pm, an, cdv, ct, osl, rfl, _, _⟩ := F.ex
    match us, ws, l1, l2 with
    | [x, y], [], _, _ => exact .of_eq (h0 kV doc pm an cdv ct x y)
  · obtain ⟨oc, od, kV, doc, pm, an, cdv, ct, osl, rfl, _, _⟩ := F.ex
    match us, ws, l1, l2 with
    | [x], [y], _, _ => exact .of_eq (h1 kV doc pm an cdv ct x y)
theorem ok2_of (ei : EK K C b) (gC : mg nm = some (.ref C)) (iC : PySem.W.findIn K (.ref C) "__init__" = some (some (.ref fI))) (tI : PySem.W.typeIn K (.ref fI) = some (.type "function")) (no : PySem.W.findIn K (.ref C) f = some none) (no2 : PySem.W.findIn K (.ref C) g = some none)
    (F : Fun K "__init__" qual st fI fd) (S : FnScope ["self", f, g] ["self", f, g] (defScope st)) (hb : defBody st = [.Assign [.Attribute (.Name "self" p1) f p2] (.Name f p3) p4, .Assign [.Attribute (.Name "self" q1) g q2] (.Name g q3) q4])
    (hl : (defScope st).names.lookup f = some .local) (hl2 : (defScope st).names.lookup ("self" : Str) = some .local) (hl3 : (defScope st).names.lookup g = some .local)
    (hd : (f == ("__debug__" : Str)) = false) (hcd : (f == ("__classdict__" : Str)) = false) (hd2 : (g == ("__debug__" : Str)) = false) (hcd2 : (g == ("__classdict__" : Str)) = false)
    (hs : ∀ env, swapsWith (.Name f p3) (some (.Attribute (.Name "self" p1) f p2)) p4.line env = pure false) (hs2 : ∀ env, swapsWith (.Name g q3) (some (.Attribute (.Name "self" q1) g q2)) q4.line env = pure false)
    (h0 : ∀ (kV doc pm : Value) (an : Option Addr) (cdv ct x y z : Value), bindArgs (PySem.W.fnOf "__init__" qual (defArgs st) (defBody st) (defScope st) .none kV doc pm an cdv ct) ⟨[x, y, z], []⟩ = pure [(("self" : Str), x), (f, y), (g, z)])
    (h1 : ∀ (kV doc pm : Value) (an : Option Addr) (cdv ct x y z : Value), bindArgs (PySem.W.fnOf "__init__" qual (defArgs st) (defBody st) (defScope st) .none kV doc pm an cdv ct) ⟨[x], [(g, z), (f, y)]⟩ = pure [(("self" : Str), x), (f, y), (g, z)]) :
    Ok2 K mg nm b f g C fI := by
  refine ⟨ei, gC, iC, tI, no, no2, fd, fun P w base => fn_init2 F ei b.sf no no2 S hb hl hl2 hl3 hd hcd hd2 hcd2 hs hs2, ⟨fun s us ws _ l1 l2 => ?_, fun r _ => r⟩, ⟨fun s us ws _ l1 l2 => ?_, fun r z => r.append z.reverse⟩⟩
  · obtain ⟨oc, od, kV, doc, pm, an, cdv, ct, osl, rfl, _, _⟩ := F.ex
    match us, ws, l1, l2 with
    | [x, y, z], [], _, _ => exact .of_eq (h0 kV doc pm an cdv ct x y z)
  · obtain ⟨oc, od, kV, doc, pm, an, cdv, ct, osl, rfl, _, _⟩ := F.ex
    match us, ws, l1, l2 with
    | [x], [z, y], _, _ => exact .of_eq (h1 kV doc pm an cdv ct x y z)
end

/-! ### a new error and its dict in the heap -/
theorem err_made {H : Hp} {a d C : Addr} {fs fs' : List (Str × V)} (na : H a = none) (nd : upd H a (exo a C none) d = none) (ne : d ≠ a) :
    Same H (upd (upd (upd H a (exo a C none)) d (exd d fs)) a (exo a C (some d))) ∧ ErrAt (upd (upd (upd H a (exo a C none)) d (exd d fs)) a (exo a C (some d))) a C fs ∧
    Same H (upd (upd (upd (upd H a (exo a C none)) d (exd d fs)) a (exo a C (some d))) d (exd d fs')) ∧ ErrAt (upd (upd (upd (upd H a (exo a C none)) d (exd d fs)) a (exo a C (some d))) d (exd d fs')) a C fs' := by
  have hd : H d = none := by
    rw [upd_ne ne] at nd
    exact nd
  refine ⟨fun b o z => ?_, Or.inr ⟨d, upd_same, by rw [upd_ne ne, upd_same]⟩, fun b o z => ?_, Or.inr ⟨d, by rw [upd_ne (Ne.symm ne), upd_same], upd_same⟩⟩
  · rw [upd_ne (ne_of_none z na), upd_ne (ne_of_none z hd), upd_ne (ne_of_none z na)]
    exact z
  · rw [upd_ne (ne_of_none z hd), upd_ne (ne_of_none z na), upd_ne (ne_of_none z hd), upd_ne (ne_of_none z na)]
    exact z

/-! ### (C(v), C(f=v)) -/
def tPair (C : Addr) (f : Str) : TE := fun σ H Q => ∃ v, σ[0]? = some (some v) ∧ ∀ p a b H', Same H H' → H' p = some (.tup [.ref a, .ref b]) → ErrAt H' a C [(f, v)] → ErrAt H' b C [(f, v)] → Q (.ref p) H'
section
variable {X : Cx} {nm f o : Str} {b : BK} {C fI : Addr} {p1 p2 q1 q2 r1 r2 kp pos : Pos} {x1 : _}
theorem pe_pair (O : Ok1 X.K X.mg nm b f C fI) (hr : Room 2 X.A) (hg : Gl X nm) (v1 : PE X (.Name o q1) (tVar 0)) (v2 : PE X (.Name o q2) (tVar 0)) (hdb : (nm == ("__debug__" : Str)) = false := by decide)
    (hs : starEach [Expr.Name o q1] X.env = (false, eval (.Name o q1) X.env) :: starEach [] X.env := by rfl) (hall : (backToKw r2 (keywordEach [⟨some f, .Name o q2, kp⟩] X.env)).all (·.1.isSome) = true := by rfl)
    (hks : (backToKw r2 (keywordEach [⟨some f, .Name o q2, kp⟩] X.env)).filterMap (·.1) = [f] := by rfl)
    (hst : starEach [Expr.Call (.Name nm p1) [.Name o q1] [] r1, .Call (.Name nm p2) [] [⟨some f, .Name o q2, kp⟩] r2] X.env = (false, eval (.Call (.Name nm p1) [.Name o q1] [] r1) X.env) :: starEach [.Call (.Name nm p2) [] [⟨some f, .Name o q2, kp⟩] r2] X.env := by rfl)
    (hst2 : starEach [Expr.Call (.Name nm p2) [] [⟨some f, .Name o q2, kp⟩] r2] X.env = (false, eval (.Call (.Name nm p2) [] [⟨some f, .Name o q2, kp⟩] r2) X.env) :: starEach [] X.env := by rfl) :
    PE X (.Tuple [.Call (.Name nm p1) [.Name o q1] [] r1, .Call (.Name nm p2) [] [⟨some f, .Name o q2, kp⟩] r2] x1 pos) (tPair C f) := by
  obtain ⟨fd, F, k0, k1⟩ := O.fn
  have G := F X.prog X.w X.base
  refine PE.imp (pe_tup (pa_cons (pe_mkE (n := 1) O.ei b.fb O.iC O.tI G hr k0 (by decide) hg O.gC (pa_cons v1 pa_nil hs) pk_nil rfl rfl hdb hs rfl)
    (pa_cons (pe_mkE0 O.ei b.fb O.iC O.tI G hr k1 hg O.gC (pk_cons v2 pk_nil) hall hks hdb rfl) pa_nil hst2) hst)) fun σ H Q ⟨v, hv, q⟩ => ?_
  refine ⟨v, hv, rfl, rfl, fun a na => ⟨a, v, rfl, upd_same, fun d nd ne => ⟨rfl, ?_⟩⟩⟩
  obtain ⟨s1, e1, _, _⟩ := err_made (C := C) (fs := [(f, v)]) (fs' := []) na nd ne
  generalize upd (upd (upd H a (exo a C none)) d (exd d [(f, v)])) a (exo a C (some d)) = H1 at s1 e1 ⊢
  refine ⟨v, hv, rfl, rfl, fun a2 na2 => ⟨a2, v, rfl, upd_same, fun d2 nd2 ne2 => ⟨rfl, ?_⟩⟩⟩
  obtain ⟨s2, e2, _, _⟩ := err_made (C := C) (fs := [(f, v)]) (fs' := []) na2 nd2 ne2
  generalize upd (upd (upd H1 a2 (exo a2 C none)) d2 (exd d2 [(f, v)])) a2 (exo a2 C (some d2)) = H2 at s2 e2 ⊢
  refine ⟨(show 2 ≤ sizeLine by decide), fun p np => q p a a2 _ (Same.upd (s1.trans s2) np) upd_same ((e1.same s2).same (Same.new np)) (e2.same (Same.new np))⟩
end

/-! ### isinstance(e, C) by the classes' places -/
/-- e stands in slot 0, an error of a class at C -/
def Err0 (K : Frag) (σ : L2.St) (H : Hp) (C : Addr) (b : BK) : Prop := ∃ a fs, σ[0]? = some (some (V.ref a)) ∧ ErrAt H a C fs ∧ EK K C b
def tIs (K : Frag) (D : Addr) : TE := fun σ H Q => ∃ C b, Err0 K σ H C b ∧ Q (.bl (decide (C = D))) H
def tIss (K : Frag) (Ds : List Addr) : TA := fun σ H Q => ∃ C b, Err0 K σ H C b ∧ Q (Ds.map fun D => .bl (decide (C = D))) H
section
variable {X : Cx} {nm o : Str} {b : BK} {D : Addr} {Ds : List Addr} {p1 p2 p3 q1 pos : Pos} {e : Expr} {es : List Expr}
theorem pe_is (ei : EK X.K D b) (gD : X.mg nm = some (.ref D)) (hi : X.mg "isinstance" = none) (hg : Gl X nm) (hg2 : Gl X "isinstance") (v0 : PE X (.Name o q1) (tVar 0)) (hdb : (nm == ("__debug__" : Str)) = false := by decide)
    (hs : starEach [Expr.Name o q1, .Name nm p2] X.env = (false, eval (.Name o q1) X.env) :: starEach [.Name nm p2] X.env := by rfl) (hs2 : starEach [Expr.Name nm p2] X.env = (false, eval (.Name nm p2) X.env) :: starEach [] X.env := by rfl) :
    PE X (.Call (.Name "isinstance" p1) [.Name o q1, .Name nm p2] [] p3) (tIs X.K D) :=
  PE.imp (pe_callB call_isX hg2 hi (by decide +kernel) (pa_cons v0 (pa_cons (pe_glob (v := .ref D) hg gD rfl hdb) pa_nil hs2) hs) (he := hs)) fun σ H Q ⟨C, b', ⟨a, fs, h0, h1, h2⟩, q⟩ =>
    ⟨_, h0, a, C, fs, _, _, .ref D, _, _, rfl, h1, h2, b'.hB, b'.hO, .own D, h2.kit ei b'.noR, q⟩
theorem pis_nil : PA X [] (tIss X.K []) := PA.imp pa_nil fun σ H Q ⟨_, _, _, q⟩ => q
theorem pis_cons (h : PE X e (tIs X.K D)) (r : PA X es (tIss X.K Ds)) (hs : starEach (e :: es) X.env = (false, eval e X.env) :: starEach es X.env := by rfl) : PA X (e :: es) (tIss X.K (D :: Ds)) :=
  PA.imp (pa_cons h r hs) fun σ H Q ⟨C, b, h0, q⟩ => ⟨C, b, h0, C, b, h0, q⟩
/-- .. of a built-in class -/
theorem pe_isT {t : String} (hm : PySem.W.kitMeta t = true) (hi : X.mg "isinstance" = none) (hn : X.mg nm = none) (hb : bootBuiltins nm = some (.type t)) (hg : Gl X nm) (hg2 : Gl X "isinstance") (v0 : PE X (.Name o q1) (tVar 0)) (hdb : (nm == ("__debug__" : Str)) = false := by decide)
    (hnn : nm ≠ "__name__" := by decide) (hs : starEach [Expr.Name o q1, .Name nm p2] X.env = (false, eval (.Name o q1) X.env) :: starEach [.Name nm p2] X.env := by rfl) (hs2 : starEach [Expr.Name nm p2] X.env = (false, eval (.Name nm p2) X.env) :: starEach [] X.env := by rfl) :
    PE X (.Call (.Name "isinstance" p1) [.Name o q1, .Name nm p2] [] p3) (fun σ H Q => ∃ C b, Err0 X.K σ H C b ∧ Q (.bl (b.bm.contains (.type t))) H) :=
  PE.imp (pe_callB call_isX hg2 hi (by decide +kernel) (pa_cons v0 (pa_cons (pe_bltn (v := .ty t) hg hn hb rfl hnn hdb) pa_nil hs2) hs) (he := hs)) fun σ H Q ⟨C, b', ⟨a, fs, h0, h1, h2⟩, q⟩ =>
    ⟨_, h0, a, C, fs, _, _, .ty t, _, _, rfl, h1, h2, b'.hB, b'.hO, .ty t, h2.kitT hm, q⟩
end
end Fh
set_option Elab.async false
set_option linter.all false
set_option maxRecDepth 100000
set_option maxHeartbeats 4000000
namespace Fh
open PySem PySem.Spec PyProof.Rows L2
open PySem.W (Frag)

/-! ### found = found + [..] -/
def tGrowI (K : Frag) (Ds : List Addr) : TS := fun D σ H => ∃ (C : Addr) (b : BK) (a l : Addr) (fs : List (Str × V)) (xs : List V), σ = [some (.ref a), some (.ref l)] ∧ ErrAt H a C fs ∧ EK K C b ∧ H l = some (.lst xs) ∧ xs.length + Ds.length ≤ 1000 ∧
  ∀ l' H', Same H H' → H' l' = some (.lst (xs ++ Ds.map fun D => .bl (decide (C = D)))) → D.nx [some (.ref a), some (.ref l')] H'
theorem grow_I {K : Frag} {Ds : List Addr} (D : Ends) (σ : L2.St) (H : Hp) (h : tGrowI K Ds D σ H) : tAsg (tOp rCat (tVar 1) (tLst (tIss K Ds))) (gName 1) D σ H := by
  obtain ⟨C, b, a, l, fs, xs, rfl, he, ek, hl, hz, q⟩ := h
  have z1 : (Ds.map fun D => V.bl (decide (C = D))).length ≤ sizeLine := by
    rw [List.length_map, sizeLine_eq]
    omega
  refine ⟨_, rfl, C, b, ⟨a, fs, rfl, he, ek⟩, z1, fun p np => ?_⟩
  have s1 : Same H (upd H p (.lst (Ds.map fun D => V.bl (decide (C = D))))) := Same.new np
  refine ⟨l, p, xs, _, rfl, rfl, s1 _ _ hl, upd_same, ?_, fun p2 np2 => q p2 _ (Same.upd s1 np2) upd_same⟩
  rw [List.length_map, sizeLine_eq]
  omega
def tStartI (K : Frag) (Ds : List Addr) : TS := fun D σ H => ∃ (C : Addr) (b : BK) (a : Addr) (o : Option V) (fs : List (Str × V)), σ = [some (.ref a), o] ∧ ErrAt H a C fs ∧ EK K C b ∧ Ds.length ≤ 1000 ∧
  ∀ l' H', Same H H' → H' l' = some (.lst (Ds.map fun D => .bl (decide (C = D)))) → D.nx [some (.ref a), some (.ref l')] H'
theorem start_I {K : Frag} {Ds : List Addr} (D : Ends) (σ : L2.St) (H : Hp) (h : tStartI K Ds D σ H) : tAsg (tLst (tIss K Ds)) (gName 1) D σ H := by
  obtain ⟨C, b, a, o, fs, rfl, he, ek, hz, q⟩ := h
  refine ⟨C, b, ⟨a, fs, rfl, he, ek⟩, ?_, fun p np => q p _ (Same.new np) upd_same⟩
  rw [List.length_map, sizeLine_eq]
  omega
def tGrowD (N : Addr → Prop) (ds : List PyData) : TS := fun D σ H => ∃ (p l : Addr) (xs : List V) (cs : List PyData), σ = [some (.ref p), some (.ref l)] ∧ Kept N H ∧ H l = some (.lst xs) ∧ DAs N H xs cs ∧ cs.length + ds.length ≤ 1000 ∧
  ∀ l' ys H', Same H H' → H' l' = some (.lst ys) → DAs N H' ys (cs ++ ds) → D.nx [some (.ref p), some (.ref l')] H'
theorem grow_D {N : Addr → Prop} {ds : List PyData} (D : Ends) (σ : L2.St) (H : Hp) (h : tGrowD N ds D σ H) : tAsg (tOp rCat (tVar 1) (tLst (tDs N ds))) (gName 1) D σ H := by
  obtain ⟨p, l, xs, cs, rfl, kp, hl, da, hz, q⟩ := h
  refine ⟨_, rfl, kp, fun ys H1 s1 d1 => ⟨?_, fun p1 n1 => ?_⟩⟩
  · rw [d1.length, sizeLine_eq]
    omega
  refine ⟨l, p1, xs, ys, rfl, rfl, Same.upd s1 n1 _ _ hl, upd_same, ?_, fun p2 n2 => ?_⟩
  · rw [da.length, d1.length, sizeLine_eq]
    omega
  · have s2 := Same.upd (o := .lst ys) s1 n1
    have s3 := Same.upd (o := .lst (xs ++ ys)) s2 n2
    exact q p2 _ _ s3 upd_same ((DAs.same s3 da).append (DAs.same ((Same.new n1).trans (Same.new n2)) d1))
def tStartD (N : Addr → Prop) (ds : List PyData) : TS := fun D σ H => ∃ (p : Addr) (o : Option V), σ = [some (.ref p), o] ∧ Kept N H ∧ ds.length ≤ 1000 ∧
  ∀ l' ys H', Same H H' → H' l' = some (.lst ys) → DAs N H' ys ds → D.nx [some (.ref p), some (.ref l')] H'
theorem start_D {N : Addr → Prop} {ds : List PyData} (D : Ends) (σ : L2.St) (H : Hp) (h : tStartD N ds D σ H) : tAsg (tLst (tDs N ds)) (gName 1) D σ H := by
  obtain ⟨p, o, rfl, kp, hz, q⟩ := h
  refine ⟨kp, fun ys H1 s1 d1 => ⟨?_, fun p1 n1 => q p1 ys _ (Same.upd s1 n1) upd_same (DAs.same (Same.new n1) d1)⟩⟩
  rw [d1.length, sizeLine_eq]
  omega

/-! ### values that a law may ask anything of -/
def isDictD : PyData → Bool
  | .dict _ => true
  | _ => false
def okD (d : PyData) : Bool := d.showable && decide (d.depth ≤ 60) && decide (d.shown.length ≤ sizeLine) && ((SeqAt.shaped d && PyData.eqv d d) || isDictD d) && d.shown.cps.all (fun c => decide (c < 0x110000))
theorem okD_repr {d : PyData} (h : okD d = true) : d.showable = true ∧ d.depth ≤ 60 ∧ d.shown.length ≤ sizeLine := by
  unfold okD at h
  simp only [Bool.and_eq_true, decide_eq_true_eq] at h
  exact ⟨h.1.1.1.1, h.1.1.1.2, h.1.1.2⟩
theorem okD_lay {d : PyData} (h : okD d = true) : PyData.canLay0 (.str d.shown) = true := by
  unfold okD at h
  rw [Bool.and_eq_true] at h
  show PyData.canLay0 (.str d.shown) = true
  unfold PyData.canLay0
  exact h.2
theorem okD_same {N : Addr → Prop} {H : Hp} {x : V} {d : PyData} (h : okD d = true) (a : DA N H x d) : (∃ N d, DA N H x d ∧ SeqAt.shaped d = true ∧ PyData.eqv d d = true) ∨ ∃ a ks, x = .ref a ∧ H a = some (.dK ks) := by
  unfold okD at h
  simp only [Bool.and_eq_true, Bool.or_eq_true] at h
  rcases h.1.2 with z | z
  · exact Or.inl ⟨N, d, a, z.1, z.2⟩
  · cases a with
    | dK e _ _ => exact Or.inr ⟨_, _, rfl, e⟩
    | _ => exact nomatch z
/-- any of these, drawn -/
def spAny (ds : List PyData) : Sp := fun vs H Q _ => ∃ (p c : Addr) (n : Nat), vs = [.ref p] ∧ PenAt H p c n ∧ n ≤ 1000000 ∧
  ∀ (d : PyData) (x : V) (H' : Hp), d ∈ ds → DA (fun a => a = p) H' x d → PenAt H' p c (n + 1) → But p H H' → Q x H'
end Fh
set_option Elab.async false
set_option linter.all false
set_option maxRecDepth 100000
set_option maxHeartbeats 4000000
namespace Fh0
open PySem PySem.Spec PyProof.Rows L2 Fh
open PySem.W (Frag)
/-! ### the pen of this law -/
def top (i : Nat) : Stmt := PySem.Challenge.pw_fewhands_k00_errors_and_limits.main.body.getD i (.Pass ⟨0, 0, 0, 0⟩)
abbrev sPen : Stmt := top 43
abbrev sDraw : Stmt := top 44
abbrev sPick : Stmt := top 45
structure TxtP (mg : Str → Option Value) : Prop where
  list : mg "list" = none
  int : mg "int" = none
  len : mg "len" = none
section
variable {P : Program} {w : World} {K : Frag} {mg : Str → Option Value} {base : Heap}
theorem scPen : FnScope ["_law_script"] ["_law_script"] (defScope sPen) := ⟨rfl, rfl, rfl, by decide +kernel, rfl, by decide +kernel, by decide +kernel⟩
theorem ok_pen {f : Addr} {fd : FuncData} (F : Fun K "_law_pen" "_law_pen" sPen f fd) (T : TxtP mg) : FnOk P w K mg base CX0 1 f fd ["_law_script"] (spPen K) := by
  refine F.ok scPen (fun vs H Q E h => ?_) (fun cdv A outer s H vs Q E hr h => ?_)
  · obtain ⟨a, ns, rfl, _⟩ := h
    rfl
  · obtain ⟨a, ns, rfl, hS, hn, k⟩ := h
    refine ⟨_, pss_one (ps_ret (pe_disp (pps_cons pe_str (pe_callTy call_list_of (by rfl) T.list (by decide +kernel) (pa_cons (pe_slice sl_list (pv 0) po_none (po_some pe_int)) pa_nil))
      (pps_cons pe_str pe_int (pps_cons pe_str pe_int pps_nil))) (by rfl) (by rfl) (fun z => by cases z) (by decide))), ?_⟩
    intro p np
    obtain ⟨ms, em, lm⟩ := cut_ints ns none (some 63)
    refine ⟨.ref a, rfl, 63, rfl, a, ns.map V.int, rfl, (Same.new np).seq hS, fun q nq => ?_⟩
    have pq : p ≠ q := fun z => by
      rw [← z, upd_same] at nq
      exact nomatch nq
    have hq : H q = none := by
      rw [upd_ne (Ne.symm pq)] at nq
      exact nq
    refine ⟨q, _, rfl, Or.inl (SqL.of upd_same), fun c nc => ?_⟩
    have pc : p ≠ c := fun z => by
      rw [← z, upd_ne pq, upd_same] at nc
      exact nomatch nc
    have qc : q ≠ c := fun z => by
      rw [← z, upd_same] at nc
      exact nomatch nc
    have hc : H c = none := by
      rw [upd_ne (Ne.symm qc), upd_ne (Ne.symm pc)] at nc
      exact nc
    refine ⟨by rw [upd_ne pc, upd_ne pq, upd_same], penKV c 0 0, rfl, (show 3 ≤ 15 by decide), ?_⟩
    refine k p c _ (fun b u z => ?_) np ⟨pc, ms, 0, 0, upd_same, ?_, by omega, by omega, by omega⟩
    · rw [upd_ne (ne_of_none z np), upd_ne (ne_of_none z hc), upd_ne (ne_of_none z hq), upd_ne (ne_of_none z np)]
      exact z
    · rw [upd_ne (Ne.symm pc), upd_same, em]
theorem scDraw : FnScope ["_law_pen_here", "_law_size", "_law_digit", "_law_spot", "_law_cell", "_law_mixed"] ["_law_pen_here", "_law_size"] (defScope sDraw) := ⟨rfl, rfl, rfl, by decide +kernel, rfl, by decide +kernel, by decide +kernel⟩
theorem ok_draw {f : Addr} {fd : FuncData} (F : Fun K "_law_draw" "_law_draw" sDraw f fd) (T : TxtP mg) : FnOk P w K mg base CX0 1 f fd ["_law_pen_here", "_law_size"] spDraw := by
  refine F.ok scDraw (fun vs H Q E h => ?_) (fun cdv A outer s H vs Q E hr h => ?_)
  · obtain ⟨p, c, n, m, rfl, _⟩ := h
    rfl
  · obtain ⟨p, c, n, m, rfl, hP, hn, hm, hM, k⟩ := h
    obtain ⟨cs, sp, re, S, s0, s1⟩ := hP.open
    have hu := hu_of hr
    have hu64 := hr.units
    have nc := S.pc
    refine ⟨_, pss_cons (ps_if (pt_cmpR op_ge (pe_rest hu (pv 0)) (pv 1) (nomark _))
        (pss_cons (ps_set (i := 2) scDraw.nd rfl (Or.inl rfl) (pe_op op_modN (pe_callTy call_int1 (by rfl) T.int (by decide +kernel) (pa_cons (pe_rest hu (pv 0)) pa_nil)) (pv 1)))
        (pss_cons (ps_dput hu (pv 0) pe_str (pe_op op_fdivN (pe_rest hu (pv 0)) (pv 1)) rfl)
        (pss_one (ps_ret (pv 2))))) pss_nil)
      (pss_cons (ps_set (i := 3) scDraw.nd rfl (Or.inl rfl) (pe_spot hu (pv 0)))
      (pss_cons (ps_dput hu (pv 0) pe_str (pe_op op_add (pv 3) pe_int) rfl)
      (pss_cons (ps_set (i := 4) scDraw.nd rfl (Or.inl rfl) (pe_op op_add (pe_op op_mul pe_int (pv 3)) pe_int))
      (pss_cons (PS.imp (t' := tCellIf) (ps_if (pt_cmpR (op_neD hu64) (pe_cells hu (pv 0)) (pe_lst pa_nil) (nomark _))
        (pss_one (ps_set (i := 4) scDraw.nd rfl (Or.inl rfl) (pe_ix ix_list (pe_cells hu (pv 0)) (pe_op op_modN (pe_callTy call_int1 (by rfl) T.int (by decide +kernel) (pa_cons (pv 3) pa_nil)) (pe_callB call_len_seq (by rfl) T.len PySem.boot_len (pa_cons (pe_cells hu (pv 0)) pa_nil))) (fun _ _ => rfl)))) pss_nil) (fun D σ H2 ⟨p, c, cs, z, y, re, sz, m, dg, mx, es, S, z0, q⟩ => by
          subst es
          refine ⟨p, c, cs, sz, re, rfl, S, (Nat.zero_le _), fun q1 n1 => ?_⟩
          have S1 := S.same (Same.new (o := .lst []) n1)
          refine ⟨_, _, Dp.lst (SqL.of S1.hc) (dp_ints cs), Dp.lst (SqL.of upd_same) .nil, shaped_ints cs, by decide +kernel, _, rfl, ?_⟩
          cases cs with
          | nil => exact iteF (q y _ (Same.new n1))
          | cons c0 cr =>
            refine iteT ?_
            have pos : (0 : Int) < ((c0 :: cr : List Int).length : Int) := by
              rw [List.length_cons]
              omega
            have i0 : 0 ≤ z.fmod ((c0 :: cr : List Int).length : Int) := Int.fmod_nonneg_of_pos z pos
            have i1 : z.fmod ((c0 :: cr : List Int).length : Int) < ((c0 :: cr : List Int).length : Int) := Int.fmod_lt_of_pos z pos
            obtain ⟨j, ej⟩ := Int.eq_ofNat_of_zero_le i0
            have hj : j < (c0 :: cr : List Int).length := by omega
            refine ⟨p, c, c0 :: cr, sz, re, rfl, S1, _, rfl, Or.inl ⟨_, rfl, p, c, c0 :: cr, sz, re, rfl, S1, c, _, rfl, Or.inl (SqL.of S1.hc), _, _, rfl, rfl, ?_, ?_⟩⟩
            · rw [List.length_map]
              omega
            · refine ⟨c, _, _, .int ((c0 :: cr : List Int)[j]'hj), rfl, rfl, SqL.of S1.hc, ?_, q _ _ (Same.new n1)⟩
              rw [List.length_map, ej]
              exact atI_nat (int_map_get hj)))
      (pss_cons (ps_if (PW.pt (pw_and (pt_cmpR op_lt (pv 3) (pe_callB call_len_seq (by rfl) T.len PySem.boot_len (pa_cons (pe_cells hu (pv 0)) pa_nil)) (nomark _)) (pw_and1 (pt_cmpR op_ge (pv 4) (pe_op op_pow pe_int pe_int) (nomark _)))))
        (pss_cons (ps_dput hu (pv 0) pe_str (pe_op op_fdivN (pe_op op_sub (pv 4) (pe_op op_pow pe_int pe_int)) (pv 1)) rfl)
        (pss_one (ps_ret (pe_op op_modN (pe_callTy call_int1 (by rfl) T.int (by decide +kernel) (pa_cons (pe_op op_sub (pv 4) (pe_op op_pow pe_int pe_int)) pa_nil)) (pv 1))))) pss_nil)
      (pss_cons (ps_set (i := 5) scDraw.nd rfl (Or.inl rfl) (pe_op op_mul (pe_op op_modN (pe_callTy call_int1 (by rfl) T.int (by decide +kernel) (pa_cons (pv 4) pa_nil)) pe_int) pe_int))
      (pss_cons (ps_set (i := 5) scDraw.nd rfl (Or.inl rfl) (pe_op op_modN (pe_callTy call_int1 (by rfl) T.int (by decide +kernel) (pa_cons (pe_op op_add (pe_op op_add (pe_op op_add (pv 5) (pe_op op_mul (pe_op op_mul pe_int (pv 3)) (pv 3))) (pe_op op_mul pe_int (pv 3))) pe_int) pa_nil)) pe_int))
      (pss_cons (ps_set (i := 5) scDraw.nd rfl (Or.inl rfl) (pe_op op_modN (pe_callTy call_int1 (by rfl) T.int (by decide +kernel) (pa_cons (pe_op op_mul (pv 5) (pe_op op_add (pv 5) pe_int)) pa_nil)) pe_int))
      (pss_one (ps_ret (pe_op op_modN (pe_callTy call_int1 (by rfl) T.int (by decide +kernel) (pa_cons (pe_op op_fdivN (pe_op op_modN (pe_callTy call_int1 (by rfl) T.int (by decide +kernel) (pa_cons (pe_op op_add (pe_op op_mul (pv 5) (pv 5)) (pe_op op_mul pe_int (pv 5))) pa_nil)) pe_int) pe_int) pa_nil)) (pv 1)))))))))))), ?_⟩
    have modLo : ∀ z : Int, 0 ≤ z.fmod m := fun z => Int.fmod_nonneg_of_pos z (by omega)
    have modHi : ∀ z : Int, z.fmod m < m := fun z => Int.fmod_lt_of_pos z (by omega)
    have mm : m ≠ 0 := by omega
    have mq : m ≠ 0 ∧ m.natAbs < 1073741824 := ⟨mm, by omega⟩
    -- if pen['rest'] >= size
    refine ⟨p, c, cs, sp, re, rfl, S, _, rfl, _, _, rfl, rfl, _, rfl, ?_⟩
    refine ite2 (fun _ => ?_) (fun _ => ?_)
    · refine ⟨p, c, cs, sp, re, rfl, S, Or.inl ⟨_, rfl, _, rfl, _, _, rfl, rfl, mm, ?_⟩⟩
      refine ⟨p, c, cs, sp, re, rfl, S, _, rfl, _, _, rfl, rfl, mq, _, rfl, p, _, rfl, DPut.k (k := Sum.inr "rest") S.hp (by show 3 < sizeLine; decide), ?_⟩
      rw [put_rest]
      refine ⟨_, rfl, k _ _ (modLo _) (modHi _) (S.put.at_ s0 (by omega)) (But.refl p H).upd⟩
    -- spot = pen['spot']; pen['spot'] = spot + 1; cell = 67 * spot + 41
    refine ⟨p, c, cs, sp, re, rfl, S, ?_⟩
    refine ⟨_, rfl, _, _, rfl, rfl, _, rfl, p, _, rfl, DPut.k (k := Sum.inr "spot") S.hp (by show 3 < sizeLine; decide), ?_⟩
    rw [put_spot]
    have S1 : PenS (upd H p (.dK (penKV c (sp + 1) re))) p c cs (sp + 1) re := S.put
    have B1 : But p H (upd H p (.dK (penKV c (sp + 1) re))) := (But.refl p H).upd
    generalize upd H p (.dK (penKV c (sp + 1) re)) = H1 at S1 B1 ⊢
    refine ⟨_, rfl, _, _, rfl, rfl, Or.inl (by omega), _, _, rfl, rfl, ?_⟩
    refine ⟨p, c, cs, sp, _, re, sp + 1, _, _, _, rfl, S1, s0, fun cell H2 z2 => ?_⟩
    have S2 := S1.same z2
    have B2 : But p H H2 := B1.trans (But.of z2)
    -- if spot < len(cells) and cell >= 10 ** 18
    refine ⟨_, rfl, p, c, cs, sp + 1, re, rfl, S2, c, _, rfl, Or.inl (SqL.of S2.hc), _, _, rfl, rfl, _, rfl, ?_⟩
    refine ite2 (fun _ => ?_) (fun _ => ?_)
    · refine ⟨_, rfl, _, _, rfl, rfl, ⟨by decide, by decide, by decide⟩, _, _, rfl, rfl, _, rfl, ?_⟩
      refine ite2 (fun _ => ?_) (fun _ => ?_)
      · refine ⟨_, rfl, _, _, rfl, rfl, ⟨by decide, by decide, by decide⟩, _, _, rfl, rfl, _, rfl, _, _, rfl, rfl, mq, _, rfl, p, _, rfl, DPut.k (k := Sum.inr "rest") S2.hp (by show 3 < sizeLine; decide), ?_⟩
        rw [put_rest]
        refine ⟨_, rfl, _, _, rfl, rfl, ⟨by decide, by decide, by decide⟩, _, _, rfl, rfl, Or.inl ⟨_, rfl, _, rfl, _, _, rfl, rfl, mm, ?_⟩⟩
        exact k _ _ (modLo _) (modHi _) (S2.put.at_ (by omega) (by omega)) B2.upd
      · refine ⟨_, rfl, Or.inl ⟨_, rfl, _, _, rfl, rfl, (show (2147483353 : Int) ≠ 0 by decide), _, _, rfl, rfl, Or.inl ?_, ?_⟩⟩
        · exact fm_lo _ _ (by decide) (by decide)
        refine ⟨_, rfl, _, rfl, _, _, rfl, rfl, Or.inl ⟨by decide, by decide⟩, _, rfl, _, _, rfl, rfl, Or.inl ?_, _, _, rfl, rfl, _, rfl, _, _, rfl, rfl, Or.inl ⟨by decide, by decide⟩, _, _, rfl, rfl, _, _, rfl, rfl, Or.inl ⟨_, rfl, _, _, rfl, rfl, (show (2147483399 : Int) ≠ 0 by decide), ?_⟩⟩
        · omega
        refine ⟨_, rfl, _, rfl, _, _, rfl, rfl, _, _, rfl, rfl, Or.inl ?_, Or.inl ⟨_, rfl, _, _, rfl, rfl, (show (2147483423 : Int) ≠ 0 by decide), ?_⟩⟩
        · exact fm_lo _ _ (by decide) (by decide)
        refine ⟨_, rfl, _, rfl, _, _, rfl, rfl, Or.inl ?_, _, rfl, _, _, rfl, rfl, Or.inl ⟨by decide, by decide⟩, _, _, rfl, rfl, Or.inl ⟨_, rfl, _, _, rfl, rfl, (show (2147483477 : Int) ≠ 0 by decide), _, _, rfl, rfl, ⟨by decide, by decide⟩, Or.inl ⟨_, rfl, _, rfl, _, _, rfl, rfl, mm, ?_⟩⟩⟩
        · exact fm_lo _ _ (by decide) (by decide)
        exact k _ _ (modLo _) (modHi _) (S2.at_ (by omega) (by omega)) B2
    · refine iteF ?_
      refine ⟨_, rfl, Or.inl ⟨_, rfl, _, _, rfl, rfl, (show (2147483353 : Int) ≠ 0 by decide), _, _, rfl, rfl, Or.inl ?_, ?_⟩⟩
      · exact fm_lo _ _ (by decide) (by decide)
      refine ⟨_, rfl, _, rfl, _, _, rfl, rfl, Or.inl ⟨by decide, by decide⟩, _, rfl, _, _, rfl, rfl, Or.inl ?_, _, _, rfl, rfl, _, rfl, _, _, rfl, rfl, Or.inl ⟨by decide, by decide⟩, _, _, rfl, rfl, _, _, rfl, rfl, Or.inl ⟨_, rfl, _, _, rfl, rfl, (show (2147483399 : Int) ≠ 0 by decide), ?_⟩⟩
      · omega
      refine ⟨_, rfl, _, rfl, _, _, rfl, rfl, _, _, rfl, rfl, Or.inl ?_, Or.inl ⟨_, rfl, _, _, rfl, rfl, (show (2147483423 : Int) ≠ 0 by decide), ?_⟩⟩
      · exact fm_lo _ _ (by decide) (by decide)
      refine ⟨_, rfl, _, rfl, _, _, rfl, rfl, Or.inl ?_, _, rfl, _, _, rfl, rfl, Or.inl ⟨by decide, by decide⟩, _, _, rfl, rfl, Or.inl ⟨_, rfl, _, _, rfl, rfl, (show (2147483477 : Int) ≠ 0 by decide), _, _, rfl, rfl, ⟨by decide, by decide⟩, Or.inl ⟨_, rfl, _, rfl, _, _, rfl, rfl, mm, ?_⟩⟩⟩
      · exact fm_lo _ _ (by decide) (by decide)
      exact k _ _ (modLo _) (modHi _) (S2.at_ (by omega) (by omega)) B2
theorem scPick : FnScope ["_law_pen_here", "_law_items"] ["_law_pen_here", "_law_items"] (defScope sPick) := ⟨rfl, rfl, rfl, by decide +kernel, rfl, by decide +kernel, by decide +kernel⟩
theorem ok_pick {f fD : Addr} {fd fdD : FuncData} (F : Fun K "_law_pick" "_law_pick" sPick f fd) (FD : Fun K "_law_draw" "_law_draw" sDraw fD fdD) (T : TxtP mg) (gD : mg "_law_draw" = some (.ref fD)) : FnOk P w K mg base CX0 2 f fd ["_law_pen_here", "_law_items"] (spPick K) := by
  have GD : FnOk P w K mg base CX0 1 fD fdD ["_law_pen_here", "_law_size"] spDraw := ok_draw FD T
  have bD : Binds K fdD ["_law_pen_here", "_law_size"] [] := FD.binds (ps := ["_law_pen_here", "_law_size"]) fun _ _ _ _ _ _ us hl => match us, hl with | [_, _], _ => rfl
  refine F.ok scPick (fun vs H Q E h => ?_) (fun cdv A outer s H vs Q E hr h => ?_)
  · obtain ⟨p, c, n, l, xs, rfl, _⟩ := h
    rfl
  · obtain ⟨p, c, n, l, xs, rfl, hP, hn, hx, h1, h2, k⟩ := h
    refine ⟨_, pss_one (ps_ret (pe_ix ix_list (pv 1) (pe_call GD hr rfl gD FD.kp bD .nil pass0 (pa_cons (pv 0) (pa_cons (pe_callB call_len_seq (by rfl) T.len PySem.boot_len (pa_cons (pv 1) pa_nil)) pa_nil))) (fun _ _ => rfl))), ?_⟩
    refine ⟨_, rfl, _, rfl, _, rfl, l, xs, rfl, Or.inl (SqL.of hx), p, c, n, _, rfl, hP, hn, by omega, by omega, fun z H' z0 z1 P' B' => ?_⟩
    obtain ⟨j, ej⟩ := Int.eq_ofNat_of_zero_le z0
    have hj : j < xs.length := by omega
    have lp : l ≠ p := fun e => by
      obtain ⟨cs, sp, re, S, _⟩ := hP.open
      rw [e, S.hp] at hx
      exact nomatch hx
    have g : xs[j]? = some (xs[j]'hj) := List.getElem?_eq_getElem hj
    refine ⟨l, xs, _, _, rfl, rfl, SqL.of (B' l _ lp hx), (show atI xs z = some (xs[j]'hj) by rw [ej]; exact atI_nat g), k j _ H' g P' B'⟩
end

end Fh0
set_option Elab.async false
set_option linter.all false
set_option maxRecDepth 100000
set_option maxHeartbeats 4000000
namespace Fh0
open PySem PySem.Spec PyProof.Rows L2 Fh
open PySem.W (Frag)
abbrev sAny : Stmt := top 46
def odd0 : List PyData := [.none, .bool true, .bool false, .int 0, .int 1, .int 2, .int 3, .int 4, .int (-1), .int (10 ^ (Int.toNat 60)), .str "", .str "a", .str "A", .str "ab", .str "abcdefghi", .str "a b", .tuple [], .tuple [.str "a"]]
def odd1 : List PyData := [.list [], .list [.str "a"], .list [.int 1], .dict [], .dict [(.str "a", .int 1)], .tuple [.int 1, .int 2], .tuple [.str "then"], .tuple [.none], .tuple [.str "a", .int 1], .list [.list [.str "a"]], .tuple [.tuple [.str "a"]]]
def odd2 : List PyData := [.str "then", .dict [(.str "p", .list [])], .list [.str "a", .str "a"], .tuple [.str "either"]]
def odds : List PyData := ((odd0 ++ odd1) ++ odd2)
theorem odds_ok : ∀ d ∈ odds, okD d = true := by
  have h : odds.all okD = true := by decide +kernel
  exact fun d hd => List.all_eq_true.mp h d hd
theorem scAny : FnScope ["_law_pen_here", "_law_some"] ["_law_pen_here"] (defScope sAny) := ⟨rfl, rfl, rfl, by decide +kernel, rfl, by decide +kernel, by decide +kernel⟩
theorem ok_any {P : Program} {w : World} {K : Frag} {mg : Str → Option Value} {base : Heap} {f fP fD : Addr} {fd fdP fdD : FuncData} (F : Fun K "_law_any_value" "_law_any_value" sAny f fd) (FP : Fun K "_law_pick" "_law_pick" sPick fP fdP) (FD : Fun K "_law_draw" "_law_draw" sDraw fD fdD) (T : TxtP mg)
    (gP : mg "_law_pick" = some (.ref fP)) (gD : mg "_law_draw" = some (.ref fD)) : FnOk P w K mg base CX0 3 f fd ["_law_pen_here"] (spAny odds) := by
  have GP : FnOk P w K mg base CX0 2 fP fdP ["_law_pen_here", "_law_items"] (spPick K) := ok_pick FP FD T gD
  have bP : Binds K fdP ["_law_pen_here", "_law_items"] [] := FP.binds (ps := ["_law_pen_here", "_law_items"]) fun _ _ _ _ _ _ us hl => match us, hl with | [_, _], _ => rfl
  refine F.ok scAny (fun vs H Q E h => ?_) (fun cdv A outer s H vs Q E hr h => ?_)
  · obtain ⟨p, c, n, rfl, _⟩ := h
    rfl
  · obtain ⟨p, c, n, rfl, hP, hn, k⟩ := h
    have kept : Kept (fun a => a = p) H := fun a e z => by
      obtain ⟨cs, sp, re, S, _⟩ := hP.open
      rw [e, S.hp] at z
      exact nomatch z
    refine ⟨_, pss_cons (PS.imp (ps_set (i := 1) scAny.nd rfl (Or.inl rfl) (pe_lst (pds_cons pd_non (pds_cons pd_bl (pds_cons pd_bl (pds_cons pd_int (pds_cons pd_int (pds_cons pd_int (pds_cons pd_int (pds_cons pd_int (pds_cons pd_neg (pds_cons (pd_pow ⟨by decide, by decide, by decide⟩) (pds_cons pd_str (pds_cons pd_str (pds_cons pd_str (pds_cons pd_str (pds_cons pd_str (pds_cons pd_str (pds_cons (pd_tup pds_nil) (pds_cons (pd_tup (pds_cons pd_str pds_nil)) pds_nil)))))))))))))))))))) (start_D (N := fun a => a = p) (ds := odd0)))
      (pss_cons (PS.imp (ps_set (i := 1) scAny.nd rfl (Or.inl rfl) (pe_op op_cat (pv 1) (pe_lst (pds_cons (pd_lst pds_nil) (pds_cons (pd_lst (pds_cons pd_str pds_nil)) (pds_cons (pd_lst (pds_cons pd_int pds_nil)) (pds_cons pd_dict0 (pds_cons pd_dictI (pds_cons (pd_tup (pds_cons pd_int (pds_cons pd_int pds_nil))) (pds_cons (pd_tup (pds_cons pd_str pds_nil)) (pds_cons (pd_tup (pds_cons pd_non pds_nil)) (pds_cons (pd_tup (pds_cons pd_str (pds_cons pd_int pds_nil))) (pds_cons (pd_lst (pds_cons (pd_lst (pds_cons pd_str pds_nil)) pds_nil)) (pds_cons (pd_tup (pds_cons (pd_tup (pds_cons pd_str pds_nil)) pds_nil)) pds_nil)))))))))))))) (grow_D (N := fun a => a = p) (ds := odd1)))
      (pss_cons (PS.imp (ps_set (i := 1) scAny.nd rfl (Or.inl rfl) (pe_op op_cat (pv 1) (pe_lst (pds_cons pd_str (pds_cons pd_dictL (pds_cons (pd_lst (pds_cons pd_str (pds_cons pd_str pds_nil))) (pds_cons (pd_tup (pds_cons pd_str pds_nil)) pds_nil))))))) (grow_D (N := fun a => a = p) (ds := odd2)))
      (pss_one (ps_ret (pe_call GP hr rfl gP FP.kp bP .nil pass0 (pa_cons (pv 0) (pa_cons (pv 1) pa_nil))))))), ?_⟩
    refine ⟨p, none, rfl, kept, by decide, fun l0 y0 H0 s0 g0 d0 => ?_⟩
    refine ⟨p, l0, y0, _, rfl, kept.same s0, g0, d0, by decide, fun l1 y1 H1 z1 g1 d1 => ?_⟩
    have s1 := s0.trans z1
    refine ⟨p, l1, y1, _, rfl, kept.same s1, g1, d1, by decide, fun l2 y2 H2 z2 g2 d2 => ?_⟩
    have s2 := s1.trans z2
    have len : y2.length = odds.length := d2.length
    refine ⟨_, rfl, _, rfl, p, c, n, l2, y2, rfl, hP.same s2 (Nat.le_refl _), hn, g2, by rw [len]; decide, by rw [len]; decide, fun i x H' gx P' B' => ?_⟩
    obtain ⟨d, e1, e2⟩ := d2.get gx
    exact k d x H' (List.mem_of_getElem? e1) (DA.but (N := fun a => a = p) B' rfl e2) P' ((But.of s2).trans B')

end Fh0
set_option Elab.async false
set_option linter.all false
set_option maxRecDepth 100000
set_option maxHeartbeats 4000000
namespace Fh0
open PySem PySem.Spec PyProof.Rows L2 Fh
open PySem.W (Frag)
/-! ### the classes by their places -/
def tb : List (Str × BK × Str) := [("InvalidName", .ve, "value"), ("InvalidStaff", .ve, "value"), ("InvalidTask", .ve, "field"), ("InvalidKinds", .ve, "value"), ("InvalidTasks", .ve, "value"), ("InvalidPlan", .ve, "value"), ("InvalidText", .ve, "index"), ("InvalidWages", .ve, "value"), ("InvalidPrices", .ve, "value"), ("InvalidLog", .ve, "value"), ("Clash", .ve, "name"), ("CommandError", .ve, "value"), ("InUse", .ve, "name"), ("UnknownKind", .le, "value"), ("UnknownTask", .le, "value"), ("UnknownStand", .le, "value"), ("UnknownMove", .le, "value"), ("UnknownCase", .le, "value"), ("UnknownPerson", .le, "value"), ("OutOfRange", .le, "value"), ("TooMany", .oe, "limit"), ("TooFew", .oe, "kind"), ("NotNow", .re, "value"), ("WrongNumber", .re, "number"), ("Twice", .re, "person"), ("LacksRole", .re, "person"), ("Hopeless", .re, "case")]
def tnm (i : Nat) : Str := (tb.getD i ("", .ve, "")).1
def tfd (i : Nat) : Str := (tb.getD i ("", .ve, "")).2.2
def tbk (i : Nat) : BK := if i = 29 then .ve else if i = 27 ∨ i = 28 ∨ i = 30 then .re else (tb.getD i ("", .ve, "")).2.1
structure AllC (K : Frag) (mg : Str → Option Value) (cl ini : Nat → Addr) : Prop where
  c : ∀ i, i < 27 → Ok1 K mg (tnm i) (tbk i) (tfd i) (cl i) (ini i)
  d27 : Ok2 K mg "DidLast" (tbk 27) "person" "name" (cl 27) (ini 27)
  d28 : Ok2 K mg "DidNotLast" (tbk 28) "person" "name" (cl 28) (ini 28)
  n29 : Ok0 K mg "NotSameKinds" (tbk 29) (cl 29)
  n30 : Ok0 K mg "InTrial" (tbk 30) (cl 30)
  apart : ∀ i j, i < 31 → j < 31 → cl i = cl j → i = j
  gi : mg "isinstance" = none
  gr : mg "range" = none
  gv : mg "ValueError" = none
  gl : mg "LookupError" = none
  go : mg "OverflowError" = none
  gn : mg "RuntimeError" = none
theorem AllC.ek {K : Frag} {mg : Str → Option Value} {cl ini : Nat → Addr} (A : AllC K mg cl ini) (i : Nat) (h : i < 31) : EK K (cl i) (tbk i) := by
  by_cases h1 : i < 27
  · exact (A.c i h1).ei
  · have h2 : i = 27 ∨ i = 28 ∨ i = 29 ∨ i = 30 := by omega
    rcases h2 with e | e | e | e
    · rw [e]
      exact A.d27.ei
    · rw [e]
      exact A.d28.ei
    · rw [e]
      exact A.n29.ei
    · rw [e]
      exact A.n30.ei
abbrev sOnes : Stmt := top 47
abbrev sOwn : Stmt := top 48
abbrev sField : Stmt := top 49
abbrev sAbove : Stmt := top 50
abbrev sRight : Stmt := top 51
abbrev sTwos : Stmt := top 52
abbrev sLaw : Stmt := top 53
/-! ### which class it is -/
def spOwn (K : Frag) (cl : Nat → Addr) : Sp := fun vs H Q _ => ∃ (a C : Addr) (fs : List (Str × V)) (b : BK), vs = [.ref a] ∧ ErrAt H a C fs ∧ EK K C b ∧
  ∀ p H', Same H H' → H' p = some (.lst ((List.range 31).map fun j => .bl (decide (C = cl j)))) → Q (.ref p) H'
def spAbove (K : Frag) : Sp := fun vs H Q _ => ∃ (a C : Addr) (fs : List (Str × V)) (b : BK), vs = [.ref a] ∧ ErrAt H a C fs ∧ EK K C b ∧
  ∀ p H', Same H H' → H' p = some (.lst ((List.range 4).map fun j => .bl (decide (((j : Nat) : Int) = b.no)))) → Q (.ref p) H'
section
variable {P : Program} {w : World} {K : Frag} {mg : Str → Option Value} {base : Heap} {cl ini : Nat → Addr}
theorem scOwn : FnScope ["_law_e", "_law_found"] ["_law_e"] (defScope sOwn) := ⟨rfl, rfl, rfl, by decide +kernel, rfl, by decide +kernel, by decide +kernel⟩
theorem ok_own {f : Addr} {fd : FuncData} (F : Fun K "_law_own" "_law_own" sOwn f fd) (A : AllC K mg cl ini) : FnOk P w K mg base CX0 1 f fd ["_law_e"] (spOwn K cl) := by
  refine F.ok scOwn (fun vs H Q E h => ?_) (fun cdv Ar outer s H vs Q E hr h => ?_)
  · obtain ⟨a, C, fs, b, rfl, _⟩ := h
    rfl
  · obtain ⟨a, C, fs, b, rfl, he, ek, k⟩ := h
    refine ⟨_, pss_cons (PS.imp (ps_set (i := 1) scOwn.nd rfl (Or.inl rfl) (pe_lst (pis_cons (pe_is (A.c 0 (by decide)).ei (A.c 0 (by decide)).gC A.gi (by rfl) (by rfl) (pv 0) (by decide)) (pis_cons (pe_is (A.c 1 (by decide)).ei (A.c 1 (by decide)).gC A.gi (by rfl) (by rfl) (pv 0) (by decide)) (pis_cons (pe_is (A.c 2 (by decide)).ei (A.c 2 (by decide)).gC A.gi (by rfl) (by rfl) (pv 0) (by decide)) pis_nil))))) (start_I (K := K) (Ds := [cl 0, cl 1, cl 2])))
      (pss_cons (PS.imp (ps_set (i := 1) scOwn.nd rfl (Or.inl rfl) (pe_op op_cat (pv 1) (pe_lst (pis_cons (pe_is (A.c 3 (by decide)).ei (A.c 3 (by decide)).gC A.gi (by rfl) (by rfl) (pv 0) (by decide)) (pis_cons (pe_is (A.c 4 (by decide)).ei (A.c 4 (by decide)).gC A.gi (by rfl) (by rfl) (pv 0) (by decide)) (pis_cons (pe_is (A.c 5 (by decide)).ei (A.c 5 (by decide)).gC A.gi (by rfl) (by rfl) (pv 0) (by decide)) pis_nil)))))) (grow_I (K := K) (Ds := [cl 3, cl 4, cl 5])))
      (pss_cons (PS.imp (ps_set (i := 1) scOwn.nd rfl (Or.inl rfl) (pe_op op_cat (pv 1) (pe_lst (pis_cons (pe_is (A.c 6 (by decide)).ei (A.c 6 (by decide)).gC A.gi (by rfl) (by rfl) (pv 0) (by decide)) (pis_cons (pe_is (A.c 7 (by decide)).ei (A.c 7 (by decide)).gC A.gi (by rfl) (by rfl) (pv 0) (by decide)) (pis_cons (pe_is (A.c 8 (by decide)).ei (A.c 8 (by decide)).gC A.gi (by rfl) (by rfl) (pv 0) (by decide)) pis_nil)))))) (grow_I (K := K) (Ds := [cl 6, cl 7, cl 8])))
      (pss_cons (PS.imp (ps_set (i := 1) scOwn.nd rfl (Or.inl rfl) (pe_op op_cat (pv 1) (pe_lst (pis_cons (pe_is (A.c 9 (by decide)).ei (A.c 9 (by decide)).gC A.gi (by rfl) (by rfl) (pv 0) (by decide)) (pis_cons (pe_is (A.c 10 (by decide)).ei (A.c 10 (by decide)).gC A.gi (by rfl) (by rfl) (pv 0) (by decide)) (pis_cons (pe_is (A.c 11 (by decide)).ei (A.c 11 (by decide)).gC A.gi (by rfl) (by rfl) (pv 0) (by decide)) pis_nil)))))) (grow_I (K := K) (Ds := [cl 9, cl 10, cl 11])))
      (pss_cons (PS.imp (ps_set (i := 1) scOwn.nd rfl (Or.inl rfl) (pe_op op_cat (pv 1) (pe_lst (pis_cons (pe_is (A.c 12 (by decide)).ei (A.c 12 (by decide)).gC A.gi (by rfl) (by rfl) (pv 0) (by decide)) (pis_cons (pe_is (A.c 13 (by decide)).ei (A.c 13 (by decide)).gC A.gi (by rfl) (by rfl) (pv 0) (by decide)) (pis_cons (pe_is (A.c 14 (by decide)).ei (A.c 14 (by decide)).gC A.gi (by rfl) (by rfl) (pv 0) (by decide)) pis_nil)))))) (grow_I (K := K) (Ds := [cl 12, cl 13, cl 14])))
      (pss_cons (PS.imp (ps_set (i := 1) scOwn.nd rfl (Or.inl rfl) (pe_op op_cat (pv 1) (pe_lst (pis_cons (pe_is (A.c 15 (by decide)).ei (A.c 15 (by decide)).gC A.gi (by rfl) (by rfl) (pv 0) (by decide)) (pis_cons (pe_is (A.c 16 (by decide)).ei (A.c 16 (by decide)).gC A.gi (by rfl) (by rfl) (pv 0) (by decide)) (pis_cons (pe_is (A.c 17 (by decide)).ei (A.c 17 (by decide)).gC A.gi (by rfl) (by rfl) (pv 0) (by decide)) pis_nil)))))) (grow_I (K := K) (Ds := [cl 15, cl 16, cl 17])))
      (pss_cons (PS.imp (ps_set (i := 1) scOwn.nd rfl (Or.inl rfl) (pe_op op_cat (pv 1) (pe_lst (pis_cons (pe_is (A.c 18 (by decide)).ei (A.c 18 (by decide)).gC A.gi (by rfl) (by rfl) (pv 0) (by decide)) (pis_cons (pe_is (A.c 19 (by decide)).ei (A.c 19 (by decide)).gC A.gi (by rfl) (by rfl) (pv 0) (by decide)) (pis_cons (pe_is (A.c 20 (by decide)).ei (A.c 20 (by decide)).gC A.gi (by rfl) (by rfl) (pv 0) (by decide)) pis_nil)))))) (grow_I (K := K) (Ds := [cl 18, cl 19, cl 20])))
      (pss_cons (PS.imp (ps_set (i := 1) scOwn.nd rfl (Or.inl rfl) (pe_op op_cat (pv 1) (pe_lst (pis_cons (pe_is (A.c 21 (by decide)).ei (A.c 21 (by decide)).gC A.gi (by rfl) (by rfl) (pv 0) (by decide)) (pis_cons (pe_is (A.c 22 (by decide)).ei (A.c 22 (by decide)).gC A.gi (by rfl) (by rfl) (pv 0) (by decide)) (pis_cons (pe_is (A.c 23 (by decide)).ei (A.c 23 (by decide)).gC A.gi (by rfl) (by rfl) (pv 0) (by decide)) pis_nil)))))) (grow_I (K := K) (Ds := [cl 21, cl 22, cl 23])))
      (pss_cons (PS.imp (ps_set (i := 1) scOwn.nd rfl (Or.inl rfl) (pe_op op_cat (pv 1) (pe_lst (pis_cons (pe_is (A.c 24 (by decide)).ei (A.c 24 (by decide)).gC A.gi (by rfl) (by rfl) (pv 0) (by decide)) (pis_cons (pe_is (A.c 25 (by decide)).ei (A.c 25 (by decide)).gC A.gi (by rfl) (by rfl) (pv 0) (by decide)) (pis_cons (pe_is (A.c 26 (by decide)).ei (A.c 26 (by decide)).gC A.gi (by rfl) (by rfl) (pv 0) (by decide)) pis_nil)))))) (grow_I (K := K) (Ds := [cl 24, cl 25, cl 26])))
      (pss_cons (PS.imp (ps_set (i := 1) scOwn.nd rfl (Or.inl rfl) (pe_op op_cat (pv 1) (pe_lst (pis_cons (pe_is A.d27.ei A.d27.gC A.gi (by rfl) (by rfl) (pv 0) (by decide)) (pis_cons (pe_is A.d28.ei A.d28.gC A.gi (by rfl) (by rfl) (pv 0) (by decide)) (pis_cons (pe_is A.n29.ei A.n29.gC A.gi (by rfl) (by rfl) (pv 0) (by decide)) pis_nil)))))) (grow_I (K := K) (Ds := [cl 27, cl 28, cl 29])))
      (pss_cons (PS.imp (ps_set (i := 1) scOwn.nd rfl (Or.inl rfl) (pe_op op_cat (pv 1) (pe_lst (pis_cons (pe_is A.n30.ei A.n30.gC A.gi (by rfl) (by rfl) (pv 0) (by decide)) pis_nil)))) (grow_I (K := K) (Ds := [cl 30])))
      (pss_one (ps_ret (pv 1))))))))))))), ?_⟩
    refine ⟨C, b, a, none, fs, rfl, he, ek, (show 3 ≤ 1000 by decide), fun l0 H0 s0 g0 => ?_⟩
    refine ⟨C, b, a, l0, fs, _, rfl, he.same s0, ek, g0, (show 6 ≤ 1000 by decide), fun l1 H1 z1 g1 => ?_⟩
    have s1 := s0.trans z1
    refine ⟨C, b, a, l1, fs, _, rfl, he.same s1, ek, g1, (show 9 ≤ 1000 by decide), fun l2 H2 z2 g2 => ?_⟩
    have s2 := s1.trans z2
    refine ⟨C, b, a, l2, fs, _, rfl, he.same s2, ek, g2, (show 12 ≤ 1000 by decide), fun l3 H3 z3 g3 => ?_⟩
    have s3 := s2.trans z3
    refine ⟨C, b, a, l3, fs, _, rfl, he.same s3, ek, g3, (show 15 ≤ 1000 by decide), fun l4 H4 z4 g4 => ?_⟩
    have s4 := s3.trans z4
    refine ⟨C, b, a, l4, fs, _, rfl, he.same s4, ek, g4, (show 18 ≤ 1000 by decide), fun l5 H5 z5 g5 => ?_⟩
    have s5 := s4.trans z5
    refine ⟨C, b, a, l5, fs, _, rfl, he.same s5, ek, g5, (show 21 ≤ 1000 by decide), fun l6 H6 z6 g6 => ?_⟩
    have s6 := s5.trans z6
    refine ⟨C, b, a, l6, fs, _, rfl, he.same s6, ek, g6, (show 24 ≤ 1000 by decide), fun l7 H7 z7 g7 => ?_⟩
    have s7 := s6.trans z7
    refine ⟨C, b, a, l7, fs, _, rfl, he.same s7, ek, g7, (show 27 ≤ 1000 by decide), fun l8 H8 z8 g8 => ?_⟩
    have s8 := s7.trans z8
    refine ⟨C, b, a, l8, fs, _, rfl, he.same s8, ek, g8, (show 30 ≤ 1000 by decide), fun l9 H9 z9 g9 => ?_⟩
    have s9 := s8.trans z9
    refine ⟨C, b, a, l9, fs, _, rfl, he.same s9, ek, g9, (show 31 ≤ 1000 by decide), fun l10 H10 z10 g10 => ?_⟩
    have s10 := s9.trans z10
    exact ⟨_, rfl, k l10 H10 s10 g10⟩
theorem scAbove : FnScope ["_law_e", "_law_found"] ["_law_e"] (defScope sAbove) := ⟨rfl, rfl, rfl, by decide +kernel, rfl, by decide +kernel, by decide +kernel⟩
theorem ok_above {f : Addr} {fd : FuncData} (F : Fun K "_law_above" "_law_above" sAbove f fd) (A : AllC K mg cl ini) : FnOk P w K mg base CX0 1 f fd ["_law_e"] (spAbove K) := by
  refine F.ok scAbove (fun vs H Q E h => ?_) (fun cdv Ar outer s H vs Q E hr h => ?_)
  · obtain ⟨a, C, fs, b, rfl, _⟩ := h
    rfl
  · obtain ⟨a, C, fs, b, rfl, he, ek, k⟩ := h
    refine ⟨_, pss_cons (ps_set (i := 1) scAbove.nd rfl (Or.inl rfl) (pe_lst (pa_cons (pe_isT (t := "ValueError") (by decide +kernel) A.gi A.gv (by decide +kernel) (by rfl) (by rfl) (pv 0))
        (pa_cons (pe_isT (t := "LookupError") (by decide +kernel) A.gi A.gl (by decide +kernel) (by rfl) (by rfl) (pv 0)) (pa_cons (pe_isT (t := "OverflowError") (by decide +kernel) A.gi A.go (by decide +kernel) (by rfl) (by rfl) (pv 0)) pa_nil)))))
      (pss_one (ps_ret (pe_op op_cat (pv 1) (pe_lst (pa_cons (pe_isT (t := "RuntimeError") (by decide +kernel) A.gi A.gn (by decide +kernel) (by rfl) (by rfl) (pv 0)) pa_nil))))), ?_⟩
    have e0 : Err0 K [some (V.ref a), none] H C b := ⟨a, fs, rfl, he, ek⟩
    refine ⟨C, b, e0, C, b, e0, C, b, e0, (show 3 ≤ sizeLine by decide), fun p np => ?_⟩
    have s1 := Same.new (o := .lst [V.bl (b.bm.contains (.type "ValueError")), .bl (b.bm.contains (.type "LookupError")), .bl (b.bm.contains (.type "OverflowError"))]) np
    refine ⟨_, rfl, C, b, ⟨a, fs, rfl, he.same s1, ek⟩, (show 1 ≤ sizeLine by decide), fun p1 n1 => ?_⟩
    refine ⟨p, p1, _, _, rfl, rfl, Same.new n1 _ _ upd_same, upd_same, (show 3 + 1 ≤ sizeLine by decide), fun p2 n2 => ?_⟩
    refine k p2 _ ((s1.trans (Same.new n1)).trans (Same.new n2)) ?_
    rw [upd_same]
    cases b <;> rfl
end
end Fh0
set_option Elab.async false
set_option linter.all false
set_option maxRecDepth 100000
set_option maxHeartbeats 4000000
namespace Fh0
open PySem PySem.Spec PyProof.Rows L2 Fh
open PySem.W (Frag)
theorem dp_bls {K : Frag} {H : Hp} : ∀ cs : List Bool, DpAll K H (cs.map V.bl) (cs.map PyData.bool)
  | [] => .nil
  | z :: cs => .cons (.bl z) (dp_bls cs)
theorem lay_bls : ∀ cs : List Bool, PyData.canLayAll0 (cs.map PyData.bool) = true
  | [] => rfl
  | z :: cs => by
    show (PyData.canLay0 (.bool z) && PyData.canLayAll0 (cs.map PyData.bool)) = true
    rw [lay_bls cs]
    rfl
theorem depth_bls : ∀ cs : List Bool, PyData.depthAll (cs.map PyData.bool) ≤ 1
  | [] => by
    show PyData.depthAll [] ≤ 1
    simp [PyData.depthAll]
  | z :: cs => by
    have h := depth_bls cs
    simp only [List.map_cons, PyData.depthAll, PyData.depth]
    omega
theorem shaped_bls (cs : List Bool) : SeqAt.shaped (.list (cs.map PyData.bool)) = true := by
  have h1 := lay_bls cs
  have h2 := depth_bls cs
  have h3 : PyData.depth (.list (cs.map PyData.bool)) ≤ 64 := by
    simp only [PyData.depth]
    omega
  unfold SeqAt.shaped
  rw [decide_eq_true h3, Bool.and_true]
  simpa [PyData.canLay0] using h1
theorem eqv_bls (cs : List Bool) : PyData.eqv (.list (cs.map PyData.bool)) (.list (cs.map PyData.bool)) = true := SeqAt.eqv_refl _ (by simpa [PyData.canLay0] using lay_bls cs)
/-- two lists of truth values that are alike -/
theorem eq_rows {K : Frag} {H : Hp} {p q : Addr} {Q : VK} (cs : List Bool) (h1 : H p = some (.lst (cs.map V.bl))) (h2 : H q = some (.lst (cs.map V.bl))) (k : Q (.bl true) H) : rEqD K (.ref p) (.ref q) H Q :=
  ⟨_, _, Dp.lst (SqL.of h1) (dp_bls cs), Dp.lst (SqL.of h2) (dp_bls cs), shaped_bls cs, shaped_bls cs, by rw [eqv_bls]; exact k⟩
def spRight (cl : Nat → Addr) : Sp := fun vs H Q _ => ∃ (a : Addr) (n : Nat) (fs : List (Str × V)), vs = [.ref a, .int (n : Int), .int (tbk n).no] ∧ n < 31 ∧ ErrAt H a (cl n) fs ∧ ∀ H', Same H H' → Q (.bl true) H'
/-- [j == z for j in range(n)] -/
def tEqRow (n : Nat) (k : Nat) : TE := fun σ H Q => ∃ (z : Int), σ[k]? = some (some (.int z)) ∧ σ.length = 4 ∧ ∀ q H', Same H H' → H' q = some (.lst ((List.range n).map fun j => .bl (decide (((j : Nat) : Int) = z)))) → Q (.ref q) H'
theorem row_range {n k : Nat} (hn : n ≤ 100) (hk : k < 3) (σ : L2.St) (H : Hp) (Q : VK) (h : tEqRow n k σ H Q) :
    tLc (iRng1 (tCons (tC (.int (n : Int))) tNil)) (gName 3) tYes (tOp rEq (tVar 3) (tVar k)) [3] σ H Q := by
  obtain ⟨z, hz, hl, q⟩ := h
  refine ⟨(n : Int), rfl, by omega, by omega, fun D nD => ?_⟩
  refine lc_range (lo := 0) (n := (n : Int).toNat) (fun i H2 => Same H H2 ∧ H2 D = some (.lst ((List.range i).map fun j => V.bl (decide (((j : Nat) : Int) = z))))) ⟨Same.new nD, by rw [upd_same]; rfl⟩ ?_ ?_
  · rintro i H2 hi ⟨s2, hD⟩
    have g3 : ∀ (σ2 : L2.St) (u : V), σ2.length = 4 → (σ2.set 3 (some u))[3]? = some (some u) := fun σ2 u e => by
      rw [List.getElem?_set_self (by omega)]
    have gk : ∀ (σ2 : L2.St) (u : Option V), (σ2.set 3 u)[k]? = σ2[k]? := fun σ2 u => by
      rw [List.getElem?_set_ne (by omega)]
    refine ⟨?_, ?_⟩
    · show wipe ((wipe σ [3]).set 3 (some _)) [3] = wipe σ [3]
      show (((σ.set 3 none).set 3 (some _)).set 3 none) = σ.set 3 none
      rw [List.set_set, List.set_set]
    · show tOp rEq (tVar 3) (tVar k) ((σ.set 3 none).set 3 (some (V.int (0 + (i : Int))))) H2 _
      refine ⟨_, g3 (σ.set 3 none) _ (by rw [List.length_set]; exact hl), _, (by show ((σ.set 3 none).set 3 (some _))[k]? = _; rw [gk, gk]; exact hz), rfl, _, hD, ?_, fun b o e => ?_, ?_⟩
      · rw [List.length_map, List.length_range, sizeLine_eq]
        omega
      · rw [upd_ne (ne_of_none e nD)]
        exact s2 b o e
      · rw [upd_same, List.range_succ, List.map_append]
        simp [dec_int]
  · rintro H2 ⟨s2, hD⟩
    rw [Int.toNat_natCast] at hD
    exact q D H2 s2 hD
section
variable {P : Program} {w : World} {K : Frag} {mg : Str → Option Value} {base : Heap} {cl ini : Nat → Addr}
theorem scRight : FnScope ["_law_e", "_law_place", "_law_base", "_law_j"] ["_law_e", "_law_place", "_law_base"] (defScope sRight) := ⟨rfl, rfl, rfl, by decide +kernel, rfl, by decide +kernel, by decide +kernel⟩
theorem ok_right {f fA fO : Addr} {fd fdA fdO : FuncData} (F : Fun K "_law_is_right" "_law_is_right" sRight f fd) (FA : Fun K "_law_above" "_law_above" sAbove fA fdA) (FO : Fun K "_law_own" "_law_own" sOwn fO fdO) (A : AllC K mg cl ini)
    (gA : mg "_law_above" = some (.ref fA)) (gO : mg "_law_own" = some (.ref fO)) : FnOk P w K mg base CX0 2 f fd ["_law_e", "_law_place", "_law_base"] (spRight cl) := by
  have GA : FnOk P w K mg base CX0 1 fA fdA ["_law_e"] (spAbove K) := ok_above FA A
  have GO : FnOk P w K mg base CX0 1 fO fdO ["_law_e"] (spOwn K cl) := ok_own FO A
  have bA : Binds K fdA ["_law_e"] [] := FA.binds (ps := ["_law_e"]) fun _ _ _ _ _ _ us hl => match us, hl with | [_], _ => rfl
  have bO : Binds K fdO ["_law_e"] [] := FO.binds (ps := ["_law_e"]) fun _ _ _ _ _ _ us hl => match us, hl with | [_], _ => rfl
  refine F.ok scRight (fun vs H Q E h => ?_) (fun cdv Ar outer s H vs Q E hr h => ?_)
  · obtain ⟨a, n, fs, rfl, _⟩ := h
    rfl
  · obtain ⟨a, n, fs, rfl, hn, he, k⟩ := h
    have hu := hr.units
    refine ⟨_, pss_one (ps_ret (pe_and (pe_cmpR (op_eqD hu) (pe_call GA hr rfl gA FA.kp bA .nil pass0 (pa_cons (pv 0) pa_nil))
        (PE.imp (pe_lc (own := [("_law_j", 3)]) (g := gName 3) (tt := tYes) rfl scRight.nd (pi_range1 rfl A.gr (pa_cons pe_int pa_nil)) (blkOk_by (N := ["_law_e", "_law_place", "_law_base", "_law_j"]) (sc := defScope sRight) (by decide +kernel)) (fun _ _ _ _ _ => pg_name (i := 3) scRight.nd rfl (Or.inl rfl)) (fun _ _ _ _ _ => pts_nil) (fun _ _ _ _ _ => pe_cmpR op_eq (pv 3) (pv 2) (nomark _)))
          (row_range (n := 4) (k := 2) (by decide) (by decide))) (nomark _))
      (pe_one (pe_cmpR (op_eqD hu) (pe_call GO hr rfl gO FO.kp bO .nil pass0 (pa_cons (pv 0) pa_nil))
        (PE.imp (pe_lc (own := [("_law_j", 3)]) (g := gName 3) (tt := tYes) rfl scRight.nd (pi_range1 rfl A.gr (pa_cons pe_int pa_nil)) (blkOk_by (N := ["_law_e", "_law_place", "_law_base", "_law_j"]) (sc := defScope sRight) (by decide +kernel)) (fun _ _ _ _ _ => pg_name (i := 3) scRight.nd rfl (Or.inl rfl)) (fun _ _ _ _ _ => pts_nil) (fun _ _ _ _ _ => pe_cmpR op_eq (pv 3) (pv 1) (nomark _)))
          (row_range (n := 31) (k := 1) (by decide) (by decide))) (nomark _))))), ?_⟩
    refine ⟨_, rfl, a, cl n, fs, tbk n, rfl, he, A.ek n hn, fun p1 H1 s1 g1 => ⟨_, rfl, rfl, fun p2 H2 s2 g2 => ?_⟩⟩
    refine eq_rows ((List.range 4).map fun j => decide (((j : Nat) : Int) = (tbk n).no)) (by rw [List.map_map]; exact s2 _ _ g1) (by rw [List.map_map]; exact g2) ⟨true, rfl, iteT ?_⟩
    refine ⟨_, rfl, a, cl n, fs, tbk n, rfl, (he.same s1).same s2, A.ek n hn, fun p3 H3 s3 g3 => ⟨_, rfl, rfl, fun p4 H4 s4 g4 => ?_⟩⟩
    have same : (List.range 31).map (fun j => V.bl (decide (cl n = cl j))) = (List.range 31).map (fun j => V.bl (decide (((j : Nat) : Int) = (n : Int)))) := by
      refine List.map_congr_left fun j hj => ?_
      have hj2 : j < 31 := List.mem_range.mp hj
      congr 1
      by_cases e : n = j
      · rw [e]
        simp
      · have e2 : ¬ cl n = cl j := fun z => e (A.apart n j hn hj2 z)
        have e3 : ¬ ((j : Nat) : Int) = (n : Int) := by omega
        rw [decide_eq_false e2, decide_eq_false e3]
    rw [same] at g3
    exact eq_rows ((List.range 31).map fun j => decide (((j : Nat) : Int) = (n : Int))) (by rw [List.map_map]; exact s4 _ _ g3) (by rw [List.map_map]; exact g4) (k H4 (((s1.trans s2).trans s3).trans s4))
end
end Fh0
set_option Elab.async false
set_option linter.all false
set_option maxRecDepth 100000
set_option maxHeartbeats 4000000
namespace Fh0
open PySem PySem.Spec PyProof.Rows L2 Fh
open PySem.W (Frag)
theorem tfd_cases : ∀ n, n < 27 → tfd n = "value" ∨ tfd n = "field" ∨ tfd n = "index" ∨ tfd n = "name" ∨ tfd n = "limit" ∨ tfd n = "kind" ∨ tfd n = "number" ∨ tfd n = "person" ∨ tfd n = "case" := by decide +kernel
def tit1 : List V := [V.str "value", V.str "value", V.str "field", V.str "value", V.str "value", V.str "value", V.str "index", V.str "value", V.str "value", V.str "value", V.str "name", V.str "value"]
def tit2 : List V := [V.str "name", V.str "value", V.str "value", V.str "value", V.str "value", V.str "value", V.str "value", V.str "value", V.str "limit", V.str "kind", V.str "value"]
def tit3 : List V := [V.str "number", V.str "person", V.str "person", V.str "case"]
theorem tits_eq : (tit1 ++ tit2) ++ tit3 = (List.range 27).map fun n => V.str (tfd n) := by decide +kernel
theorem tits_at {n : Nat} (h : n < 27) : atI ((tit1 ++ tit2) ++ tit3) (n : Int) = some (.str (tfd n)) := by
  refine atI_nat ?_
  rw [tits_eq, List.getElem?_map, List.getElem?_range h]
  rfl
def spField (cl : Nat → Addr) : Sp := fun vs H Q _ => ∃ (a : Addr) (n : Nat) (v : V), vs = [.ref a, .int (n : Int)] ∧ n < 27 ∧ ErrAt H a (cl n) [(tfd n, v)] ∧ ∀ H', Same H H' → Q v H'
theorem str_of {x y : Str} (h : decide (V.str x = V.str y) = true) : x = y := V.str.inj (of_decide_eq_true h)
theorem inV2 {x a b : Str} (h : inV (.str x) [.str a, .str b] = true) : x = a ∨ x = b := by
  have h2 : (eqV (.str a) (.str x) || (eqV (.str b) (.str x) || false)) = true := h
  rw [Bool.or_false, Bool.or_eq_true] at h2
  rcases h2 with z | z
  · left
    exact (of_decide_eq_true (show decide (a = x) = true from z)).symm
  · right
    exact (of_decide_eq_true (show decide (b = x) = true from z)).symm
section
variable {P : Program} {w : World} {K : Frag} {mg : Str → Option Value} {base : Heap} {cl ini : Nat → Addr}
theorem err_get (A : AllC K mg cl ini) {n : Nat} {a : Addr} {v : V} {c : Str} {σ : L2.St} {H : Hp} {Q : VK} (hn : n < 27) (e : tfd n = c) (h0 : σ[0]? = some (some (V.ref a))) (he : ErrAt H a (cl n) [(tfd n, v)]) (q : Q v H) : tErrF K c (tVar 0) σ H Q := by
  have O := A.c n hn
  refine ⟨.ref a, h0, a, cl n, _, _, _, v, rfl, he, O.ei, (tbk n).hB, ?_, ?_, q⟩
  · rw [← e]
    exact O.no
  · rw [e]
    simp [List.lookup]
theorem scField : FnScope ["_law_e", "_law_k", "_law_titles", "_law_title"] ["_law_e", "_law_k"] (defScope sField) := ⟨rfl, rfl, rfl, by decide +kernel, rfl, by decide +kernel, by decide +kernel⟩
theorem ok_field {f : Addr} {fd : FuncData} (F : Fun K "_law_field" "_law_field" sField f fd) (A : AllC K mg cl ini) : FnOk P w K mg base CX0 1 f fd ["_law_e", "_law_k"] (spField cl) := by
  refine F.ok scField (fun vs H Q E h => ?_) (fun cdv Ar outer s H vs Q E hr h => ?_)
  · obtain ⟨a, n, v, rfl, _⟩ := h
    rfl
  · obtain ⟨a, n, v, rfl, hn, he, k⟩ := h
    refine ⟨_, pss_cons (ps_set (i := 2) scField.nd rfl (Or.inl rfl) (pe_lst (pa_cons pe_str (pa_cons pe_str (pa_cons pe_str (pa_cons pe_str (pa_cons pe_str (pa_cons pe_str (pa_cons pe_str (pa_cons pe_str (pa_cons pe_str (pa_cons pe_str (pa_cons pe_str (pa_cons pe_str pa_nil))))))))))))))
      (pss_cons (ps_set (i := 2) scField.nd rfl (Or.inl rfl) (pe_op op_cat (pv 2) (pe_lst (pa_cons pe_str (pa_cons pe_str (pa_cons pe_str (pa_cons pe_str (pa_cons pe_str (pa_cons pe_str (pa_cons pe_str (pa_cons pe_str (pa_cons pe_str (pa_cons pe_str (pa_cons pe_str pa_nil))))))))))))))
      (pss_cons (ps_set (i := 3) scField.nd rfl (Or.inl rfl) (pe_ix ix_list (pe_op op_cat (pv 2) (pe_lst (pa_cons pe_str (pa_cons pe_str (pa_cons pe_str (pa_cons pe_str pa_nil)))))) (pv 1) (fun _ _ => rfl)))
      (pss_cons (ps_if (pt_cmpR op_eq (pv 3) pe_str (nomark _)) (pss_one (ps_ret (pe_errF (pv 0)))) pss_nil)
      (pss_cons (ps_if (pt_cmpR op_eq (pv 3) pe_str (nomark _)) (pss_one (ps_ret (pe_errF (pv 0)))) pss_nil)
      (pss_cons (ps_if (pt_cmpR op_in_seq (pv 3) (pe_tup (pa_cons pe_str (pa_cons pe_str pa_nil))) (by rfl)) (pss_one (ps_ret (pe_ifExp (pt_cmpR op_eq (pv 3) pe_str (nomark _)) (pe_errF (pv 0)) (pe_errF (pv 0))))) pss_nil)
      (pss_cons (ps_if (pt_cmpR op_in_seq (pv 3) (pe_tup (pa_cons pe_str (pa_cons pe_str pa_nil))) (by rfl)) (pss_one (ps_ret (pe_ifExp (pt_cmpR op_eq (pv 3) pe_str (nomark _)) (pe_errF (pv 0)) (pe_errF (pv 0))))) pss_nil)
      (pss_cons (ps_if (pt_cmpR op_in_seq (pv 3) (pe_tup (pa_cons pe_str (pa_cons pe_str pa_nil))) (by rfl)) (pss_one (ps_ret (pe_ifExp (pt_cmpR op_eq (pv 3) pe_str (nomark _)) (pe_errF (pv 0)) (pe_errF (pv 0))))) pss_nil)
      (pss_one (ps_ret (pe_errF (pv 0))))))))))), ?_⟩
    refine ⟨(show 12 ≤ sizeLine by decide), fun p np => ?_⟩
    have s1 := Same.new (o := .lst tit1) np
    refine ⟨_, rfl, (show 11 ≤ sizeLine by decide), fun p1 n1 => ?_⟩
    have s2 := Same.upd (o := .lst tit2) s1 n1
    refine ⟨p, p1, tit1, tit2, rfl, rfl, Same.new n1 _ _ upd_same, upd_same, (show 12 + 11 ≤ sizeLine by decide), fun p2 n2 => ?_⟩
    have s3 := Same.upd (o := .lst (tit1 ++ tit2)) s2 n2
    refine ⟨_, rfl, (show 4 ≤ sizeLine by decide), fun p3 n3 => ?_⟩
    have s4 := Same.upd (o := .lst tit3) s3 n3
    refine ⟨p2, p3, tit1 ++ tit2, tit3, rfl, rfl, Same.new n3 _ _ upd_same, upd_same, (show 23 + 4 ≤ sizeLine by decide), fun p4 n4 => ?_⟩
    have s5 := Same.upd (o := .lst ((tit1 ++ tit2) ++ tit3)) s4 n4
    refine ⟨_, rfl, p4, _, _, _, rfl, rfl, SqL.of upd_same, tits_at hn, ?_⟩
    have he5 := he.same s5
    have k5 := k _ s5
    refine ⟨_, rfl, rfl, _, rfl, ite2 (fun h => ?_) (fun h1 => ?_)⟩
    · exact err_get A hn (str_of h) rfl he5 k5
    refine ⟨_, rfl, rfl, _, rfl, ite2 (fun h => ?_) (fun h2 => ?_)⟩
    · exact err_get A hn (str_of h) rfl he5 k5
    refine ⟨_, rfl, (show 2 ≤ sizeLine by decide), fun q1 m1 => ?_⟩
    have z1 := Same.upd (o := .tup [V.str "index", .str "limit"]) s5 m1
    refine ⟨q1, _, rfl, Or.inr (SqT.of upd_same), rfl, rfl, _, rfl, ite2 (fun h => ?_) (fun h3 => ?_)⟩
    · rcases inV2 h with e | e
      · refine ⟨_, rfl, rfl, _, rfl, ite2 (fun _ => err_get A hn e rfl (he.same z1) (k _ z1)) (fun y => absurd (decide_eq_true (congrArg V.str e)) y)⟩
      · refine ⟨_, rfl, rfl, _, rfl, ite2 (fun y => absurd ((str_of y).symm.trans e) (by decide +kernel)) (fun _ => err_get A hn e rfl (he.same z1) (k _ z1))⟩
    refine ⟨_, rfl, (show 2 ≤ sizeLine by decide), fun q2 m2 => ?_⟩
    have z2 := Same.upd (o := .tup [V.str "name", .str "kind"]) z1 m2
    refine ⟨q2, _, rfl, Or.inr (SqT.of upd_same), rfl, rfl, _, rfl, ite2 (fun h => ?_) (fun h4 => ?_)⟩
    · rcases inV2 h with e | e
      · refine ⟨_, rfl, rfl, _, rfl, ite2 (fun _ => err_get A hn e rfl (he.same z2) (k _ z2)) (fun y => absurd (decide_eq_true (congrArg V.str e)) y)⟩
      · refine ⟨_, rfl, rfl, _, rfl, ite2 (fun y => absurd ((str_of y).symm.trans e) (by decide +kernel)) (fun _ => err_get A hn e rfl (he.same z2) (k _ z2))⟩
    refine ⟨_, rfl, (show 2 ≤ sizeLine by decide), fun q3 m3 => ?_⟩
    have z3 := Same.upd (o := .tup [V.str "number", .str "person"]) z2 m3
    refine ⟨q3, _, rfl, Or.inr (SqT.of upd_same), rfl, rfl, _, rfl, ite2 (fun h => ?_) (fun h5 => ?_)⟩
    · rcases inV2 h with e | e
      · refine ⟨_, rfl, rfl, _, rfl, ite2 (fun _ => err_get A hn e rfl (he.same z3) (k _ z3)) (fun y => absurd (decide_eq_true (congrArg V.str e)) y)⟩
      · refine ⟨_, rfl, rfl, _, rfl, ite2 (fun y => absurd ((str_of y).symm.trans e) (by decide +kernel)) (fun _ => err_get A hn e rfl (he.same z3) (k _ z3))⟩
    have last : tfd n = "case" := by
      rcases tfd_cases n hn with e | e | e | e | e | e | e | e | e
      · exact absurd (decide_eq_true (congrArg V.str e)) h1
      · exact absurd (decide_eq_true (congrArg V.str e)) h2
      · exact absurd (by rw [e]; decide +kernel) h3
      · exact absurd (by rw [e]; decide +kernel) h4
      · exact absurd (by rw [e]; decide +kernel) h3
      · exact absurd (by rw [e]; decide +kernel) h4
      · exact absurd (by rw [e]; decide +kernel) h5
      · exact absurd (by rw [e]; decide +kernel) h5
      · exact e
    exact err_get A hn last rfl (he.same z3) (k _ z3)
end
end Fh0
set_option Elab.async false
set_option linter.all false
set_option maxRecDepth 100000
set_option maxHeartbeats 4000000
namespace Fh0
open PySem PySem.Spec PyProof.Rows L2 Fh
open PySem.W (Frag)
/-! ### the pairs of errors -/
/-- x is the pair of place n, made of v -/
def Told (cl : Nat → Addr) (v : V) (n : Nat) (H : Hp) (x : V) : Prop := ∃ p a b, x = .ref p ∧ H p = some (.tup [.ref a, .ref b]) ∧ ErrAt H a (cl n) [(tfd n, v)] ∧ ErrAt H b (cl n) [(tfd n, v)]
theorem Told.same {cl : Nat → Addr} {v : V} {n : Nat} {H H' : Hp} {x : V} (s : Same H H') (h : Told cl v n H x) : Told cl v n H' x := by
  obtain ⟨p, a, b, e, h1, h2, h3⟩ := h
  exact ⟨p, a, b, e, s _ _ h1, h2.same s, h3.same s⟩
/-- xs are the pairs of the places from i on -/
def Tolds (cl : Nat → Addr) (v : V) (i : Nat) (H : Hp) (xs : List V) : Prop := ∀ j x, xs[j]? = some x → Told cl v (i + j) H x
theorem Tolds.same {cl : Nat → Addr} {v : V} {n : Nat} {H H' : Hp} {x : List V} (s : Same H H') (h : Tolds cl v n H x) : Tolds cl v n H' x := fun j y e => (h j y e).same s
theorem Tolds.append {cl : Nat → Addr} {v : V} {i : Nat} {H : Hp} {xs ys : List V} (h : Tolds cl v i H xs) (k : Tolds cl v (i + xs.length) H ys) : Tolds cl v i H (xs ++ ys) := fun j x e => by
  by_cases hj : j < xs.length
  · rw [List.getElem?_append_left hj] at e
    exact h j x e
  · rw [List.getElem?_append_right (by omega)] at e
    have q := k (j - xs.length) x e
    rw [show i + xs.length + (j - xs.length) = i + j by omega] at q
    exact q
/-- displays of m such pairs from i on -/
def tPairs (cl : Nat → Addr) (i m : Nat) : TA := fun σ H Q => ∃ v, σ[0]? = some (some v) ∧ ∀ xs H', Same H H' → xs.length = m → Tolds cl v i H' xs → Q xs H'
section
variable {X : Cx} {cl : Nat → Addr} {i m : Nat} {e : Expr} {es : List Expr}
theorem ptp_nil : PA X [] (tPairs cl i 0) := PA.imp pa_nil fun σ H Q ⟨v, h, q⟩ => q [] H (Same.refl H) rfl fun j x z => by simp at z
theorem ptp_cons (h : PE X e (tPair (cl i) (tfd i))) (r : PA X es (tPairs cl (i + 1) m)) (hs : starEach (e :: es) X.env = (false, eval e X.env) :: starEach es X.env := by rfl) : PA X (e :: es) (tPairs cl i (m + 1)) :=
  PA.imp (pa_cons h r hs) fun σ H Q ⟨v, h0, q⟩ => ⟨v, h0, fun p a b H1 s1 g1 e1 e2 => ⟨v, h0, fun xs H2 s2 l2 t2 => q _ H2 (s1.trans s2) (congrArg Nat.succ l2) fun j x z => by
    cases j with
    | zero =>
      have z2 : V.ref p = x := Option.some.inj z
      exact ⟨p, a, b, z2.symm, s2 _ _ g1, e1.same s2, e2.same s2⟩
    | succ j =>
      have q2 := t2 j x (by simpa using z)
      rw [show i + 1 + j = i + (j + 1) by omega] at q2
      exact q2⟩⟩
end
def tGrowP (cl : Nat → Addr) (i m : Nat) : TS := fun D σ H => ∃ (v : V) (l : Addr) (xs : List V), σ = [some v, some (.ref l)] ∧ H l = some (.lst xs) ∧ xs.length = i ∧ i + m ≤ 1000 ∧ Tolds cl v 0 H xs ∧
  ∀ l' xs' H', Same H H' → H' l' = some (.lst xs') → xs'.length = i + m → Tolds cl v 0 H' xs' → D.nx [some v, some (.ref l')] H'
theorem grow_P {cl : Nat → Addr} {i m : Nat} (D : Ends) (σ : L2.St) (H : Hp) (h : tGrowP cl i m D σ H) : tAsg (tOp rCat (tVar 1) (tLst (tPairs cl i m))) (gName 1) D σ H := by
  obtain ⟨v, l, xs, rfl, hl, hn, hm, t, q⟩ := h
  refine ⟨_, rfl, v, rfl, fun ys H1 s1 l1 t1 => ⟨by rw [l1, sizeLine_eq]; omega, fun p np => ?_⟩⟩
  have s2 := Same.upd (o := .lst ys) s1 np
  refine ⟨l, p, xs, ys, rfl, rfl, s2 _ _ hl, upd_same, by rw [hn, l1, sizeLine_eq]; omega, fun p2 n2 => ?_⟩
  have s3 := Same.upd (o := .lst (xs ++ ys)) s2 n2
  refine q p2 _ _ s3 upd_same (by rw [List.length_append, hn, l1]) ((t.same s3).append ?_)
  rw [hn, Nat.zero_add]
  exact t1.same ((Same.new np).trans (Same.new n2))
def tStartP (cl : Nat → Addr) (m : Nat) : TS := fun D σ H => ∃ (v : V) (o : Option V), σ = [some v, o] ∧ m ≤ 1000 ∧
  ∀ l' xs' H', Same H H' → H' l' = some (.lst xs') → xs'.length = m → Tolds cl v 0 H' xs' → D.nx [some v, some (.ref l')] H'
theorem start_P {cl : Nat → Addr} {m : Nat} (D : Ends) (σ : L2.St) (H : Hp) (h : tStartP cl m D σ H) : tAsg (tLst (tPairs cl 0 m)) (gName 1) D σ H := by
  obtain ⟨v, o, rfl, hm, q⟩ := h
  exact ⟨v, rfl, fun ys H1 s1 l1 t1 => ⟨by rw [l1, sizeLine_eq]; omega, fun p np => q p ys _ (Same.upd s1 np) upd_same l1 (t1.same (Same.new np))⟩⟩
def spOnes (cl : Nat → Addr) : Sp := fun vs H Q _ => ∃ v, vs = [v] ∧ ∀ l xs H', Same H H' → H' l = some (.lst xs) → xs.length = 27 → Tolds cl v 0 H' xs → Q (.ref l) H'
section
variable {P : Program} {w : World} {K : Frag} {mg : Str → Option Value} {base : Heap} {cl ini : Nat → Addr}
theorem scOnes : FnScope ["_law_odd", "_law_found"] ["_law_odd"] (defScope sOnes) := ⟨rfl, rfl, rfl, by decide +kernel, rfl, by decide +kernel, by decide +kernel⟩
theorem ok_ones {f : Addr} {fd : FuncData} (F : Fun K "_law_ones" "_law_ones" sOnes f fd) (A : AllC K mg cl ini) : FnOk P w K mg base CX0 3 f fd ["_law_odd"] (spOnes cl) := by
  refine F.ok scOnes (fun vs H Q E h => ?_) (fun cdv Ar outer s H vs Q E hr2 h => ?_)
  · obtain ⟨v, rfl, _⟩ := h
    rfl
  · obtain ⟨v, rfl, k⟩ := h
    refine ⟨_, pss_cons (PS.imp (ps_set (i := 1) scOnes.nd rfl (Or.inl rfl) (pe_lst (ptp_cons (i := 0) (pe_pair (A.c 0 (by decide)) hr2 (by rfl) (pv 0) (pv 0) (by decide)) (ptp_cons (i := 1) (pe_pair (A.c 1 (by decide)) hr2 (by rfl) (pv 0) (pv 0) (by decide)) ptp_nil)))) (start_P (cl := cl) (m := 2)))
      (pss_cons (PS.imp (ps_set (i := 1) scOnes.nd rfl (Or.inl rfl) (pe_op op_cat (pv 1) (pe_lst (ptp_cons (i := 2) (pe_pair (A.c 2 (by decide)) hr2 (by rfl) (pv 0) (pv 0) (by decide)) (ptp_cons (i := 3) (pe_pair (A.c 3 (by decide)) hr2 (by rfl) (pv 0) (pv 0) (by decide)) ptp_nil))))) (grow_P (cl := cl) (i := 2) (m := 2)))
      (pss_cons (PS.imp (ps_set (i := 1) scOnes.nd rfl (Or.inl rfl) (pe_op op_cat (pv 1) (pe_lst (ptp_cons (i := 4) (pe_pair (A.c 4 (by decide)) hr2 (by rfl) (pv 0) (pv 0) (by decide)) (ptp_cons (i := 5) (pe_pair (A.c 5 (by decide)) hr2 (by rfl) (pv 0) (pv 0) (by decide)) ptp_nil))))) (grow_P (cl := cl) (i := 4) (m := 2)))
      (pss_cons (PS.imp (ps_set (i := 1) scOnes.nd rfl (Or.inl rfl) (pe_op op_cat (pv 1) (pe_lst (ptp_cons (i := 6) (pe_pair (A.c 6 (by decide)) hr2 (by rfl) (pv 0) (pv 0) (by decide)) (ptp_cons (i := 7) (pe_pair (A.c 7 (by decide)) hr2 (by rfl) (pv 0) (pv 0) (by decide)) ptp_nil))))) (grow_P (cl := cl) (i := 6) (m := 2)))
      (pss_cons (PS.imp (ps_set (i := 1) scOnes.nd rfl (Or.inl rfl) (pe_op op_cat (pv 1) (pe_lst (ptp_cons (i := 8) (pe_pair (A.c 8 (by decide)) hr2 (by rfl) (pv 0) (pv 0) (by decide)) (ptp_cons (i := 9) (pe_pair (A.c 9 (by decide)) hr2 (by rfl) (pv 0) (pv 0) (by decide)) ptp_nil))))) (grow_P (cl := cl) (i := 8) (m := 2)))
      (pss_cons (PS.imp (ps_set (i := 1) scOnes.nd rfl (Or.inl rfl) (pe_op op_cat (pv 1) (pe_lst (ptp_cons (i := 10) (pe_pair (A.c 10 (by decide)) hr2 (by rfl) (pv 0) (pv 0) (by decide)) (ptp_cons (i := 11) (pe_pair (A.c 11 (by decide)) hr2 (by rfl) (pv 0) (pv 0) (by decide)) ptp_nil))))) (grow_P (cl := cl) (i := 10) (m := 2)))
      (pss_cons (PS.imp (ps_set (i := 1) scOnes.nd rfl (Or.inl rfl) (pe_op op_cat (pv 1) (pe_lst (ptp_cons (i := 12) (pe_pair (A.c 12 (by decide)) hr2 (by rfl) (pv 0) (pv 0) (by decide)) (ptp_cons (i := 13) (pe_pair (A.c 13 (by decide)) hr2 (by rfl) (pv 0) (pv 0) (by decide)) ptp_nil))))) (grow_P (cl := cl) (i := 12) (m := 2)))
      (pss_cons (PS.imp (ps_set (i := 1) scOnes.nd rfl (Or.inl rfl) (pe_op op_cat (pv 1) (pe_lst (ptp_cons (i := 14) (pe_pair (A.c 14 (by decide)) hr2 (by rfl) (pv 0) (pv 0) (by decide)) (ptp_cons (i := 15) (pe_pair (A.c 15 (by decide)) hr2 (by rfl) (pv 0) (pv 0) (by decide)) ptp_nil))))) (grow_P (cl := cl) (i := 14) (m := 2)))
      (pss_cons (PS.imp (ps_set (i := 1) scOnes.nd rfl (Or.inl rfl) (pe_op op_cat (pv 1) (pe_lst (ptp_cons (i := 16) (pe_pair (A.c 16 (by decide)) hr2 (by rfl) (pv 0) (pv 0) (by decide)) (ptp_cons (i := 17) (pe_pair (A.c 17 (by decide)) hr2 (by rfl) (pv 0) (pv 0) (by decide)) ptp_nil))))) (grow_P (cl := cl) (i := 16) (m := 2)))
      (pss_cons (PS.imp (ps_set (i := 1) scOnes.nd rfl (Or.inl rfl) (pe_op op_cat (pv 1) (pe_lst (ptp_cons (i := 18) (pe_pair (A.c 18 (by decide)) hr2 (by rfl) (pv 0) (pv 0) (by decide)) (ptp_cons (i := 19) (pe_pair (A.c 19 (by decide)) hr2 (by rfl) (pv 0) (pv 0) (by decide)) ptp_nil))))) (grow_P (cl := cl) (i := 18) (m := 2)))
      (pss_cons (PS.imp (ps_set (i := 1) scOnes.nd rfl (Or.inl rfl) (pe_op op_cat (pv 1) (pe_lst (ptp_cons (i := 20) (pe_pair (A.c 20 (by decide)) hr2 (by rfl) (pv 0) (pv 0) (by decide)) (ptp_cons (i := 21) (pe_pair (A.c 21 (by decide)) hr2 (by rfl) (pv 0) (pv 0) (by decide)) ptp_nil))))) (grow_P (cl := cl) (i := 20) (m := 2)))
      (pss_cons (PS.imp (ps_set (i := 1) scOnes.nd rfl (Or.inl rfl) (pe_op op_cat (pv 1) (pe_lst (ptp_cons (i := 22) (pe_pair (A.c 22 (by decide)) hr2 (by rfl) (pv 0) (pv 0) (by decide)) (ptp_cons (i := 23) (pe_pair (A.c 23 (by decide)) hr2 (by rfl) (pv 0) (pv 0) (by decide)) ptp_nil))))) (grow_P (cl := cl) (i := 22) (m := 2)))
      (pss_cons (PS.imp (ps_set (i := 1) scOnes.nd rfl (Or.inl rfl) (pe_op op_cat (pv 1) (pe_lst (ptp_cons (i := 24) (pe_pair (A.c 24 (by decide)) hr2 (by rfl) (pv 0) (pv 0) (by decide)) (ptp_cons (i := 25) (pe_pair (A.c 25 (by decide)) hr2 (by rfl) (pv 0) (pv 0) (by decide)) ptp_nil))))) (grow_P (cl := cl) (i := 24) (m := 2)))
      (pss_cons (PS.imp (ps_set (i := 1) scOnes.nd rfl (Or.inl rfl) (pe_op op_cat (pv 1) (pe_lst (ptp_cons (i := 26) (pe_pair (A.c 26 (by decide)) hr2 (by rfl) (pv 0) (pv 0) (by decide)) ptp_nil)))) (grow_P (cl := cl) (i := 26) (m := 1)))
      (pss_one (ps_ret (pv 1)))))))))))))))), ?_⟩
    refine ⟨v, none, rfl, by decide, fun l0 y0 H0 s0 g0 n0 t0 => ?_⟩
    refine ⟨v, l0, y0, rfl, g0, n0, by decide, t0, fun l1 y1 H1 z1 g1 n1 t1 => ?_⟩
    have s1 := s0.trans z1
    refine ⟨v, l1, y1, rfl, g1, n1, by decide, t1, fun l2 y2 H2 z2 g2 n2 t2 => ?_⟩
    have s2 := s1.trans z2
    refine ⟨v, l2, y2, rfl, g2, n2, by decide, t2, fun l3 y3 H3 z3 g3 n3 t3 => ?_⟩
    have s3 := s2.trans z3
    refine ⟨v, l3, y3, rfl, g3, n3, by decide, t3, fun l4 y4 H4 z4 g4 n4 t4 => ?_⟩
    have s4 := s3.trans z4
    refine ⟨v, l4, y4, rfl, g4, n4, by decide, t4, fun l5 y5 H5 z5 g5 n5 t5 => ?_⟩
    have s5 := s4.trans z5
    refine ⟨v, l5, y5, rfl, g5, n5, by decide, t5, fun l6 y6 H6 z6 g6 n6 t6 => ?_⟩
    have s6 := s5.trans z6
    refine ⟨v, l6, y6, rfl, g6, n6, by decide, t6, fun l7 y7 H7 z7 g7 n7 t7 => ?_⟩
    have s7 := s6.trans z7
    refine ⟨v, l7, y7, rfl, g7, n7, by decide, t7, fun l8 y8 H8 z8 g8 n8 t8 => ?_⟩
    have s8 := s7.trans z8
    refine ⟨v, l8, y8, rfl, g8, n8, by decide, t8, fun l9 y9 H9 z9 g9 n9 t9 => ?_⟩
    have s9 := s8.trans z9
    refine ⟨v, l9, y9, rfl, g9, n9, by decide, t9, fun l10 y10 H10 z10 g10 n10 t10 => ?_⟩
    have s10 := s9.trans z10
    refine ⟨v, l10, y10, rfl, g10, n10, by decide, t10, fun l11 y11 H11 z11 g11 n11 t11 => ?_⟩
    have s11 := s10.trans z11
    refine ⟨v, l11, y11, rfl, g11, n11, by decide, t11, fun l12 y12 H12 z12 g12 n12 t12 => ?_⟩
    have s12 := s11.trans z12
    refine ⟨v, l12, y12, rfl, g12, n12, by decide, t12, fun l13 y13 H13 z13 g13 n13 t13 => ?_⟩
    have s13 := s12.trans z13
    exact ⟨_, rfl, k l13 y13 H13 s13 g13 n13 t13⟩
end
end Fh0
set_option Elab.async false
set_option linter.all false
set_option maxRecDepth 100000
set_option maxHeartbeats 4000000
namespace Fh0
open PySem PySem.Spec PyProof.Rows L2 Fh
open PySem.W (Frag)
/-! ### errors of two fields -/
def tTwo (C : Addr) : TE := fun σ H Q => ∃ v u, σ[0]? = some (some v) ∧ σ[1]? = some (some u) ∧ ∀ p a b H', Same H H' → H' p = some (.lst [.ref a, .ref b]) → ErrAt H' a C [("name", u), ("person", v)] → ErrAt H' b C [("name", u), ("person", v)] → Q (.ref p) H'
section
variable {X : Cx} {nm o o2 : Str} {b : BK} {C fI : Addr} {p1 p2 q1 q2 q3 q4 r1 r2 kp kp2 pos : Pos}
theorem pe_two (O : Ok2 X.K X.mg nm b "person" "name" C fI) (hr : Room 2 X.A) (hg : Gl X nm) (v1 : PE X (.Name o q1) (tVar 0)) (v2 : PE X (.Name o2 q2) (tVar 1)) (v3 : PE X (.Name o2 q3) (tVar 1)) (v4 : PE X (.Name o q4) (tVar 0)) (hdb : (nm == ("__debug__" : Str)) = false := by decide)
    (hs : starEach [Expr.Name o q1, .Name o2 q2] X.env = (false, eval (.Name o q1) X.env) :: starEach [.Name o2 q2] X.env := by rfl) (hs2 : starEach [Expr.Name o2 q2] X.env = (false, eval (.Name o2 q2) X.env) :: starEach [] X.env := by rfl)
    (hpl : ((backTo r1 (starEach [Expr.Name o q1, .Name o2 q2] X.env)).any (·.1) || (backToKw r1 (keywordEach [] X.env)).any (·.1.isNone)) = false := by rfl)
    (hall : (backToKw r2 (keywordEach [⟨some "name", .Name o2 q3, kp⟩, ⟨some "person", .Name o q4, kp2⟩] X.env)).all (·.1.isSome) = true := by rfl)
    (hks : (backToKw r2 (keywordEach [⟨some "name", .Name o2 q3, kp⟩, ⟨some "person", .Name o q4, kp2⟩] X.env)).filterMap (·.1) = [("name" : Str), ("person" : Str)] := by rfl)
    (hpl2 : ((backTo r2 (starEach [] X.env)).any (·.1) || (backToKw r2 (keywordEach [⟨some "name", .Name o2 q3, kp⟩, ⟨some "person", .Name o q4, kp2⟩] X.env)).any (·.1.isNone)) = false := by rfl)
    (hst : starEach [Expr.Call (.Name nm p1) [.Name o q1, .Name o2 q2] [] r1, .Call (.Name nm p2) [] [⟨some "name", .Name o2 q3, kp⟩, ⟨some "person", .Name o q4, kp2⟩] r2] X.env = (false, eval (.Call (.Name nm p1) [.Name o q1, .Name o2 q2] [] r1) X.env) :: starEach [.Call (.Name nm p2) [] [⟨some "name", .Name o2 q3, kp⟩, ⟨some "person", .Name o q4, kp2⟩] r2] X.env := by rfl)
    (hst2 : starEach [Expr.Call (.Name nm p2) [] [⟨some "name", .Name o2 q3, kp⟩, ⟨some "person", .Name o q4, kp2⟩] r2] X.env = (false, eval (.Call (.Name nm p2) [] [⟨some "name", .Name o2 q3, kp⟩, ⟨some "person", .Name o q4, kp2⟩] r2) X.env) :: starEach [] X.env := by rfl) :
    PE X (.List [.Call (.Name nm p1) [.Name o q1, .Name o2 q2] [] r1, .Call (.Name nm p2) [] [⟨some "name", .Name o2 q3, kp⟩, ⟨some "person", .Name o q4, kp2⟩] r2] pos) (tTwo C) := by
  obtain ⟨fd, F, k0, k1⟩ := O.fn
  have G := F X.prog X.w X.base
  refine PE.imp (pe_lst (pa_cons (pe_mkE (n := 2) O.ei b.fb O.iC O.tI G hr k0 (by decide) hg O.gC (pa_cons v1 (pa_cons v2 pa_nil hs2) hs) pk_nil rfl rfl hdb hs hpl)
    (pa_cons (pe_mkE0 O.ei b.fb O.iC O.tI G hr k1 hg O.gC (pk_cons v3 (pk_cons v4 pk_nil)) hall hks hdb hpl2) pa_nil hst2) hst)) fun σ H Q ⟨v, u, hv, hu, q⟩ => ?_
  refine ⟨v, hv, u, hu, rfl, rfl, fun a na => ⟨a, v, u, rfl, upd_same, fun d nd ne => ⟨rfl, ?_⟩⟩⟩
  obtain ⟨_, _, s1, e1⟩ := err_made (C := C) (fs := [("person", v)]) (fs' := [("name", u), ("person", v)]) na nd ne
  generalize upd (upd (upd (upd H a (exo a C none)) d (exd d [("person", v)])) a (exo a C (some d))) d (exd d [("name", u), ("person", v)]) = H1 at s1 e1 ⊢
  refine ⟨u, hu, v, hv, rfl, rfl, fun a2 na2 => ⟨a2, v, u, rfl, upd_same, fun d2 nd2 ne2 => ⟨rfl, ?_⟩⟩⟩
  obtain ⟨_, _, s2, e2⟩ := err_made (C := C) (fs := [("person", v)]) (fs' := [("name", u), ("person", v)]) na2 nd2 ne2
  generalize upd (upd (upd (upd H1 a2 (exo a2 C none)) d2 (exd d2 [("person", v)])) a2 (exo a2 C (some d2))) d2 (exd d2 [("name", u), ("person", v)]) = H2 at s2 e2 ⊢
  refine ⟨(show 2 ≤ sizeLine by decide), fun p np => q p a a2 _ (Same.upd (s1.trans s2) np) upd_same ((e1.same s2).same (Same.new np)) (e2.same (Same.new np))⟩
end
def spTwos : Sp := fun vs H Q _ => ∃ (v u : V) (N : Addr → Prop) (d e : PyData), vs = [v, u] ∧ DA N H v d ∧ DA N H u e ∧ okD d = true ∧ okD e = true ∧ ∀ H', Same H H' → Q (.bl true) H'
/-- repr of two values, twice, in two lists -/
theorem two_reprs {K : Frag} {H : Hp} {p q : Addr} {d e : PyData} {Q : VK} (hd : okD d = true) (he : okD e = true) (h1 : H p = some (.lst [.str d.shown, .str e.shown])) (h2 : H q = some (.lst [.str d.shown, .str e.shown])) (k : Q (.bl false) H) : rNeD K (.ref p) (.ref q) H Q := by
  have lay : PyData.canLay0 (.list [.str d.shown, .str e.shown]) = true := by
    have a := okD_lay hd
    have b := okD_lay he
    simp only [PyData.canLay0, PyData.canLayAll0] at a b ⊢
    rw [a, b]
    rfl
  have sh : SeqAt.shaped (.list [.str d.shown, .str e.shown]) = true := by
    unfold SeqAt.shaped
    rw [lay]
    simp [PyData.depth, PyData.depthAll]
  refine ⟨_, _, Dp.lst (SqL.of h1) (.cons (.str _) (.cons (.str _) .nil)), Dp.lst (SqL.of h2) (.cons (.str _) (.cons (.str _) .nil)), sh, sh, ?_⟩
  rw [SeqAt.eqv_refl _ lay]
  exact k
section
variable {P : Program} {w : World} {K : Frag} {mg : Str → Option Value} {base : Heap} {cl ini : Nat → Addr}
theorem scTwos : FnScope ["_law_odd", "_law_more", "_law_e"] ["_law_odd", "_law_more"] (defScope sTwos) := ⟨rfl, rfl, rfl, by decide +kernel, rfl, by decide +kernel, by decide +kernel⟩
theorem ok_twos {f fR fA fO : Addr} {fd fdR fdA fdO : FuncData} (F : Fun K "_law_twos_right" "_law_twos_right" sTwos f fd) (FR : Fun K "_law_is_right" "_law_is_right" sRight fR fdR) (FA : Fun K "_law_above" "_law_above" sAbove fA fdA) (FO : Fun K "_law_own" "_law_own" sOwn fO fdO)
    (A : AllC K mg cl ini) (gR : mg "_law_is_right" = some (.ref fR)) (gA : mg "_law_above" = some (.ref fA)) (gO : mg "_law_own" = some (.ref fO)) (gP : mg "repr" = none) : FnG P w K mg base CX0 3 f fd ["_law_odd", "_law_more"] spTwos := by
  have GR : FnOk P w K mg base CX0 2 fR fdR ["_law_e", "_law_place", "_law_base"] (spRight cl) := ok_right FR FA FO A gA gO
  have bR : Binds K fdR ["_law_e", "_law_place", "_law_base"] [] := FR.binds (ps := ["_law_e", "_law_place", "_law_base"]) fun _ _ _ _ _ _ us hl => match us, hl with | [_, _, _], _ => rfl
  refine FunG_ok F scTwos (fun vs H Q E h => ?_) (fun cdv Ar outer s H vs Q E hG hr h => ?_)
  · obtain ⟨v, u, N, d, e, rfl, _⟩ := h
    rfl
  · obtain ⟨v, u, N, d, e, rfl, hd, he, od, oe, k⟩ := h
    have hu := hr.units
    have gd : (Ar.deeper (envOfC "_law_twos_right" (defScope sTwos) s.heap.objs.size f cdv)).guards = some [] := (guards_deeper _ _).trans hG
    have rd := okD_repr od
    have re := okD_repr oe
    refine ⟨_, PSs.nox (pss_cons (ps_for PassesOwn.never rfl (pi_list (pe_two A.d27 hr (by rfl) (pv 0) (pv 1) (pv 1) (pv 0) (by decide))) (pg_name (i := 2) scTwos.nd rfl (Or.inl rfl))
        (pss_one (ps_if (PW.pt (pw_or (pt_not (pt_val (pe_call GR hr rfl gR FR.kp bR .nil pass0 (pa_cons (pv 2) (pa_cons pe_int (pa_cons pe_int pa_nil)))))) (pw_or1 (pt_cmpR (op_neD hu)
          (pe_lst (pa_cons (pe_callB (call_repr gd hu) (by rfl) gP (by decide +kernel) (pa_cons (pe_errF (pv 2)) pa_nil)) (pa_cons (pe_callB (call_repr gd hu) (by rfl) gP (by decide +kernel) (pa_cons (pe_errF (pv 2)) pa_nil)) pa_nil)))
          (pe_lst (pa_cons (pe_callB (call_repr gd hu) (by rfl) gP (by decide +kernel) (pa_cons (pv 0) pa_nil)) (pa_cons (pe_callB (call_repr gd hu) (by rfl) gP (by decide +kernel) (pa_cons (pv 1) pa_nil)) pa_nil))) (nomark _))))) (pss_one (ps_ret pe_bl)) pss_nil)))
      (pss_cons (ps_for PassesOwn.never rfl (pi_list (pe_two A.d28 hr (by rfl) (pv 0) (pv 1) (pv 1) (pv 0) (by decide))) (pg_name (i := 2) scTwos.nd rfl (Or.inl rfl))
        (pss_one (ps_if (PW.pt (pw_or (pt_not (pt_val (pe_call GR hr rfl gR FR.kp bR .nil pass0 (pa_cons (pv 2) (pa_cons pe_int (pa_cons pe_int pa_nil)))))) (pw_or1 (pt_cmpR (op_neD hu)
          (pe_lst (pa_cons (pe_callB (call_repr gd hu) (by rfl) gP (by decide +kernel) (pa_cons (pe_errF (pv 2)) pa_nil)) (pa_cons (pe_callB (call_repr gd hu) (by rfl) gP (by decide +kernel) (pa_cons (pe_errF (pv 2)) pa_nil)) pa_nil)))
          (pe_lst (pa_cons (pe_callB (call_repr gd hu) (by rfl) gP (by decide +kernel) (pa_cons (pv 0) pa_nil)) (pa_cons (pe_callB (call_repr gd hu) (by rfl) gP (by decide +kernel) (pa_cons (pv 1) pa_nil)) pa_nil))) (nomark _))))) (pss_one (ps_ret pe_bl)) pss_nil)))
      (pss_one (ps_ret (pe_and (pe_call GR hr rfl gR FR.kp bR .nil pass0 (pa_cons (pe_mkE00 A.n29.ei (tbk 29).fb A.n29.ex (by rfl) A.n29.gC) (pa_cons pe_int (pa_cons pe_int pa_nil))))
        (pe_one (pe_call GR hr rfl gR FR.kp bR .nil pass0 (pa_cons (pe_mkE00 A.n30.ei (tbk 30).fb A.n30.ex (by rfl) A.n30.gC) (pa_cons pe_int (pa_cons pe_int pa_nil)))))))))), ?_⟩
    refine ⟨v, u, rfl, rfl, fun p27 a b H27 s27 g27 e1 e2 => ?_⟩
    refine ⟨p27, rfl, ⟨_, SqL.of g27⟩, for_list (K := K) (a := p27) (xs := [V.ref a, .ref b]) (fun i σ H2 => ∃ o, σ = [some v, some u, o] ∧ Same H27 H2) ⟨none, rfl, Same.refl _⟩ (fun i σ H2 _ ⟨_, _, z⟩ => SqL.of (z _ _ g27)) ?_ ?_⟩
    · rintro i y σ H2 hy ⟨o, rfl, s2⟩
      have ey : ∃ c, y = V.ref c ∧ ErrAt H2 c (cl 27) [("name", u), ("person", v)] := by
        match i, hy with
        | 0, hy => exact ⟨a, (Option.some.inj hy).symm, e1.same s2⟩
        | 1, hy => exact ⟨b, (Option.some.inj hy).symm, e2.same s2⟩
        | i + 2, hy => simp at hy
      obtain ⟨c, rfl, ec⟩ := ey
      refine ⟨_, rfl, c, 27, _, rfl, by decide, ec, fun H3 s3 => ⟨true, rfl, ?_⟩⟩
      refine iteF ?_
      have d3 : DA N H3 v d := DA.same ((s27.trans s2).trans s3) hd
      have u3 : DA N H3 u e := DA.same ((s27.trans s2).trans s3) he
      refine ⟨_, rfl, c, cl 27, _, _, _, v, rfl, ec.same s3, A.d27.ei, (tbk 27).hB, A.d27.no, rfl, N, v, d, rfl, d3, rd.1, rd.2.1, rd.2.2, ?_⟩
      refine ⟨_, rfl, c, cl 27, _, _, _, u, rfl, ec.same s3, A.d27.ei, (tbk 27).hB, A.d27.no2, rfl, N, u, e, rfl, u3, re.1, re.2.1, re.2.2, (show 2 ≤ sizeLine by decide), fun p1 n1 => ?_⟩
      have s4 := Same.new (o := .lst [V.str d.shown, .str e.shown]) n1
      refine ⟨_, rfl, N, v, d, rfl, DA.same s4 d3, rd.1, rd.2.1, rd.2.2, _, rfl, N, u, e, rfl, DA.same s4 u3, re.1, re.2.1, re.2.2, (show 2 ≤ sizeLine by decide), fun p2 n2 => ?_⟩
      refine two_reprs od oe (Same.new n2 _ _ upd_same) upd_same ⟨false, rfl, iteF ⟨_, rfl, ((s2.trans s3).trans s4).trans (Same.new n2)⟩⟩
    rintro σ H27' ⟨o27, rfl, y27⟩
    have t27 := s27.trans y27
    refine ⟨v, u, rfl, rfl, fun p28 a b H28 s28 g28 e1 e2 => ?_⟩
    refine ⟨p28, rfl, ⟨_, SqL.of g28⟩, for_list (K := K) (a := p28) (xs := [V.ref a, .ref b]) (fun i σ H2 => ∃ o, σ = [some v, some u, o] ∧ Same H28 H2) ⟨o27, rfl, Same.refl _⟩ (fun i σ H2 _ ⟨_, _, z⟩ => SqL.of (z _ _ g28)) ?_ ?_⟩
    · rintro i y σ H2 hy ⟨o, rfl, s2⟩
      have ey : ∃ c, y = V.ref c ∧ ErrAt H2 c (cl 28) [("name", u), ("person", v)] := by
        match i, hy with
        | 0, hy => exact ⟨a, (Option.some.inj hy).symm, e1.same s2⟩
        | 1, hy => exact ⟨b, (Option.some.inj hy).symm, e2.same s2⟩
        | i + 2, hy => simp at hy
      obtain ⟨c, rfl, ec⟩ := ey
      refine ⟨_, rfl, c, 28, _, rfl, by decide, ec, fun H3 s3 => ⟨true, rfl, ?_⟩⟩
      refine iteF ?_
      have d3 : DA N H3 v d := DA.same (((t27.trans s28).trans s2).trans s3) hd
      have u3 : DA N H3 u e := DA.same (((t27.trans s28).trans s2).trans s3) he
      refine ⟨_, rfl, c, cl 28, _, _, _, v, rfl, ec.same s3, A.d28.ei, (tbk 28).hB, A.d28.no, rfl, N, v, d, rfl, d3, rd.1, rd.2.1, rd.2.2, ?_⟩
      refine ⟨_, rfl, c, cl 28, _, _, _, u, rfl, ec.same s3, A.d28.ei, (tbk 28).hB, A.d28.no2, rfl, N, u, e, rfl, u3, re.1, re.2.1, re.2.2, (show 2 ≤ sizeLine by decide), fun p1 n1 => ?_⟩
      have s4 := Same.new (o := .lst [V.str d.shown, .str e.shown]) n1
      refine ⟨_, rfl, N, v, d, rfl, DA.same s4 d3, rd.1, rd.2.1, rd.2.2, _, rfl, N, u, e, rfl, DA.same s4 u3, re.1, re.2.1, re.2.2, (show 2 ≤ sizeLine by decide), fun p2 n2 => ?_⟩
      refine two_reprs od oe (Same.new n2 _ _ upd_same) upd_same ⟨false, rfl, iteF ⟨_, rfl, ((s2.trans s3).trans s4).trans (Same.new n2)⟩⟩
    rintro σ H28' ⟨o28, rfl, y28⟩
    have t28 := (t27.trans s28).trans y28
    refine fun q nq => ⟨q, 29, [], rfl, by decide, Or.inl ⟨rfl, upd_same⟩, fun H3 s3 => ⟨true, rfl, iteT ?_⟩⟩
    have z3 := (t28.trans (Same.new (o := exo q (cl 29) none) nq)).trans s3
    refine fun q2 nq2 => ⟨q2, 30, [], rfl, by decide, Or.inl ⟨rfl, upd_same⟩, fun H4 s4 => k H4 ((z3.trans (Same.new nq2)).trans s4)⟩
end
end Fh0
set_option Elab.async false
set_option linter.all false
set_option maxRecDepth 100000
set_option maxHeartbeats 4000000
namespace Fh0
open PySem PySem.Spec PyProof.Rows L2 Fh
open PySem.W (Frag)
def basesI : List Int := [0, 0, 0, 0, 0, 0, 0, 0, 0, 0, 0, 0, 0, 1, 1, 1, 1, 1, 1, 1, 2, 2, 3, 3, 3, 3, 3]
theorem bases_eq : basesI = (List.range 27).map fun n => (tbk n).no := by decide +kernel
theorem bases_at {n : Nat} (h : n < 27) : atI (basesI.map V.int) (n : Int) = some (.int (tbk n).no) := by
  refine atI_nat ?_
  rw [bases_eq, List.map_map, List.getElem?_map, List.getElem?_range h]
  rfl
structure TxtL (mg : Str → Option Value) : Prop where
  gKINDS : ∃ u, mg "KINDS" = some (.int 3 u)
  gROLES : ∃ u, mg "ROLES" = some (.int 4 u)
  gTASKS : ∃ u, mg "TASKS" = some (.int 8 u)
  gREMEMBERED : ∃ u, mg "REMEMBERED" = some (.int 3 u)
  gWIDTH : ∃ u, mg "WIDTH" = some (.int 5 u)
  gMANY : ∃ u, mg "MANY" = some (.int 3 u)
  gNAMES : ∃ u, mg "NAMES" = some (.int 16 u)
  gLEVELS : ∃ u, mg "LEVELS" = some (.int 5 u)
  gSTANDS : ∃ u, mg "STANDS" = some (.int 2000 u)
  gCAP : ∃ u, mg "CAP" = some (.int 8 u)
  repr : mg "repr" = none
def spLaw (K : Frag) : Sp := fun vs H Q _ => ∃ (a : Addr) (ns : List Int), vs = [.ref a] ∧ SqL K H a (ns.map V.int) ∧ ns.length ≤ 63 ∧ ∀ H', Q (.bl true) H'
theorem ne_ints {K : Frag} {H : Hp} {p q : Addr} {Q : VK} (cs : List Int) (h1 : H p = some (.lst (cs.map V.int))) (h2 : H q = some (.lst (cs.map V.int))) (k : Q (.bl false) H) : rNeD K (.ref p) (.ref q) H Q :=
  ⟨_, _, Dp.lst (SqL.of h1) (dp_ints cs), Dp.lst (SqL.of h2) (dp_ints cs), shaped_ints cs, shaped_ints cs, by rw [SeqAt.eqv_refl _ (SeqAt.canLay_of_shaped (shaped_ints cs))]; exact k⟩
theorem eq_ints {K : Frag} {H : Hp} {p q : Addr} {Q : VK} (cs : List Int) (h1 : H p = some (.lst (cs.map V.int))) (h2 : H q = some (.lst (cs.map V.int))) (k : Q (.bl true) H) : rEqD K (.ref p) (.ref q) H Q :=
  ⟨_, _, Dp.lst (SqL.of h1) (dp_ints cs), Dp.lst (SqL.of h2) (dp_ints cs), shaped_ints cs, shaped_ints cs, by rw [SeqAt.eqv_refl _ (SeqAt.canLay_of_shaped (shaped_ints cs))]; exact k⟩
section
variable {P : Program} {w : World} {K : Frag} {mg : Str → Option Value} {base : Heap} {cl ini : Nat → Addr}
/-- the defs that a law's body calls -/
structure Defs (K : Frag) (mg : Str → Option Value) (aP aD aK aY aN aO aF aA aR aT : Addr) (fP fD fK fY fN fO fF fA fR fT : FuncData) : Prop where
  dP : Fun K "_law_pen" "_law_pen" sPen aP fP
  dD : Fun K "_law_draw" "_law_draw" sDraw aD fD
  dK : Fun K "_law_pick" "_law_pick" sPick aK fK
  dY : Fun K "_law_any_value" "_law_any_value" sAny aY fY
  dN : Fun K "_law_ones" "_law_ones" sOnes aN fN
  dO : Fun K "_law_own" "_law_own" sOwn aO fO
  dF : Fun K "_law_field" "_law_field" sField aF fF
  dA : Fun K "_law_above" "_law_above" sAbove aA fA
  dR : Fun K "_law_is_right" "_law_is_right" sRight aR fR
  dT : Fun K "_law_twos_right" "_law_twos_right" sTwos aT fT
  gP : mg "_law_pen" = some (.ref aP)
  gD : mg "_law_draw" = some (.ref aD)
  gK : mg "_law_pick" = some (.ref aK)
  gY : mg "_law_any_value" = some (.ref aY)
  gN : mg "_law_ones" = some (.ref aN)
  gO : mg "_law_own" = some (.ref aO)
  gF : mg "_law_field" = some (.ref aF)
  gA : mg "_law_above" = some (.ref aA)
  gR : mg "_law_is_right" = some (.ref aR)
  gT : mg "_law_twos_right" = some (.ref aT)
theorem scLaw : FnScope ["_law_script", "_law_pen_here", "_law_bases", "_law_lap", "_law_odd", "_law_more", "_law_told", "_law_k", "_law_e"] ["_law_script"] (defScope sLaw) := ⟨rfl, rfl, rfl, by decide +kernel, rfl, by decide +kernel, by decide +kernel⟩
theorem ok_law {f aP aD aK aY aN aO aF aA aR aT : Addr} {fd fP fD fK fY fN fO fF fA fR fT : FuncData} (F : Fun K "law" "law" sLaw f fd) (Z : Defs K mg aP aD aK aY aN aO aF aA aR aT fP fD fK fY fN fO fF fA fR fT) (A : AllC K mg cl ini) (TP : TxtP mg) (T : TxtL mg) :
    FnG P w K mg base CX0 4 f fd ["_law_script"] (spLaw K) := by
  have GP : FnOk P w K mg base CX0 1 aP fP ["_law_script"] (spPen K) := ok_pen Z.dP TP
  have GY : FnOk P w K mg base CX0 3 aY fY ["_law_pen_here"] (spAny odds) := ok_any Z.dY Z.dK Z.dD TP Z.gK Z.gD
  have GN : FnOk P w K mg base CX0 3 aN fN ["_law_odd"] (spOnes cl) := ok_ones Z.dN A
  have GF : FnOk P w K mg base CX0 1 aF fF ["_law_e", "_law_k"] (spField cl) := ok_field Z.dF A
  have GR : FnOk P w K mg base CX0 2 aR fR ["_law_e", "_law_place", "_law_base"] (spRight cl) := ok_right Z.dR Z.dA Z.dO A Z.gA Z.gO
  have GT : FnG P w K mg base CX0 3 aT fT ["_law_odd", "_law_more"] spTwos := ok_twos Z.dT Z.dR Z.dA Z.dO A Z.gR Z.gA Z.gO T.repr
  have bP : Binds K fP ["_law_script"] [] := Z.dP.binds (ps := ["_law_script"]) fun _ _ _ _ _ _ us hl => match us, hl with | [_], _ => rfl
  have bY : Binds K fY ["_law_pen_here"] [] := Z.dY.binds (ps := ["_law_pen_here"]) fun _ _ _ _ _ _ us hl => match us, hl with | [_], _ => rfl
  have bN : Binds K fN ["_law_odd"] [] := Z.dN.binds (ps := ["_law_odd"]) fun _ _ _ _ _ _ us hl => match us, hl with | [_], _ => rfl
  have bF : Binds K fF ["_law_e", "_law_k"] [] := Z.dF.binds (ps := ["_law_e", "_law_k"]) fun _ _ _ _ _ _ us hl => match us, hl with | [_, _], _ => rfl
  have bR : Binds K fR ["_law_e", "_law_place", "_law_base"] [] := Z.dR.binds (ps := ["_law_e", "_law_place", "_law_base"]) fun _ _ _ _ _ _ us hl => match us, hl with | [_, _, _], _ => rfl
  have bT : Binds K fT ["_law_odd", "_law_more"] [] := Z.dT.binds (ps := ["_law_odd", "_law_more"]) fun _ _ _ _ _ _ us hl => match us, hl with | [_, _], _ => rfl
  refine FunG_ok F scLaw (fun vs H Q E h => ?_) (fun cdv Ar outer s H vs Q E hG hr h => ?_)
  · obtain ⟨a, ns, rfl, _⟩ := h
    rfl
  · obtain ⟨a, ns, rfl, hS, hn, k⟩ := h
    have hu := hr.units
    have gd : (Ar.deeper (envOfC "law" (defScope sLaw) s.heap.objs.size f cdv)).guards = some [] := (guards_deeper _ _).trans hG
    have hr1 : Room 1 _ := hr.mono (by decide)
    have hr2 : Room 2 _ := hr.mono (by decide)
    obtain ⟨uKINDS, gKINDS⟩ := T.gKINDS
    obtain ⟨uROLES, gROLES⟩ := T.gROLES
    obtain ⟨uTASKS, gTASKS⟩ := T.gTASKS
    obtain ⟨uREMEMBERED, gREMEMBERED⟩ := T.gREMEMBERED
    obtain ⟨uWIDTH, gWIDTH⟩ := T.gWIDTH
    obtain ⟨uMANY, gMANY⟩ := T.gMANY
    obtain ⟨uNAMES, gNAMES⟩ := T.gNAMES
    obtain ⟨uLEVELS, gLEVELS⟩ := T.gLEVELS
    obtain ⟨uSTANDS, gSTANDS⟩ := T.gSTANDS
    obtain ⟨uCAP, gCAP⟩ := T.gCAP
    refine ⟨_, PSs.nox (pss_cons (ps_set (i := 1) scLaw.nd rfl (Or.inl rfl) (pe_call GP hr1 rfl Z.gP Z.dP.kp bP .nil pass0 (pa_cons (pv 0) pa_nil)))
      (pss_cons (ps_set (i := 2) scLaw.nd rfl (Or.inl rfl) (pe_lst (pa_cons pe_int (pa_cons pe_int (pa_cons pe_int (pa_cons pe_int (pa_cons pe_int (pa_cons pe_int (pa_cons pe_int (pa_cons pe_int (pa_cons pe_int (pa_cons pe_int (pa_cons pe_int (pa_cons pe_int (pa_cons pe_int (pa_cons pe_int (pa_cons pe_int (pa_cons pe_int (pa_cons pe_int (pa_cons pe_int (pa_cons pe_int (pa_cons pe_int (pa_cons pe_int (pa_cons pe_int (pa_cons pe_int (pa_cons pe_int (pa_cons pe_int (pa_cons pe_int (pa_cons pe_int pa_nil)))))))))))))))))))))))))))))
      (pss_cons (ps_for PassesOwn.never rfl (pi_range1 rfl A.gr (pa_cons pe_int pa_nil)) (pg_name (i := 3) scLaw.nd rfl (Or.inl rfl))
        (pss_cons (ps_par (i := 4) (j := 5) (by rfl) scLaw.nd rfl rfl (by decide) rfl rfl (pa_cons (pe_call GY hr rfl Z.gY Z.dY.kp bY .nil pass0 (pa_cons (pv 1) pa_nil)) (pa_cons (pe_call GY hr rfl Z.gY Z.dY.kp bY .nil pass0 (pa_cons (pv 1) pa_nil)) pa_nil)) (by rfl))
        (pss_cons (ps_set (i := 6) scLaw.nd rfl (Or.inl rfl) (pe_call GN hr rfl Z.gN Z.dN.kp bN .nil pass0 (pa_cons (pv 4) pa_nil)))
        (pss_cons (ps_for PassesOwn.never rfl (pi_range1 rfl A.gr (pa_cons (pe_callB call_len_seq (by rfl) TP.len PySem.boot_len (pa_cons (pv 6) pa_nil)) pa_nil)) (pg_name (i := 7) scLaw.nd rfl (Or.inl rfl))
          (pss_one (ps_for PassesOwn.never rfl (pi_tup (pe_ix ix_list (pv 6) (pv 7) (fun _ _ => rfl))) (pg_name (i := 8) scLaw.nd rfl (Or.inl rfl))
            (pss_cons (ps_if (pt_not (pt_val (pe_call GR hr2 rfl Z.gR Z.dR.kp bR .nil pass0 (pa_cons (pv 8) (pa_cons (pv 7) (pa_cons (pe_ix ix_list (pv 2) (pv 7) (fun _ _ => rfl)) pa_nil)))))) (pss_one (ps_ret pe_bl)) pss_nil)
            (pss_one (ps_if (PW.pt (pw_or (pt_cmpR op_ne (pe_callB (call_repr gd hu) (by rfl) T.repr (by decide +kernel) (pa_cons (pe_call GF hr1 rfl Z.gF Z.dF.kp bF .nil pass0 (pa_cons (pv 8) (pa_cons (pv 7) pa_nil))) pa_nil)) (pe_callB (call_repr gd hu) (by rfl) T.repr (by decide +kernel) (pa_cons (pv 4) pa_nil)) (nomark _))
              (pw_or1 (pt_cmpR (op_neSame hu) (pe_call GF hr1 rfl Z.gF Z.dF.kp bF .nil pass0 (pa_cons (pv 8) (pa_cons (pv 7) pa_nil))) (pv 4) (nomark _))))) (pss_one (ps_ret pe_bl)) pss_nil))))))
        (pss_one (ps_if (pt_not (pt_val (pe_callG GT gd hr rfl Z.gT Z.dT.kp bT .nil pass0 (pa_cons (pv 4) (pa_cons (pv 5) pa_nil))))) (pss_one (ps_ret pe_bl)) pss_nil))))))
      (pss_cons (ps_if (pt_cmpR (op_neD hu) (pe_lst (pa_cons (pe_glob (v := .int 3) (by rfl) gKINDS ⟨_, rfl⟩) (pa_cons (pe_glob (v := .int 4) (by rfl) gROLES ⟨_, rfl⟩) (pa_cons (pe_glob (v := .int 8) (by rfl) gTASKS ⟨_, rfl⟩) (pa_cons (pe_glob (v := .int 3) (by rfl) gREMEMBERED ⟨_, rfl⟩) (pa_cons (pe_glob (v := .int 5) (by rfl) gWIDTH ⟨_, rfl⟩) (pa_cons (pe_glob (v := .int 3) (by rfl) gMANY ⟨_, rfl⟩) pa_nil))))))) (pe_lst (pa_cons pe_int (pa_cons pe_int (pa_cons pe_int (pa_cons pe_int (pa_cons pe_int (pa_cons pe_int pa_nil))))))) (nomark _)) (pss_one (ps_ret pe_bl)) pss_nil)
      (pss_one (ps_ret (pe_cmpR (op_eqD hu) (pe_lst (pa_cons (pe_glob (v := .int 16) (by rfl) gNAMES ⟨_, rfl⟩) (pa_cons (pe_glob (v := .int 5) (by rfl) gLEVELS ⟨_, rfl⟩) (pa_cons (pe_glob (v := .int 2000) (by rfl) gSTANDS ⟨_, rfl⟩) (pa_cons (pe_glob (v := .int 8) (by rfl) gCAP ⟨_, rfl⟩) pa_nil))))) (pe_lst (pa_cons pe_int (pa_cons pe_int (pa_cons pe_int (pa_cons pe_int pa_nil))))) (nomark _)))))))), ?_⟩
    refine ⟨_, rfl, a, ns, rfl, hS, hn, fun p c H1 s1 np hP => ?_⟩
    refine ⟨(show 27 ≤ sizeLine by decide), fun bl nb => ?_⟩
    have hP2 : PenAt (upd H1 bl (.lst (basesI.map V.int))) p c 0 := hP.same (Same.new nb) (Nat.le_refl _)
    have hB : (upd H1 bl (.lst (basesI.map V.int))) bl = some (.lst (basesI.map V.int)) := upd_same
    refine ⟨4, rfl, by decide, by decide, for_range (lo := 0) (n := 4) (fun i σ H2 => ∃ l o m t k e, σ = [some (V.ref a), some (.ref p), some (.ref bl), l, o, m, t, k, e] ∧ PenAt H2 p c (2 * i) ∧ H2 bl = some (.lst (basesI.map V.int))) ⟨none, none, none, none, none, none, rfl, hP2, hB⟩ ?_ ?_⟩
    · rintro i σ H2 hi ⟨l, o, m, t, k1, e1, rfl, hP3, hB3⟩
      have offp : ∀ {H' : Hp}, But p H2 H' → H' bl = some (.lst (basesI.map V.int)) := fun z => z bl _ (fun y => by
        obtain ⟨cs, sp, re, S, _⟩ := hP3.open
        rw [y, S.hp] at hB3
        exact nomatch hB3) hB3
      refine ⟨_, rfl, p, c, 2 * i, rfl, hP3, by omega, fun d x H3 md dx P3 B3 => ?_⟩
      refine ⟨_, rfl, p, c, 2 * i + 1, rfl, P3, by omega, fun d2 y H4 md2 dy P4 B4 => ?_⟩
      have okd := odds_ok d md
      have oke := odds_ok d2 md2
      have dx4 : DA (fun a => a = p) H4 x d := DA.but (N := fun a => a = p) B4 rfl dx
      have hB4 := offp (B3.trans B4)
      refine ⟨x, y, rfl, _, rfl, x, rfl, fun tl xs H5 s5 g5 n5 t5 => ?_⟩
      have hB5 : H5 bl = some (.lst (basesI.map V.int)) := s5 _ _ hB4
      have P5 : PenAt H5 p c (2 * (i + 1)) := P4.same s5 (by omega)
      have dx5 := DA.same s5 dx4
      have dy5 := DA.same s5 dy
      refine ⟨_, rfl, tl, xs, rfl, Or.inl (SqL.of g5), ?_⟩
      rw [n5]
      refine ⟨27, rfl, by decide, by decide, for_range (lo := 0) (n := 27) (fun j σ H6 => ∃ k2 e2, σ = [some (V.ref a), some (.ref p), some (.ref bl), some (.int (0 + (i : Int))), some x, some y, some (.ref tl), k2, e2] ∧ Same H5 H6) ⟨k1, e1, rfl, Same.refl _⟩ ?_ ?_⟩
      · rintro j σ H6 hj ⟨k2, e2, rfl, s6⟩
        have hj2 : j < xs.length := by omega
        have gx : xs[j]? = some (xs[j]'hj2) := List.getElem?_eq_getElem hj2
        obtain ⟨pt, c1, c2, ept, gpt, er1, er2⟩ := t5 j _ gx
        rw [Nat.zero_add] at er1 er2
        have at1 : atI xs (0 + (j : Int)) = some (.ref pt) := by
          rw [Int.zero_add, ← ept]
          exact atI_nat gx
        refine ⟨_, rfl, _, rfl, tl, xs, _, _, rfl, rfl, SqL.of (s6 _ _ g5), at1, pt, rfl, ⟨_, SqT.of (s6 _ _ gpt)⟩, ?_⟩
        refine for_tup (K := K) (a := pt) (xs := [V.ref c1, .ref c2]) (fun _ σ H7 => ∃ e3, σ = [some (V.ref a), some (.ref p), some (.ref bl), some (.int (0 + (i : Int))), some x, some y, some (.ref tl), some (.int (0 + (j : Int))), e3] ∧ Same H5 H7) ⟨e2, rfl, s6⟩ (fun _ σ H7 _ ⟨_, _, z⟩ => SqT.of (z _ _ gpt)) ?_ ?_
        · rintro m2 z σ H7 hz ⟨e3, rfl, s7⟩
          have ez : ∃ q, z = V.ref q ∧ ErrAt H7 q (cl j) [(tfd j, x)] := by
            match m2, hz with
            | 0, hz => exact ⟨c1, (Option.some.inj hz).symm, er1.same s7⟩
            | 1, hz => exact ⟨c2, (Option.some.inj hz).symm, er2.same s7⟩
            | m2 + 2, hz => simp at hz
          obtain ⟨q, rfl, eq⟩ := ez
          have at2 : atI (basesI.map V.int) (0 + (j : Int)) = some (.int (tbk j).no) := by
            rw [Int.zero_add]
            exact bases_at hj
          refine ⟨_, rfl, _, rfl, _, rfl, _, rfl, bl, _, _, _, rfl, rfl, SqL.of (s7 _ _ hB5), at2, q, j, _, (by rw [Int.zero_add]; rfl), by omega, eq, fun H8 s8 => ⟨true, rfl, iteF ?_⟩⟩
          have dx8 := DA.same (s7.trans s8) dx5
          have rp := okD_repr okd
          refine ⟨_, rfl, _, rfl, q, j, x, (by rw [Int.zero_add]; rfl), hj, eq.same s8, fun H9 s9 => ?_⟩
          have dx9 := DA.same s9 dx8
          refine ⟨_, x, d, rfl, dx9, rp.1, rp.2.1, rp.2.2, _, rfl, _, x, d, rfl, dx9, rp.1, rp.2.1, rp.2.2, rfl, _, rfl, iteNS rfl ?_⟩
          refine ⟨_, rfl, _, rfl, q, j, x, (by rw [Int.zero_add]; rfl), hj, (eq.same s8).same s9, fun H10 s10 => ?_⟩
          refine ⟨_, rfl, rfl, okD_same okd (DA.same s10 dx9), false, rfl, iteF ?_⟩
          exact ⟨_, rfl, ((s7.trans s8).trans s9).trans s10⟩
        · rintro σ H7 ⟨e3, rfl, s7⟩
          exact ⟨_, e3, rfl, s7⟩
      · rintro σ H6 ⟨k2, e2, rfl, s6⟩
        refine ⟨_, rfl, _, rfl, x, y, _, d, d2, rfl, DA.same s6 dx5, DA.same s6 dy5, okd, oke, fun H7 s7 => ⟨true, rfl, iteF ?_⟩⟩
        exact ⟨_, _, _, _, _, _, rfl, P5.same (s6.trans s7) (Nat.le_refl _), (s6.trans s7) _ _ hB5⟩
    · rintro σ H2 ⟨l, o, m, t, k1, e1, rfl, hP3, hB3⟩
      refine ⟨(show 6 ≤ sizeLine by decide), fun p1 n1 => ⟨(show 6 ≤ sizeLine by decide), fun p2 n2 => ?_⟩⟩
      refine ne_ints [3, 4, 8, 3, 5, 3] (Same.new n2 _ _ upd_same) upd_same ⟨false, rfl, iteF ?_⟩
      refine ⟨(show 4 ≤ sizeLine by decide), fun p3 n3 => ⟨(show 4 ≤ sizeLine by decide), fun p4 n4 => ?_⟩⟩
      exact eq_ints [16, 5, 2000, 8] (Same.new n4 _ _ upd_same) upd_same (k _)
end
end Fh0
set_option Elab.async false
set_option linter.all false
set_option maxRecDepth 100000
set_option maxHeartbeats 0
namespace Fh
open PySem PySem.Spec PyProof.Rows L2
open PySem.W (Frag)
/-! ### a def by the head's facts -/
theorem funD {K : Frag} {x qual : Str} {st : Stmt} {f : Addr} {fd : FuncData} (F : FunD K x qual (defArgs st) (defBody st) (defScope st) [] [] f fd) : Fun K x qual st f fd := by
  obtain ⟨oc, od, dV, kV, doc, pm, an, cdv, ct, osl, rfl, lk, hcd, hd, _⟩ := F.ex
  rcases hd with ⟨_, rfl⟩ | ⟨h, _⟩
  · exact ⟨⟨oc, od, kV, doc, pm, an, cdv, ct, osl, rfl, lk, hcd⟩, F.kp⟩
  · exact absurd rfl h
def dDef (x : Str) (st : Stmt) : He.DefD := ⟨(x, none), x, x, defArgs st, defBody st, defScope st, [], []⟩
def dMeth (c m q : Str) (st : Stmt) : He.DefD := ⟨(c, some m), m, q, defArgs st, defBody st, defScope st, [], []⟩
/-! ### an error's class by the head's facts -/
def eqT (a b : Option Value) : Bool := decide (a = b)
def eiB (K : Frag) (C : Addr) (b : BK) : Bool := PySem.W.excInitIn K C b.bm b.nw && (decide ((PySem.W.clsIn K C).map (·.mro) = some (.ref C :: b.bm)) && (PySem.W.hasDictIn K C && (eqT (PySem.W.typeIn K (.ref C)) (some (.type "type")) &&
  (He.eqO (PySem.W.findIn K (.ref C) "__setattr__") (some (some (.builtin "object.__setattr__"))) && (He.eqO (PySem.W.findIn K (.ref C) "__getattribute__") (some (some (.builtin "BaseException.__getattribute__"))) &&
  (He.eqO (PySem.W.findIn K (.ref C) "__getattr__") (some none) && (He.eqO (PySem.W.findIn K (.ref C) "__class__") (some (some (.builtin "object.__class__"))) && (PySem.W.keepIn K (.ref C) &&
  (He.eqO (PySem.W.specialIn K (.builtin "object.__class__") "__get__") (some (some (.builtin "getset_descriptor.__get__"))) && decide (PySem.W.takesIn K (.builtin "object.__class__") = some true))))))))))
theorem eiB_ok {K : Frag} {C : Addr} {b : BK} (h : eiB K C b = true) : EK K C b := by
  obtain ⟨h1, h⟩ := He.ba h
  obtain ⟨h2, h⟩ := He.ba h
  obtain ⟨h3, h⟩ := He.ba h
  obtain ⟨h4, h⟩ := He.ba h
  obtain ⟨h5, h⟩ := He.ba h
  obtain ⟨h6, h⟩ := He.ba h
  obtain ⟨h7, h⟩ := He.ba h
  obtain ⟨h8, h⟩ := He.ba h
  obtain ⟨h9, h⟩ := He.ba h
  obtain ⟨h10, h11⟩ := He.ba h
  exact ⟨h1, of_decide_eq_true h2, h3, of_decide_eq_true h4, He.eqO_ok h5, He.eqO_ok h6, He.eqO_ok h7, He.eqO_ok h8, h9, He.eqO_ok h10, of_decide_eq_true h11⟩
abbrev ClR : Type := Str × BK × List Str
def clB (K : Frag) (r : ClR) : Bool := eiB K (He.ga K r.1) r.2.1 && (match r.2.2 with
  | [] => PySem.W.excIn K (He.ga K r.1) r.2.1.bm r.2.1.nw
  | fs => He.eqO (PySem.W.findIn K (.ref (He.ga K r.1)) "__init__") (some (some (.ref (He.ma K (He.ga K r.1) "__init__")))) && (eqT (PySem.W.typeIn K (.ref (He.ma K (He.ga K r.1) "__init__"))) (some (.type "function")) &&
    fs.all fun f => He.eqO (PySem.W.findIn K (.ref (He.ga K r.1)) f) (some none)))
def clsB (rs : List ClR) (K : Frag) : Bool := rs.all (clB K) && decide ((rs.map fun r => He.ga K r.1).Nodup)
structure ClI (K : Frag) (r : ClR) : Prop where
  ei : EK K (He.ga K r.1) r.2.1
  iC : PySem.W.findIn K (.ref (He.ga K r.1)) "__init__" = some (some (.ref (He.ma K (He.ga K r.1) "__init__")))
  tI : PySem.W.typeIn K (.ref (He.ma K (He.ga K r.1) "__init__")) = some (.type "function")
  no : ∀ f ∈ r.2.2, PySem.W.findIn K (.ref (He.ga K r.1)) f = some none
theorem clB_one {K : Frag} {n : Str} {b : BK} {f : Str} {fs : List Str} (h : clB K (n, b, f :: fs) = true) : ClI K (n, b, f :: fs) := by
  obtain ⟨h1, h⟩ := He.ba h
  obtain ⟨h2, h⟩ := He.ba h
  obtain ⟨h3, h4⟩ := He.ba h
  exact ⟨eiB_ok h1, He.eqO_ok h2, of_decide_eq_true h3, fun g hg => He.eqO_ok (List.all_eq_true.mp h4 g hg)⟩
theorem clB_none {K : Frag} {n : Str} {b : BK} (h : clB K (n, b, []) = true) : EK K (He.ga K n) b ∧ PySem.W.excIn K (He.ga K n) b.bm b.nw = true := by
  obtain ⟨h1, h2⟩ := He.ba h
  exact ⟨eiB_ok h1, h2⟩
theorem clsB_at {K : Frag} {rs : List ClR} (h : clsB rs K = true) {r : ClR} (i : Nat) (e : rs[i]? = some r) : clB K r = true :=
  List.all_eq_true.mp (He.ba h).1 r (List.mem_of_getElem? e)
theorem clsB_apart {K : Frag} {rs : List ClR} (h : clsB rs K = true) {i j : Nat} (hi : i < rs.length) (hj : j < rs.length) (d : ClR) (e : He.ga K (rs.getD i d).1 = He.ga K (rs.getD j d).1) : i = j := by
  have nd : (rs.map fun r => He.ga K r.1).Pairwise (· ≠ ·) := of_decide_eq_true (He.ba h).2
  have p := List.pairwise_iff_getElem.mp nd
  have gi : rs.getD i d = rs[i] := by rw [List.getD_eq_getElem?_getD, List.getElem?_eq_getElem hi]; rfl
  have gj : rs.getD j d = rs[j] := by rw [List.getD_eq_getElem?_getD, List.getElem?_eq_getElem hj]; rfl
  rw [gi, gj] at e
  rcases Nat.lt_trichotomy i j with q | q | q
  · exact absurd (by rw [List.getElem_map, List.getElem_map]; exact e) (p i j (by rw [List.length_map]; exact hi) (by rw [List.length_map]; exact hj) q)
  · exact q
  · exact absurd (by rw [List.getElem_map, List.getElem_map]; exact e.symm) (p j i (by rw [List.length_map]; exact hj) (by rw [List.length_map]; exact hi) q)
/-- a law's end: the head's facts in hand -/
theorem walk_ofGE {l : PySem.W.OpenLaw} {n k : Nat} {q : Program} {loose : List Str} {XP : (Str → Option Value) → Heap → Prop} {YP : World → Heap → Prop} {d : DefRec} {CX : CXT} {x : Str}
    (hn : l.most = some n) (hn2 : n ≤ sizeLine) (hdf : d.params.defaults = []) (hr : Room k callerA)
    (F : ∀ (w : World) (mg : Str → Option Value) (fa : Addr) (h : Heap), YP w h → h.Ns mainGlobals mg → mg d.name = some (.ref fa) →
      ∃ (K : Frag) (fd : FuncData) (sp : Sp), K.In h ∧ (∀ (s : Shared) (u : Value), BindsTo s fd ⟨[u], []⟩ [(x, u)]) ∧
        (∀ (H : Hp) (a : Addr) (ns : List Int), ns.length ≤ n → (∀ z ∈ ns, Builtin.Int.intBits z ≤ 1048576) → Only H → SqL K H a (ns.map V.int) → sp [.ref a] H (fun v _ => v = .bl true) fun _ _ _ => False) ∧
        ∀ base : Heap, K.In base → base.Ns mainGlobals mg → FnG l.prog w K mg base CX k fa fd [x] sp)
    (hCX : ∀ (H : Hp) (s : Shared) (e : Value) (s' : Shared), CX [] H s (fun _ _ _ => False) e s' → False) :
    PySem.W.WalkO q loose XP YP l.row.toRowW d [] (fun f vs => PySem.call f vs) := by
  refine Att.attach_callB hn hdf fun w s0 s1 mg mb fa o pm cd doc a vs ns G Y ho hd hcd hmg hobj hints hlen hbits hg => ?_
  obtain ⟨K, fd, sp, KX, hb, hsp, hF⟩ := F w mg fa _ Y G.T.g hmg
  exact law_callG KX G.T.g G.T.b G.T.builtins G.T.nolimit hg hobj hints (Nat.le_trans hlen hn2) hr hF hb (fun H hO hS => hsp H a ns hlen hbits hO hS) (fun H e s' => hCX H s1 e s')
end Fh
namespace Fh0
open PySem PySem.Spec PyProof.Rows L2 Fh
open PySem.W (Frag)
def rows1 : List ClR := [("InvalidName", .ve, ["value"]), ("InvalidStaff", .ve, ["value"]), ("InvalidTask", .ve, ["field"]), ("InvalidKinds", .ve, ["value"]), ("InvalidTasks", .ve, ["value"]), ("InvalidPlan", .ve, ["value"]), ("InvalidText", .ve, ["index"]), ("InvalidWages", .ve, ["value"]), ("InvalidPrices", .ve, ["value"]), ("InvalidLog", .ve, ["value"]), ("Clash", .ve, ["name"]), ("CommandError", .ve, ["value"]), ("InUse", .ve, ["name"]), ("UnknownKind", .le, ["value"]), ("UnknownTask", .le, ["value"]), ("UnknownStand", .le, ["value"])]
def rows2 : List ClR := [("UnknownMove", .le, ["value"]), ("UnknownCase", .le, ["value"]), ("UnknownPerson", .le, ["value"]), ("OutOfRange", .le, ["value"]), ("TooMany", .oe, ["limit"]), ("TooFew", .oe, ["kind"]), ("NotNow", .re, ["value"]), ("WrongNumber", .re, ["number"]), ("Twice", .re, ["person"]), ("LacksRole", .re, ["person"]), ("Hopeless", .re, ["case"]), ("DidLast", .re, ["person", "name"]), ("DidNotLast", .re, ["person", "name"]), ("NotSameKinds", .ve, []), ("InTrial", .re, [])]
def rows : List ClR := rows1 ++ rows2
def fnA : List He.DefD := [dDef "_law_pen" sPen, dDef "_law_draw" sDraw, dDef "_law_pick" sPick, dDef "_law_any_value" sAny, dDef "_law_ones" sOnes, dDef "_law_own" sOwn, dDef "_law_field" sField, dDef "_law_above" sAbove, dDef "_law_is_right" sRight, dDef "_law_twos_right" sTwos, dDef "law" sLaw]
def fnB : List He.DefD := [dMeth "InvalidName" "__init__" "InvalidName.__init__" (inClass (top 1) 0), dMeth "InvalidStaff" "__init__" "InvalidStaff.__init__" (inClass (top 2) 0), dMeth "InvalidTask" "__init__" "InvalidTask.__init__" (inClass (top 3) 0), dMeth "InvalidKinds" "__init__" "InvalidKinds.__init__" (inClass (top 4) 0), dMeth "InvalidTasks" "__init__" "InvalidTasks.__init__" (inClass (top 5) 0), dMeth "InvalidPlan" "__init__" "InvalidPlan.__init__" (inClass (top 6) 0), dMeth "InvalidText" "__init__" "InvalidText.__init__" (inClass (top 7) 0), dMeth "InvalidWages" "__init__" "InvalidWages.__init__" (inClass (top 8) 0), dMeth "InvalidPrices" "__init__" "InvalidPrices.__init__" (inClass (top 9) 0), dMeth "InvalidLog" "__init__" "InvalidLog.__init__" (inClass (top 10) 0), dMeth "Clash" "__init__" "Clash.__init__" (inClass (top 11) 0), dMeth "CommandError" "__init__" "CommandError.__init__" (inClass (top 13) 0), dMeth "InUse" "__init__" "InUse.__init__" (inClass (top 14) 0), dMeth "UnknownKind" "__init__" "UnknownKind.__init__" (inClass (top 15) 0), dMeth "UnknownTask" "__init__" "UnknownTask.__init__" (inClass (top 16) 0)]
def fnC : List He.DefD := [dMeth "UnknownStand" "__init__" "UnknownStand.__init__" (inClass (top 17) 0), dMeth "UnknownMove" "__init__" "UnknownMove.__init__" (inClass (top 18) 0), dMeth "UnknownCase" "__init__" "UnknownCase.__init__" (inClass (top 19) 0), dMeth "UnknownPerson" "__init__" "UnknownPerson.__init__" (inClass (top 20) 0), dMeth "OutOfRange" "__init__" "OutOfRange.__init__" (inClass (top 21) 0), dMeth "TooMany" "__init__" "TooMany.__init__" (inClass (top 22) 0), dMeth "TooFew" "__init__" "TooFew.__init__" (inClass (top 23) 0), dMeth "NotNow" "__init__" "NotNow.__init__" (inClass (top 24) 0), dMeth "WrongNumber" "__init__" "WrongNumber.__init__" (inClass (top 25) 0), dMeth "Twice" "__init__" "Twice.__init__" (inClass (top 26) 0), dMeth "LacksRole" "__init__" "LacksRole.__init__" (inClass (top 27) 0), dMeth "Hopeless" "__init__" "Hopeless.__init__" (inClass (top 30) 0), dMeth "DidLast" "__init__" "DidLast.__init__" (inClass (top 28) 0), dMeth "DidNotLast" "__init__" "DidNotLast.__init__" (inClass (top 29) 0)]
def fn : List He.DefD := fnA ++ (fnB ++ fnC)
def faA : List He.Fa := [.glo "_law_pen", .glo "_law_draw", .glo "_law_pick", .glo "_law_any_value", .glo "_law_ones", .glo "_law_own", .glo "_law_field", .glo "_law_above", .glo "_law_is_right", .glo "_law_twos_right", .glo "law"]
def faB : List He.Fa := [.free "list", .free "int", .free "len", .free "isinstance", .free "range", .free "ValueError", .free "LookupError", .free "OverflowError", .free "RuntimeError", .free "repr"]
def faC : List He.Fa := [.int "KINDS" 3, .int "ROLES" 4, .int "TASKS" 8, .int "REMEMBERED" 3, .int "WIDTH" 5, .int "MANY" 3, .int "NAMES" 16, .int "LEVELS" 5, .int "STANDS" 2000, .int "CAP" 8]
def faD : List He.Fa := [.glo "InvalidName", .glo "InvalidStaff", .glo "InvalidTask", .glo "InvalidKinds", .glo "InvalidTasks", .glo "InvalidPlan", .glo "InvalidText", .glo "InvalidWages", .glo "InvalidPrices", .glo "InvalidLog", .glo "Clash", .glo "CommandError", .glo "InUse", .glo "UnknownKind", .glo "UnknownTask", .glo "UnknownStand"]
def faE : List He.Fa := [.glo "UnknownMove", .glo "UnknownCase", .glo "UnknownPerson", .glo "OutOfRange", .glo "TooMany", .glo "TooFew", .glo "NotNow", .glo "WrongNumber", .glo "Twice", .glo "LacksRole", .glo "Hopeless", .glo "DidLast", .glo "DidNotLast", .glo "NotSameKinds", .glo "InTrial"]
def fa : List He.Fa := faA ++ (faB ++ (faC ++ (faD ++ faE)))
def namesA : List Str := ["__name__", "InvalidName", "InvalidStaff", "InvalidTask", "InvalidKinds", "InvalidTasks", "InvalidPlan", "InvalidText", "InvalidWages", "InvalidPrices", "InvalidLog", "Clash", "NotSameKinds", "CommandError", "InUse", "UnknownKind", "UnknownTask", "UnknownStand", "UnknownMove", "UnknownCase", "UnknownPerson", "OutOfRange", "TooMany", "TooFew", "NotNow", "WrongNumber", "Twice", "LacksRole", "DidLast", "DidNotLast"]
def namesB : List Str := ["Hopeless", "InTrial", "KINDS", "ROLES", "TASKS", "REMEMBERED", "WIDTH", "MANY", "NAMES", "LEVELS", "STANDS", "CAP", "_law_pen", "_law_draw", "_law_pick", "_law_any_value", "_law_ones", "_law_own", "_law_field", "_law_above", "_law_is_right", "_law_twos_right"]
def names : List Str := namesA ++ namesB
abbrev R : PySem.W.OpenRow := PySem.W.OpenLaw.row PySem.Challenge.rw_fewhands_k00_errors_and_limits
abbrev hk : PySem.W.Hook := He.hookX 5 fa fn [] [] (clsB rows)
def ob (s : PySem.W.SharedT) : He.AlX := He.obsX 5 fa fn [] [] (clsB rows) (HandSHeadRun.getT s)
theorem ob_eq (s : PySem.W.SharedT) : ob s = hk.obs s.abs := He.obsX_eq (HandSHeadRun.getT_eq s)
theorem run (w : World) : HandSHeadRun.RunEq R (PySem.W.view R.prog [53]) hk ob 8000 names w := by
  intro os
  kernel_rfl
end Fh0
set_option Elab.async false
set_option linter.all false
set_option maxRecDepth 100000
set_option maxHeartbeats 4000000
namespace Fh0
open PySem PySem.Spec PyProof.Rows L2 Fh
open PySem.W (Frag)
theorem funM {fa : List He.Fa} {fn : List He.DefD} {K : Frag} (c : He.SaysD fa fn K) (i : Nat) {cn m q : Str} {st : Stmt} (h : fn[i]? = some (dMeth cn m q st)) : ∃ fd, Fun K m q st (He.ma K (He.ga K cn) m) fd := by
  obtain ⟨fd, F⟩ := c.def_ i h
  exact ⟨fd, funD F⟩
theorem funT {fa : List He.Fa} {fn : List He.DefD} {K : Frag} (c : He.SaysD fa fn K) (i : Nat) {x : Str} {st : Stmt} (h : fn[i]? = some (dDef x st)) : ∃ fd, Fun K x x st (He.ga K x) fd := by
  obtain ⟨fd, F⟩ := c.def_ i h
  exact ⟨fd, funD F⟩
section
variable {P : Program} {w : World} {K : Frag} {h : Heap} {mg : Str → Option Value}
def cl0 (K : Frag) (i : Nat) : Addr := He.ga K (rows.getD i ("", .ve, [])).1
def ini0 (K : Frag) (i : Nat) : Addr := He.ma K (cl0 K i) "__init__"
theorem sc_0 : FnScope ["self", "value"] ["self", "value"] (defScope (inClass (top 1) 0)) := ⟨rfl, rfl, rfl, by decide +kernel, rfl, by decide +kernel, by decide +kernel⟩
theorem c_0 (X : K.In h) (G : h.Ns mainGlobals mg) (c : He.SaysD fa fn K) (m : clsB rows K = true) : Ok1 K mg "InvalidName" .ve "value" (cl0 K 0) (ini0 K 0) := by
  have I : ClI K ("InvalidName", .ve, ["value"]) := clB_one (clsB_at m 0 rfl)
  obtain ⟨fd, F⟩ := funM c 11 (cn := "InvalidName") (m := "__init__") (q := "InvalidName.__init__") (st := (inClass (top 1) 0)) rfl
  show Ok1 K mg "InvalidName" .ve "value" (He.ga K "InvalidName") (He.ma K (He.ga K "InvalidName") "__init__")
  exact ok1_of I.ei (He.glo_ok X G (c.fact 31 (f := .glo "InvalidName") rfl)) I.iC I.tI (I.no _ List.mem_cons_self) F sc_0 rfl rfl rfl rfl rfl (fun _ => rfl) (fun _ _ _ _ _ _ _ _ => rfl) (fun _ _ _ _ _ _ _ _ => rfl)
theorem sc_1 : FnScope ["self", "value"] ["self", "value"] (defScope (inClass (top 2) 0)) := ⟨rfl, rfl, rfl, by decide +kernel, rfl, by decide +kernel, by decide +kernel⟩
theorem c_1 (X : K.In h) (G : h.Ns mainGlobals mg) (c : He.SaysD fa fn K) (m : clsB rows K = true) : Ok1 K mg "InvalidStaff" .ve "value" (cl0 K 1) (ini0 K 1) := by
  have I : ClI K ("InvalidStaff", .ve, ["value"]) := clB_one (clsB_at m 1 rfl)
  obtain ⟨fd, F⟩ := funM c 12 (cn := "InvalidStaff") (m := "__init__") (q := "InvalidStaff.__init__") (st := (inClass (top 2) 0)) rfl
  show Ok1 K mg "InvalidStaff" .ve "value" (He.ga K "InvalidStaff") (He.ma K (He.ga K "InvalidStaff") "__init__")
  exact ok1_of I.ei (He.glo_ok X G (c.fact 32 (f := .glo "InvalidStaff") rfl)) I.iC I.tI (I.no _ List.mem_cons_self) F sc_1 rfl rfl rfl rfl rfl (fun _ => rfl) (fun _ _ _ _ _ _ _ _ => rfl) (fun _ _ _ _ _ _ _ _ => rfl)
theorem sc_2 : FnScope ["self", "field"] ["self", "field"] (defScope (inClass (top 3) 0)) := ⟨rfl, rfl, rfl, by decide +kernel, rfl, by decide +kernel, by decide +kernel⟩
theorem c_2 (X : K.In h) (G : h.Ns mainGlobals mg) (c : He.SaysD fa fn K) (m : clsB rows K = true) : Ok1 K mg "InvalidTask" .ve "field" (cl0 K 2) (ini0 K 2) := by
  have I : ClI K ("InvalidTask", .ve, ["field"]) := clB_one (clsB_at m 2 rfl)
  obtain ⟨fd, F⟩ := funM c 13 (cn := "InvalidTask") (m := "__init__") (q := "InvalidTask.__init__") (st := (inClass (top 3) 0)) rfl
  show Ok1 K mg "InvalidTask" .ve "field" (He.ga K "InvalidTask") (He.ma K (He.ga K "InvalidTask") "__init__")
  exact ok1_of I.ei (He.glo_ok X G (c.fact 33 (f := .glo "InvalidTask") rfl)) I.iC I.tI (I.no _ List.mem_cons_self) F sc_2 rfl rfl rfl rfl rfl (fun _ => rfl) (fun _ _ _ _ _ _ _ _ => rfl) (fun _ _ _ _ _ _ _ _ => rfl)
theorem sc_3 : FnScope ["self", "value"] ["self", "value"] (defScope (inClass (top 4) 0)) := ⟨rfl, rfl, rfl, by decide +kernel, rfl, by decide +kernel, by decide +kernel⟩
theorem c_3 (X : K.In h) (G : h.Ns mainGlobals mg) (c : He.SaysD fa fn K) (m : clsB rows K = true) : Ok1 K mg "InvalidKinds" .ve "value" (cl0 K 3) (ini0 K 3) := by
  have I : ClI K ("InvalidKinds", .ve, ["value"]) := clB_one (clsB_at m 3 rfl)
  obtain ⟨fd, F⟩ := funM c 14 (cn := "InvalidKinds") (m := "__init__") (q := "InvalidKinds.__init__") (st := (inClass (top 4) 0)) rfl
  show Ok1 K mg "InvalidKinds" .ve "value" (He.ga K "InvalidKinds") (He.ma K (He.ga K "InvalidKinds") "__init__")
  exact ok1_of I.ei (He.glo_ok X G (c.fact 34 (f := .glo "InvalidKinds") rfl)) I.iC I.tI (I.no _ List.mem_cons_self) F sc_3 rfl rfl rfl rfl rfl (fun _ => rfl) (fun _ _ _ _ _ _ _ _ => rfl) (fun _ _ _ _ _ _ _ _ => rfl)
theorem sc_4 : FnScope ["self", "value"] ["self", "value"] (defScope (inClass (top 5) 0)) := ⟨rfl, rfl, rfl, by decide +kernel, rfl, by decide +kernel, by decide +kernel⟩
theorem c_4 (X : K.In h) (G : h.Ns mainGlobals mg) (c : He.SaysD fa fn K) (m : clsB rows K = true) : Ok1 K mg "InvalidTasks" .ve "value" (cl0 K 4) (ini0 K 4) := by
  have I : ClI K ("InvalidTasks", .ve, ["value"]) := clB_one (clsB_at m 4 rfl)
  obtain ⟨fd, F⟩ := funM c 15 (cn := "InvalidTasks") (m := "__init__") (q := "InvalidTasks.__init__") (st := (inClass (top 5) 0)) rfl
  show Ok1 K mg "InvalidTasks" .ve "value" (He.ga K "InvalidTasks") (He.ma K (He.ga K "InvalidTasks") "__init__")
  exact ok1_of I.ei (He.glo_ok X G (c.fact 35 (f := .glo "InvalidTasks") rfl)) I.iC I.tI (I.no _ List.mem_cons_self) F sc_4 rfl rfl rfl rfl rfl (fun _ => rfl) (fun _ _ _ _ _ _ _ _ => rfl) (fun _ _ _ _ _ _ _ _ => rfl)
theorem sc_5 : FnScope ["self", "value"] ["self", "value"] (defScope (inClass (top 6) 0)) := ⟨rfl, rfl, rfl, by decide +kernel, rfl, by decide +kernel, by decide +kernel⟩
theorem c_5 (X : K.In h) (G : h.Ns mainGlobals mg) (c : He.SaysD fa fn K) (m : clsB rows K = true) : Ok1 K mg "InvalidPlan" .ve "value" (cl0 K 5) (ini0 K 5) := by
  have I : ClI K ("InvalidPlan", .ve, ["value"]) := clB_one (clsB_at m 5 rfl)
  obtain ⟨fd, F⟩ := funM c 16 (cn := "InvalidPlan") (m := "__init__") (q := "InvalidPlan.__init__") (st := (inClass (top 6) 0)) rfl
  show Ok1 K mg "InvalidPlan" .ve "value" (He.ga K "InvalidPlan") (He.ma K (He.ga K "InvalidPlan") "__init__")
  exact ok1_of I.ei (He.glo_ok X G (c.fact 36 (f := .glo "InvalidPlan") rfl)) I.iC I.tI (I.no _ List.mem_cons_self) F sc_5 rfl rfl rfl rfl rfl (fun _ => rfl) (fun _ _ _ _ _ _ _ _ => rfl) (fun _ _ _ _ _ _ _ _ => rfl)
theorem sc_6 : FnScope ["self", "index"] ["self", "index"] (defScope (inClass (top 7) 0)) := ⟨rfl, rfl, rfl, by decide +kernel, rfl, by decide +kernel, by decide +kernel⟩
theorem c_6 (X : K.In h) (G : h.Ns mainGlobals mg) (c : He.SaysD fa fn K) (m : clsB rows K = true) : Ok1 K mg "InvalidText" .ve "index" (cl0 K 6) (ini0 K 6) := by
  have I : ClI K ("InvalidText", .ve, ["index"]) := clB_one (clsB_at m 6 rfl)
  obtain ⟨fd, F⟩ := funM c 17 (cn := "InvalidText") (m := "__init__") (q := "InvalidText.__init__") (st := (inClass (top 7) 0)) rfl
  show Ok1 K mg "InvalidText" .ve "index" (He.ga K "InvalidText") (He.ma K (He.ga K "InvalidText") "__init__")
  exact ok1_of I.ei (He.glo_ok X G (c.fact 37 (f := .glo "InvalidText") rfl)) I.iC I.tI (I.no _ List.mem_cons_self) F sc_6 rfl rfl rfl rfl rfl (fun _ => rfl) (fun _ _ _ _ _ _ _ _ => rfl) (fun _ _ _ _ _ _ _ _ => rfl)
theorem sc_7 : FnScope ["self", "value"] ["self", "value"] (defScope (inClass (top 8) 0)) := ⟨rfl, rfl, rfl, by decide +kernel, rfl, by decide +kernel, by decide +kernel⟩
theorem c_7 (X : K.In h) (G : h.Ns mainGlobals mg) (c : He.SaysD fa fn K) (m : clsB rows K = true) : Ok1 K mg "InvalidWages" .ve "value" (cl0 K 7) (ini0 K 7) := by
  have I : ClI K ("InvalidWages", .ve, ["value"]) := clB_one (clsB_at m 7 rfl)
  obtain ⟨fd, F⟩ := funM c 18 (cn := "InvalidWages") (m := "__init__") (q := "InvalidWages.__init__") (st := (inClass (top 8) 0)) rfl
  show Ok1 K mg "InvalidWages" .ve "value" (He.ga K "InvalidWages") (He.ma K (He.ga K "InvalidWages") "__init__")
  exact ok1_of I.ei (He.glo_ok X G (c.fact 38 (f := .glo "InvalidWages") rfl)) I.iC I.tI (I.no _ List.mem_cons_self) F sc_7 rfl rfl rfl rfl rfl (fun _ => rfl) (fun _ _ _ _ _ _ _ _ => rfl) (fun _ _ _ _ _ _ _ _ => rfl)
theorem sc_8 : FnScope ["self", "value"] ["self", "value"] (defScope (inClass (top 9) 0)) := ⟨rfl, rfl, rfl, by decide +kernel, rfl, by decide +kernel, by decide +kernel⟩
theorem c_8 (X : K.In h) (G : h.Ns mainGlobals mg) (c : He.SaysD fa fn K) (m : clsB rows K = true) : Ok1 K mg "InvalidPrices" .ve "value" (cl0 K 8) (ini0 K 8) := by
  have I : ClI K ("InvalidPrices", .ve, ["value"]) := clB_one (clsB_at m 8 rfl)
  obtain ⟨fd, F⟩ := funM c 19 (cn := "InvalidPrices") (m := "__init__") (q := "InvalidPrices.__init__") (st := (inClass (top 9) 0)) rfl
  show Ok1 K mg "InvalidPrices" .ve "value" (He.ga K "InvalidPrices") (He.ma K (He.ga K "InvalidPrices") "__init__")
  exact ok1_of I.ei (He.glo_ok X G (c.fact 39 (f := .glo "InvalidPrices") rfl)) I.iC I.tI (I.no _ List.mem_cons_self) F sc_8 rfl rfl rfl rfl rfl (fun _ => rfl) (fun _ _ _ _ _ _ _ _ => rfl) (fun _ _ _ _ _ _ _ _ => rfl)
theorem sc_9 : FnScope ["self", "value"] ["self", "value"] (defScope (inClass (top 10) 0)) := ⟨rfl, rfl, rfl, by decide +kernel, rfl, by decide +kernel, by decide +kernel⟩
theorem c_9 (X : K.In h) (G : h.Ns mainGlobals mg) (c : He.SaysD fa fn K) (m : clsB rows K = true) : Ok1 K mg "InvalidLog" .ve "value" (cl0 K 9) (ini0 K 9) := by
  have I : ClI K ("InvalidLog", .ve, ["value"]) := clB_one (clsB_at m 9 rfl)
  obtain ⟨fd, F⟩ := funM c 20 (cn := "InvalidLog") (m := "__init__") (q := "InvalidLog.__init__") (st := (inClass (top 10) 0)) rfl
  show Ok1 K mg "InvalidLog" .ve "value" (He.ga K "InvalidLog") (He.ma K (He.ga K "InvalidLog") "__init__")
  exact ok1_of I.ei (He.glo_ok X G (c.fact 40 (f := .glo "InvalidLog") rfl)) I.iC I.tI (I.no _ List.mem_cons_self) F sc_9 rfl rfl rfl rfl rfl (fun _ => rfl) (fun _ _ _ _ _ _ _ _ => rfl) (fun _ _ _ _ _ _ _ _ => rfl)
theorem sc_10 : FnScope ["self", "name"] ["self", "name"] (defScope (inClass (top 11) 0)) := ⟨rfl, rfl, rfl, by decide +kernel, rfl, by decide +kernel, by decide +kernel⟩
theorem c_10 (X : K.In h) (G : h.Ns mainGlobals mg) (c : He.SaysD fa fn K) (m : clsB rows K = true) : Ok1 K mg "Clash" .ve "name" (cl0 K 10) (ini0 K 10) := by
  have I : ClI K ("Clash", .ve, ["name"]) := clB_one (clsB_at m 10 rfl)
  obtain ⟨fd, F⟩ := funM c 21 (cn := "Clash") (m := "__init__") (q := "Clash.__init__") (st := (inClass (top 11) 0)) rfl
  show Ok1 K mg "Clash" .ve "name" (He.ga K "Clash") (He.ma K (He.ga K "Clash") "__init__")
  exact ok1_of I.ei (He.glo_ok X G (c.fact 41 (f := .glo "Clash") rfl)) I.iC I.tI (I.no _ List.mem_cons_self) F sc_10 rfl rfl rfl rfl rfl (fun _ => rfl) (fun _ _ _ _ _ _ _ _ => rfl) (fun _ _ _ _ _ _ _ _ => rfl)
theorem sc_11 : FnScope ["self", "value"] ["self", "value"] (defScope (inClass (top 13) 0)) := ⟨rfl, rfl, rfl, by decide +kernel, rfl, by decide +kernel, by decide +kernel⟩
theorem c_11 (X : K.In h) (G : h.Ns mainGlobals mg) (c : He.SaysD fa fn K) (m : clsB rows K = true) : Ok1 K mg "CommandError" .ve "value" (cl0 K 11) (ini0 K 11) := by
  have I : ClI K ("CommandError", .ve, ["value"]) := clB_one (clsB_at m 11 rfl)
  obtain ⟨fd, F⟩ := funM c 22 (cn := "CommandError") (m := "__init__") (q := "CommandError.__init__") (st := (inClass (top 13) 0)) rfl
  show Ok1 K mg "CommandError" .ve "value" (He.ga K "CommandError") (He.ma K (He.ga K "CommandError") "__init__")
  exact ok1_of I.ei (He.glo_ok X G (c.fact 42 (f := .glo "CommandError") rfl)) I.iC I.tI (I.no _ List.mem_cons_self) F sc_11 rfl rfl rfl rfl rfl (fun _ => rfl) (fun _ _ _ _ _ _ _ _ => rfl) (fun _ _ _ _ _ _ _ _ => rfl)
theorem sc_12 : FnScope ["self", "name"] ["self", "name"] (defScope (inClass (top 14) 0)) := ⟨rfl, rfl, rfl, by decide +kernel, rfl, by decide +kernel, by decide +kernel⟩
theorem c_12 (X : K.In h) (G : h.Ns mainGlobals mg) (c : He.SaysD fa fn K) (m : clsB rows K = true) : Ok1 K mg "InUse" .ve "name" (cl0 K 12) (ini0 K 12) := by
  have I : ClI K ("InUse", .ve, ["name"]) := clB_one (clsB_at m 12 rfl)
  obtain ⟨fd, F⟩ := funM c 23 (cn := "InUse") (m := "__init__") (q := "InUse.__init__") (st := (inClass (top 14) 0)) rfl
  show Ok1 K mg "InUse" .ve "name" (He.ga K "InUse") (He.ma K (He.ga K "InUse") "__init__")
  exact ok1_of I.ei (He.glo_ok X G (c.fact 43 (f := .glo "InUse") rfl)) I.iC I.tI (I.no _ List.mem_cons_self) F sc_12 rfl rfl rfl rfl rfl (fun _ => rfl) (fun _ _ _ _ _ _ _ _ => rfl) (fun _ _ _ _ _ _ _ _ => rfl)
theorem sc_13 : FnScope ["self", "value"] ["self", "value"] (defScope (inClass (top 15) 0)) := ⟨rfl, rfl, rfl, by decide +kernel, rfl, by decide +kernel, by decide +kernel⟩
theorem c_13 (X : K.In h) (G : h.Ns mainGlobals mg) (c : He.SaysD fa fn K) (m : clsB rows K = true) : Ok1 K mg "UnknownKind" .le "value" (cl0 K 13) (ini0 K 13) := by
  have I : ClI K ("UnknownKind", .le, ["value"]) := clB_one (clsB_at m 13 rfl)
  obtain ⟨fd, F⟩ := funM c 24 (cn := "UnknownKind") (m := "__init__") (q := "UnknownKind.__init__") (st := (inClass (top 15) 0)) rfl
  show Ok1 K mg "UnknownKind" .le "value" (He.ga K "UnknownKind") (He.ma K (He.ga K "UnknownKind") "__init__")
  exact ok1_of I.ei (He.glo_ok X G (c.fact 44 (f := .glo "UnknownKind") rfl)) I.iC I.tI (I.no _ List.mem_cons_self) F sc_13 rfl rfl rfl rfl rfl (fun _ => rfl) (fun _ _ _ _ _ _ _ _ => rfl) (fun _ _ _ _ _ _ _ _ => rfl)
theorem sc_14 : FnScope ["self", "value"] ["self", "value"] (defScope (inClass (top 16) 0)) := ⟨rfl, rfl, rfl, by decide +kernel, rfl, by decide +kernel, by decide +kernel⟩
theorem c_14 (X : K.In h) (G : h.Ns mainGlobals mg) (c : He.SaysD fa fn K) (m : clsB rows K = true) : Ok1 K mg "UnknownTask" .le "value" (cl0 K 14) (ini0 K 14) := by
  have I : ClI K ("UnknownTask", .le, ["value"]) := clB_one (clsB_at m 14 rfl)
  obtain ⟨fd, F⟩ := funM c 25 (cn := "UnknownTask") (m := "__init__") (q := "UnknownTask.__init__") (st := (inClass (top 16) 0)) rfl
  show Ok1 K mg "UnknownTask" .le "value" (He.ga K "UnknownTask") (He.ma K (He.ga K "UnknownTask") "__init__")
  exact ok1_of I.ei (He.glo_ok X G (c.fact 45 (f := .glo "UnknownTask") rfl)) I.iC I.tI (I.no _ List.mem_cons_self) F sc_14 rfl rfl rfl rfl rfl (fun _ => rfl) (fun _ _ _ _ _ _ _ _ => rfl) (fun _ _ _ _ _ _ _ _ => rfl)
theorem sc_15 : FnScope ["self", "value"] ["self", "value"] (defScope (inClass (top 17) 0)) := ⟨rfl, rfl, rfl, by decide +kernel, rfl, by decide +kernel, by decide +kernel⟩
theorem c_15 (X : K.In h) (G : h.Ns mainGlobals mg) (c : He.SaysD fa fn K) (m : clsB rows K = true) : Ok1 K mg "UnknownStand" .le "value" (cl0 K 15) (ini0 K 15) := by
  have I : ClI K ("UnknownStand", .le, ["value"]) := clB_one (clsB_at m 15 rfl)
  obtain ⟨fd, F⟩ := funM c 26 (cn := "UnknownStand") (m := "__init__") (q := "UnknownStand.__init__") (st := (inClass (top 17) 0)) rfl
  show Ok1 K mg "UnknownStand" .le "value" (He.ga K "UnknownStand") (He.ma K (He.ga K "UnknownStand") "__init__")
  exact ok1_of I.ei (He.glo_ok X G (c.fact 46 (f := .glo "UnknownStand") rfl)) I.iC I.tI (I.no _ List.mem_cons_self) F sc_15 rfl rfl rfl rfl rfl (fun _ => rfl) (fun _ _ _ _ _ _ _ _ => rfl) (fun _ _ _ _ _ _ _ _ => rfl)
theorem sc_16 : FnScope ["self", "value"] ["self", "value"] (defScope (inClass (top 18) 0)) := ⟨rfl, rfl, rfl, by decide +kernel, rfl, by decide +kernel, by decide +kernel⟩
theorem c_16 (X : K.In h) (G : h.Ns mainGlobals mg) (c : He.SaysD fa fn K) (m : clsB rows K = true) : Ok1 K mg "UnknownMove" .le "value" (cl0 K 16) (ini0 K 16) := by
  have I : ClI K ("UnknownMove", .le, ["value"]) := clB_one (clsB_at m 16 rfl)
  obtain ⟨fd, F⟩ := funM c 27 (cn := "UnknownMove") (m := "__init__") (q := "UnknownMove.__init__") (st := (inClass (top 18) 0)) rfl
  show Ok1 K mg "UnknownMove" .le "value" (He.ga K "UnknownMove") (He.ma K (He.ga K "UnknownMove") "__init__")
  exact ok1_of I.ei (He.glo_ok X G (c.fact 47 (f := .glo "UnknownMove") rfl)) I.iC I.tI (I.no _ List.mem_cons_self) F sc_16 rfl rfl rfl rfl rfl (fun _ => rfl) (fun _ _ _ _ _ _ _ _ => rfl) (fun _ _ _ _ _ _ _ _ => rfl)
theorem sc_17 : FnScope ["self", "value"] ["self", "value"] (defScope (inClass (top 19) 0)) := ⟨rfl, rfl, rfl, by decide +kernel, rfl, by decide +kernel, by decide +kernel⟩
theorem c_17 (X : K.In h) (G : h.Ns mainGlobals mg) (c : He.SaysD fa fn K) (m : clsB rows K = true) : Ok1 K mg "UnknownCase" .le "value" (cl0 K 17) (ini0 K 17) := by
  have I : ClI K ("UnknownCase", .le, ["value"]) := clB_one (clsB_at m 17 rfl)
  obtain ⟨fd, F⟩ := funM c 28 (cn := "UnknownCase") (m := "__init__") (q := "UnknownCase.__init__") (st := (inClass (top 19) 0)) rfl
  show Ok1 K mg "UnknownCase" .le "value" (He.ga K "UnknownCase") (He.ma K (He.ga K "UnknownCase") "__init__")
  exact ok1_of I.ei (He.glo_ok X G (c.fact 48 (f := .glo "UnknownCase") rfl)) I.iC I.tI (I.no _ List.mem_cons_self) F sc_17 rfl rfl rfl rfl rfl (fun _ => rfl) (fun _ _ _ _ _ _ _ _ => rfl) (fun _ _ _ _ _ _ _ _ => rfl)
theorem sc_18 : FnScope ["self", "value"] ["self", "value"] (defScope (inClass (top 20) 0)) := ⟨rfl, rfl, rfl, by decide +kernel, rfl, by decide +kernel, by decide +kernel⟩
theorem c_18 (X : K.In h) (G : h.Ns mainGlobals mg) (c : He.SaysD fa fn K) (m : clsB rows K = true) : Ok1 K mg "UnknownPerson" .le "value" (cl0 K 18) (ini0 K 18) := by
  have I : ClI K ("UnknownPerson", .le, ["value"]) := clB_one (clsB_at m 18 rfl)
  obtain ⟨fd, F⟩ := funM c 29 (cn := "UnknownPerson") (m := "__init__") (q := "UnknownPerson.__init__") (st := (inClass (top 20) 0)) rfl
  show Ok1 K mg "UnknownPerson" .le "value" (He.ga K "UnknownPerson") (He.ma K (He.ga K "UnknownPerson") "__init__")
  exact ok1_of I.ei (He.glo_ok X G (c.fact 49 (f := .glo "UnknownPerson") rfl)) I.iC I.tI (I.no _ List.mem_cons_self) F sc_18 rfl rfl rfl rfl rfl (fun _ => rfl) (fun _ _ _ _ _ _ _ _ => rfl) (fun _ _ _ _ _ _ _ _ => rfl)
theorem sc_19 : FnScope ["self", "value"] ["self", "value"] (defScope (inClass (top 21) 0)) := ⟨rfl, rfl, rfl, by decide +kernel, rfl, by decide +kernel, by decide +kernel⟩
theorem c_19 (X : K.In h) (G : h.Ns mainGlobals mg) (c : He.SaysD fa fn K) (m : clsB rows K = true) : Ok1 K mg "OutOfRange" .le "value" (cl0 K 19) (ini0 K 19) := by
  have I : ClI K ("OutOfRange", .le, ["value"]) := clB_one (clsB_at m 19 rfl)
  obtain ⟨fd, F⟩ := funM c 30 (cn := "OutOfRange") (m := "__init__") (q := "OutOfRange.__init__") (st := (inClass (top 21) 0)) rfl
  show Ok1 K mg "OutOfRange" .le "value" (He.ga K "OutOfRange") (He.ma K (He.ga K "OutOfRange") "__init__")
  exact ok1_of I.ei (He.glo_ok X G (c.fact 50 (f := .glo "OutOfRange") rfl)) I.iC I.tI (I.no _ List.mem_cons_self) F sc_19 rfl rfl rfl rfl rfl (fun _ => rfl) (fun _ _ _ _ _ _ _ _ => rfl) (fun _ _ _ _ _ _ _ _ => rfl)
theorem sc_20 : FnScope ["self", "limit"] ["self", "limit"] (defScope (inClass (top 22) 0)) := ⟨rfl, rfl, rfl, by decide +kernel, rfl, by decide +kernel, by decide +kernel⟩
theorem c_20 (X : K.In h) (G : h.Ns mainGlobals mg) (c : He.SaysD fa fn K) (m : clsB rows K = true) : Ok1 K mg "TooMany" .oe "limit" (cl0 K 20) (ini0 K 20) := by
  have I : ClI K ("TooMany", .oe, ["limit"]) := clB_one (clsB_at m 20 rfl)
  obtain ⟨fd, F⟩ := funM c 31 (cn := "TooMany") (m := "__init__") (q := "TooMany.__init__") (st := (inClass (top 22) 0)) rfl
  show Ok1 K mg "TooMany" .oe "limit" (He.ga K "TooMany") (He.ma K (He.ga K "TooMany") "__init__")
  exact ok1_of I.ei (He.glo_ok X G (c.fact 51 (f := .glo "TooMany") rfl)) I.iC I.tI (I.no _ List.mem_cons_self) F sc_20 rfl rfl rfl rfl rfl (fun _ => rfl) (fun _ _ _ _ _ _ _ _ => rfl) (fun _ _ _ _ _ _ _ _ => rfl)
theorem sc_21 : FnScope ["self", "kind"] ["self", "kind"] (defScope (inClass (top 23) 0)) := ⟨rfl, rfl, rfl, by decide +kernel, rfl, by decide +kernel, by decide +kernel⟩
theorem c_21 (X : K.In h) (G : h.Ns mainGlobals mg) (c : He.SaysD fa fn K) (m : clsB rows K = true) : Ok1 K mg "TooFew" .oe "kind" (cl0 K 21) (ini0 K 21) := by
  have I : ClI K ("TooFew", .oe, ["kind"]) := clB_one (clsB_at m 21 rfl)
  obtain ⟨fd, F⟩ := funM c 32 (cn := "TooFew") (m := "__init__") (q := "TooFew.__init__") (st := (inClass (top 23) 0)) rfl
  show Ok1 K mg "TooFew" .oe "kind" (He.ga K "TooFew") (He.ma K (He.ga K "TooFew") "__init__")
  exact ok1_of I.ei (He.glo_ok X G (c.fact 52 (f := .glo "TooFew") rfl)) I.iC I.tI (I.no _ List.mem_cons_self) F sc_21 rfl rfl rfl rfl rfl (fun _ => rfl) (fun _ _ _ _ _ _ _ _ => rfl) (fun _ _ _ _ _ _ _ _ => rfl)
theorem sc_22 : FnScope ["self", "value"] ["self", "value"] (defScope (inClass (top 24) 0)) := ⟨rfl, rfl, rfl, by decide +kernel, rfl, by decide +kernel, by decide +kernel⟩
theorem c_22 (X : K.In h) (G : h.Ns mainGlobals mg) (c : He.SaysD fa fn K) (m : clsB rows K = true) : Ok1 K mg "NotNow" .re "value" (cl0 K 22) (ini0 K 22) := by
  have I : ClI K ("NotNow", .re, ["value"]) := clB_one (clsB_at m 22 rfl)
  obtain ⟨fd, F⟩ := funM c 33 (cn := "NotNow") (m := "__init__") (q := "NotNow.__init__") (st := (inClass (top 24) 0)) rfl
  show Ok1 K mg "NotNow" .re "value" (He.ga K "NotNow") (He.ma K (He.ga K "NotNow") "__init__")
  exact ok1_of I.ei (He.glo_ok X G (c.fact 53 (f := .glo "NotNow") rfl)) I.iC I.tI (I.no _ List.mem_cons_self) F sc_22 rfl rfl rfl rfl rfl (fun _ => rfl) (fun _ _ _ _ _ _ _ _ => rfl) (fun _ _ _ _ _ _ _ _ => rfl)
theorem sc_23 : FnScope ["self", "number"] ["self", "number"] (defScope (inClass (top 25) 0)) := ⟨rfl, rfl, rfl, by decide +kernel, rfl, by decide +kernel, by decide +kernel⟩
theorem c_23 (X : K.In h) (G : h.Ns mainGlobals mg) (c : He.SaysD fa fn K) (m : clsB rows K = true) : Ok1 K mg "WrongNumber" .re "number" (cl0 K 23) (ini0 K 23) := by
  have I : ClI K ("WrongNumber", .re, ["number"]) := clB_one (clsB_at m 23 rfl)
  obtain ⟨fd, F⟩ := funM c 34 (cn := "WrongNumber") (m := "__init__") (q := "WrongNumber.__init__") (st := (inClass (top 25) 0)) rfl
  show Ok1 K mg "WrongNumber" .re "number" (He.ga K "WrongNumber") (He.ma K (He.ga K "WrongNumber") "__init__")
  exact ok1_of I.ei (He.glo_ok X G (c.fact 54 (f := .glo "WrongNumber") rfl)) I.iC I.tI (I.no _ List.mem_cons_self) F sc_23 rfl rfl rfl rfl rfl (fun _ => rfl) (fun _ _ _ _ _ _ _ _ => rfl) (fun _ _ _ _ _ _ _ _ => rfl)
theorem sc_24 : FnScope ["self", "person"] ["self", "person"] (defScope (inClass (top 26) 0)) := ⟨rfl, rfl, rfl, by decide +kernel, rfl, by decide +kernel, by decide +kernel⟩
theorem c_24 (X : K.In h) (G : h.Ns mainGlobals mg) (c : He.SaysD fa fn K) (m : clsB rows K = true) : Ok1 K mg "Twice" .re "person" (cl0 K 24) (ini0 K 24) := by
  have I : ClI K ("Twice", .re, ["person"]) := clB_one (clsB_at m 24 rfl)
  obtain ⟨fd, F⟩ := funM c 35 (cn := "Twice") (m := "__init__") (q := "Twice.__init__") (st := (inClass (top 26) 0)) rfl
  show Ok1 K mg "Twice" .re "person" (He.ga K "Twice") (He.ma K (He.ga K "Twice") "__init__")
  exact ok1_of I.ei (He.glo_ok X G (c.fact 55 (f := .glo "Twice") rfl)) I.iC I.tI (I.no _ List.mem_cons_self) F sc_24 rfl rfl rfl rfl rfl (fun _ => rfl) (fun _ _ _ _ _ _ _ _ => rfl) (fun _ _ _ _ _ _ _ _ => rfl)
theorem sc_25 : FnScope ["self", "person"] ["self", "person"] (defScope (inClass (top 27) 0)) := ⟨rfl, rfl, rfl, by decide +kernel, rfl, by decide +kernel, by decide +kernel⟩
theorem c_25 (X : K.In h) (G : h.Ns mainGlobals mg) (c : He.SaysD fa fn K) (m : clsB rows K = true) : Ok1 K mg "LacksRole" .re "person" (cl0 K 25) (ini0 K 25) := by
  have I : ClI K ("LacksRole", .re, ["person"]) := clB_one (clsB_at m 25 rfl)
  obtain ⟨fd, F⟩ := funM c 36 (cn := "LacksRole") (m := "__init__") (q := "LacksRole.__init__") (st := (inClass (top 27) 0)) rfl
  show Ok1 K mg "LacksRole" .re "person" (He.ga K "LacksRole") (He.ma K (He.ga K "LacksRole") "__init__")
  exact ok1_of I.ei (He.glo_ok X G (c.fact 56 (f := .glo "LacksRole") rfl)) I.iC I.tI (I.no _ List.mem_cons_self) F sc_25 rfl rfl rfl rfl rfl (fun _ => rfl) (fun _ _ _ _ _ _ _ _ => rfl) (fun _ _ _ _ _ _ _ _ => rfl)
theorem sc_26 : FnScope ["self", "case"] ["self", "case"] (defScope (inClass (top 30) 0)) := ⟨rfl, rfl, rfl, by decide +kernel, rfl, by decide +kernel, by decide +kernel⟩
theorem c_26 (X : K.In h) (G : h.Ns mainGlobals mg) (c : He.SaysD fa fn K) (m : clsB rows K = true) : Ok1 K mg "Hopeless" .re "case" (cl0 K 26) (ini0 K 26) := by
  have I : ClI K ("Hopeless", .re, ["case"]) := clB_one (clsB_at m 26 rfl)
  obtain ⟨fd, F⟩ := funM c 37 (cn := "Hopeless") (m := "__init__") (q := "Hopeless.__init__") (st := (inClass (top 30) 0)) rfl
  show Ok1 K mg "Hopeless" .re "case" (He.ga K "Hopeless") (He.ma K (He.ga K "Hopeless") "__init__")
  exact ok1_of I.ei (He.glo_ok X G (c.fact 57 (f := .glo "Hopeless") rfl)) I.iC I.tI (I.no _ List.mem_cons_self) F sc_26 rfl rfl rfl rfl rfl (fun _ => rfl) (fun _ _ _ _ _ _ _ _ => rfl) (fun _ _ _ _ _ _ _ _ => rfl)
theorem sc_27 : FnScope ["self", "person", "name"] ["self", "person", "name"] (defScope (inClass (top 28) 0)) := ⟨rfl, rfl, rfl, by decide +kernel, rfl, by decide +kernel, by decide +kernel⟩
theorem c_27 (X : K.In h) (G : h.Ns mainGlobals mg) (c : He.SaysD fa fn K) (m : clsB rows K = true) : Ok2 K mg "DidLast" .re "person" "name" (cl0 K 27) (ini0 K 27) := by
  have I : ClI K ("DidLast", .re, ["person", "name"]) := clB_one (clsB_at m 27 rfl)
  obtain ⟨fd, F⟩ := funM c 38 (cn := "DidLast") (m := "__init__") (q := "DidLast.__init__") (st := (inClass (top 28) 0)) rfl
  show Ok2 K mg "DidLast" .re "person" "name" (He.ga K "DidLast") (He.ma K (He.ga K "DidLast") "__init__")
  exact ok2_of I.ei (He.glo_ok X G (c.fact 58 (f := .glo "DidLast") rfl)) I.iC I.tI (I.no _ List.mem_cons_self) (I.no _ (List.mem_cons_of_mem _ List.mem_cons_self)) F sc_27 rfl rfl rfl rfl rfl rfl rfl rfl (fun _ => rfl) (fun _ => rfl) (fun _ _ _ _ _ _ _ _ _ => rfl) (fun _ _ _ _ _ _ _ _ _ => rfl)
theorem sc_28 : FnScope ["self", "person", "name"] ["self", "person", "name"] (defScope (inClass (top 29) 0)) := ⟨rfl, rfl, rfl, by decide +kernel, rfl, by decide +kernel, by decide +kernel⟩
theorem c_28 (X : K.In h) (G : h.Ns mainGlobals mg) (c : He.SaysD fa fn K) (m : clsB rows K = true) : Ok2 K mg "DidNotLast" .re "person" "name" (cl0 K 28) (ini0 K 28) := by
  have I : ClI K ("DidNotLast", .re, ["person", "name"]) := clB_one (clsB_at m 28 rfl)
  obtain ⟨fd, F⟩ := funM c 39 (cn := "DidNotLast") (m := "__init__") (q := "DidNotLast.__init__") (st := (inClass (top 29) 0)) rfl
  show Ok2 K mg "DidNotLast" .re "person" "name" (He.ga K "DidNotLast") (He.ma K (He.ga K "DidNotLast") "__init__")
  exact ok2_of I.ei (He.glo_ok X G (c.fact 59 (f := .glo "DidNotLast") rfl)) I.iC I.tI (I.no _ List.mem_cons_self) (I.no _ (List.mem_cons_of_mem _ List.mem_cons_self)) F sc_28 rfl rfl rfl rfl rfl rfl rfl rfl (fun _ => rfl) (fun _ => rfl) (fun _ _ _ _ _ _ _ _ _ => rfl) (fun _ _ _ _ _ _ _ _ _ => rfl)
theorem c_29 (X : K.In h) (G : h.Ns mainGlobals mg) (c : He.SaysD fa fn K) (m : clsB rows K = true) : Ok0 K mg "NotSameKinds" .ve (cl0 K 29) := by
  obtain ⟨e, q⟩ := clB_none (K := K) (n := "NotSameKinds") (b := .ve) (clsB_at m 29 rfl)
  exact ⟨e, He.glo_ok X G (c.fact 60 (f := .glo "NotSameKinds") rfl), q⟩
theorem c_30 (X : K.In h) (G : h.Ns mainGlobals mg) (c : He.SaysD fa fn K) (m : clsB rows K = true) : Ok0 K mg "InTrial" .re (cl0 K 30) := by
  obtain ⟨e, q⟩ := clB_none (K := K) (n := "InTrial") (b := .re) (clsB_at m 30 rfl)
  exact ⟨e, He.glo_ok X G (c.fact 61 (f := .glo "InTrial") rfl), q⟩
theorem allC (X : K.In h) (G : h.Ns mainGlobals mg) (c : He.SaysD fa fn K) (m : clsB rows K = true) : AllC K mg (cl0 K) (ini0 K) := by
  refine ⟨fun i hi => ?_, c_27 X G c m, c_28 X G c m, c_29 X G c m, c_30 X G c m, fun i j hi hj e => clsB_apart m hi hj ("", .ve, []) e, (He.free_ok X G (c.fact 14 (f := .free "isinstance") rfl)), (He.free_ok X G (c.fact 15 (f := .free "range") rfl)), (He.free_ok X G (c.fact 16 (f := .free "ValueError") rfl)), (He.free_ok X G (c.fact 17 (f := .free "LookupError") rfl)), (He.free_ok X G (c.fact 18 (f := .free "OverflowError") rfl)), (He.free_ok X G (c.fact 19 (f := .free "RuntimeError") rfl))⟩
  match i, hi with
  | 0, _ => exact c_0 X G c m
  | 1, _ => exact c_1 X G c m
  | 2, _ => exact c_2 X G c m
  | 3, _ => exact c_3 X G c m
  | 4, _ => exact c_4 X G c m
  | 5, _ => exact c_5 X G c m
  | 6, _ => exact c_6 X G c m
  | 7, _ => exact c_7 X G c m
  | 8, _ => exact c_8 X G c m
  | 9, _ => exact c_9 X G c m
  | 10, _ => exact c_10 X G c m
  | 11, _ => exact c_11 X G c m
  | 12, _ => exact c_12 X G c m
  | 13, _ => exact c_13 X G c m
  | 14, _ => exact c_14 X G c m
  | 15, _ => exact c_15 X G c m
  | 16, _ => exact c_16 X G c m
  | 17, _ => exact c_17 X G c m
  | 18, _ => exact c_18 X G c m
  | 19, _ => exact c_19 X G c m
  | 20, _ => exact c_20 X G c m
  | 21, _ => exact c_21 X G c m
  | 22, _ => exact c_22 X G c m
  | 23, _ => exact c_23 X G c m
  | 24, _ => exact c_24 X G c m
  | 25, _ => exact c_25 X G c m
  | 26, _ => exact c_26 X G c m
  | n + 27, hi => exact absurd hi (by omega)
theorem txtP (X : K.In h) (G : h.Ns mainGlobals mg) (c : He.SaysD fa fn K) : TxtP mg := ⟨(He.free_ok X G (c.fact 11 (f := .free "list") rfl)), (He.free_ok X G (c.fact 12 (f := .free "int") rfl)), (He.free_ok X G (c.fact 13 (f := .free "len") rfl))⟩
theorem txtL (X : K.In h) (G : h.Ns mainGlobals mg) (c : He.SaysD fa fn K) : TxtL mg := ⟨He.int_ok X G (c.fact 21 (f := .int "KINDS" 3) rfl), He.int_ok X G (c.fact 22 (f := .int "ROLES" 4) rfl), He.int_ok X G (c.fact 23 (f := .int "TASKS" 8) rfl), He.int_ok X G (c.fact 24 (f := .int "REMEMBERED" 3) rfl), He.int_ok X G (c.fact 25 (f := .int "WIDTH" 5) rfl), He.int_ok X G (c.fact 26 (f := .int "MANY" 3) rfl), He.int_ok X G (c.fact 27 (f := .int "NAMES" 16) rfl), He.int_ok X G (c.fact 28 (f := .int "LEVELS" 5) rfl), He.int_ok X G (c.fact 29 (f := .int "STANDS" 2000) rfl), He.int_ok X G (c.fact 30 (f := .int "CAP" 8) rfl), (He.free_ok X G (c.fact 20 (f := .free "repr") rfl))⟩
theorem facts {f : Addr} (X : K.In h) (G : h.Ns mainGlobals mg) (hfa : mg ("law" : Str) = some (.ref f)) (c : He.SaysD fa fn K) (m : clsB rows K = true) :
    ∃ fd : FuncData, (∀ (s : Shared) (v : Value), BindsTo s fd ⟨[v], []⟩ [("_law_script", v)]) ∧ ∀ base : Heap, K.In base → base.Ns mainGlobals mg → FnG P w K mg base CX0 4 f fd ["_law_script"] (spLaw K) := by
  obtain ⟨fd0, F0⟩ := funT c 0 (x := "_law_pen") (st := sPen) rfl
  obtain ⟨fd1, F1⟩ := funT c 1 (x := "_law_draw") (st := sDraw) rfl
  obtain ⟨fd2, F2⟩ := funT c 2 (x := "_law_pick") (st := sPick) rfl
  obtain ⟨fd3, F3⟩ := funT c 3 (x := "_law_any_value") (st := sAny) rfl
  obtain ⟨fd4, F4⟩ := funT c 4 (x := "_law_ones") (st := sOnes) rfl
  obtain ⟨fd5, F5⟩ := funT c 5 (x := "_law_own") (st := sOwn) rfl
  obtain ⟨fd6, F6⟩ := funT c 6 (x := "_law_field") (st := sField) rfl
  obtain ⟨fd7, F7⟩ := funT c 7 (x := "_law_above") (st := sAbove) rfl
  obtain ⟨fd8, F8⟩ := funT c 8 (x := "_law_is_right") (st := sRight) rfl
  obtain ⟨fd9, F9⟩ := funT c 9 (x := "_law_twos_right") (st := sTwos) rfl
  obtain ⟨fd10, F10⟩ := funT c 10 (x := "law") (st := sLaw) rfl
  have g0 := He.glo_ok X G (c.fact 0 (f := .glo "_law_pen") rfl)
  have g1 := He.glo_ok X G (c.fact 1 (f := .glo "_law_draw") rfl)
  have g2 := He.glo_ok X G (c.fact 2 (f := .glo "_law_pick") rfl)
  have g3 := He.glo_ok X G (c.fact 3 (f := .glo "_law_any_value") rfl)
  have g4 := He.glo_ok X G (c.fact 4 (f := .glo "_law_ones") rfl)
  have g5 := He.glo_ok X G (c.fact 5 (f := .glo "_law_own") rfl)
  have g6 := He.glo_ok X G (c.fact 6 (f := .glo "_law_field") rfl)
  have g7 := He.glo_ok X G (c.fact 7 (f := .glo "_law_above") rfl)
  have g8 := He.glo_ok X G (c.fact 8 (f := .glo "_law_is_right") rfl)
  have g9 := He.glo_ok X G (c.fact 9 (f := .glo "_law_twos_right") rfl)
  have g10 := He.glo_ok X G (c.fact 10 (f := .glo "law") rfl)
  have e := hfa.symm.trans g10
  cases e
  have FL := F10
  have b : ∀ (s : Shared) (v : Value), BindsTo s fd10 ⟨[v], []⟩ [("_law_script", v)] := by
    obtain ⟨oc, od, kV, doc, pm, an, cdv, ct, osl, e, _, _⟩ := FL.ex
    intro s v
    rw [e]
    exact .of_eq rfl
  refine ⟨fd10, b, fun base _ _ => ok_law FL ⟨F0, F1, F2, F3, F4, F5, F6, F7, F8, F9, g0, g1, g2, g3, g4, g5, g6, g7, g8, g9⟩ (allC X G c m) (txtP X G c) (txtL X G c)⟩
end
end Fh0
set_option Elab.async false
set_option linter.all false
set_option maxRecDepth 100000
set_option maxHeartbeats 0
open PySem PySem.W PySem.Calls PyProof.Rows
theorem PySem.Challenge.cw_fewhands_k00_errors_and_limits_holds : PySem.Challenge.rw_fewhands_k00_errors_and_limits.Holds := by
  w_on; o_law
  refine HandSHeadRun.head_any (r := OpenLaw.row PySem.Challenge.rw_fewhands_k00_errors_and_limits) (q := view (OpenLaw.row PySem.Challenge.rw_fewhands_k00_errors_and_limits).prog [53]) (H := Fh0.hk) (ob := Fh0.ob) (M := 8000) (loose := Fh0.names) (d := HandSHeadRun.topDef (OpenLaw.row PySem.Challenge.rw_fewhands_k00_errors_and_limits).prog 53) (kwd := []) Fh0.ob_eq
    (by kernel_rfl) (fun s => by kernel_rfl) Fh0.run (by kernel_rfl) (by kernel_rfl) (by kernel_rfl) (by rfl) (by first | assumption | decide +kernel) (by decide +kernel) ⟨rfl, rfl, rfl, rfl, rfl, by decide +kernel⟩ ?hw ?hc
  case hw => w_witness2
  case hc =>
    refine Fh.walk_ofGE (l := PySem.Challenge.rw_fewhands_k00_errors_and_limits) (n := 63) (k := 4) (x := "_law_script") (CX := L2.CX0) rfl (by decide) (by kernel_rfl) ⟨rfl, by decide, by decide⟩ ?F (fun _ _ _ _ z => z)
    intro w mg fa h Y G hmg0
    obtain ⟨K, KX, c⟩ := Y
    have hmg : mg ("law" : PySem.Str) = some (.ref fa) := by
      have e : (HandSHeadRun.topDef (OpenLaw.row PySem.Challenge.rw_fewhands_k00_errors_and_limits).prog 53).name = ("law" : PySem.Str) := by kernel_rfl
      rw [← e]
      exact hmg0
    obtain ⟨fd, hb, hF⟩ := Fh0.facts (P := (PySem.Challenge.rw_fewhands_k00_errors_and_limits).prog) (w := w) KX G hmg c.t.d c.more
    exact ⟨K, fd, Fh0.spLaw K, KX, hb, fun H a ns hl _ _ hS => ⟨a, ns, rfl, hS, hl, fun _ => rfl⟩, hF⟩
