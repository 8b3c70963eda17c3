import PyProof.Rows.All
import Wide.All
import OpenK.AllK
import Wide.FinOn
import PyProof.ReprRoads
import HandS.ForMost
import HandS.EndBits
import KE.KExcInit
import HandS.Exc
import HandS.ExcInit
import HandS.ExcOwn
import HandS.IsInst
import HandS.ExcIs
import HandS.Defaults
import KE.KExcIs
import HandS.ExcValue
import HandS.DeepEq
import HandS.DictComp
import HandS.Star
import HandS.MakeKw
import HandS.MakeKwOnly
import HandS.ClsMeth
import HandS.Property
import HandS.CallLocal
import KE.KParD
import PyProof.InstNe
import OpenK.KMeth
import KE.KOpsOwn
import HandS.SlotsOwn
import HandS.Set
import HandS.SetFor
import HandS.Strs
import HandS.SetKeys
import HandS.Conv
import HandS.ListItems
import KE.KDictSum
import HandS.Walk
import PySem.Challenge.RW_fewhands_k02_whole_staffs_as_numbers
import KE.KEqDict
import HandS.Text
import PyProof.ReprLen
import PyProof.TupleOfSeq
import PyProof.DictUpdate
import PyProof.DictDisplay
import PyProof.DictCopy
import HandS.Dict
import HandS.Iter
import HandS.ForExc
import PyProof.EqAt
import PyProof.NeKinds
import HandS.RaiseMore
import KE.KStateDown
import HandS.Head0
import HandS.Head1
import HandS.Head2
import HandS.HeadEnd
import HandS.HeadHook1
import HandS.HeadHook2
import HandS.HeadHook3
import HandS.HeadHook4
import HandS.Comp
set_option Elab.async false
set_option linter.all false
set_option maxRecDepth 100000
set_option maxHeartbeats 4000000
/-! FhA: a def's promise where no repr is under way (FnG), data in the abstract heap (DA), repr of it -/
namespace Fh
open PySem PySem.Spec PyProof.Rows L2

/-! ### 1. promises that hold where the stack shows no repr -/
structure FnG (P : Program) (w : World) (K : PySem.W.Frag) (mg : Str → Option Value) (base : Heap) (CX : CXT) (k : Nat) (f : Addr) (fd : FuncData) (ps : List Str) (sp : Sp) : Prop where
  len : ∀ vs H Q E, sp vs H Q E → vs.length = ps.length
  run : ∀ (A : Around) (outer : List Env) (s : Shared) (H : Hp) (args : Args) (us : List Value) (vs : List V) (Q : VK) (E : XK), A.guards = some [] → Room k A → Env0 P w K mg base A outer s H →
    BindsTo s fd args (ps.zip us) → Vals vs us → sp vs H Q E → codeAny (model P w) A (.call (.ref f) args) (CR CX outer P w H s Q E) s

theorem guards_deeper (A : Around) (env : Env) : (A.deeper env).guards = A.guards := by
  first
    | rfl
    | simp [Around.deeper]

/-- the body's rule under no repr -/
theorem FunG_ok {P : Program} {w : World} {K : PySem.W.Frag} {mg : Str → Option Value} {base : Heap} {x qual : Str} {st : Stmt} {f : Addr} {fd : FuncData} {N ps : List Str} {k : Nat} {sp : Sp} {CX : CXT}
    (F : Fun K x qual st f fd) (S : FnScope N ps (defScope st)) (len : ∀ vs H Q E, sp vs H Q E → vs.length = ps.length)
    (hbody : ∀ (cdv : Value) (A : Around) (outer : List Env) (s : Shared) (H : Hp) (vs : List V) (Q : VK) (E : XK), A.guards = some [] → Room k (A.deeper (envOfC qual (defScope st) s.heap.objs.size f cdv)) → sp vs H Q E →
      ∃ t, PSs (cxOf CX P w K mg base N qual (defScope st) f cdv A outer s H E) (defBody st) t ∧ t { nx := fun _ H' => Q .non H', rt := Q } (start N vs) H) : FnG P w K mg base CX (k + 1) f fd ps sp := by
  obtain ⟨oc, od, kV, doc, pm, an, cdv, ct, osl, rfl, lk, hcd⟩ := F.ex
  refine ⟨len, fun A outer s H args us vs Q E hg hr e0 hb rv hsp => ?_⟩
  have nvs := len vs H Q E hsp
  have inK : K.In s.heap := e0.mod.kin.keeps (fun b o z => (e0.bs b o z).1)
  have nolim : s.heap.NoLimit := e0.mod.nolimit.keeps (fun b o z => (e0.bs b o z).1)
  have kinds : ∀ y ∈ ps.zip us, (defScope st).names.lookup y.1 = some .local ∨ ((defScope st).names.lookup y.1 = some .cell ∧ ((cellsFrom (s.heap.objs.size + 1) (defScope st).names []).lookup y.1).isSome = true) := by
    rintro ⟨n, v⟩ hy
    cases S.par n (List.of_mem_zip hy).1 with
    | inl q => exact Or.inl q
    | inr q => exact Or.inr ⟨q, PySem.W.cellsFrom_some _ _ _ (Or.inl q)⟩
  refine codeAny_call_function hr.depth (inK _ _ lk) rfl S.co S.gen rfl (PySem.W.codeRec_of inK hcd) (hb _ _ _ _ ?_)
  refine wpAny_newFunctionEnv_cells S.kind kinds fun env henv s1 ic => ?_
  subst henv
  refine ⟨nolim.keeps ic.toInCall.keep, codeAny_func ?_⟩
  obtain ⟨t, ht, hq⟩ := hbody cdv A outer s H vs Q E hg (hr.deeper _) hsp
  have J0 : Inv (cxOf CX P w K mg base N qual (defScope st) f cdv A outer s H E) [] (start N vs) H s1 := inv_start S hr.hd e0 nvs rv ic
  refine wpAny_mono (ht.run [] s1 (start N vs) H _ J0 hq) ?_ (fun e s' z => z)
  intro fl s' hs
  match fl, hs with
  | .ret u, hs =>
    obtain ⟨v, σ', H', J, ru, q⟩ := hs
    exact ⟨v, H', J.os, J.bare, J.base, J.hok, ru, q⟩
  | .next, hs =>
    obtain ⟨σ', H', J, q⟩ := hs
    exact ⟨V.non, H', J.os, J.bare, J.base, J.hok, rfl, q⟩
  | .brk, hs =>
    obtain ⟨_, _, _, q⟩ := hs
    exact q.elim
  | .cont, hs =>
    obtain ⟨_, _, _, q⟩ := hs
    exact q.elim

theorem FnOk.toG {P : Program} {w : World} {K : PySem.W.Frag} {mg : Str → Option Value} {base : Heap} {CX : CXT} {k : Nat} {f : Addr} {fd : FuncData} {ps : List Str} {sp : Sp} (F : FnOk P w K mg base CX k f fd ps sp) : FnG P w K mg base CX k f fd ps sp :=
  ⟨F.len, fun A outer s H args us vs Q E _ hr e0 hb rv hsp => F.run A outer s H args us vs Q E hr e0 hb rv hsp⟩

section
variable {X : Cx} {CX : CXT} {k : Nat} {f : Addr} {fd : FuncData} {ps : List Str} {sp : Sp} {dvs : List V} {ds : List Value} {E : XK} {x : Str} {p pos : Pos} {e : Expr} {es : List Expr} {t : TA}
theorem run_fnG {pins : List (Addr × Obj)} {σ : L2.St} {H : Hp} {s : Shared} {Q : VK} {us : List Value} {vs : List V} (F : FnG X.prog X.w X.K X.mg X.base CX k f fd ps sp) (hg : X.A.guards = some []) (hr : Room k X.A) (hb : Binds X.K fd ps ds) (hd : Vals dvs ds)
    (hx : Passes CX X E) (I : Inv X pins σ H s) (r : Vals vs us) (h : sp (vs ++ dvs) H Q E) : wpAny (model X.prog X.w) X.A (call (.ref f) us) (EP X pins σ Q) X.xe s := by
  have both : Vals (vs ++ dvs) (us ++ ds) := r.append hd
  have many : (us ++ ds).length = ps.length := by
    rw [← both.length]
    exact F.len _ _ _ _ h
  refine wpAny_call (codeAny_mono (F.run X.A X.stack s H ⟨us, []⟩ (us ++ ds) (vs ++ dvs) Q E hg hr I.env0 (hb s us I.kIn many) both h) ?_)
  intro res s' hq
  match res, hq with
  | .error er, hq => exact hx pins σ H s er s' I hq
  | .ok (.ret u), hq => exact I.after hq
theorem pe_callG (F : FnG X.prog X.w X.K X.mg X.base CX k f fd ps sp) (hgd : X.A.guards = some []) (hr : Room k X.A) (hg : Gl X x) (hm : X.mg x = some (.ref f)) (hk : PySem.W.keepIn X.K (.ref f) = true) (hb : Binds X.K fd ps ds) (hd : Vals dvs ds) (hx : Passes CX X E)
    (ha : PA X (e :: es) t) (hdb : (x == ("__debug__" : Str)) = false := by decide) (he : starEach (e :: es) X.env = (false, eval e X.env) :: starEach es X.env := by rfl) (hpl : (backTo pos (starEach es X.env)).any (·.1) = false := by rfl) :
    PE X (.Call (.Name x p) (e :: es) [] pos) (tCall sp dvs E t) :=
  ⟨fun pins s σ H Q I h => wpAny_Call_Name_kw (ld_glob I hg hm (PySem.W.callWith_K (h₀ := X.base) I.ok.mod.kin hk
    (thn (ha.run pos pins s σ H _ I h) fun us s1 ⟨vs, H1, I1, r, q⟩ => ⟨I1.kIn, run_fnG F hgd hr hb hd hx I1 r q⟩) he hpl) hdb)⟩
end

/-! ### 2. the end of a law whose def is promised under no repr -/
/-- from FnG to a promise of calls at one A: an FnOk is asked by the library; here its core is gone through anew -/
theorem law_callG {P : Program} {w : World} {K : PySem.W.Frag} {mg mb : Str → Option Value} {CX : CXT} {k : Nat} {fa a : Addr} {fd : FuncData} {x : Str} {sp : Sp} {s1 : Shared} {vs : List Value} {ns : List Int}
    (KX : K.In s1.heap) (hns : s1.heap.Ns mainGlobals mg) (hb : s1.heap.Ns builtinsNs mb) (hbb : ∀ x : Str, x ≠ "__name__" → mb x = bootBuiltins x) (hlim : s1.heap.NoLimit) (hg : s1.gens = #[])
    (ha : s1.heap.get? a = some { cls := .type "list", data := .seq vs.toArray }) (hi : IntsAre vs ns) (hl : ns.length ≤ sizeLine) (hr : Room k callerA)
    (F : ∀ base : Heap, K.In base → base.Ns mainGlobals mg → FnG P w K mg base CX k fa fd [x] sp) (hbind : ∀ (s : Shared) (u : Value), BindsTo s fd ⟨[u], []⟩ [(x, u)])
    (hsp : ∀ H : Hp, Only H → SqL K H a (ns.map V.int) → sp [.ref a] H (fun v _ => v = .bl true) fun _ _ _ => False)
    (hCX : ∀ H e s', CX [] H s1 (fun _ _ _ => False) e s' → False) :
    codeAny (model P w) callerA (.call (.ref fa) ⟨[.ref a], []⟩) (fun r s' => r = .ok (.ret (.bool true)) ∧ OldK s1.heap s'.heap ∧ s'.os = s1.os ∧ AllBare s'.gens) s1 := by
  have rv := vals_ints hi
  have lenV := hi.length
  -- H tracks at most the script, and that as a known object
  have main : ∀ H : Hp, Only H → SqL K H a (ns.map V.int) → HOk P w H s1.heap → (∀ b, H b ≠ none → b = a) → (H a ≠ none → K.lookup a = none) →
      codeAny (model P w) callerA (.call (.ref fa) ⟨[.ref a], []⟩) (fun r s' => r = .ok (.ret (.bool true)) ∧ OldK s1.heap s'.heap ∧ s'.os = s1.os ∧ AllBare s'.gens) s1 := by
    intro H hO hS hok only noK
    have under : ∀ {b : Addr} {o : Obj}, s1.heap.get? b = some o → H b = none → (hidT s1.heap H).get? b = some o := fun z n => hidT_get z n
    have dictFree : ∀ {b : Addr} {o : Obj} {es : Array DictEntry} {ep : Nat}, s1.heap.get? b = some o → o.data = .dict es ep → H b = none := by
      intro b o es ep z d
      by_cases q : H b = none
      · exact q
      · have hba : b = a := only b q
        rw [hba, ha] at z
        have zo := Option.some.inj z
        rw [← zo] at d
        exact nomatch (show Data.seq vs.toArray _ = Data.dict es ep from d)
    have nsU : ∀ {b : Addr} {m : Str → Option Value}, s1.heap.Ns b m → (hidT s1.heap H).Ns b m := fun {b m} ⟨o, es, ep, z, d, r⟩ => ⟨o, es, ep, under z (dictFree z d), d, r⟩
    have kU : K.In (hidT s1.heap H) := by
      intro b o z
      refine under (KX b o z) ?_
      by_cases q : H b = none
      · exact q
      · have hba : b = a := only b q
        rw [hba] at z q
        rw [noK q] at z
        exact nomatch z
    have mU : Mod K mg (hidT s1.heap H) := ⟨kU, nsU hns, ⟨mb, nsU hb, hbb⟩, (let ⟨mc, h1, h2⟩ := hlim; ⟨mc, nsU h1, h2⟩)⟩
    have e0 : Env0 P w K mg (hidT s1.heap H) callerA [] s1 H := ⟨rfl, mU, fun b o z => of_hidT z, Nat.le_of_eq (hidT_size _ _), trivial, fun b q => (nomatch (show b ∈ ([] : List Addr) from q)), hok, .of_eq hg⟩
    refine codeAny_mono ((F _ kU (nsU hns)).run callerA [] s1 H ⟨[.ref a], []⟩ [.ref a] [.ref a] _ _ rfl hr e0 (hbind s1 (.ref a)) (.cons rfl .nil) (hsp H hO hS)) ?_
    intro r s' hq
    match r, hq with
    | .error e, hq => exact (hCX H e s' hq).elim
    | .ok (.ret u), hq =>
      obtain ⟨v, H', os, bare, un, hok', ru, q⟩ := hq
      have q1 : v = .bl true := q
      rw [q1] at ru
      have q2 : u = Value.bool true := ru
      subst q2
      refine ⟨rfl, OldK.of_keep (fun b o z => ?_), os, bare⟩
      by_cases n : H b = none
      · exact un.keep b o z n (fun y => (nomatch (show b ∈ ([] : List Addr) from y))) (fun y => (nomatch y))
      · cases hO b with
        | inl y => exact absurd y n
        | inr y =>
          obtain ⟨ob, xs, y⟩ := y
          have y2 := un.frzs b ob _ y
          have g1 := (hok b _ y).1
          have g2 := (hok' b _ y2).1
          rw [z] at g1
          rw [Option.some.inj g1]
          exact g2
  by_cases hk : K.lookup a = none
  · refine main (fun b => if b = a then some (.frz { cls := .type "list", data := .seq vs.toArray } (.lst (ns.map V.int))) else none) ?_ ?_ ?_ ?_ (fun _ => hk)
    · intro b
      by_cases hb : b = a
      · exact Or.inr ⟨_, _, if_pos hb⟩
      · exact Or.inl (if_neg hb)
    · exact Or.inl (Or.inr ⟨{ cls := .type "list", data := .seq vs.toArray }, if_pos rfl⟩)
    · intro b u z
      by_cases hb : b = a
      · rw [hb] at z ⊢
        have z2 := Option.some.inj ((if_pos rfl).symm.trans z)
        rw [← z2]
        exact ⟨ha, by rw [List.length_map]; exact hl, vs, _, rv, ha⟩
      · exact nomatch (if_neg hb).symm.trans z
    · intro b z
      by_cases hb : b = a
      · exact hb
      · exact absurd (if_neg hb) z
  · obtain ⟨o, ho⟩ := Option.ne_none_iff_exists'.mp hk
    have z := KX a o ho
    rw [ha] at z
    have zo := Option.some.inj z
    subst zo
    refine main (fun _ => none) (fun _ => Or.inl rfl) (Or.inr ⟨_, vs.toArray, _, ho, rfl, rfl, rfl, ?_, ?_⟩) (fun b u y => (nomatch (show (none : Option HO) = some u from y))) (fun b y => absurd rfl y) (fun y => absurd rfl y)
    · rw [List.size_toArray, lenV]
      exact hl
    · simpa using rv

theorem walk_ofG {l : PySem.W.OpenLaw} {n k : Nat} {q : Program} {loose : List Str} {XP : (Str → Option Value) → Heap → Prop} {YP : World → Heap → Prop} {d : DefRec} {K : Params → PySem.W.Frag} {CX : World → CXT} {sp : World → Sp} {x : Str}
    (hn : l.most = some n) (hn2 : n ≤ sizeLine) (hdf : d.params.defaults = []) (hr : Room k callerA)
    (hY : ∀ (w : World) (h : Heap), YP w h → (K w.params).In h)
    (F : ∀ (w : World) (mg : Str → Option Value) (fa : Addr) (h : Heap), (K w.params).In h → h.Ns mainGlobals mg → mg d.name = some (.ref fa) →
      ∃ fd : FuncData, (∀ (s : Shared) (u : Value), BindsTo s fd ⟨[u], []⟩ [(x, u)]) ∧
        ∀ base : Heap, (K w.params).In base → base.Ns mainGlobals mg → FnG l.prog w (K w.params) mg base (CX w) k fa fd [x] (sp w))
    (hsp : ∀ (w : World) (H : Hp) (a : Addr) (ns : List Int), ns.length ≤ n → (∀ z ∈ ns, Builtin.Int.intBits z ≤ 1048576) → Only H → SqL (K w.params) H a (ns.map V.int) → sp w [.ref a] H (fun v _ => v = .bl true) fun _ _ _ => False)
    (hCX : ∀ (w : World) (H : Hp) (s : Shared) (e : Value) (s' : Shared), CX w [] H s (fun _ _ _ => False) e s' → False) :
    PySem.W.WalkO q loose XP YP l.row.toRowW d [] (fun f vs => PySem.call f vs) :=
  Att.attach_callB hn hdf fun w s0 s1 mg mb fa o pm cd doc a vs ns G Y ho hd hcd hmg hobj hints hlen hbits hg =>
    let ⟨fd, hb, hF⟩ := F w mg fa _ (hY w _ Y) G.T.g hmg
    law_callG (hY w _ Y) G.T.g G.T.b G.T.builtins G.T.nolimit hg hobj hints (Nat.le_trans hlen hn2) hr hF hb (fun H hO hS => hsp w H a ns hlen hbits hO hS) (fun H e s' => hCX w H s1 e s')

/-! ### 3. data in the abstract heap -/
def kP : Key → PyData
  | .inl i => .int i
  | .inr x => .str x
mutual
/-- v is the data d -/
inductive DA (N : Addr → Prop) (H : Hp) : V → PyData → Prop where
  | non : DA N H .non .none
  | bl (b : Bool) : DA N H (.bl b) (.bool b)
  | int (i : Int) : DA N H (.int i) (.int i)
  | str (x : Str) : DA N H (.str x) (.str x)
  | lst {a : Addr} {xs : List V} {ds : List PyData} : H a = some (.lst xs) → a ≠ sysModules → ¬ N a → DAs N H xs ds → DA N H (.ref a) (.list ds)
  | tup {a : Addr} {xs : List V} {ds : List PyData} : H a = some (.tup xs) → ¬ N a → DAs N H xs ds → DA N H (.ref a) (.tuple ds)
  | dK {a : Addr} {es : List (Key × V)} {kvs : List (PyData × PyData)} : H a = some (.dK es) → ¬ N a → DKs N H es kvs → DA N H (.ref a) (.dict kvs)
inductive DAs (N : Addr → Prop) (H : Hp) : List V → List PyData → Prop where
  | nil : DAs N H [] []
  | cons {x : V} {d : PyData} {xs : List V} {ds : List PyData} : DA N H x d → DAs N H xs ds → DAs N H (x :: xs) (d :: ds)
inductive DKs (N : Addr → Prop) (H : Hp) : List (Key × V) → List (PyData × PyData) → Prop where
  | nil : DKs N H [] []
  | cons {k : Key} {v : V} {d : PyData} {es : List (Key × V)} {kvs : List (PyData × PyData)} : DA N H v d → DKs N H es kvs → DKs N H ((k, v) :: es) ((kP k, d) :: kvs)
end
mutual
theorem DA.same {N : Addr → Prop} {H H' : Hp} (s : Same H H') : ∀ {v : V} {d : PyData}, DA N H v d → DA N H' v d
  | _, _, .non => .non
  | _, _, .bl b => .bl b
  | _, _, .int i => .int i
  | _, _, .str x => .str x
  | _, _, .lst h n m r => .lst (s _ _ h) n m (DAs.same s r)
  | _, _, .tup h m r => .tup (s _ _ h) m (DAs.same s r)
  | _, _, .dK h m r => .dK (s _ _ h) m (DKs.same s r)
theorem DAs.same {N : Addr → Prop} {H H' : Hp} (s : Same H H') : ∀ {v : List V} {d : List PyData}, DAs N H v d → DAs N H' v d
  | _, _, .nil => .nil
  | _, _, .cons h r => .cons (DA.same s h) (DAs.same s r)
theorem DKs.same {N : Addr → Prop} {H H' : Hp} (s : Same H H') : ∀ {v : List (Key × V)} {d : List (PyData × PyData)}, DKs N H v d → DKs N H' v d
  | _, _, .nil => .nil
  | _, _, .cons h r => .cons (DA.same s h) (DKs.same s r)
end
theorem key_reads {h : Heap} {k : Key} {u : Value} (z : keyIs k u = true) : Reads h u (kP k) [] := by
  cases k with
  | inl i =>
    obtain ⟨t, e⟩ := Value.isInt_shape (show Value.isInt i u = true from z)
    rw [e]
    exact .int i t
  | inr x =>
    obtain ⟨t, e⟩ := Value.isStrOf_shape (show Value.isStrOf x u = true from z)
    rw [e]
    exact .str x t
section
variable {P : Program} {w : World} {N : Addr → Prop} {H : Hp} {h : Heap}
mutual
theorem DA.reads (ok : HOk P w H h) : ∀ {v : V} {d : PyData} {u : Value}, DA N H v d → RelV v u → ∃ as, Reads h u d as ∧ sysModules ∉ as
  | _, _, u, .non, r => by
    have e : u = Value.none := r
    rw [e]
    exact ⟨[], .none, List.not_mem_nil⟩
  | _, _, u, .bl b, r => by
    have e : u = Value.bool b := r
    rw [e]
    exact ⟨[], .bool b, List.not_mem_nil⟩
  | _, _, u, .int i, r => by
    obtain ⟨t, e⟩ := (show ∃ t, u = Value.int i t from r)
    rw [e]
    exact ⟨[], .int i t, List.not_mem_nil⟩
  | _, _, u, .str x, r => by
    obtain ⟨t, e⟩ := (show ∃ t, u = Value.str x t from r)
    rw [e]
    exact ⟨[], .str x t, List.not_mem_nil⟩
  | _, _, u, .lst (a := a) (xs := xs) hA n _ rs, r => by
    have e : u = Value.ref a := r
    rw [e]
    obtain ⟨_, its, m, rv, ho⟩ := (show ObjOk P w H h a (.lst xs) from ok a _ hA)
    obtain ⟨as, ra, ns⟩ := DAs.reads ok rs rv
    exact ⟨a :: as, .list ho rfl rfl (by simpa using ra), fun z => (List.mem_cons.mp z).elim (fun y => n y.symm) ns⟩
  | _, _, u, .tup (a := a) (xs := xs) hA _ rs, r => by
    have e : u = Value.ref a := r
    rw [e]
    obtain ⟨_, its, rv, o, ho, hc, m, hd⟩ := (show ObjOk P w H h a (.tup xs) from ok a _ hA)
    obtain ⟨as, ra, ns⟩ := DAs.reads ok rs rv
    exact ⟨as, .tuple ho hc hd (by simpa using ra), ns⟩
  | _, _, u, .dK (a := a) (es := es) hA _ rs, r => by
    have e : u = Value.ref a := r
    rw [e]
    obtain ⟨_, hs, vs, rv, o, ds, ep, ho, hx, hd, _, hp, _⟩ := (show ObjOk P w H h a (.dK es) from ok a _ hA)
    obtain ⟨as, bs, r1, r2, n1, n2⟩ := DKs.reads ok rs rv hp
    refine ⟨a :: as ++ bs, .dict ho hx.1 hd r1 r2, fun z => ?_⟩
    rcases List.mem_append.mp z with y | y
    · rcases List.mem_cons.mp y with x | x
      · exact absurd x.symm (beq_eq_false_iff_ne.mp hs)
      · exact n1 x
    · exact n2 y
theorem DAs.reads (ok : HOk P w H h) : ∀ {vs : List V} {ds : List PyData} {us : List Value}, DAs N H vs ds → Vals vs us → ∃ as, ReadsAll h us ds as ∧ sysModules ∉ as
  | _, _, _, .nil, .nil => ⟨[], .nil, List.not_mem_nil⟩
  | _, _, _, .cons hd rs, .cons r1 r2 => by
    obtain ⟨as, a1, a2⟩ := DA.reads ok hd r1
    obtain ⟨bs, b1, b2⟩ := DAs.reads ok rs r2
    exact ⟨as ++ bs, .cons a1 b1, fun z => (List.mem_append.mp z).elim a2 b2⟩
theorem DKs.reads (ok : HOk P w H h) : ∀ {es : List (Key × V)} {kvs : List (PyData × PyData)} {vs : List (Key × Value)} {ds : List DictEntry}, DKs N H es kvs → KV es vs → Pairs (mixKind P w) ds vs →
    ∃ as bs, ReadsAll h (ds.map (·.key)) (kvs.map (·.1)) as ∧ ReadsAll h (ds.map (·.val)) (kvs.map (·.2)) bs ∧ sysModules ∉ as ∧ sysModules ∉ bs
  | _, _, _, _, .nil, .nil, .nil => ⟨[], [], .nil, .nil, List.not_mem_nil, List.not_mem_nil⟩
  | _, _, _, _, .cons hd rs, .cons r1 r2, .cons p1 p2 p3 => by
    obtain ⟨as, bs, a1, b1, a2, b2⟩ := DKs.reads ok rs r2 p3
    obtain ⟨cs, c1, c2⟩ := DA.reads ok hd (show RelV _ _ from p2 ▸ r1.2)
    have k1 := key_reads (h := h) p1
    rw [← r1.1] at k1
    exact ⟨[] ++ as, cs ++ bs, .cons k1 a1, .cons c1 b1, a2, fun z => (List.mem_append.mp z).elim c2 b2⟩
end
end

/-! ### 4. repr of data -/
def rRepr : List V → Hp → VK → Prop := fun xs H Q => ∃ (N : Addr → Prop) (v : V) (d : PyData), xs = [v] ∧ DA N H v d ∧ d.showable = true ∧ d.depth ≤ 60 ∧ d.shown.length ≤ sizeLine ∧ Q (.str d.shown) H
theorem call_repr {X : Cx} (hg : X.A.guards = some []) (hu : X.A.units + 64 < cLine) : CallR X (.builtin "repr") rRepr := by
  intro pins s σ H xs us Q I r h
  obtain ⟨N, v, d, rfl, hd, hs, hz, hl, q⟩ := h
  obtain ⟨u, rfl, ru⟩ := vals1 r
  obtain ⟨as, ra, ns⟩ := DA.reads I.hok hd ru
  match hd, ra with
  | .non, .none => exact PySem.P.repr_of_none ⟨.str _, H, I.tok _, ⟨_, rfl⟩, q⟩
  | .bl b, .bool _ => exact PySem.P.repr_of_bool ⟨.str _, H, I.tok _, ⟨_, rfl⟩, q⟩
  | .int i, .int _ t => exact PySem.P.repr_of_int (by simpa [PyData.showable] using hs) ⟨.str _, H, I.tok _, ⟨_, rfl⟩, q⟩
  | .str x, .str _ t => exact PySem.P.repr_of_str ⟨.str _, H, I.tok _, ⟨_, rfl⟩, q⟩ (by simpa only [PyData.shown] using hl)
  | .lst _ _ _ _, .list a b c e => exact PySem.repr_of_reads' (.list a b c e) hs (fun _ => ns) hg (by omega) (fun _ _ z => z) (fun h' t tk k => ⟨.str _, H, I.kept (t' := tk) k, ⟨_, rfl⟩, q⟩) hl
  | .tup _ _ _, .tuple a b c e => exact PySem.repr_of_reads' (.tuple a b c e) hs (fun _ => ns) hg (by omega) (fun _ _ z => z) (fun h' t tk k => ⟨.str _, H, I.kept (t' := tk) k, ⟨_, rfl⟩, q⟩) hl
  | .dK _ _ _, .dict a b c e f => exact PySem.repr_of_reads' (.dict a b c e f) hs (fun _ => ns) hg (by omega) (fun _ _ z => z) (fun h' t tk k => ⟨.str _, H, I.kept (t' := tk) k, ⟨_, rfl⟩, q⟩) hl
end Fh
set_option Elab.async false
set_option linter.all false
set_option maxRecDepth 100000
set_option maxHeartbeats 4000000
namespace PySem
namespace FhX
open Builtin Builtin.ObjectAttr
/-! ### own error classes over any of the built-in bases: made with positions or keywords -/
section
variable {prog : Program} {w : World} {A : Around} {E : Value → Shared → Prop} {R : Result → Shared → Prop} {h : Heap} {g : Array GenState} {d : Drawn} {t : Nat} {os : OsState}
variable {nm q : Str} {C N : Addr} {bs bm bmB : List Value} {hdct : Bool} {sn : List Str} {sub : List Value} {ab : Bool} {col : Option Bool} {dd : Option Addr} {k0 k1 k2 k3 k5 : Option Value} {B newId initId : String}

theorem newK_check {M : Model} (F : ExcBaseFacts B newId initId bmB) (hT : ∀ X : String, bm.contains (.type X) = bmB.contains (.type X)) {rest : List Value} {kw : List (Str × Value)} {Q : Unit → Shared → Prop}
    (hC : h.get? C = some (excClassObj nm q C N bs bm hdct sn sub ab col dd k0 k1 k2 k3 k5 newId)) (hq : Q () ⟨h, g, d, t, os⟩) : wpAny M A (checkBuiltinCall newId ⟨.ref C :: rest, kw⟩) Q E ⟨h, g, d, t, os⟩ := by
  have isB : (Value.ref C :: bm).contains (.type B) = true := by
    rw [List.contains_cons, hT, F.hasB, Bool.or_true]
  have star := F.noStar
  simp only [checkBuiltinCall, F.newKind, F.newSplit, F.newRow]
  repeat (first
    | refine wpAny_loadPart_at hC ?_
    | (refine wpAny_isSubtype_exc hC ?_; rw [isB])
    | refine wpAny_staticBase_exc hC ?_
    | refine wpAny_madeBy_exc hC ?_
    | simp only [bne_self_eq_false, Bool.false_eq_true, if_false]
    | wp_step)
  exact hq

theorem newK_made (F : ExcBaseFacts B newId initId bmB) (hT : ∀ X : String, bm.contains (.type X) = bmB.contains (.type X)) {rest : List Value} {kw : List (Str × Value)}
    (hC : h.get? C = some (excClassObj nm q C N bs bm hdct sn sub ab col dd k0 k1 k2 k3 k5 newId))
    (hq : R (.ok (.ret (.ref (h.objs.size + 1)))) ⟨(h.push (PySem.W.kdv_tup rest)).push (HandSPX.excO C h.objs.size), g, d, t, os⟩) (hz : rest.length ≤ sizeLine) :
    codeAny (model prog w) A (.builtin newId ⟨.ref C :: rest, kw⟩) R ⟨h, g, d, t, os⟩ := by
  have hends := F.ends
  have isB : (Value.ref C :: bm).contains (.type B) = true := by
    rw [List.contains_cons, hT, F.hasB, Bool.or_true]
  have noA : (Value.ref C :: bm).contains (.type "AttributeError") = false := by
    rw [List.contains_cons, hT, F.noAttr]
    rfl
  have noN : (Value.ref C :: bm).contains (.type "NameError") = false := by
    rw [List.contains_cons, hT, F.noName]
    rfl
  refine codeAny_builtinAt F.entry ?_
  unfold Builtin.«BaseException.__new__»
  refine wpAt_bind ?_
  show wpAt _ _ _ (stack >>= _) _ _ _
  refine wpAt_bind (wpAt_stack fun p below => wpAt_of_wpAny ?_)
  wp_walk
  refine wpAt_of_wpAny ?_
  rw [F.owner]
  repeat (first
    | with_reducible refine wpAny_madeHere_exc F.canon hC ?_
    | with_reducible refine wpAny_loadPart_at hC ?_
    | (with_reducible refine wpAny_isSubtype_exc hC ?_; first | rw [isB] | rw [noA] | rw [noN])
    | wp_step)
  show R _ _
  rw [Heap.size_push]
  exact hq

theorem typeCallK (F : ExcBaseFacts B newId initId bmB) (hT : ∀ X : String, bm.contains (.type X) = bmB.contains (.type X)) {rest : List Value} {kw : List (Str × Value)} {fI : Addr} {Q : Fin → Shared → Prop}
    (hC : h.get? C = some (excClassObj nm q C N bs bm hdct sn sub ab col dd k0 k1 k2 k3 k5 newId))
    (hi : PySem.W.Looks (model prog w) h (typeLookup (.ref C) "__init__") (some (.ref fI))) (hb : ∀ self, PySem.W.Looks (model prog w) h (bindSpecial (.ref fI) self) (.ref fI, [self])) (hz : rest.length ≤ sizeLine)
    (hq : codeAny (model prog w) A (.call (.ref fI) ⟨.ref (h.objs.size + 1) :: rest, kw⟩)
      (fun r s' => match r with | .ok (.ret v) => v = .none ∧ Q (.done (.ret (.ref (h.objs.size + 1)))) s' | .ok _ => False | .error e => E e s')
      ⟨(h.push (PySem.W.kdv_tup rest)).push (HandSPX.excO C h.objs.size), g, d, t, os⟩) :
    wpAny (model prog w) A (Builtin.«type.__call__» ⟨.ref C :: rest, kw⟩) Q E ⟨h, g, d, t, os⟩ := by
  repeat (first
    | with_reducible refine wpAny_loadPart_at hC ?_
    | with_reducible refine wpAny_madeBy_exc hC ?_
    | wp_step)
  refine codeAny_call_builtin_code (Code.quiet_builtin _ F.quiet) (newK_check F hT hC ?_)
  refine newK_made F hT hC ?_ hz
  show wpAny _ _ _ _ _ _
  have up : ∀ b o, h.get? b = some o → ((h.push (PySem.W.kdv_tup rest)).push (HandSPX.excO C h.objs.size)).get? b = some o := fun b o z => Heap.get?_push_of_some _ (Heap.get?_push_of_some _ z)
  have hC1 := up _ _ hC
  have here : ((h.push (PySem.W.kdv_tup rest)).push (HandSPX.excO C h.objs.size)).get? (h.objs.size + 1) = some (HandSPX.excO C h.objs.size) := by heap_get
  have self : (Value.ref C :: bm).contains (.ref C) = true := by simp
  have i1 := hi.keeps up
  have b1 := (hb (.ref (h.objs.size + 1))).keeps up
  unfold isInstance
  repeat (first
    | with_reducible refine wpAny_loadPart_at here ?_
    | (with_reducible refine wpAny_isSubtype_exc hC1 ?_; rw [self])
    | wp_step)
  show wpAny _ _ (typeLookup (.ref C) _) _ _ _
  refine i1.at (wpAny_holding (wpAny_bind (b1.at (wpAny_bind (wpAny_call (codeAny_mono hq ?_))))))
  intro r s' z
  match r, z with
  | .error e, z => exact z
  | .ok (.ret v), z =>
    obtain ⟨rfl, z⟩ := z
    first
      | exact wpAny_pure (wpAny_pure z)
      | (wp_walk; exact z)

theorem callK_check {M : Model} {rest : List Value} {kw : List (Str × Value)} {Q : Unit → Shared → Prop} (hC : h.get? C = some (excClassObj nm q C N bs bm hdct sn sub ab col dd k0 k1 k2 k3 k5 newId))
    (hq : Q () ⟨h, g, d, t, os⟩) : wpAny M A (checkBuiltinCall "type.__call__" ⟨.ref C :: rest, kw⟩) Q E ⟨h, g, d, t, os⟩ := by
  have f3 := tc_sub
  have isT : (⟨h, g, d, t, os⟩ : Shared).TypeIs (.ref C) "type" := ⟨_, hC, rfl⟩
  simp only [checkBuiltinCall, tc_kind, tc_split]
  repeat (any_goals (first
    | assumption
    | with_reducible refine wpAny_loadPart_at hC ?_
    | with_reducible refine wpAny_onRaise ?_
    | with_reducible refine wpAny_map ?_
    | wp_step))

theorem callK_own (F : ExcBaseFacts B newId initId bmB) (hT : ∀ X : String, bm.contains (.type X) = bmB.contains (.type X)) {rest : List Value} {kw : List (Str × Value)} {fI : Addr}
    (hC : h.get? C = some (excClassObj nm q C N bs bm hdct sn sub ab col dd k0 k1 k2 k3 k5 newId))
    (hi : PySem.W.Looks (model prog w) h (typeLookup (.ref C) "__init__") (some (.ref fI))) (hb : ∀ self, PySem.W.Looks (model prog w) h (bindSpecial (.ref fI) self) (.ref fI, [self])) (hz : rest.length ≤ sizeLine)
    (hq : codeAny (model prog w) (A.under (.builtin "type.__call__" ⟨.ref C :: rest, kw⟩)) (.call (.ref fI) ⟨.ref (h.objs.size + 1) :: rest, kw⟩) (PySem.W.InitBack (h.objs.size + 1) R)
      ⟨(h.push (PySem.W.kdv_tup rest)).push (HandSPX.excO C h.objs.size), g, d, t, os⟩) :
    codeAny (model prog w) A (.call (.ref C) ⟨rest, kw⟩) R ⟨h, g, d, t, os⟩ := by
  have f1 := tc_lookup
  have f2 := tc_bind (.ref C)
  have isT : (⟨h, g, d, t, os⟩ : Shared).TypeIs (.ref C) "type" := ⟨_, hC, rfl⟩
  refine codeAny_of_tree ?_
  show wpAny _ _ (callAny (.ref C) _) _ _ _
  repeat (any_goals (first
    | assumption
    | with_reducible refine wpAny_loadPart_at hC ?_
    | wp_step))
  refine ⟨rfl, ?_⟩
  refine codeAny_call_builtin_at (Code.quiet_builtin _ (by decide +kernel)) entry_typeCall (callK_check hC (typeCallK F hT hC hi hb hz ?_))
  refine codeAny_mono hq ?_
  intro r s' z
  match r, z with
  | .error e, z => exact z
  | .ok (.ret v), z => exact z
  | .ok .next, z => exact z
  | .ok .brk, z => exact z
  | .ok .cont, z => exact z
end
end FhX
end PySem
set_option Elab.async false
set_option linter.all false
set_option maxRecDepth 100000
set_option maxHeartbeats 4000000
namespace Fh
open PySem PySem.Spec PyProof.Rows L2
open PySem.W (Frag)

/-- what the written part says of an own error class at C, straight below the built-in class with mro bmB -/
structure EI (K : Frag) (C : Addr) (bmB : List Value) (newId : String) : Prop where
  q : PySem.W.excInitIn K C bmB newId = true
  mro : (PySem.W.clsIn K C).map (·.mro) = some (.ref C :: bmB)
  hd : PySem.W.hasDictIn K C = true
  ty : PySem.W.typeIn K (.ref C) = some (.type "type")
  sa : PySem.W.findIn K (.ref C) "__setattr__" = some (some (.builtin "object.__setattr__"))
  ga : PySem.W.findIn K (.ref C) "__getattribute__" = some (some (.builtin "BaseException.__getattribute__"))
  gg : PySem.W.findIn K (.ref C) "__getattr__" = some none
  cl : PySem.W.findIn K (.ref C) "__class__" = some (some (.builtin "object.__class__"))
  kC : PySem.W.keepIn K (.ref C) = true
  hn : PySem.W.specialIn K (.builtin "object.__class__") "__get__" = some (some (.builtin "getset_descriptor.__get__"))
  ht : PySem.W.takesIn K (.builtin "object.__class__") = some true

section
variable {K : Frag} {C : Addr} {bmB : List Value} {newId : String}
theorem EI.cls (T : EI K C bmB newId) : ∃ cd, PySem.W.clsIn K C = some cd ∧ cd.mro = .ref C :: bmB := Option.map_eq_some_iff.mp T.mro
theorem EI.sub (T : EI K C bmB newId) {b : Value} : PySem.W.subIn K (.ref C) b = some (List.contains (.ref C :: bmB) b) := by
  obtain ⟨cd, h1, h2⟩ := T.cls
  show PySem.W.mroIn K C b = _
  unfold PySem.W.mroIn
  rw [h1, Option.bind_some, h2, if_neg (by simp)]
theorem EI.mroI (T : EI K C bmB newId) {b : Value} : PySem.W.mroIn K C b = some (List.contains (.ref C :: bmB) b) := T.sub
theorem EI.tail (T : EI K C bmB newId) : PySem.W.excTail bmB bmB = true := by
  have q := T.q
  obtain ⟨cd, h1, h2⟩ := T.cls
  unfold PySem.W.clsIn at h1
  unfold PySem.W.excInitIn at q
  split at h1
  · rename_i c d cd' sl ho
    have e := Option.some.inj h1
    subst e
    rw [ho] at q
    split at q
    · rename_i dd cd2 sl2 ho2
      have e2 := Option.some.inj ho2
      injection e2 with e3 e4 e5 e6
      injection e5 with e5
      subst e5
      rw [h2] at q
      split at q
      · rename_i C' bm _ _ _ _ _ _ hm _
        injection hm with hm1 hm2
        subst hm2
        simp only [Bool.and_eq_true] at q
        exact q.2
      · exact nomatch q
    · exact nomatch q
  · exact nomatch h1
theorem EI.over (T : EI K C bmB newId) : PySem.W.excOver K C bmB = true := by
  obtain ⟨cd, h1, h2⟩ := T.cls
  unfold PySem.W.excOver
  rw [h1]
  show (match cd.mro with | .ref C' :: bm => C' == C && PySem.W.excTail bmB bm | _ => false) = true
  rw [h2]
  show (C == C && PySem.W.excTail bmB bmB) = true
  rw [T.tail]
  simp
end

/-! ### self.f = v in such a class's __init__ -/
section
variable {prog : Program} {w : World} {A : Around} {R : Result → Shared → Prop} {hp : Heap} {g : Array GenState} {d : Drawn} {t : Nat} {os : OsState} {K : Frag} {C : Addr} {bmB : List Value} {newId B : String} {name : Str} {tk : Tok} {v : Value} {x : Addr} {fv : Array Value}
open Builtin Builtin.ObjectAttr in
theorem osaG_new (T : EI K C bmB newId) (SF : StoreFacts B bmB "object.__setattr__" "object") (X : K.In hp) (hx : hp.get? x = some { cls := .ref C, data := .fields fv }) (no : PySem.W.findIn K (.ref C) name = some none)
    (hq : ∀ h' tk' dx, (∀ b o, b ≠ x → hp.get? b = some o → h'.get? b = some o) → hp.objs.size ≤ dx → dx ≠ x → h'.get? x = some { cls := .ref C, dict := some dx, data := .fields fv } →
      h'.Ns1 dx (fun y => if y = name then some v else none) → R (.ok (.ret .none)) ⟨h', g, d, tk', os⟩) :
    codeAny (model prog w) A (.call (.builtin "object.__setattr__") ⟨[.ref x, .str name tk, v], []⟩) R ⟨hp, g, d, t, os⟩ := by
  obtain ⟨cd, hcd, hdict⟩ := PySem.W.any_some T.hd
  have apart : x ≠ hp.objs.size := Nat.ne_of_lt (Heap.lt_size hx)
  have hcls : PySem.W.Looks (model prog w) hp (classData C) cd := PySem.W.looks_clsIn X hcd
  refine PySem.W.osa_openX (od := none) (r := none) SF X ⟨hx, rfl, rfl, trivial⟩ T.over ?_ fun b => ?_
  · unfold PySem.W.takerIn
    rw [no]
    rfl
  · show wpAny _ _ (storeInOwnDict (.ref x) (.ref C) (.str name tk) name v b) _ _ _
    obtain ⟨n1, n2, n3, n4, n5, n6, n7, n8, n9, n10, n11⟩ := cd
    have e6 : n6 = true := hdict
    subst e6
    unfold storeInOwnDict ownDictForStores
    repeat (first
      | with_reducible refine HandSPX.store_in_new ?_ ?_
      | with_reducible refine wpAny_loadPart_at hx ?_
      | with_reducible refine hcls.at ?_
      | wp_step)
    · exact ⟨_, #[], _, (Heap.get?_update_ne _ _ _ _ apart.symm).trans (Heap.get?_push_at rfl rfl), rfl, fun e he => absurd he (by simp), fun _ => rfl⟩
    · intro h' tk' ns same
      have hx1 : (hp.push { cls := .type "dict", data := .dict #[] }).get? x = some { cls := .ref C, data := .fields fv } := Heap.get?_push_of_some _ hx
      refine hq h' tk' hp.objs.size (fun b o hb ho => ?_) (Nat.le_refl _) apart.symm ?_ ns
      · exact (same.2 b (Nat.ne_of_lt (Heap.lt_size ho))).trans ((Heap.get?_update_ne _ _ _ _ hb).trans (Heap.get?_push_of_some _ ho))
      · exact (same.2 x apart).trans (Heap.get?_update_self _ hx1 rfl)

open Builtin Builtin.ObjectAttr in
theorem osaG_old {dx : Addr} {m0 : Str → Option Value} {nl : List Str} (T : EI K C bmB newId) (SF : StoreFacts B bmB "object.__setattr__" "object") (X : K.In hp) (hx : hp.get? x = some { cls := .ref C, dict := some dx, data := .fields fv })
    (hns : hp.Ns1 dx m0) (hw : Within m0 nl) (hz : nl.length ≤ 1000) (no : PySem.W.findIn K (.ref C) name = some none)
    (hq : ∀ h' tk', (∀ b o, b ≠ dx → hp.get? b = some o → h'.get? b = some o) → h'.Ns1 dx (fun y => if y = name then some v else m0 y) → R (.ok (.ret .none)) ⟨h', g, d, tk', os⟩) :
    codeAny (model prog w) A (.call (.builtin "object.__setattr__") ⟨[.ref x, .str name tk, v], []⟩) R ⟨hp, g, d, t, os⟩ := by
  obtain ⟨cd, hcd, hdict⟩ := PySem.W.any_some T.hd
  obtain ⟨oD, _, _, hoD, _, _⟩ := hns.count hw
  have hcls : PySem.W.Looks (model prog w) hp (classData C) cd := PySem.W.looks_clsIn X hcd
  refine PySem.W.osa_openX (od := some oD) (r := none) SF X ⟨hx, rfl, rfl, hoD⟩ T.over ?_ fun b => ?_
  · unfold PySem.W.takerIn
    rw [no]
    rfl
  · show wpAny _ _ (storeInOwnDict (.ref x) (.ref C) (.str name tk) name v b) _ _ _
    obtain ⟨n1, n2, n3, n4, n5, n6, n7, n8, n9, n10, n11⟩ := cd
    have e6 : n6 = true := hdict
    subst e6
    unfold storeInOwnDict ownDictForStores
    repeat (first
      | with_reducible refine OEX.store_in_old hns hw hz ?_
      | with_reducible refine wpAny_loadPart_at hx ?_
      | with_reducible refine hcls.at ?_
      | wp_step)
    intro h' tk' ns same
    exact hq h' tk' (fun b o hb ho => (same.2 b hb).trans ho) ns
end

section
variable {X : Cx} {pins : List (Addr × Obj)} {σ : L2.St} {H : Hp} {s : Shared} {a C dx : Addr} {f : Str} {y : V} {u : Value} {fs : List (Str × V)} {Q : Unit → Shared → Prop} {E : Value → Shared → Prop} {A : Around} {bmB : List Value} {newId B : String}
theorem ostG_new (T : EI X.K C bmB newId) (SF : StoreFacts B bmB "object.__setattr__" "object") (I : Inv X pins σ H s) (e : H a = some (exo a C none)) (no : PySem.W.findIn X.K (.ref C) f = some none) (ry : RelV y u)
    (h : ∀ dx s', H dx = none → dx ≠ a → Inv X pins σ (upd (upd H dx (exd dx [(f, y)])) a (exo a C (some dx))) s' → Q () s') : wpAny (model X.prog X.w) A (setAttr (.ref a) f u) Q E s := by
  obtain ⟨t1, ho⟩ := exo_at I.hok e
  obtain ⟨hp, g, d, t, os⟩ := s
  refine PySem.W.set_plain I.kIn (ox := { cls := .ref C, dict := none, data := .fields #[.ref t1, .none, .none, .none, .bool false, .none] }) (od := none) ⟨ho, rfl, rfl, trivial⟩ T.sa ?_
  refine osaG_new T SF I.kIn ho no (fun h' tk' dx k dn dne hx hn => ?_)
  have fresh : H dx = none := I.hok.fresh dn
  have below : ∀ {b : Addr} {o : Obj}, hp.get? b = some o → b ≠ dx := fun {b o} q => Nat.ne_of_lt (Nat.lt_of_lt_of_le (Heap.lt_size q) dn)
  have off : ∀ {b : Addr}, H b = none → b ≠ a := fun {b} n z => by
    rw [z, e] at n
    exact nomatch n
  have U : Un X.fs [] H (upd (upd H dx (exd dx [(f, y)])) a (exo a C (some dx))) hp h' := by
    refine ⟨fun b o q n _ _ => k b o (off n) q, fun b o q n _ _ => ⟨o.slots, k b o (off n) q⟩, fun b o q n _ => ?_, fun b o q _ => ?_, fun b xs q => ?_, fun b o v q => ?_, fun b ps q => ?_⟩
    · rw [upd_ne (off n), upd_ne (below q)]
      exact n
    · by_cases hb : b = a
      · exact ⟨_, by rw [hb]; exact hx⟩
      · exact ⟨o, k b o hb q⟩
    · rw [upd_ne (at_ne e q exo_tup), upd_ne (ne_of_none q fresh)]
      exact q
    · rw [upd_ne (at_ne e q exo_frz), upd_ne (ne_of_none q fresh)]
      exact q
    · refine ⟨#[], ?_⟩
      rw [upd_ne (at_ne e q exo_tbl), upd_ne (ne_of_none q fresh), q]
      simp
  refine h dx _ fresh dne (I.un (t' := tk') U fun b o q => ?_)
  by_cases hb : b = a
  · subst hb
    rw [upd_same] at q
    have q2 := Option.some.inj q
    rw [← q2]
    exact exo_ok hx
  · rw [upd_ne hb] at q
    by_cases hd : b = dx
    · subst hd
      rw [upd_same] at q
      have q2 := Option.some.inj q
      rw [← q2]
      exact exd_ok hn (relO_put (fs := []) ry fun g => True.intro)
    · rw [upd_ne hd] at q
      refine (I.hok b o q).stay (fun c v hc z => k c v ?_ z) (fun c hc => ?_) (fun c xs hc => ?_)
      · cases hc with
        | inl hc =>
          rw [hc]
          exact hb
        | inr hc => exact at_ne e hc exo_own
      · rw [upd_ne (at_ne e hc exo_own), upd_ne (ne_of_none hc fresh)]
        exact hc
      · rw [upd_ne (at_ne e hc exo_tup), upd_ne (ne_of_none hc fresh)]
        exact hc
theorem ostG_old (T : EI X.K C bmB newId) (SF : StoreFacts B bmB "object.__setattr__" "object") (I : Inv X pins σ H s) (e : H a = some (exo a C (some dx))) (ed : H dx = some (exd dx fs)) (hl : fs.length ≤ 900) (no : PySem.W.findIn X.K (.ref C) f = some none) (ry : RelV y u)
    (h : ∀ s', Inv X pins σ (upd H dx (exd dx ((f, y) :: fs))) s' → Q () s') : wpAny (model X.prog X.w) A (setAttr (.ref a) f u) Q E s := by
  obtain ⟨t1, ho⟩ := exo_at I.hok e
  obtain ⟨mA, hns, rel⟩ := exd_at I.hok ed
  have hw := within_of rel
  obtain ⟨hp, g, d, t, os⟩ := s
  obtain ⟨oD, _, _, hoD, _, _⟩ := hns.count hw
  refine PySem.W.set_plain I.kIn (ox := { cls := .ref C, dict := some dx, data := .fields #[.ref t1, .none, .none, .none, .bool false, .none] }) (od := some oD) ⟨ho, rfl, rfl, hoD⟩ T.sa ?_
  refine osaG_old T SF I.kIn ho hns hw (by rw [List.length_map]; omega) no (fun h' tk' k hn => ?_)
  obtain ⟨o2, _, _, e2, _⟩ := id hn
  exact h _ (I.write (t' := tk') (x := dx) (e := dx) (o := exd dx ((f, y) :: fs)) (by rw [ed]; exact True.intro) (.inl rfl) k ⟨o2, e2⟩ (exd_ok hn (relO_put ry rel)))
end

/-- self.f = e: the first store, a later one -/
def tOstG (to te : TE) (f : Str) : TS := fun D σ H => te σ H fun y H1 => to σ H1 fun x H2 => ∃ a C : Addr, x = .ref a ∧
  ((H2 a = some (exo a C none) ∧ ∀ dx, H2 dx = none → dx ≠ a → D.nx σ (upd (upd H2 dx (exd dx [(f, y)])) a (exo a C (some dx)))) ∨
    ∃ (dx : Addr) (fs : List (Str × V)), H2 a = some (exo a C (some dx)) ∧ H2 dx = some (exd dx fs) ∧ fs.length ≤ 900 ∧ D.nx σ (upd H2 dx (exd dx ((f, y) :: fs))))

/-- the promise of __init__(self, f): self.f = f -/
def spI1 (C : Addr) (f : Str) : Sp := fun vs H Q _ => ∃ (a : Addr) (v : V), vs = [.ref a, v] ∧ H a = some (exo a C none) ∧ ∀ d, H d = none → d ≠ a → Q .non (upd (upd H d (exd d [(f, v)])) a (exo a C (some d)))
/-- .. of __init__(self, f, g): self.f = f; self.g = g -/
def spI2 (C : Addr) (f g : Str) : Sp := fun vs H Q _ => ∃ (a : Addr) (v u : V), vs = [.ref a, v, u] ∧ H a = some (exo a C none) ∧
  ∀ d, H d = none → d ≠ a → Q .non (upd (upd (upd H d (exd d [(f, v)])) a (exo a C (some d))) d (exd d [(g, u), (f, v)]))

section
variable {X : Cx} {o e : Expr} {to te : TE} {f : Str} {p' pos : Pos} {C : Addr} {bmB : List Value} {newId B : String}
/-- the store as a statement, the class known -/
theorem ps_ostG (T : EI X.K C bmB newId) (SF : StoreFacts B bmB "object.__setattr__" "object") (no : PySem.W.findIn X.K (.ref C) f = some none) (ho : PE X o to) (he : PE X e te) (hs : swapsWith e (some (.Attribute o f p')) pos.line X.env = pure false := by rfl) :
    PS X (.Assign [.Attribute o f p'] e pos) (fun D σ H => te σ H fun y H1 => to σ H1 fun x H2 => ∃ a : Addr, x = .ref a ∧
      ((H2 a = some (exo a C none) ∧ ∀ dx, H2 dx = none → dx ≠ a → D.nx σ (upd (upd H2 dx (exd dx [(f, y)])) a (exo a C (some dx)))) ∨
        ∃ (dx : Addr) (fs : List (Str × V)), H2 a = some (exo a C (some dx)) ∧ H2 dx = some (exd dx fs) ∧ fs.length ≤ 900 ∧ D.nx σ (upd H2 dx (exd dx ((f, y) :: fs))))) := by
  refine ⟨fun pins s σ H D I h => ?_⟩
  refine plainObj_wpAny_Assign_Attribute (thn (he.run pins s σ H _ I h) fun v s1 ⟨y, H1, I1, r1, q1⟩ => thn (ho.run pins s1 σ H1 _ I1 q1) fun u s2 ⟨x, H2, I2, r2, a, ex, q⟩ => ?_) hs
  rw [ex] at r2
  have eu : u = Value.ref a := r2
  rw [eu]
  cases q with
  | inl q => exact ostG_new T SF I2 q.1 no r1 fun dx s' n ne J => ⟨σ, _, J, q.2 dx n ne⟩
  | inr q =>
    obtain ⟨dx, fs, ea, ed, hl, q⟩ := q
    exact ostG_old T SF I2 ea ed hl no r1 fun s' J => ⟨σ, _, J, q⟩
end

section
variable {P : Program} {w : World} {K : Frag} {mg : Str → Option Value} {base : Heap} {C fI : Addr} {bmB : List Value} {newId B : String} {f g qual : Str} {fd : FuncData} {st : Stmt}
/-- the class's __init__ of one field keeps its promise -/
theorem fn_init1 (F : Fun K "__init__" qual st fI fd) (T : EI K C bmB newId) (SF : StoreFacts B bmB "object.__setattr__" "object") (no : PySem.W.findIn K (.ref C) f = some none) (S : FnScope ["self", f] ["self", f] (defScope st))
    {p1 p2 p3 p4 : Pos} (hb : defBody st = [.Assign [.Attribute (.Name "self" p1) f p2] (.Name f p3) p4]) (hl : (defScope st).names.lookup f = some .local) (hl2 : (defScope st).names.lookup ("self" : Str) = some .local)
    (hd : (f == ("__debug__" : Str)) = false) (hcd : (f == ("__classdict__" : Str)) = false)
    (hs : ∀ env, swapsWith (.Name f p3) (some (.Attribute (.Name "self" p1) f p2)) p4.line env = pure false) : FnOk P w K mg base CX0 1 fI fd ["self", f] (spI1 C f) := by
  refine F.ok S (fun vs H Q E h => ?_) (fun cdv A outer s H vs Q E hr h => ?_)
  · obtain ⟨a, v, rfl, _⟩ := h
    rfl
  · obtain ⟨a, v, rfl, ha, k⟩ := h
    rw [hb]
    refine ⟨_, pss_one (ps_ostG T SF no (pe_var (i := 0) rfl (Or.inl hl2)) (pe_var (i := 1) rfl (Or.inl hl) hd hcd) (hs _)), ?_⟩
    exact ⟨v, rfl, .ref a, rfl, a, rfl, Or.inl ⟨ha, fun d n ne => k d n ne⟩⟩
theorem fn_init2 (F : Fun K "__init__" qual st fI fd) (T : EI K C bmB newId) (SF : StoreFacts B bmB "object.__setattr__" "object") (no : PySem.W.findIn K (.ref C) f = some none) (no2 : PySem.W.findIn K (.ref C) g = some none) (S : FnScope ["self", f, g] ["self", f, g] (defScope st))
    {p1 p2 p3 p4 q1 q2 q3 q4 : Pos} (hb : defBody st = [.Assign [.Attribute (.Name "self" p1) f p2] (.Name f p3) p4, .Assign [.Attribute (.Name "self" q1) g q2] (.Name g q3) q4])
    (hl : (defScope st).names.lookup f = some .local) (hl2 : (defScope st).names.lookup ("self" : Str) = some .local) (hl3 : (defScope st).names.lookup g = some .local)
    (hd : (f == ("__debug__" : Str)) = false) (hcd : (f == ("__classdict__" : Str)) = false) (hd2 : (g == ("__debug__" : Str)) = false) (hcd2 : (g == ("__classdict__" : Str)) = false)
    (hs : ∀ env, swapsWith (.Name f p3) (some (.Attribute (.Name "self" p1) f p2)) p4.line env = pure false) (hs2 : ∀ env, swapsWith (.Name g q3) (some (.Attribute (.Name "self" q1) g q2)) q4.line env = pure false) :
    FnOk P w K mg base CX0 1 fI fd ["self", f, g] (spI2 C f g) := by
  refine F.ok S (fun vs H Q E h => ?_) (fun cdv A outer s H vs Q E hr h => ?_)
  · obtain ⟨a, v, u, rfl, _⟩ := h
    rfl
  · obtain ⟨a, v, u, rfl, ha, k⟩ := h
    rw [hb]
    refine ⟨_, pss_cons (ps_ostG T SF no (pe_var (i := 0) rfl (Or.inl hl2)) (pe_var (i := 1) rfl (Or.inl hl) hd hcd) (hs _))
      (pss_one (ps_ostG T SF no2 (pe_var (i := 0) rfl (Or.inl hl2)) (pe_var (i := 2) rfl (Or.inl hl3) hd2 hcd2) (hs2 _))), ?_⟩
    refine ⟨v, rfl, .ref a, rfl, a, rfl, Or.inl ⟨ha, fun d n ne => ?_⟩⟩
    refine ⟨u, rfl, .ref a, rfl, a, rfl, Or.inr ⟨d, [(f, v)], upd_same, ?_, (show 1 ≤ 900 by decide), k d n ne⟩⟩
    rw [upd_ne ne, upd_same]
end

/-! ### C(..): made, by positions, by keywords -/
/-- the reading: the new error at a -/
def tMkE (C : Addr) (n m : Nat) (sp : Sp) (gV : List V → List V → List V) (t tk : TA) : TE := fun σ H Q => t σ H fun vs H1 => tk σ H1 fun zs H2 => vs.length = n ∧ zs.length = m ∧
  ∀ a, H2 a = none → sp (gV (.ref a :: vs) zs) (upd H2 a (exo a C none)) (fun v H3 => v = .non ∧ Q (.ref a) H3) E0
section
variable {X : Cx} {k n : Nat} {fI C : Addr} {fd : FuncData} {ps ks : List Str} {sp : Sp} {x : Str} {p pos : Pos} {e : Expr} {es : List Expr} {kws : List Keyword} {t tk : TA} {g : List Value → List Value → List Value} {gV : List V → List V → List V} {bmB : List Value} {newId initId B : String}
theorem run_mkE {pins : List (Addr × Obj)} {σ : L2.St} {H : Hp} {s : Shared} {Q : VK} {us ws : List Value} {vs zs : List V} (T : EI X.K C bmB newId) (FB : ExcBaseFacts B newId initId bmB) (iC : PySem.W.findIn X.K (.ref C) "__init__" = some (some (.ref fI))) (tI : PySem.W.typeIn X.K (.ref fI) = some (.type "function"))
    (F : FnOk X.prog X.w X.K X.mg X.base CX0 k fI fd ps sp) (hr : Room (k + 1) X.A) (hb : KBn X.K fd ps (n + 1) ks g gV)
    (I : Inv X pins σ H s) (r : Vals vs us) (rz : Vals zs ws) (l1 : vs.length = n) (l2 : zs.length = ks.length) (hn : n ≤ 1000)
    (h : ∀ a, H a = none → sp (gV (.ref a :: vs) zs) (upd H a (exo a C none)) (fun v H3 => v = .non ∧ Q (.ref a) H3) E0) :
    wpAny (model X.prog X.w) X.A (call (.ref C) us (ks.zip ws)) (EP X pins σ Q) X.xe s := by
  obtain ⟨nm, N', qn, bs, bm, hdct, sn, sub, ab, col, dd, k0, k1, k2, k3, k5, hC, hT⟩ := PySem.W.excInit_of I.kIn T.q
  have KI := I.kIn
  have bound : us.length ≤ sizeLine := by
    rw [← r.length, l1, sizeLine_eq]
    omega
  obtain ⟨hp, gs, dr, tk, os⟩ := s
  have far : hp.objs.size ≤ hp.objs.size + 1 := Nat.le_succ _
  have free : H (hp.objs.size + 1) = none := I.hok.fresh far
  have hq := h (hp.objs.size + 1) free
  have up : ∀ b o, hp.get? b = some o → ((hp.push (PySem.W.kdv_tup us)).push (HandSPX.excO C hp.objs.size)).get? b = some o := fun b o z => Heap.get?_push_of_some _ (Heap.get?_push_of_some _ z)
  have here : ((hp.push (PySem.W.kdv_tup us)).push (HandSPX.excO C hp.objs.size)).get? (hp.objs.size + 1) = some (HandSPX.excO C hp.objs.size) := by heap_get
  have I2 : Inv X pins σ (upd H (hp.objs.size + 1) (exo (hp.objs.size + 1) C none)) ⟨(hp.push (PySem.W.kdv_tup us)).push (HandSPX.excO C hp.objs.size), gs, dr, tk, os⟩ :=
    I.laid (t' := tk) (a := hp.objs.size + 1) (o := exo (hp.objs.size + 1) C none) (h' := (hp.push (PySem.W.kdv_tup us)).push (HandSPX.excO C hp.objs.size)) up far (exo_ok here)
  have r2 := hb.rel (.cons (show RelV (V.ref (hp.objs.size + 1)) (Value.ref (hp.objs.size + 1)) from rfl) r) rz
  have c1 : (Value.ref (hp.objs.size + 1) :: us).length = n + 1 := by
    rw [List.length_cons, ← r.length, l1]
  have c2 : ws.length = ks.length := rz.length.symm.trans l2
  refine wpAny_call (FhX.callK_own FB hT hC (PySem.W.looks_findIn KI iC) (fun self => PySem.W.bind_fn KI self tI) bound
    (codeAny_mono (F.run _ X.stack _ _ ⟨Value.ref (hp.objs.size + 1) :: us, ks.zip ws⟩ (g (Value.ref (hp.objs.size + 1) :: us) ws) _ _ E0 (hr.make C us (ks.zip ws)) (I2.env0.make C us (ks.zip ws)) (hb.to _ (Value.ref (hp.objs.size + 1) :: us) ws I2.kIn c1 c2) r2 hq) ?_))
  intro res s' z
  match res, z with
  | .error er, z => exact (show False from z).elim
  | .ok (.ret u), z =>
    obtain ⟨v, H', I3, rv, ev, q3⟩ := I2.after z
    subst ev
    exact ⟨rv, ⟨V.ref (hp.objs.size + 1), H', I3, rfl, q3⟩⟩
theorem pe_mkE (T : EI X.K C bmB newId) (FB : ExcBaseFacts B newId initId bmB) (iC : PySem.W.findIn X.K (.ref C) "__init__" = some (some (.ref fI))) (tI : PySem.W.typeIn X.K (.ref fI) = some (.type "function"))
    (F : FnOk X.prog X.w X.K X.mg X.base CX0 k fI fd ps sp) (hr : Room (k + 1) X.A) (hb : KBn X.K fd ps (n + 1) ks g gV) (hn : n ≤ 1000) (hg : Gl X x) (hm : X.mg x = some (.ref C)) (ha : PA X (e :: es) t) (hkw : PK X kws tk)
    (hall : (backToKw pos (keywordEach kws X.env)).all (·.1.isSome) = true := by rfl) (hks : (backToKw pos (keywordEach kws X.env)).filterMap (·.1) = ks := by rfl) (hdb : (x == ("__debug__" : Str)) = false := by decide)
    (he : starEach (e :: es) X.env = (false, eval e X.env) :: starEach es X.env := by rfl) (hpl : ((backTo pos (starEach (e :: es) X.env)).any (·.1) || (backToKw pos (keywordEach kws X.env)).any (·.1.isNone)) = false := by rfl) :
    PE X (.Call (.Name x p) (e :: es) kws pos) (tMkE C n ks.length sp gV t tk) := by
  refine ⟨fun pins s σ H Q I h => ?_⟩
  refine wpAny_Call_Name_kw (ld_glob I hg hm ?_ hdb)
  refine PySem.W.callWith_KW (h₀ := X.base) I.ok.mod.kin T.kC hall (thn (ha.run pos pins s σ H _ I h) fun us s1 ⟨vs, H1, I1, r, q⟩ => ?_) hpl he
  refine thn (hkw.run pos pins s1 σ H1 _ I1 q) fun ws s2 ⟨zs, H2, I2, rz, l1, l2, q2⟩ => ⟨I2.kIn, ?_⟩
  rw [hks]
  exact run_mkE T FB iC tI F hr hb I2 r rz l1 l2 hn q2
theorem pe_mkE0 (T : EI X.K C bmB newId) (FB : ExcBaseFacts B newId initId bmB) (iC : PySem.W.findIn X.K (.ref C) "__init__" = some (some (.ref fI))) (tI : PySem.W.typeIn X.K (.ref fI) = some (.type "function"))
    (F : FnOk X.prog X.w X.K X.mg X.base CX0 k fI fd ps sp) (hr : Room (k + 1) X.A) (hb : KBn X.K fd ps 1 ks g gV) (hg : Gl X x) (hm : X.mg x = some (.ref C)) (hkw : PK X kws tk)
    (hall : (backToKw pos (keywordEach kws X.env)).all (·.1.isSome) = true := by rfl) (hks : (backToKw pos (keywordEach kws X.env)).filterMap (·.1) = ks := by rfl) (hdb : (x == ("__debug__" : Str)) = false := by decide)
    (hpl : ((backTo pos (starEach [] X.env)).any (·.1) || (backToKw pos (keywordEach kws X.env)).any (·.1.isNone)) = false := by rfl) :
    PE X (.Call (.Name x p) [] kws pos) (tMkE C 0 ks.length sp gV tNil tk) := by
  refine ⟨fun pins s σ H Q I h => ?_⟩
  refine wpAny_Call_Name_kw (ld_glob I hg hm ?_ hdb)
  refine PySem.W.callWith_KW0 (h₀ := X.base) I.ok.mod.kin T.kC hall ?_ hpl
  refine thn (hkw.run pos pins s σ H _ I h) fun ws s2 ⟨zs, H2, I2, rz, l1, l2, q2⟩ => ⟨I2.kIn, ?_⟩
  rw [hks]
  exact run_mkE (us := []) (vs := []) T FB iC tI F hr hb I2 .nil rz rfl l2 (Nat.zero_le _) q2
/-- C(), C without an __init__ of its own -/
theorem pe_mkE00 (T : EI X.K C bmB newId) (FB : ExcBaseFacts B newId initId bmB) (q : PySem.W.excIn X.K C bmB newId = true) (hg : Gl X x) (hm : X.mg x = some (.ref C)) (hdb : (x == ("__debug__" : Str)) = false := by decide) :
    PE X (.Call (.Name x p) [] [] pos) (fun _ H Q => ∀ a, H a = none → Q (.ref a) (upd H a (exo a C none))) := by
  refine ⟨fun pins s σ H Q I h => ?_⟩
  refine wpAny_Call_Name_kw (ld_glob I hg hm ?_ hdb)
  refine PySem.W.callWith_K0 I.kIn T.kC ?_
  show wpAny _ _ (call (.ref C) []) _ _ _
  obtain ⟨bm, N, nm, qn, bs, hdct, sn, sub, ab, col, dd, k0, k1, k2, k3, k5, mN, hC, hN, hni, TT⟩ := exc_obj I.kIn q
  refine wpAny_call_exc_subT FB TT hC hN hni (fun h' a hm => ?_) (Nat.zero_le _)
  have hn : H a = none := I.hok.gone hm.new
  obtain ⟨t, ht, _, _⟩ := hm.there
  exact ⟨.ref a, upd H a (exo a C none), I.laidN hm.keeps hm.new hn (exo_ok ht), rfl, h a hn⟩
end
end Fh
set_option Elab.async false
set_option linter.all false
set_option maxRecDepth 100000
set_option maxHeartbeats 4000000
namespace Fh
open PySem PySem.Spec PyProof.Rows L2
open PySem.W (Frag)

/-- an error of the class at C stands at a, with the fields fs -/
def ErrAt (H : Hp) (a C : Addr) (fs : List (Str × V)) : Prop := (fs = [] ∧ H a = some (exo a C none)) ∨ ∃ d, H a = some (exo a C (some d)) ∧ H d = some (exd d fs)
theorem ErrAt.same {H H' : Hp} {a C : Addr} {fs : List (Str × V)} (s : Same H H') (h : ErrAt H a C fs) : ErrAt H' a C fs := by
  rcases h with ⟨e, h⟩ | ⟨d, h1, h2⟩
  · exact Or.inl ⟨e, s _ _ h⟩
  · exact Or.inr ⟨d, s _ _ h1, s _ _ h2⟩
theorem ErrAt.inst {P : Program} {w : World} {H : Hp} {h : Heap} {a C : Addr} {fs : List (Str × V)} (ok : HOk P w H h) (z : ErrAt H a C fs) :
    ∃ (ox : Obj) (od : Option Obj), PySem.W.InstAt h a ox C od ∧ (∀ f v, fs.lookup f = some v → ∃ o u, od = some o ∧ PySem.W.lookIn f o = some (some u) ∧ RelV v u) := by
  rcases z with ⟨e, z⟩ | ⟨d, z1, z2⟩
  · obtain ⟨t1, ho⟩ := exo_at ok z
    refine ⟨_, none, ⟨ho, rfl, rfl, trivial⟩, fun f v l => ?_⟩
    rw [e] at l
    exact nomatch l
  · obtain ⟨t1, ho⟩ := exo_at ok z1
    obtain ⟨mA, hns, rel⟩ := exd_at ok z2
    obtain ⟨od, hod, hl⟩ := lookIn_ns hns
    refine ⟨_, some od, ⟨ho, rfl, rfl, hod⟩, fun f v l => ?_⟩
    obtain ⟨u, hu, ru⟩ := RelO.some_of (v := v) (o := mA f) (by rw [← l]; exact rel f)
    exact ⟨od, u, rfl, by rw [hl, hu], ru⟩

section
variable {K : Frag} {C D : Addr} {bmB bmD : List Value} {newId newD : String}
/-- no own class among the built-in ones -/
def NoRefs (l : List Value) : Prop := ∀ a, Value.ref a ∉ l
theorem EI.kit (T : EI K C bmB newId) (U : EI K D bmD newD) (n : NoRefs bmB) : PySem.W.kitOne K (.ref C) (.ref D) = some (decide (C = D)) := by
  unfold PySem.W.kitOne
  by_cases e : C = D
  · rw [if_pos (by simp [e]), decide_eq_true e]
  · rw [if_neg (by simp [e]), decide_eq_false e]
    obtain ⟨cd, h1, _⟩ := U.cls
    unfold PySem.W.kitCls
    show (if ((PySem.W.clsIn K D).isSome && PySem.W.typeIn K (.ref D) == some (.type "type")) = true then PySem.W.subIn K (.ref C) (.ref D) else none) = some false
    rw [if_pos (by rw [h1, U.ty]; rfl), T.sub]
    have q : ¬ (Value.ref D) ∈ (Value.ref C :: bmB) := fun z => by
      rcases List.mem_cons.mp z with y | y
      · exact e (Value.ref.inj y).symm
      · exact n D y
    have r : List.contains (Value.ref C :: bmB) (Value.ref D) = false := Bool.eq_false_iff.mpr fun z => q (List.contains_iff_mem.mp z)
    rw [r]
theorem EI.kitT (T : EI K C bmB newId) {t : String} (hm : PySem.W.kitMeta t = true) : PySem.W.kitOne K (.ref C) (.type t) = some (bmB.contains (.type t)) := by
  unfold PySem.W.kitOne
  rw [if_neg (by simp)]
  show (if PySem.W.kitMeta t = true then PySem.W.subIn K (.ref C) (.type t) else none) = _
  rw [if_pos hm, T.sub, List.contains_cons]
  rfl
end

/-- isinstance(e, c) of an own error -/
def rIsX (K : Frag) : List V → Hp → VK → Prop := fun xs H Q => ∃ (a C : Addr) (fs : List (Str × V)) (bmB : List Value) (newId : String) (c : V) (cv : Value) (b : Bool), xs = [.ref a, c] ∧ ErrAt H a C fs ∧ EI K C bmB newId ∧
  bmB.contains (.type "BaseException") = true ∧ bmB.contains (.type "object") = true ∧ ClsV c cv ∧ PySem.W.kitOne K (.ref C) cv = some b ∧ Q (.bl b) H
theorem call_isX {X : Cx} : CallR X (.builtin "isinstance") (rIsX X.K) := by
  intro pins s σ H xs us Q I r h
  obtain ⟨a, C, fs, bmB, newId, c, cv, b, rfl, ha, T, hB, hO, hc, e, q⟩ := h
  obtain ⟨u1, u2, rfl, r1, r2⟩ := vals2 r
  have e1 : u1 = Value.ref a := r1
  rw [e1, hc.eq r2]
  obtain ⟨ox, od, J, _⟩ := ha.inst I.hok
  obtain ⟨cd, hcd, _⟩ := T.cls
  exact PySem.W.kia_one (PySem.W.kitx_exc (od := od) (by rw [hcd]; rfl) T.ga T.gg (by rw [T.sub, List.contains_cons, hB, Bool.or_true]) T.cl T.hn T.ht (by rw [T.mroI, List.contains_cons, hO, Bool.or_true])) I.kIn J e (fun z => nomatch z) fun tk => ⟨.bl b, H, I.tok tk, rfl, q⟩

/-- e.f of an own error -/
def tErrF (K : Frag) (f : Str) (ta : TE) : TE := fun σ H Q => ta σ H fun x H1 => ∃ (a C : Addr) (fs : List (Str × V)) (bmB : List Value) (newId : String) (v : V), x = .ref a ∧ ErrAt H1 a C fs ∧ EI K C bmB newId ∧ bmB.contains (.type "BaseException") = true ∧
  PySem.W.findIn K (.ref C) f = some none ∧ fs.lookup f = some v ∧ Q v H1
theorem pe_errF {X : Cx} {e : Expr} {ta : TE} {f : Str} {pos : Pos} (he : PE X e ta) (hb : attributeBase e f X.env (eval e X.env) = eval e X.env := by rfl) : PE X (.Attribute e f pos) (tErrF X.K f ta) := by
  refine ⟨fun pins s σ H Q I h => attr_of hb (thn (he.run pins s σ H _ I h) fun u s1 ⟨x, H1, I1, rx, a, C, fs, bmB, newId, v, ex, ha, T, hB, no, l, q⟩ => ?_)⟩
  rw [ex] at rx
  have eu : u = Value.ref a := rx
  rw [eu]
  obtain ⟨ox, od, J, look⟩ := ha.inst I1.hok
  obtain ⟨o, u', hod, hl, ru⟩ := look f v l
  subst hod
  exact HandSPX.exc_get I1.kIn J T.ga T.gg (by rw [T.sub, List.contains_cons, hB, Bool.or_true]) (PySem.W.findObj_own T.hd no rfl hl) (handed_of ru) ⟨v, H1, I1.tok _, ru, q⟩

/-! ### a list display whose address is not that of sys.modules -/
def tLstS (t : TA) : TE := fun σ H Q => t σ H fun xs H1 => xs.length ≤ sizeLine ∧ ∀ p, H1 p = none → p ≠ sysModules → Q (.ref p) (upd H1 p (.lst xs))
theorem pe_lstS {X : Cx} {es : List Expr} {t : TA} {pos : Pos} (h : PA X es t) : PE X (.List es pos) (tLstS t) := by
  refine ⟨fun pins s σ H Q I hq => wpAny_List_spliced (thn (h.run pos pins s σ H _ I hq) fun us s1 ⟨xs, H1, I1, r, z, q⟩ => ⟨by rw [← r.length]; exact z, ?_⟩)⟩
  have new : H1 s1.heap.objs.size = none := I1.hok.fresh (Nat.le_refl _)
  have far : s1.heap.objs.size ≠ sysModules := Nat.ne_of_gt I1.big
  exact ⟨.ref s1.heap.objs.size, upd H1 s1.heap.objs.size (.lst xs), I1.laid (t' := s1.toks) (fun b u e => Heap.get?_push_of_some _ e) (Nat.le_refl _) ⟨z, us, 0, r, Heap.get?_push_size _ rfl⟩, rfl, q _ new far⟩

/-! ### a value and itself -/
def rNeSame : R2 := fun x y H Q => x = y ∧ ((∃ N d, DA N H x d ∧ SeqAt.shaped d = true ∧ PyData.eqv d d = true) ∨ ∃ a ks, x = .ref a ∧ H a = some (.dK ks)) ∧ Q (.bl false) H
theorem hits_same {A : Around} {s : Shared} {ks : List (Key × Value)} (nd : (ks.map (·.1)).Nodup) : ∀ l : List (Key × Value), (∀ p ∈ l, p ∈ ks) → PySem.W.KeqHits A s ks l true
  | [], _ => .nil
  | (k, v) :: r, h => by
    have m := h (k, v) List.mem_cons_self
    have e : valueAt ks k = some v := by
      clear h
      induction ks with
      | nil => exact nomatch m
      | cons p ks ih =>
        unfold valueAt
        rw [List.find?_cons]
        rcases List.mem_cons.mp m with z | z
        · rw [← z]
          simp
        · obtain ⟨n1, n2⟩ := List.nodup_cons.mp (show (p.1 :: ks.map (·.1)).Nodup from nd)
          have ne : ¬ p.1 = k := fun y => n1 (by rw [y]; exact List.mem_map.mpr ⟨(k, v), z, rfl⟩)
          rw [decide_eq_false ne]
          exact ih n2 z
    exact .hit e (SeqAt.EqAt.same _) (hits_same nd r fun p hp => h p (List.mem_cons_of_mem _ hp))
theorem op_neSame {X : Cx} (hu : X.A.units + 64 < cLine) : OpR X (compareOp .NotEq) rNeSame := by
  intro pins s σ H x y v u Q I rx ry h
  obtain ⟨exy, h, q⟩ := h
  subst exy
  rcases h with ⟨N, d, hd, hs, hv⟩ | ⟨a, ks, ex, ha⟩
  · obtain ⟨as, r1, _⟩ := DA.reads I.hok hd rx
    obtain ⟨bs, r2, _⟩ := DA.reads I.hok hd ry
    exact SeqAt.compareNe_shaped r1 r2 hs hs hu ⟨.bl _, H, I, rfl, by rw [hv]; exact q⟩
  · subst ex
    have e1 : v = Value.ref a := rx
    have e2 : u = Value.ref a := ry
    rw [e1, e2]
    obtain ⟨_, ya, va, ra, da⟩ := (show ObjOk X.prog X.w H s.heap a (.dK ks) from I.hok a _ ha)
    obtain ⟨o, es, ep, g1, g2, g3, g4, g5, nd⟩ := id da
    exact PySem.W.keq_ne (knd := mixKind X.prog X.w) (r := true) ya ya da da (by omega) (fun _ => hits_same nd va fun p hp => hp) ⟨.bl false, H, I, (by show Value.bool _ = Value.bool false; simp), q⟩
end Fh
set_option Elab.async false
set_option linter.all false
set_option maxRecDepth 100000
set_option maxHeartbeats 4000000
namespace Fh
open PySem PySem.Spec PyProof.Rows L2
open PySem.W (Frag)

theorem PE.imp {X : Cx} {e : Expr} {t t' : TE} (h : PE X e t) (i : ∀ σ H Q, t' σ H Q → t σ H Q) : PE X e t' := ⟨fun pins s σ H Q I q => h.run pins s σ H Q I (i σ H Q q)⟩
theorem PA.imp {X : Cx} {e : List Expr} {t t' : TA} (h : PA X e t) (i : ∀ σ H Q, t' σ H Q → t σ H Q) : PA X e t' := ⟨fun pos pins s σ H Q I q => h.run pos pins s σ H Q I (i σ H Q q)⟩
theorem PS.imp {X : Cx} {e : Stmt} {t t' : TS} (h : PS X e t) (i : ∀ D σ H, t' D σ H → t D σ H) : PS X e t' := ⟨fun pins s σ H D I q => h.run pins s σ H D I (i D σ H q)⟩
theorem Same.upd {H H' : Hp} {p : Addr} {o : HO} (s : Same H H') (n : H' p = none) : Same H (upd H' p o) := fun b u e => by
  rw [upd_ne (ne_of_none (s b u e) n)]
  exact s b u e
theorem Same.new {H : Hp} {p : Addr} {o : HO} (n : H p = none) : Same H (L2.upd H p o) := Same.upd (Same.refl H) n

/-! ### written data -/
/-- N: addresses that stand already and are kept apart -/
def Kept (N : Addr → Prop) (H : Hp) : Prop := ∀ a, N a → H a ≠ none
theorem Kept.same {N : Addr → Prop} {H H' : Hp} (k : Kept N H) (s : Same H H') : Kept N H' := fun a n z => by
  cases e : H a with
  | none => exact k a n e
  | some o =>
    rw [s a o e] at z
    exact nomatch z
theorem Kept.not {N : Addr → Prop} {H : Hp} (k : Kept N H) {p : Addr} (n : H p = none) : ¬ N p := fun z => k p z n
def tD (N : Addr → Prop) (d : PyData) : TE := fun _ H Q => Kept N H ∧ ∀ x H', Same H H' → DA N H' x d → Q x H'
def tDs (N : Addr → Prop) (ds : List PyData) : TA := fun _ H Q => Kept N H ∧ ∀ xs H', Same H H' → DAs N H' xs ds → Q xs H'
theorem DAs.length {N : Addr → Prop} {H : Hp} : ∀ {xs : List V} {ds : List PyData}, DAs N H xs ds → xs.length = ds.length
  | _, _, .nil => rfl
  | _, _, .cons _ r => congrArg Nat.succ (DAs.length r)
theorem DAs.append {N : Addr → Prop} {H : Hp} : ∀ {xs ys : List V} {ds es : List PyData}, DAs N H xs ds → DAs N H ys es → DAs N H (xs ++ ys) (ds ++ es)
  | _, _, _, _, .nil, h => h
  | _, _, _, _, .cons a r, h => .cons a (DAs.append r h)
theorem DAs.get {N : Addr → Prop} {H : Hp} : ∀ {xs : List V} {ds : List PyData}, DAs N H xs ds → ∀ {i : Nat} {x : V}, xs[i]? = some x → ∃ d, ds[i]? = some d ∧ DA N H x d
  | _, _, .nil, _, _, e => by simp at e
  | _, _, .cons a r, 0, x, e => by
    simp at e
    subst e
    exact ⟨_, rfl, a⟩
  | _, _, .cons a r, i + 1, x, e => by
    obtain ⟨d, h1, h2⟩ := DAs.get r (i := i) (x := x) (by simpa using e)
    exact ⟨d, by simpa using h1, h2⟩
section
variable {X : Cx} {e : Expr} {es : List Expr} {d : PyData} {ds : List PyData} {pos pos' pos2 : Pos} {j : Nat} {N : Addr → Prop}
theorem pd_non {j} : PE X (.Constant .none j pos) (tD N .none) := PE.imp pe_non fun σ H Q q => q.2 _ H (Same.refl H) .non
theorem pd_bl {b j} : PE X (.Constant (.bool b) j pos) (tD N (.bool b)) := PE.imp pe_bl fun σ H Q q => q.2 _ H (Same.refl H) (.bl b)
theorem pd_int {i j} : PE X (.Constant (.int i) j pos) (tD N (.int i)) := PE.imp pe_int fun σ H Q q => q.2 _ H (Same.refl H) (.int i)
theorem pd_str {x j} : PE X (.Constant (.str x) j pos) (tD N (.str x)) := PE.imp pe_str fun σ H Q q => q.2 _ H (Same.refl H) (.str x)
theorem pd_neg {i j} : PE X (.UnaryOp .USub (.Constant (.int i) j pos) pos') (tD N (.int (-i))) := PE.imp (pe_un un_neg pe_int) fun σ H Q q => ⟨i, rfl, q.2 _ H (Same.refl H) (.int _)⟩
theorem pd_pow {i j : Int} {a b} (h0 : 0 ≤ j ∧ j ≤ 1000000 ∧ i.natAbs < 2 ^ 64) : PE X (.BinOp (.Constant (.int i) a pos) .Pow (.Constant (.int j) b pos') pos2) (tD N (.int (i ^ j.toNat))) :=
  PE.imp (pe_op op_pow pe_int pe_int) fun σ H Q q => ⟨i, j, rfl, rfl, h0, q.2 _ H (Same.refl H) (.int _)⟩
theorem pds_nil : PA X [] (tDs N []) := PA.imp pa_nil fun σ H Q q => q.2 [] H (Same.refl H) .nil
theorem pds_cons (h : PE X e (tD N d)) (r : PA X es (tDs N ds)) (hs : starEach (e :: es) X.env = (false, eval e X.env) :: starEach es X.env := by rfl) : PA X (e :: es) (tDs N (d :: ds)) :=
  PA.imp (pa_cons h r hs) fun σ H Q q => ⟨q.1, fun x H1 s1 d1 => ⟨q.1.same s1, fun xs H2 s2 d2 => q.2 (x :: xs) H2 (s1.trans s2) (.cons (DA.same s2 d1) d2)⟩⟩
theorem pd_tup {x1} (h : PA X es (tDs N ds)) (hz : ds.length ≤ sizeLine := by decide) : PE X (.Tuple es x1 pos) (tD N (.tuple ds)) :=
  PE.imp (pe_tup h) fun σ H Q q => ⟨q.1, fun xs H1 s1 d1 => ⟨by rw [d1.length]; exact hz, fun p n => q.2 _ _ (Same.upd s1 n) (.tup upd_same ((q.1.same s1).not n) (DAs.same (Same.new n) d1))⟩⟩
theorem pd_lst (h : PA X es (tDs N ds)) (hz : ds.length ≤ sizeLine := by decide) : PE X (.List es pos) (tD N (.list ds)) :=
  PE.imp (pe_lstS h) fun σ H Q q => ⟨q.1, fun xs H1 s1 d1 => ⟨by rw [d1.length]; exact hz, fun p n far => q.2 _ _ (Same.upd s1 n) (.lst upd_same far ((q.1.same s1).not n) (DAs.same (Same.new n) d1))⟩⟩
theorem pd_dict0 : PE X (.Dict [] [] pos) (tD N (.dict [])) := PE.imp pe_dnewK fun σ H Q q p n => q.2 _ _ (Same.new n) (.dK upd_same (q.1.not n) .nil)
/-- {'k': a constant} -/
theorem pd_dictI {k : Str} {i : Int} {a b} : PE X (.Dict [some (.Constant (.str k) a pos)] [.Constant (.int i) b pos'] pos2) (tD N (.dict [(.str k, .int i)])) := by
  refine PE.imp (pe_disp (pps_cons pe_str pe_int pps_nil) (by rfl) (by rfl) (fun z => by cases z) (show 1 ≤ 15 by decide)) fun σ H Q q p n => ?_
  refine ⟨upd_same, [(Sum.inr k, .int i)], rfl, (show 1 ≤ 15 by decide), ?_⟩
  rw [upd_upd]
  exact q.2 _ _ (Same.new n) (.dK upd_same (q.1.not n) (.cons (k := Sum.inr k) (.int i) .nil))
/-- {'k': []} -/
theorem pd_dictL {k : Str} {a} : PE X (.Dict [some (.Constant (.str k) a pos)] [.List [] pos'] pos2) (tD N (.dict [(.str k, .list [])])) := by
  refine PE.imp (pe_disp (pps_cons pe_str (pe_lstS pa_nil) pps_nil) (by rfl) (by rfl) (fun z => by cases z) (show 1 ≤ 15 by decide)) fun σ H Q q p n => ?_
  refine ⟨by decide, fun l nl far => ?_⟩
  have pl : p ≠ l := fun z => by
    rw [← z, upd_same] at nl
    exact nomatch nl
  have hl : H l = none := by
    rw [upd_ne (Ne.symm pl)] at nl
    exact nl
  refine ⟨by rw [upd_ne pl, upd_same], [(Sum.inr k, .ref l)], rfl, (show 1 ≤ 15 by decide), ?_⟩
  refine q.2 _ _ (fun b u z => ?_) (.dK upd_same (q.1.not n) (.cons (k := Sum.inr k) (.lst (by rw [upd_ne (Ne.symm pl), upd_same]) far (q.1.not hl) .nil) .nil))
  rw [upd_ne (ne_of_none z n), upd_ne (ne_of_none z hl), upd_ne (ne_of_none z n)]
  exact z
end

/-! ### the pen of a law: its ints, its place, its rest -/
/-- a pen at p, its list at c; its place is at most n -/
structure PenAt (H : Hp) (p c : Addr) (n : Nat) : Prop where
  pc : p ≠ c
  ex : ∃ (cs : List Int) (spot rest : Int), H p = some (.dK [(Sum.inr "cells", .ref c), (Sum.inr "spot", .int spot), (Sum.inr "rest", .int rest)]) ∧ H c = some (.lst (cs.map V.int)) ∧ cs.length ≤ 1000 ∧ 0 ≤ spot ∧ spot ≤ n
/-- all but p stays -/
def But (p : Addr) (H H' : Hp) : Prop := ∀ b o, b ≠ p → H b = some o → H' b = some o
theorem But.refl (p : Addr) (H : Hp) : But p H H := fun _ _ _ h => h
theorem But.trans {p : Addr} {H H1 H2 : Hp} (a : But p H H1) (b : But p H1 H2) : But p H H2 := fun x o n h => b x o n (a x o n h)
theorem But.of {p : Addr} {H H1 : Hp} (a : Same H H1) : But p H H1 := fun x o _ h => a x o h
theorem But.upd {p : Addr} {H H1 : Hp} {u : HO} (a : But p H H1) : But p H (L2.upd H1 p u) := fun x o n h => by
  rw [upd_ne n]
  exact a x o n h
theorem PenAt.same {H H' : Hp} {p c : Addr} {n m : Nat} (s : Same H H') (h : PenAt H p c n) (hm : n ≤ m) : PenAt H' p c m := by
  obtain ⟨a, cs, spot, rest, h1, h2, h3, h4, h5⟩ := h
  exact ⟨a, cs, spot, rest, s _ _ h1, s _ _ h2, h3, h4, by omega⟩
mutual
theorem DA.but {N : Addr → Prop} {p : Addr} {H H' : Hp} (s : But p H H') (hp : N p) : ∀ {v : V} {d : PyData}, DA N H v d → DA N H' v d
  | _, _, .non => .non
  | _, _, .bl b => .bl b
  | _, _, .int i => .int i
  | _, _, .str x => .str x
  | _, _, .lst h n m r => .lst (s _ _ (fun z => m (z ▸ hp)) h) n m (DAs.but s hp r)
  | _, _, .tup h m r => .tup (s _ _ (fun z => m (z ▸ hp)) h) m (DAs.but s hp r)
  | _, _, .dK h m r => .dK (s _ _ (fun z => m (z ▸ hp)) h) m (DKs.but s hp r)
theorem DAs.but {N : Addr → Prop} {p : Addr} {H H' : Hp} (s : But p H H') (hp : N p) : ∀ {v : List V} {d : List PyData}, DAs N H v d → DAs N H' v d
  | _, _, .nil => .nil
  | _, _, .cons h r => .cons (DA.but s hp h) (DAs.but s hp r)
theorem DKs.but {N : Addr → Prop} {p : Addr} {H H' : Hp} (s : But p H H') (hp : N p) : ∀ {v : List (Key × V)} {d : List (PyData × PyData)}, DKs N H v d → DKs N H' v d
  | _, _, .nil => .nil
  | _, _, .cons h r => .cons (DA.but s hp h) (DKs.but s hp r)
end
end Fh
set_option Elab.async false
set_option linter.all false
set_option maxRecDepth 100000
set_option maxHeartbeats 4000000
namespace Fh
open PySem PySem.Spec PyProof.Rows L2
open PySem.W (Frag)

/-! ### a pen's pairs -/
def penKV (c : Addr) (s r : Int) : List (Key × V) := [(Sum.inr "cells", .ref c), (Sum.inr "spot", .int s), (Sum.inr "rest", .int r)]
theorem pen_cells {c : Addr} {s r : Int} : valV (penKV c s r) (Sum.inr "cells" : Key) = some (.ref c) := by
  first
    | rfl
    | simp [penKV, valV]
theorem pen_spot {c : Addr} {s r : Int} : valV (penKV c s r) (Sum.inr "spot" : Key) = some (.int s) := by
  first
    | rfl
    | simp [penKV, valV]
theorem pen_rest {c : Addr} {s r : Int} : valV (penKV c s r) (Sum.inr "rest" : Key) = some (.int r) := by
  first
    | rfl
    | simp [penKV, valV]
theorem put_spot {c : Addr} {s r z : Int} : putK (penKV c s r) (Sum.inr "spot" : Key) (.int z) = penKV c z r := by
  first
    | rfl
    | simp [penKV, putK]
theorem put_rest {c : Addr} {s r z : Int} : putK (penKV c s r) (Sum.inr "rest" : Key) (.int z) = penKV c s z := by
  first
    | rfl
    | simp [penKV, putK]
/-- a pen stands at p, its list at c; its place is s, its rest r -/
structure PenS (H : Hp) (p c : Addr) (cs : List Int) (s r : Int) : Prop where
  pc : p ≠ c
  hp : H p = some (.dK (penKV c s r))
  hc : H c = some (.lst (cs.map V.int))
  hl : cs.length ≤ 1000
theorem PenAt.open {H : Hp} {p c : Addr} {n : Nat} (h : PenAt H p c n) : ∃ cs s r, PenS H p c cs s r ∧ 0 ≤ s ∧ s ≤ n := by
  obtain ⟨a, cs, s, r, h1, h2, h3, h4, h5⟩ := h
  exact ⟨cs, s, r, ⟨a, h1, h2, h3⟩, h4, h5⟩
theorem PenS.at_ {H : Hp} {p c : Addr} {cs : List Int} {s r : Int} {n : Nat} (h : PenS H p c cs s r) (h0 : 0 ≤ s) (h1 : s ≤ n) : PenAt H p c n := ⟨h.pc, cs, s, r, h.hp, h.hc, h.hl, h0, h1⟩
theorem PenS.put {H : Hp} {p c : Addr} {cs : List Int} {s r s' r' : Int} (h : PenS H p c cs s r) : PenS (upd H p (.dK (penKV c s' r'))) p c cs s' r' :=
  ⟨h.pc, upd_same, by rw [upd_ne (Ne.symm h.pc)]; exact h.hc, h.hl⟩
theorem PenS.same {H H' : Hp} {p c : Addr} {cs : List Int} {s r : Int} (h : PenS H p c cs s r) (z : Same H H') : PenS H' p c cs s r := ⟨h.pc, z _ _ h.hp, z _ _ h.hc, h.hl⟩

section
variable {X : Cx} {o i : Expr} {x : Str} {p1 p2 p3 : Pos} {a k : Nat}
/-- pen['rest'], pen['spot'], pen['cells']: the pen's name stands in the slot k -/
def tPenV (g : Addr → Int → Int → V) (k : Nat) : TE := fun σ H Q => ∃ p c cs s r, σ[k]? = some (some (V.ref p)) ∧ PenS H p c cs s r ∧ Q (g c s r) H
theorem pe_rest (hu : X.A.units + 1 < cLine) (ho : PE X o (tVar k)) : PE X (.Subscript o (.Constant (.str "rest") a p2) p3) (tPenV (fun _ _ r => .int r) k) :=
  PE.imp (pe_dget hu ho pe_str (fun _ _ => rfl)) fun σ H Q ⟨p, c, cs, s, r, h1, h2, q⟩ => ⟨_, h1, p, _, rfl, by rw [← pen_rest (c := c) (s := s) (r := r)]; exact DGet.k (k := Sum.inr "rest") h2.hp, q⟩
theorem pe_spot (hu : X.A.units + 1 < cLine) (ho : PE X o (tVar k)) : PE X (.Subscript o (.Constant (.str "spot") a p2) p3) (tPenV (fun _ s _ => .int s) k) :=
  PE.imp (pe_dget hu ho pe_str (fun _ _ => rfl)) fun σ H Q ⟨p, c, cs, s, r, h1, h2, q⟩ => ⟨_, h1, p, _, rfl, by rw [← pen_spot (c := c) (s := s) (r := r)]; exact DGet.k (k := Sum.inr "spot") h2.hp, q⟩
theorem pe_cells (hu : X.A.units + 1 < cLine) (ho : PE X o (tVar k)) : PE X (.Subscript o (.Constant (.str "cells") a p2) p3) (tPenV (fun c _ _ => .ref c) k) :=
  PE.imp (pe_dget hu ho pe_str (fun _ _ => rfl)) fun σ H Q ⟨p, c, cs, s, r, h1, h2, q⟩ => ⟨_, h1, p, _, rfl, by rw [← pen_cells (c := c) (s := s) (r := r)]; exact DGet.k (k := Sum.inr "cells") h2.hp, q⟩
/-- int(e), an int -/
def tIntOf (te : TE) : TE := fun σ H Q => te σ H fun v H1 => ∃ n : Int, v = .int n ∧ Q v H1
end

theorem fm_lo (z b : Int) (h0 : 0 < b) (h1 : b < 2 ^ 64) : -(2 ^ 64) < z.fmod b ∧ z.fmod b < 2 ^ 64 := by
  have l := Int.fmod_nonneg_of_pos z h0
  have u := Int.fmod_lt_of_pos z h0
  omega
/-- the statement that takes a cell of the script, if there is one -/
def tCellIf : TS := fun D σ H => ∃ (p c : Addr) (cs : List Int) (z y re sz : Int) (m : V) (dg mx : Option V), σ = [some (.ref p), some m, dg, some (.int z), some (.int y), mx] ∧ PenS H p c cs sz re ∧ 0 ≤ z ∧
  ∀ (cell : Int) (H' : Hp), Same H H' → D.nx [some (.ref p), some m, dg, some (.int z), some (.int cell), mx] H'
/-! ### what a draw promises -/
def spDraw : Sp := fun vs H Q _ => ∃ (p c : Addr) (n : Nat) (m : Int), vs = [.ref p, .int m] ∧ PenAt H p c n ∧ n ≤ 1000000 ∧ 1 ≤ m ∧ m ≤ 1000000 ∧
  ∀ (k : Int) (H' : Hp), 0 ≤ k → k < m → PenAt H' p c (n + 1) → But p H H' → Q (.int k) H'
/-- items[draw]: an item of a list -/
def spPick (K : Frag) : Sp := fun vs H Q _ => ∃ (p c : Addr) (n : Nat) (l : Addr) (xs : List V), vs = [.ref p, .ref l] ∧ PenAt H p c n ∧ n ≤ 1000000 ∧ H l = some (.lst xs) ∧ 1 ≤ xs.length ∧ xs.length ≤ 1000 ∧
  ∀ (i : Nat) (x : V) (H' : Hp), xs[i]? = some x → PenAt H' p c (n + 1) → But p H H' → Q x H'
/-- the script's pen -/
def spPen (K : Frag) : Sp := fun vs H Q _ => ∃ (a : Addr) (ns : List Int), vs = [.ref a] ∧ SqL K H a (ns.map V.int) ∧ ns.length ≤ 63 ∧
  ∀ (p c : Addr) (H' : Hp), Same H H' → H p = none → PenAt H' p c 0 → Q (.ref p) H'
theorem dp_ints {K : Frag} {H : Hp} : ∀ cs : List Int, DpAll K H (cs.map V.int) (cs.map PyData.int)
  | [] => .nil
  | z :: cs => .cons (.int z) (dp_ints cs)
theorem lay_ints : ∀ cs : List Int, PyData.canLayAll0 (cs.map PyData.int) = true
  | [] => rfl
  | z :: cs => by
    show (PyData.canLay0 (.int z) && PyData.canLayAll0 (cs.map PyData.int)) = true
    rw [lay_ints cs]
    rfl
theorem depth_ints : ∀ cs : List Int, PyData.depthAll (cs.map PyData.int) ≤ 1
  | [] => by
    show PyData.depthAll [] ≤ 1
    simp [PyData.depthAll]
  | z :: cs => by
    have h := depth_ints cs
    simp only [List.map_cons, PyData.depthAll, PyData.depth]
    omega
theorem shaped_ints (cs : List Int) : SeqAt.shaped (.list (cs.map PyData.int)) = true := by
  have h1 := lay_ints cs
  have h2 := depth_ints cs
  have h3 : PyData.depth (.list (cs.map PyData.int)) ≤ 64 := by
    simp only [PyData.depth]
    omega
  unfold SeqAt.shaped
  rw [decide_eq_true h3, Bool.and_true]
  simpa [PyData.canLay0] using h1
theorem int_map_get {cs : List Int} {i : Nat} (h : i < cs.length) : (cs.map V.int)[i]? = some (.int cs[i]) := by
  rw [List.getElem?_map, List.getElem?_eq_getElem h]
  rfl
/-- slices at a start of 0 keep ints -/
theorem cut_ints (ns : List Int) (lo hi : Option Int) : ∃ ms : List Int, cutV (ns.map V.int) lo hi = ms.map V.int ∧ ms.length ≤ ns.length := by
  unfold cutV
  refine ⟨(ns.drop (HT.sIx (ns.map V.int).length 0 lo)).take (HT.sIx (ns.map V.int).length (ns.map V.int).length hi - HT.sIx (ns.map V.int).length 0 lo), ?_, ?_⟩
  · rw [List.map_take, List.map_drop]
  · rw [List.length_take, List.length_drop]
    omega
end Fh
set_option Elab.async false
set_option linter.all false
set_option maxRecDepth 100000
set_option maxHeartbeats 4000000
namespace Fh
open PySem PySem.Spec PyProof.Rows L2
open PySem.W (Frag)

/-! ### the four built-in classes below which a package's errors stand -/
inductive BK where
  | ve | le | oe | re
  deriving DecidableEq
def BK.nm : BK → String
  | .ve => "ValueError"
  | .le => "LookupError"
  | .oe => "OverflowError"
  | .re => "RuntimeError"
def BK.nw : BK → String
  | .ve => "ValueError.__new__"
  | .le => "LookupError.__new__"
  | .oe => "OverflowError.__new__"
  | .re => "RuntimeError.__new__"
def BK.ni : BK → String
  | .ve => "ValueError.__init__"
  | .le => "LookupError.__init__"
  | .oe => "OverflowError.__init__"
  | .re => "RuntimeError.__init__"
def BK.bm : BK → List Value
  | .oe => [.type "OverflowError", .type "ArithmeticError", .type "Exception", .type "BaseException", .type "object"]
  | b => [.type b.nm, .type "Exception", .type "BaseException", .type "object"]
def BK.no : BK → Int
  | .ve => 0
  | .le => 1
  | .oe => 2
  | .re => 3
theorem BK.fb : ∀ b : BK, ExcBaseFacts b.nm b.nw b.ni b.bm
  | .ve => PySem.F.excBase_ValueError
  | .le => PySem.F.excBase_LookupError
  | .oe => PySem.F.excBase_OverflowError
  | .re => PySem.F.excBase_RuntimeError
theorem BK.sf : ∀ b : BK, StoreFacts b.nm b.bm "object.__setattr__" "object"
  | .ve => PySem.F.store_ValueError
  | .le => PySem.F.store_LookupError
  | .oe => PySem.F.store_OverflowError
  | .re => PySem.F.store_RuntimeError
theorem BK.hB : ∀ b : BK, b.bm.contains (.type "BaseException") = true
  | .ve => by decide +kernel
  | .le => by decide +kernel
  | .oe => by decide +kernel
  | .re => by decide +kernel
theorem BK.hO : ∀ b : BK, b.bm.contains (.type "object") = true
  | .ve => by decide +kernel
  | .le => by decide +kernel
  | .oe => by decide +kernel
  | .re => by decide +kernel
theorem BK.noR : ∀ b : BK, NoRefs b.bm := fun b a h => by
  cases b <;> simp [BK.bm, BK.nm] at h
abbrev EK (K : Frag) (C : Addr) (b : BK) : Prop := EI K C b.bm b.nw

/-! ### a class of one field -/
structure Ok1 (K : Frag) (mg : Str → Option Value) (nm : Str) (b : BK) (f : Str) (C fI : Addr) : Prop where
  ei : EK K C b
  gC : mg nm = some (.ref C)
  iC : PySem.W.findIn K (.ref C) "__init__" = some (some (.ref fI))
  tI : PySem.W.typeIn K (.ref fI) = some (.type "function")
  no : PySem.W.findIn K (.ref C) f = some none
  fn : ∃ fd, (∀ (P : Program) (w : World) (base : Heap), FnOk P w K mg base CX0 1 fI fd ["self", f] (spI1 C f)) ∧
    KBn K fd ["self", f] 2 [] (fun us _ => us) (fun vs _ => vs) ∧ KBn K fd ["self", f] 1 [f] (fun us ws => us ++ ws) (fun vs zs => vs ++ zs)
structure Ok2 (K : Frag) (mg : Str → Option Value) (nm : Str) (b : BK) (f g : Str) (C fI : Addr) : Prop where
  ei : EK K C b
  gC : mg nm = some (.ref C)
  iC : PySem.W.findIn K (.ref C) "__init__" = some (some (.ref fI))
  tI : PySem.W.typeIn K (.ref fI) = some (.type "function")
  no : PySem.W.findIn K (.ref C) f = some none
  no2 : PySem.W.findIn K (.ref C) g = some none
  fn : ∃ fd, (∀ (P : Program) (w : World) (base : Heap), FnOk P w K mg base CX0 1 fI fd ["self", f, g] (spI2 C f g)) ∧
    KBn K fd ["self", f, g] 3 [] (fun us _ => us) (fun vs _ => vs) ∧ KBn K fd ["self", f, g] 1 [g, f] (fun us ws => us ++ ws.reverse) (fun vs zs => vs ++ zs.reverse)
structure Ok0 (K : Frag) (mg : Str → Option Value) (nm : Str) (b : BK) (C : Addr) : Prop where
  ei : EK K C b
  gC : mg nm = some (.ref C)
  ex : PySem.W.excIn K C b.bm b.nw = true
theorem Vals.reverse {xs : List V} {us : List Value} (r : Vals xs us) : Vals xs.reverse us.reverse := by
  induction r with
  | nil => exact .nil
  | cons h _ ih =>
    rw [List.reverse_cons, List.reverse_cons]
    exact ih.append (.cons h .nil)
section
variable {K : Frag} {mg : Str → Option Value} {nm f g qual : Str} {b : BK} {C fI : Addr} {st : Stmt} {fd : FuncData} {p1 p2 p3 p4 q1 q2 q3 q4 : Pos}
theorem ok1_of (ei : EK K C b) (gC : mg nm = some (.ref C)) (iC : PySem.W.findIn K (.ref C) "__init__" = some (some (.ref fI))) (tI : PySem.W.typeIn K (.ref fI) = some (.type "function")) (no : PySem.W.findIn K (.ref C) f = some none)
    (F : Fun K "__init__" qual st fI fd) (S : FnScope ["self", f] ["self", f] (defScope st)) (hb : defBody st = [.Assign [.Attribute (.Name "self" p1) f p2] (.Name f p3) p4])
    (hl : (defScope st).names.lookup f = some .local) (hl2 : (defScope st).names.lookup ("self" : Str) = some .local) (hd : (f == ("__debug__" : Str)) = false) (hcd : (f == ("__classdict__" : Str)) = false)
    (hs : ∀ env, swapsWith (.Name f p3) (some (.Attribute (.Name "self" p1) f p2)) p4.line env = pure false)
    (h0 : ∀ (kV doc pm : Value) (an : Option Addr) (cdv ct x y : Value), bindArgs (PySem.W.fnOf "__init__" qual (defArgs st) (defBody st) (defScope st) .none kV doc pm an cdv ct) ⟨[x, y], []⟩ = pure [(("self" : Str), x), (f, y)])
    (h1 : ∀ (kV doc pm : Value) (an : Option Addr) (cdv ct x y : Value), bindArgs (PySem.W.fnOf "__init__" qual (defArgs st) (defBody st) (defScope st) .none kV doc pm an cdv ct) ⟨[x], [(f, y)]⟩ = pure [(("self" : Str), x), (f, y)]) :
    Ok1 K mg nm b f C fI := by
  refine ⟨ei, gC, iC, tI, no, fd, fun P w base => fn_init1 F ei b.sf no S hb hl hl2 hd hcd hs, ⟨fun s us ws _ l1 l2 => ?_, fun r _ => r⟩, ⟨fun s us ws _ l1 l2 => ?_, fun r z => r.append z⟩⟩
  · obtain ⟨oc, od, kV, doc, pm, an, cdv, ct, osl, rfl, _, _⟩ := F.ex
    match us, ws, l1, l2 with
    | [x, y], [], _, _ => exact .of_eq (h0 kV doc pm an cdv ct x y)
  · obtain ⟨oc, od, kV, doc, pm, an, cdv, ct, osl, rfl, _, _⟩ := F.ex
    match us, ws, l1, l2 with
    | [x], [y], _, _ => exact .of_eq (h1 kV doc pm an cdv ct x y)
theorem ok2_of (ei : EK K C b) (gC : mg nm = some (.ref C)) (iC : PySem.W.findIn K (.ref C) "__init__" = some (some (.ref fI))) (tI : PySem.W.typeIn K (.ref fI) = some (.type "function")) (no : PySem.W.findIn K (.ref C) f = some none) (no2 : PySem.W.findIn K (.ref C) g = some none)
    (F : Fun K "__init__" qual st fI fd) (S : FnScope ["self", f, g] ["self", f, g] (defScope st)) (hb : defBody st = [.Assign [.Attribute (.Name "self" p1) f p2] (.Name f p3) p4, .Assign [.Attribute (.Name "self" q1) g q2] (.Name g q3) q4])
    (hl : (defScope st).names.lookup f = some .local) (hl2 : (defScope st).names.lookup ("self" : Str) = some .local) (hl3 : (defScope st).names.lookup g = some .local)
    (hd : (f == ("__debug__" : Str)) = false) (hcd : (f == ("__classdict__" : Str)) = false) (hd2 : (g == ("__debug__" : Str)) = false) (hcd2 : (g == ("__classdict__" : Str)) = false)
    (hs : ∀ env, swapsWith (.Name f p3) (some (.Attribute (.Name "self" p1) f p2)) p4.line env = pure false) (hs2 : ∀ env, swapsWith (.Name g q3) (some (.Attribute (.Name "self" q1) g q2)) q4.line env = pure false)
    (h0 : ∀ (kV doc pm : Value) (an : Option Addr) (cdv ct x y z : Value), bindArgs (PySem.W.fnOf "__init__" qual (defArgs st) (defBody st) (defScope st) .none kV doc pm an cdv ct) ⟨[x, y, z], []⟩ = pure [(("self" : Str), x), (f, y), (g, z)])
    (h1 : ∀ (kV doc pm : Value) (an : Option Addr) (cdv ct x y z : Value), bindArgs (PySem.W.fnOf "__init__" qual (defArgs st) (defBody st) (defScope st) .none kV doc pm an cdv ct) ⟨[x], [(g, z), (f, y)]⟩ = pure [(("self" : Str), x), (f, y), (g, z)]) :
    Ok2 K mg nm b f g C fI := by
  refine ⟨ei, gC, iC, tI, no, no2, fd, fun P w base => fn_init2 F ei b.sf no no2 S hb hl hl2 hl3 hd hcd hd2 hcd2 hs hs2, ⟨fun s us ws _ l1 l2 => ?_, fun r _ => r⟩, ⟨fun s us ws _ l1 l2 => ?_, fun r z => r.append z.reverse⟩⟩
  · obtain ⟨oc, od, kV, doc, pm, an, cdv, ct, osl, rfl, _, _⟩ := F.ex
    match us, ws, l1, l2 with
    | [x, y, z], [], _, _ => exact .of_eq (h0 kV doc pm an cdv ct x y z)
  · obtain ⟨oc, od, kV, doc, pm, an, cdv, ct, osl, rfl, _, _⟩ := F.ex
    match us, ws, l1, l2 with
    | [x], [z, y], _, _ => exact .of_eq (h1 kV doc pm an cdv ct x y z)
end

/-! ### a new error and its dict in the heap -/
theorem err_made {H : Hp} {a d C : Addr} {fs fs' : List (Str × V)} (na : H a = none) (nd : upd H a (exo a C none) d = none) (ne : d ≠ a) :
    Same H (upd (upd (upd H a (exo a C none)) d (exd d fs)) a (exo a C (some d))) ∧ ErrAt (upd (upd (upd H a (exo a C none)) d (exd d fs)) a (exo a C (some d))) a C fs ∧
    Same H (upd (upd (upd (upd H a (exo a C none)) d (exd d fs)) a (exo a C (some d))) d (exd d fs')) ∧ ErrAt (upd (upd (upd (upd H a (exo a C none)) d (exd d fs)) a (exo a C (some d))) d (exd d fs')) a C fs' := by
  have hd : H d = none := by
    rw [upd_ne ne] at nd
    exact nd
  refine ⟨fun b o z => ?_, Or.inr ⟨d, upd_same, by rw [upd_ne ne, upd_same]⟩, fun b o z => ?_, Or.inr ⟨d, by rw [upd_ne (Ne.symm ne), upd_same], upd_same⟩⟩
  · rw [upd_ne (ne_of_none z na), upd_ne (ne_of_none z hd), upd_ne (ne_of_none z na)]
    exact z
  · rw [upd_ne (ne_of_none z hd), upd_ne (ne_of_none z na), upd_ne (ne_of_none z hd), upd_ne (ne_of_none z na)]
    exact z

/-! ### (C(v), C(f=v)) -/
def tPair (C : Addr) (f : Str) : TE := fun σ H Q => ∃ v, σ[0]? = some (some v) ∧ ∀ p a b H', Same H H' → H' p = some (.tup [.ref a, .ref b]) → ErrAt H' a C [(f, v)] → ErrAt H' b C [(f, v)] → Q (.ref p) H'
section
variable {X : Cx} {nm f o : Str} {b : BK} {C fI : Addr} {p1 p2 q1 q2 r1 r2 kp pos : Pos} {x1 : _}
theorem pe_pair (O : Ok1 X.K X.mg nm b f C fI) (hr : Room 2 X.A) (hg : Gl X nm) (v1 : PE X (.Name o q1) (tVar 0)) (v2 : PE X (.Name o q2) (tVar 0)) (hdb : (nm == ("__debug__" : Str)) = false := by decide)
    (hs : starEach [Expr.Name o q1] X.env = (false, eval (.Name o q1) X.env) :: starEach [] X.env := by rfl) (hall : (backToKw r2 (keywordEach [⟨some f, .Name o q2, kp⟩] X.env)).all (·.1.isSome) = true := by rfl)
    (hks : (backToKw r2 (keywordEach [⟨some f, .Name o q2, kp⟩] X.env)).filterMap (·.1) = [f] := by rfl)
    (hst : starEach [Expr.Call (.Name nm p1) [.Name o q1] [] r1, .Call (.Name nm p2) [] [⟨some f, .Name o q2, kp⟩] r2] X.env = (false, eval (.Call (.Name nm p1) [.Name o q1] [] r1) X.env) :: starEach [.Call (.Name nm p2) [] [⟨some f, .Name o q2, kp⟩] r2] X.env := by rfl)
    (hst2 : starEach [Expr.Call (.Name nm p2) [] [⟨some f, .Name o q2, kp⟩] r2] X.env = (false, eval (.Call (.Name nm p2) [] [⟨some f, .Name o q2, kp⟩] r2) X.env) :: starEach [] X.env := by rfl) :
    PE X (.Tuple [.Call (.Name nm p1) [.Name o q1] [] r1, .Call (.Name nm p2) [] [⟨some f, .Name o q2, kp⟩] r2] x1 pos) (tPair C f) := by
  obtain ⟨fd, F, k0, k1⟩ := O.fn
  have G := F X.prog X.w X.base
  refine PE.imp (pe_tup (pa_cons (pe_mkE (n := 1) O.ei b.fb O.iC O.tI G hr k0 (by decide) hg O.gC (pa_cons v1 pa_nil hs) pk_nil rfl rfl hdb hs rfl)
    (pa_cons (pe_mkE0 O.ei b.fb O.iC O.tI G hr k1 hg O.gC (pk_cons v2 pk_nil) hall hks hdb rfl) pa_nil hst2) hst)) fun σ H Q ⟨v, hv, q⟩ => ?_
  refine ⟨v, hv, rfl, rfl, fun a na => ⟨a, v, rfl, upd_same, fun d nd ne => ⟨rfl, ?_⟩⟩⟩
  obtain ⟨s1, e1, _, _⟩ := err_made (C := C) (fs := [(f, v)]) (fs' := []) na nd ne
  generalize upd (upd (upd H a (exo a C none)) d (exd d [(f, v)])) a (exo a C (some d)) = H1 at s1 e1 ⊢
  refine ⟨v, hv, rfl, rfl, fun a2 na2 => ⟨a2, v, rfl, upd_same, fun d2 nd2 ne2 => ⟨rfl, ?_⟩⟩⟩
  obtain ⟨s2, e2, _, _⟩ := err_made (C := C) (fs := [(f, v)]) (fs' := []) na2 nd2 ne2
  generalize upd (upd (upd H1 a2 (exo a2 C none)) d2 (exd d2 [(f, v)])) a2 (exo a2 C (some d2)) = H2 at s2 e2 ⊢
  refine ⟨(show 2 ≤ sizeLine by decide), fun p np => q p a a2 _ (Same.upd (s1.trans s2) np) upd_same ((e1.same s2).same (Same.new np)) (e2.same (Same.new np))⟩
end

/-! ### isinstance(e, C) by the classes' places -/
/-- e stands in slot 0, an error of a class at C -/
def Err0 (K : Frag) (σ : L2.St) (H : Hp) (C : Addr) (b : BK) : Prop := ∃ a fs, σ[0]? = some (some (V.ref a)) ∧ ErrAt H a C fs ∧ EK K C b
def tIs (K : Frag) (D : Addr) : TE := fun σ H Q => ∃ C b, Err0 K σ H C b ∧ Q (.bl (decide (C = D))) H
def tIss (K : Frag) (Ds : List Addr) : TA := fun σ H Q => ∃ C b, Err0 K σ H C b ∧ Q (Ds.map fun D => .bl (decide (C = D))) H
section
variable {X : Cx} {nm o : Str} {b : BK} {D : Addr} {Ds : List Addr} {p1 p2 p3 q1 pos : Pos} {e : Expr} {es : List Expr}
theorem pe_is (ei : EK X.K D b) (gD : X.mg nm = some (.ref D)) (hi : X.mg "isinstance" = none) (hg : Gl X nm) (hg2 : Gl X "isinstance") (v0 : PE X (.Name o q1) (tVar 0)) (hdb : (nm == ("__debug__" : Str)) = false := by decide)
    (hs : starEach [Expr.Name o q1, .Name nm p2] X.env = (false, eval (.Name o q1) X.env) :: starEach [.Name nm p2] X.env := by rfl) (hs2 : starEach [Expr.Name nm p2] X.env = (false, eval (.Name nm p2) X.env) :: starEach [] X.env := by rfl) :
    PE X (.Call (.Name "isinstance" p1) [.Name o q1, .Name nm p2] [] p3) (tIs X.K D) :=
  PE.imp (pe_callB call_isX hg2 hi (by decide +kernel) (pa_cons v0 (pa_cons (pe_glob (v := .ref D) hg gD rfl hdb) pa_nil hs2) hs) (he := hs)) fun σ H Q ⟨C, b', ⟨a, fs, h0, h1, h2⟩, q⟩ =>
    ⟨_, h0, a, C, fs, _, _, .ref D, _, _, rfl, h1, h2, b'.hB, b'.hO, .own D, h2.kit ei b'.noR, q⟩
theorem pis_nil : PA X [] (tIss X.K []) := PA.imp pa_nil fun σ H Q ⟨_, _, _, q⟩ => q
theorem pis_cons (h : PE X e (tIs X.K D)) (r : PA X es (tIss X.K Ds)) (hs : starEach (e :: es) X.env = (false, eval e X.env) :: starEach es X.env := by rfl) : PA X (e :: es) (tIss X.K (D :: Ds)) :=
  PA.imp (pa_cons h r hs) fun σ H Q ⟨C, b, h0, q⟩ => ⟨C, b, h0, C, b, h0, q⟩
/-- .. of a built-in class -/
theorem pe_isT {t : String} (hm : PySem.W.kitMeta t = true) (hi : X.mg "isinstance" = none) (hn : X.mg nm = none) (hb : bootBuiltins nm = some (.type t)) (hg : Gl X nm) (hg2 : Gl X "isinstance") (v0 : PE X (.Name o q1) (tVar 0)) (hdb : (nm == ("__debug__" : Str)) = false := by decide)
    (hnn : nm ≠ "__name__" := by decide) (hs : starEach [Expr.Name o q1, .Name nm p2] X.env = (false, eval (.Name o q1) X.env) :: starEach [.Name nm p2] X.env := by rfl) (hs2 : starEach [Expr.Name nm p2] X.env = (false, eval (.Name nm p2) X.env) :: starEach [] X.env := by rfl) :
    PE X (.Call (.Name "isinstance" p1) [.Name o q1, .Name nm p2] [] p3) (fun σ H Q => ∃ C b, Err0 X.K σ H C b ∧ Q (.bl (b.bm.contains (.type t))) H) :=
  PE.imp (pe_callB call_isX hg2 hi (by decide +kernel) (pa_cons v0 (pa_cons (pe_bltn (v := .ty t) hg hn hb rfl hnn hdb) pa_nil hs2) hs) (he := hs)) fun σ H Q ⟨C, b', ⟨a, fs, h0, h1, h2⟩, q⟩ =>
    ⟨_, h0, a, C, fs, _, _, .ty t, _, _, rfl, h1, h2, b'.hB, b'.hO, .ty t, h2.kitT hm, q⟩
end
end Fh
set_option Elab.async false
set_option linter.all false
set_option maxRecDepth 100000
set_option maxHeartbeats 4000000
namespace Fh
open PySem PySem.Spec PyProof.Rows L2
open PySem.W (Frag)

/-! ### found = found + [..] -/
def tGrowI (K : Frag) (Ds : List Addr) : TS := fun D σ H => ∃ (C : Addr) (b : BK) (a l : Addr) (fs : List (Str × V)) (xs : List V), σ = [some (.ref a), some (.ref l)] ∧ ErrAt H a C fs ∧ EK K C b ∧ H l = some (.lst xs) ∧ xs.length + Ds.length ≤ 1000 ∧
  ∀ l' H', Same H H' → H' l' = some (.lst (xs ++ Ds.map fun D => .bl (decide (C = D)))) → D.nx [some (.ref a), some (.ref l')] H'
theorem grow_I {K : Frag} {Ds : List Addr} (D : Ends) (σ : L2.St) (H : Hp) (h : tGrowI K Ds D σ H) : tAsg (tOp rCat (tVar 1) (tLst (tIss K Ds))) (gName 1) D σ H := by
  obtain ⟨C, b, a, l, fs, xs, rfl, he, ek, hl, hz, q⟩ := h
  have z1 : (Ds.map fun D => V.bl (decide (C = D))).length ≤ sizeLine := by
    rw [List.length_map, sizeLine_eq]
    omega
  refine ⟨_, rfl, C, b, ⟨a, fs, rfl, he, ek⟩, z1, fun p np => ?_⟩
  have s1 : Same H (upd H p (.lst (Ds.map fun D => V.bl (decide (C = D))))) := Same.new np
  refine ⟨l, p, xs, _, rfl, rfl, s1 _ _ hl, upd_same, ?_, fun p2 np2 => q p2 _ (Same.upd s1 np2) upd_same⟩
  rw [List.length_map, sizeLine_eq]
  omega
def tStartI (K : Frag) (Ds : List Addr) : TS := fun D σ H => ∃ (C : Addr) (b : BK) (a : Addr) (o : Option V) (fs : List (Str × V)), σ = [some (.ref a), o] ∧ ErrAt H a C fs ∧ EK K C b ∧ Ds.length ≤ 1000 ∧
  ∀ l' H', Same H H' → H' l' = some (.lst (Ds.map fun D => .bl (decide (C = D)))) → D.nx [some (.ref a), some (.ref l')] H'
theorem start_I {K : Frag} {Ds : List Addr} (D : Ends) (σ : L2.St) (H : Hp) (h : tStartI K Ds D σ H) : tAsg (tLst (tIss K Ds)) (gName 1) D σ H := by
  obtain ⟨C, b, a, o, fs, rfl, he, ek, hz, q⟩ := h
  refine ⟨C, b, ⟨a, fs, rfl, he, ek⟩, ?_, fun p np => q p _ (Same.new np) upd_same⟩
  rw [List.length_map, sizeLine_eq]
  omega
def tGrowD (N : Addr → Prop) (ds : List PyData) : TS := fun D σ H => ∃ (p l : Addr) (xs : List V) (cs : List PyData), σ = [some (.ref p), some (.ref l)] ∧ Kept N H ∧ H l = some (.lst xs) ∧ DAs N H xs cs ∧ cs.length + ds.length ≤ 1000 ∧
  ∀ l' ys H', Same H H' → H' l' = some (.lst ys) → DAs N H' ys (cs ++ ds) → D.nx [some (.ref p), some (.ref l')] H'
theorem grow_D {N : Addr → Prop} {ds : List PyData} (D : Ends) (σ : L2.St) (H : Hp) (h : tGrowD N ds D σ H) : tAsg (tOp rCat (tVar 1) (tLst (tDs N ds))) (gName 1) D σ H := by
  obtain ⟨p, l, xs, cs, rfl, kp, hl, da, hz, q⟩ := h
  refine ⟨_, rfl, kp, fun ys H1 s1 d1 => ⟨?_, fun p1 n1 => ?_⟩⟩
  · rw [d1.length, sizeLine_eq]
    omega
  refine ⟨l, p1, xs, ys, rfl, rfl, Same.upd s1 n1 _ _ hl, upd_same, ?_, fun p2 n2 => ?_⟩
  · rw [da.length, d1.length, sizeLine_eq]
    omega
  · have s2 := Same.upd (o := .lst ys) s1 n1
    have s3 := Same.upd (o := .lst (xs ++ ys)) s2 n2
    exact q p2 _ _ s3 upd_same ((DAs.same s3 da).append (DAs.same ((Same.new n1).trans (Same.new n2)) d1))
def tStartD (N : Addr → Prop) (ds : List PyData) : TS := fun D σ H => ∃ (p : Addr) (o : Option V), σ = [some (.ref p), o] ∧ Kept N H ∧ ds.length ≤ 1000 ∧
  ∀ l' ys H', Same H H' → H' l' = some (.lst ys) → DAs N H' ys ds → D.nx [some (.ref p), some (.ref l')] H'
theorem start_D {N : Addr → Prop} {ds : List PyData} (D : Ends) (σ : L2.St) (H : Hp) (h : tStartD N ds D σ H) : tAsg (tLst (tDs N ds)) (gName 1) D σ H := by
  obtain ⟨p, o, rfl, kp, hz, q⟩ := h
  refine ⟨kp, fun ys H1 s1 d1 => ⟨?_, fun p1 n1 => q p1 ys _ (Same.upd s1 n1) upd_same (DAs.same (Same.new n1) d1)⟩⟩
  rw [d1.length, sizeLine_eq]
  omega

/-! ### values that a law may ask anything of -/
def isDictD : PyData → Bool
  | .dict _ => true
  | _ => false
def okD (d : PyData) : Bool := d.showable && decide (d.depth ≤ 60) && decide (d.shown.length ≤ sizeLine) && ((SeqAt.shaped d && PyData.eqv d d) || isDictD d) && d.shown.cps.all (fun c => decide (c < 0x110000))
theorem okD_repr {d : PyData} (h : okD d = true) : d.showable = true ∧ d.depth ≤ 60 ∧ d.shown.length ≤ sizeLine := by
  unfold okD at h
  simp only [Bool.and_eq_true, decide_eq_true_eq] at h
  exact ⟨h.1.1.1.1, h.1.1.1.2, h.1.1.2⟩
theorem okD_lay {d : PyData} (h : okD d = true) : PyData.canLay0 (.str d.shown) = true := by
  unfold okD at h
  rw [Bool.and_eq_true] at h
  show PyData.canLay0 (.str d.shown) = true
  unfold PyData.canLay0
  exact h.2
theorem okD_same {N : Addr → Prop} {H : Hp} {x : V} {d : PyData} (h : okD d = true) (a : DA N H x d) : (∃ N d, DA N H x d ∧ SeqAt.shaped d = true ∧ PyData.eqv d d = true) ∨ ∃ a ks, x = .ref a ∧ H a = some (.dK ks) := by
  unfold okD at h
  simp only [Bool.and_eq_true, Bool.or_eq_true] at h
  rcases h.1.2 with z | z
  · exact Or.inl ⟨N, d, a, z.1, z.2⟩
  · cases a with
    | dK e _ _ => exact Or.inr ⟨_, _, rfl, e⟩
    | _ => exact nomatch z
/-- any of these, drawn -/
def spAny (ds : List PyData) : Sp := fun vs H Q _ => ∃ (p c : Addr) (n : Nat), vs = [.ref p] ∧ PenAt H p c n ∧ n ≤ 1000000 ∧
  ∀ (d : PyData) (x : V) (H' : Hp), d ∈ ds → DA (fun a => a = p) H' x d → PenAt H' p c (n + 1) → But p H H' → Q x H'
end Fh
set_option Elab.async false
set_option linter.all false
set_option maxRecDepth 100000
set_option maxHeartbeats 4000000
/-! FsA: a def of **names called with keywords, a class made so -/
namespace Fs
open PySem PySem.Spec PyProof.Rows L2
open PySem.W (Frag)

/-! ### the dict of the keywords -/
theorem kw_pairs {P : Program} {w : World} : ∀ (ex : List (Str × Value)) (t : Tok), Pairs (mixKind P w) (PySem.W.kwEs w.params t ex) (ex.map fun q => ((Sum.inr q.1 : Key), q.2))
  | [], _ => .nil
  | x :: r, t => .cons (keyIs_str x.1 t) rfl (kw_pairs r (t + 1))
theorem kw_nodup {α : Type} {ex : List (Str × α)} (hn : (ex.map (·.1)).Nodup) : ((ex.map fun q => ((Sum.inr q.1 : Key), q.2)).map (·.1)).Nodup := by
  rw [List.map_map]
  have e : (ex.map (·.1)).map (Sum.inr : Str → Key) = ex.map ((fun q : Key × α => q.1) ∘ fun q : Str × α => ((Sum.inr q.1 : Key), q.2)) := by rw [List.map_map]; rfl
  rw [← e]
  exact List.Pairwise.map _ (fun a b h q => h (Sum.inr.inj q)) hn
theorem kw_isDict {P : Program} {w : World} {h : Heap} {D : Addr} {ex : List (Str × Value)} (t : Tok) (n : Nat) (hn : (ex.map (·.1)).Nodup) (hD : h.get? D = some (PySem.W.dictOf (PySem.W.kwEs w.params t ex) n)) :
    h.DictOf (mixKind P w) D (ex.map fun q => ((Sum.inr q.1 : Key), q.2)) :=
  ⟨_, (PySem.W.kwEs w.params t ex).toArray, n, hD, ⟨rfl, rfl, rfl⟩, rfl, fun e he => by
    obtain ⟨k, u, hk, hh⟩ := PySem.W.kwEs_key ex t e (List.mem_toArray.mp he)
    exact ⟨.inr k, by rw [hk]; exact keyIs_str k u, hh.trans rfl⟩, kw_pairs ex t, kw_nodup hn⟩

section
variable {prog : Program} {w : World} {A : Around} {E : Value → Shared → Prop} {D : Addr}
theorem kw_set {s : Shared} {es : List DictEntry} {n : Nat} {k : Str} {v : Value} {Q : Unit → Shared → Prop} (hD : s.heap.get? D = some (PySem.W.dictOf es n))
    (hs : ∀ e ∈ es, e.key.isStr k = false) (hr : ∀ e ∈ es, e.refKey = false)
    (h : ∀ h', h'.get? D = some (PySem.W.dictOf (es ++ [⟨PyData.keyHash w.params k, .str k s.toks, v⟩]) (n + 1)) → (∀ b, b ≠ D → h'.get? b = s.heap.get? b) → h'.objs.size = s.heap.objs.size → Q () { s with heap := h', toks := s.toks + 1 }) :
    wpAny (model prog w) A (nsSet D k v) Q E s := by
  have e1 : es.any (·.key.isStr k) = false := by
    cases q : es.any (·.key.isStr k) with
    | false => rfl
    | true => obtain ⟨e, he, z⟩ := List.any_eq_true.mp q; rw [hs e he] at z; cases z
  have e2 : es.any (·.refKey) = false := by
    cases q : es.any (·.refKey) with
    | false => rfl
    | true => obtain ⟨e, he, z⟩ := List.any_eq_true.mp q; rw [hr e he] at z; cases z
  have e : Obj.putName k (PyData.keyHash w.params k) (.str k s.toks) v (PySem.W.dictOf es n) = PySem.W.dictOf (es ++ [⟨PyData.keyHash w.params k, .str k s.toks, v⟩]) (n + 1) := by
    rw [PySem.W.putName_dict, PySem.W.putL_new hs]
    show PySem.W.dictOf _ (if es.any (·.key.isStr k) then n else n + 1) = _
    rw [e1, if_neg Bool.false_ne_true]
  have c : aRefKeyMayBeTheName k es.toArray = false := by
    rw [aRefKeyMayBeTheName_at, ← Array.any_toList, ← Array.any_toList]
    show (!es.any (·.key.isStr k) && es.any (·.refKey)) = false
    rw [e2, Bool.and_false]
  unfold nsSet
  refine wpAny_bind (wpAny_bind (wpAny_askSetting (wpAny_pure (wpAny_bind (wpAny_mkText (wpAny_bind (wpAny_loadPart hD ?_)))))))
  dsimp only
  rw [c]
  refine wpAny_updatePart hD (h _ ?_ (fun b hb => Heap.get?_update_ne _ _ _ _ hb) (Heap.size_update _ _ _))
  exact e ▸ Heap.get?_update_self _ hD (e ▸ rfl)
theorem kw_fill {Q : PUnit → Shared → Prop} : ∀ (ex : List (Str × Value)) (s : Shared) (es : List DictEntry) (n : Nat), s.heap.get? D = some (PySem.W.dictOf es n) →
    (∀ e ∈ es, ∀ x ∈ ex, e.key.isStr x.1 = false) → (∀ e ∈ es, e.refKey = false) → (ex.map (·.1)).Nodup →
    (∀ h', h'.get? D = some (PySem.W.dictOf (es ++ PySem.W.kwEs w.params s.toks ex) (n + ex.length)) → (∀ b, b ≠ D → h'.get? b = s.heap.get? b) → h'.objs.size = s.heap.objs.size → Q ⟨⟩ { s with heap := h', toks := s.toks + ex.length }) →
    wpAny (model prog w) A (forIn ex PUnit.unit fun x _ => (nsSet D x.1 x.2 >>= fun _ => pure (ForInStep.yield PUnit.unit))) Q E s
  | [], s, es, n, hD, _, _, _, h => by
    rw [List.forIn_nil]
    refine wpAny_pure (h s.heap ?_ (fun _ _ => rfl) rfl)
    show s.heap.get? D = some (PySem.W.dictOf (es ++ []) n)
    rw [List.append_nil]
    exact hD
  | x :: r, s, es, n, hD, hs, hr, hn, h => by
    obtain ⟨hn1, hn2⟩ := List.nodup_cons.mp (show (x.1 :: r.map (·.1)).Nodup from hn)
    rw [List.forIn_cons]
    refine wpAny_bind (wpAny_bind (kw_set hD (fun e he => hs e he x (.head _)) hr fun h' hD' hb hz => wpAny_pure ?_))
    show wpAny (model prog w) A (forIn r PUnit.unit fun x _ => (nsSet D x.1 x.2 >>= fun _ => pure (ForInStep.yield PUnit.unit))) Q E { s with heap := h', toks := s.toks + 1 }
    refine kw_fill r { s with heap := h', toks := s.toks + 1 } _ _ hD' (fun e he y hy => ?_) (fun e he => ?_) hn2 fun h'' hD'' hb' hz' => ?_
    · rcases List.mem_append.mp he with he | he
      · exact hs e he y (.tail _ hy)
      · obtain rfl := List.mem_singleton.mp he
        show (x.1 == y.1) = false
        exact beq_eq_false_iff_ne.mpr fun q => hn1 (by rw [q]; exact List.mem_map_of_mem hy)
    · rcases List.mem_append.mp he with he | he
      · exact hr e he
      · obtain rfl := List.mem_singleton.mp he
        rfl
    · have t1 : s.toks + 1 + r.length = s.toks + (r.length + 1) := by omega
      have t2 : n + 1 + r.length = n + (r.length + 1) := by omega
      show Q ⟨⟩ { s with heap := h'', toks := s.toks + 1 + r.length }
      rw [t1]
      refine h h'' ?_ (fun b q => (hb' b q).trans (hb b q)) (hz'.trans hz)
      rw [t2, List.append_assoc] at hD''
      exact hD''
end

/-! ### a def of **nm -/
def FnKw (P : Program) (w : World) (K : Frag) (mg : Str → Option Value) (base : Heap) (CX : CXT) (k : Nat) (f : Addr) (ks : List Str) (sp : Sp) : Prop :=
  ∀ (A : Around) (outer : List Env) (s : Shared) (H : Hp) (us ws : List Value) (vs zs : List V) (Q : VK) (E : XK), Room k A → Env0 P w K mg base A outer s H → Vals vs us → Vals zs ws → zs.length = ks.length → sp (vs ++ zs) H Q E →
    codeAny (model P w) A (.call (.ref f) ⟨us, ks.zip ws⟩) (CR CX outer P w H s Q E) s
def kwD (ks : List Str) (zs : List V) : List (Key × V) := (ks.zip zs).map fun q => (.inr q.1, q.2)
def spKw (ks : List Str) (sp : Sp) : Sp := fun vs H Q E => ∃ x zs, vs = x :: zs ∧ zs.length = ks.length ∧ ∀ d, H d = none → sp [x, .ref d] (upd H d (.dK (kwD ks zs))) Q E
theorem kv_zip : ∀ {ks : List Str} {zs : List V} {ws : List Value}, Vals zs ws → KV (kwD ks zs) ((ks.zip ws).map fun q => ((Sum.inr q.1 : Key), q.2))
  | [], _, _, _ => .nil
  | _ :: _, [], [], .nil => .nil
  | k :: ks, z :: zs, u :: ws, .cons h r => .cons ⟨rfl, h⟩ (kv_zip (ks := ks) r)
theorem zip_fst {α : Type} : ∀ {ks : List Str} {ws : List α}, ws.length = ks.length → (ks.zip ws).map (·.1) = ks
  | [], [], _ => rfl
  | k :: ks, u :: ws, h => by
    show k :: (ks.zip ws).map (·.1) = k :: ks
    rw [zip_fst (Nat.succ.inj h)]
section
variable {CX : CXT} {P : Program} {w : World} {K : Frag} {mg : Str → Option Value} {base : Heap} {k : Nat} {f : Addr} {name qual : Str} {params : Arguments} {body : List Stmt} {scope : Scope} {dV kV doc pm cdv ct oc : Value} {an od : Option Addr}
  {osl : Array (Option Value)} {N ks : List Str} {sp : Sp} {nm sf : Str}
/-- a new object and what was made of it, tracked ahead of a def's body -/
theorem env0_grown {A : Around} {outer : List Env} {s : Shared} {H : Hp} {h' : Heap} {t' : Nat} {u : HO} (e0 : Env0 P w K mg base A outer s H) (kp : ∀ b x, s.heap.get? b = some x → h'.get? b = some x) (sz : s.heap.objs.size ≤ h'.objs.size)
    (new : ObjOk P w (upd H s.heap.objs.size u) h' s.heap.objs.size u) : Env0 P w K mg base A outer { s with heap := h', toks := t' } (upd H s.heap.objs.size u) := by
  refine ⟨e0.frames, e0.mod, fun b x e => ⟨kp b x (e0.bs b x e).1, ?_⟩, Nat.le_trans e0.bsz sz, Heap.FunFrames.of_keeps (fun b x e _ => ⟨x, kp b x e, rfl⟩) e0.funs, fun b hb => ?_, e0.hok.laid kp (Nat.le_refl _) new, e0.bare⟩
  · rw [upd_ne (Nat.ne_of_lt (Heap.lt_size (e0.bs b x e).1))]
    exact (e0.bs b x e).2
  · obtain ⟨_, x, hx, _⟩ := e0.funs.mem hb
    rw [upd_ne (Nat.ne_of_lt (Heap.lt_size hx))]
    exact e0.frf b hb
theorem fn_kwd (lk : K.lookup f = some ⟨oc, od, .func (PySem.W.fnOf name qual params body scope dV kV doc pm an cdv ct), osl⟩) (hcd : PySem.W.codeIn K cdv qual = true) (S : FnScope N [sf, nm] scope) (hCX : StX.CXUp CX) (hk : ks.Nodup) (hz : ks.length ≤ sizeLine)
    (hb : ∀ (x : Value) (ws : List Value), ws.length = ks.length → bindArgs (PySem.W.fnOf name qual params body scope dV kV doc pm an cdv ct) ⟨[x], ks.zip ws⟩ =
      ((alloc ({ cls := .type "dict", data := .dict #[] } : Obj) : Sem Addr) >>= fun D => forIn (ks.zip ws) PUnit.unit (fun x _ => (nsSet D x.1 x.2 >>= fun _ => pure (ForInStep.yield PUnit.unit))) >>= fun _ => pure [(sf, x), (nm, Value.ref D)]))
    (hbody : ∀ (A : Around) (outer : List Env) (s : Shared) (H : Hp) (vs : List V) (Q : VK) (E : XK), Room k (A.deeper (envOfC qual scope s.heap.objs.size f cdv)) → sp vs H Q E →
      ∃ t, PSs (cxOf CX P w K mg base N qual scope f cdv A outer s H E) body t ∧ t { nx := fun _ H' => Q .non H', rt := Q } (start N vs) H) :
    FnKw P w K mg base CX (k + 1) f ks (spKw ks sp) := by
  intro A outer s H us ws vs zs Q E hr e0 r rz hl hsp
  obtain ⟨x, zs', ev, hl', hq⟩ := hsp
  have e1 : ∃ u, us = [u] ∧ vs = [x] ∧ zs = zs' ∧ RelV x u := by
    have n1 : (vs ++ zs).length = (x :: zs').length := by rw [ev]
    rw [List.length_append, List.length_cons, hl, hl'] at n1
    have n2 : vs.length = 1 := by omega
    match vs, us, r, n2 with
    | [y], [u], .cons hy .nil, _ =>
      have e : y :: zs = x :: zs' := ev
      injection e with e1 e2
      subst e1 e2
      exact ⟨u, rfl, rfl, rfl, hy⟩
  obtain ⟨u, rfl, rfl, rfl, hx⟩ := e1
  have hlw : ws.length = ks.length := rz.length.symm.trans hl
  have hn : H s.heap.objs.size = Option.none := e0.hok.fresh (Nat.le_refl _)
  refine StX.run_bnd lk hcd S hr e0 (G := fun xs H2 => ∃ d, H d = Option.none ∧ xs = [x, V.ref d] ∧ H2 = upd H d (.dK (kwD ks zs))) (fun A' Ex Q' h => ?_) fun s2 H2 xs ⟨d, hd, ex, eH⟩ hr' => ?_
  · rw [hb u ws hlw]
    refine wpAny_bind (wpAny_alloc (wpAny_bind (kw_fill (D := s.heap.objs.size) (ks.zip ws) { s with heap := s.heap.push ({ cls := .type "dict", data := .dict #[] } : Obj) } [] 0 (Heap.get?_push_size _ rfl) (fun _ he => nomatch he) (fun _ he => nomatch he)
      (by rw [zip_fst hlw]; exact hk) fun h' hD hkeep hsz => wpAny_pure ?_)))
    have kp : ∀ b x, s.heap.get? b = some x → h'.get? b = some x := fun b x e => (hkeep b (Nat.ne_of_lt (Heap.lt_size e))).trans (Heap.get?_push_of_some _ e)
    have sz : s.heap.objs.size ≤ h'.objs.size := by
      rw [hsz]
      show _ ≤ (s.heap.push _).objs.size
      rw [Heap.size_push]
      exact Nat.le_succ _
    have new : ObjOk P w (upd H s.heap.objs.size (.dK (kwD ks zs))) h' s.heap.objs.size (.dK (kwD ks zs)) := by
      refine ⟨?_, beq_eq_false_iff_ne.mpr (Nat.ne_of_gt (StX.env0_big e0)), _, kv_zip rz, kw_isDict s.toks _ (by rw [zip_fst hlw]; exact hk) hD⟩
      unfold kwD
      rw [List.length_map, List.length_zip, hl, Nat.min_self]
      exact hz
    have un : Un (frs outer) [] H (upd H s.heap.objs.size (.dK (kwD ks zs))) s.heap h' := Un.laid kp (Nat.le_refl _) hn
    exact h { s with heap := h', toks := s.toks + (ks.zip ws).length } _ [x, V.ref s.heap.objs.size] [u, Value.ref s.heap.objs.size] (env0_grown e0 kp sz new) un rfl (fun e s' => hCX outer s H _ _ E e s' un kp rfl) (.cons hx (.cons rfl .nil)) rfl ⟨_, hn, rfl, rfl⟩
  · subst ex eH
    exact hbody A outer s2 _ _ Q E hr' (hq d hd)
end

/-! ### a class whose __init__ is such a def -/
section
variable {X : Cx} {CX : CXT} {k n : Nat} {f C : Addr} {ks : List Str} {sp : Sp} {E : XK} {x : Str} {p pos : Pos} {kws : List Keyword} {tk : TA}
theorem run_makeW {pins : List (Addr × Obj)} {σ : L2.St} {H : Hp} {s : Shared} {Q : VK} {ws : List Value} {zs : List V} (M : Mk X.K C f) (F : FnKw X.prog X.w X.K X.mg X.base CX k f ks sp) (hr : Room (k + 1) X.A) (hx : Passes CX X E)
    (I : Inv X pins σ H s) (rz : Vals zs ws) (l2 : zs.length = ks.length)
    (h : ∀ x dx, H x = none → H dx = none → dx ≠ x → sp (.ref x :: zs) (upd (upd H dx (.own x)) x (.ins C dx [])) (fun v H2 => v = .non ∧ Q (.ref x) H2) E) :
    wpAny (model X.prog X.w) X.A (call (.ref C) [] (ks.zip ws)) (EP X pins σ Q) X.xe s := by
  have hq := h (s.heap.objs.size + 1) s.heap.objs.size (I.hok.fresh (Nat.le_succ _)) (I.hok.fresh (Nat.le_refl _)) (Nat.ne_of_lt (Nat.lt_succ_self _))
  have I2 := Inv.made (C := C) I
  refine wpAny_call (make_map (f := f) I.kIn M.makes M.init (beq_iff_eq.mp M.fn) (codeAny_mono (F _ X.stack _ _ [Value.ref (s.heap.objs.size + 1)] ws [V.ref (s.heap.objs.size + 1)] zs _ E (hr.make C [] (ks.zip ws))
    (I2.env0.make C [] (ks.zip ws)) (.cons rfl .nil) rz l2 hq) fun r s' hq' => ?_))
  cases r with
  | error e => exact hx pins σ _ _ e s' I2 hq'
  | ok fl =>
    cases fl with
    | ret u =>
      obtain ⟨v, H', I3, rv, ev, q3⟩ := I2.after hq'
      subst ev
      exact ⟨rv, ⟨V.ref (s.heap.objs.size + 1), H', I3, rfl, q3⟩⟩
    | next => exact False.elim hq'
    | brk => exact False.elim hq'
    | cont => exact False.elim hq'
def tMakeW (C : Addr) (m : Nat) (sp : Sp) (E : XK) (tk : TA) : TE := fun σ H Q => tk σ H fun zs H2 => zs.length = m ∧ ∀ x dx, H2 x = none → H2 dx = none → dx ≠ x →
  sp (.ref x :: zs) (upd (upd H2 dx (.own x)) x (.ins C dx [])) (fun v H3 => v = .non ∧ Q (.ref x) H3) E
/-- C(k = v, ..), C a name of the module -/
theorem pe_makeW (M : Mk X.K C f) (F : FnKw X.prog X.w X.K X.mg X.base CX k f ks sp) (hr : Room (k + 1) X.A) (hg : Gl X x) (hm : X.mg x = some (.ref C)) (hx : Passes CX X E) (hkw : PK X kws tk)
    (hall : (backToKw pos (keywordEach kws X.env)).all (·.1.isSome) = true := by rfl) (hks : (backToKw pos (keywordEach kws X.env)).filterMap (·.1) = ks := by rfl) (hdb : (x == ("__debug__" : Str)) = false := by decide)
    (hpl : ((backTo pos (starEach [] X.env)).any (·.1) || (backToKw pos (keywordEach kws X.env)).any (·.1.isNone)) = false := by rfl) :
    PE X (.Call (.Name x p) [] kws pos) (tMakeW C ks.length sp E tk) := by
  refine ⟨fun pins s σ H Q I h => ?_⟩
  refine wpAny_Call_Name_kw (ld_glob I hg hm ?_ hdb)
  refine PySem.W.callWith_KW0 (h₀ := X.base) I.ok.mod.kin M.kp hall ?_ hpl
  refine thn (hkw.run pos pins s σ H _ I h) fun ws s2 ⟨zs, H2, I2, rz, l2, q2⟩ => ⟨I2.kIn, ?_⟩
  rw [hks]
  exact run_makeW M F hr hx I2 rz l2 q2
end
end Fs
set_option Elab.async false
set_option linter.all false
set_option maxRecDepth 100000
set_option maxHeartbeats 4000000
/-! FsB: own ==, !=, [], operators of instances -/
namespace PySem
namespace FsX
open Builtin
section
variable {prog : Program} {w : World} {A : Around} {E : Value → Shared → Prop} {s : Shared} {K : PySem.W.Frag} {x C f : Addr} {ox : Obj} {od : Option Obj} {b tb : Value}
theorem slot_check {M : Model} {id owner n : String} {rest : List Value} {Q : Unit → Shared → Prop} (hk : builtinKind id = some .slot) (hs : splitId id = some (owner, n)) (ha : argsOk id ⟨.ref x :: rest, []⟩)
    (X : K.In s.heap) (I : PySem.W.InstAt s.heap x ox C od) (hob : PySem.W.subIn K (.ref C) (.type owner) = some true) (hq : Q () s) : wpAny M A (checkBuiltinCall id ⟨.ref x :: rest, []⟩) Q E s := by
  simp only [checkBuiltinCall, hk, hs]
  refine wpAny_bind ?_
  unfold isInstance
  refine wpAny_bind (I.type.here ?_)
  refine (PySem.W.looks_subIn X hob).here ?_
  simp only [Bool.not_true, Bool.false_eq_true, if_false]
  cases hsig : Manifest.signature? id with
  | none => exact wpAny_pure hq
  | some sig =>
    simp only [argsOk, hsig] at ha
    have h2 : Bind.checkArgs id sig ⟨.ref x :: rest, []⟩ = pure () := ha
    show wpAny M A (Bind.checkArgs id sig ⟨.ref x :: rest, []⟩) Q E _
    rw [h2]; exact wpAny_pure hq
theorem objNe_K (hu : A.units < cLine) (X : K.In s.heap) (I : PySem.W.InstAt s.heap x ox C od) (hs : PySem.W.findIn K (.ref C) "__eq__" = some (some (.ref f))) (hf : PySem.W.isFn K (.ref f) = true) {Q : Fin → Shared → Prop}
    (hcall : wpAny (model prog w) A (call (.ref f) [.ref x, b]) (fun v s' => ∃ c, v = .bool c ∧ Q (.done (.ret (.bool (!c)))) s') E s) :
    wpAny (model prog w) A (Builtin.«object.__ne__» ⟨[.ref x, b], []⟩) Q E s := by
  obtain ⟨h, g, d, t, os⟩ := s
  unfold Builtin.«object.__ne__»
  repeat (first
    | with_reducible refine wpAny_cRoomFor hu ?_
    | (refine wpAny_bind (m := callSpecialIfBound? (.ref x) (Str.ofString "__eq__") [b])
        (PySem.W.ifBound_K X I hs hf (wpAny_mono hcall (fun r s' hr => by
          obtain ⟨c, rfl, hq⟩ := hr
          repeat (first | exact hq | exact wpAny_pure hq | exact wpAny_truthy_bool hq | (refine wpAny_bind (m := truthy (.bool _)) (wpAny_truthy_bool ?_)) | wp_step)) fun _ _ e => e)))
    | wp_step)
theorem tryNe_K (hu : A.units + 1 < cLine) (X : K.In s.heap) (I : PySem.W.InstAt s.heap x ox C od) (hs : PySem.W.findIn K (.ref C) "__eq__" = some (some (.ref f))) (hf : PySem.W.isFn K (.ref f) = true)
    (hn : PySem.W.findIn K (.ref C) "__ne__" = some (some (.builtin "object.__ne__"))) (hob : PySem.W.subIn K (.ref C) (.type "object") = some true) {Q : Option Value → Shared → Prop}
    (hcall : wpAny (model prog w) A.in1 (call (.ref f) [.ref x, b]) (fun v s' => ∃ c, v = .bool c ∧ Q (some (.bool (!c))) s') E s) :
    wpAny (model prog w) A (tryCompare (.ref x) "__ne__" b) Q E s := by
  simp only [tryCompare, callSpecialIfBound?, bindSpecialIfBound?]
  refine wpAny_bind (wpAny_holding (wpAny_bind (wpAny_bind (wpAny_bind (I.type.here ((PySem.W.looks_findIn X hn).here ?_))))))
  have S := F.cmp_object.ne
  simp only [S.bind]
  refine wpAny_bind (wpAny_askSetting (wpAny_ite ?_))
  have go : wpAny (model prog w) A (call (.builtin "object.__ne__") ([.ref x] ++ [b])) (fun v s' => ∃ c, v = .bool c ∧ Q (some (.bool c)) s') E s :=
    wpAny_call (codeAny_call_builtin S.plain F.cmpEntry_ne (slot_check F.cmpKind_ne F.cmpSplit_ne (F.cmpArgs_ne _ _) X I hob
      (objNe_K (A := A.in1) hu X I hs hf (wpAny_mono hcall (fun v s' hv => by
        obtain ⟨c, rfl, hq⟩ := hv
        first | exact ⟨c, rfl, !c, rfl, hq⟩ | exact ⟨c, rfl, ⟨!c, rfl, hq⟩⟩) fun _ _ e => e))))
  have fin : wpAny (model prog w) A (call (.builtin "object.__ne__") ([.ref x] ++ [b]) >>= fun v => pure (some v)) (fun r s' => ∃ c, r = some (.bool c) ∧ Q (some (.bool c)) s') E s :=
    wpAny_bind (wpAny_mono go (fun v s' ⟨c, e, hq⟩ => wpAny_pure ⟨c, by rw [e], hq⟩) fun _ _ e => e)
  have fin2 : wpAny (model prog w) A (call (.builtin "object.__ne__") ([.ref x] ++ [b]) >>= fun v => pure (some v)) (fun a s' => wpAny (model prog w) A (match a with | some .notImplemented | none => pure none | some v => pure (some v)) Q E s') E s :=
    wpAny_mono fin (fun r s' ⟨c, e, hq⟩ => by subst e; exact wpAny_pure hq) fun _ _ e => e
  split
  · exact wpAny_bind (wpAny_pure (wpAny_pure fin2))
  · exact wpAny_tryCatch (wpAny_bind (wpAny_pure (wpAny_pure fin2)))
theorem cmpNe_K {Q : Value → Shared → Prop} (hu : A.units + 1 < cLine) (X : K.In s.heap) (I : PySem.W.InstAt s.heap x ox C od) (hb : PySem.W.Looks (model prog w) s.heap (typeOf b) tb) (hn : PySem.W.notFirst K C tb = true)
    (hs : PySem.W.findIn K (.ref C) "__eq__" = some (some (.ref f))) (hf : PySem.W.isFn K (.ref f) = true) (hne : PySem.W.findIn K (.ref C) "__ne__" = some (some (.builtin "object.__ne__"))) (hob : PySem.W.subIn K (.ref C) (.type "object") = some true)
    (hcall : wpAny (model prog w) A.in1 (call (.ref f) [.ref x, b]) (fun v s' => ∃ c, v = .bool c ∧ Q (.bool (!c)) s') E s) : wpAny (model prog w) A (richCompare .NotEq (.ref x) b) Q E s := by
  have one : wpAny (model prog w) A (tryCompare (.ref x) "__ne__" b) (fun r s' => ∃ v, r = some v ∧ Q v s') E s :=
    tryNe_K hu X I hs hf hne hob (wpAny_mono hcall (fun v s' ⟨c, e, hq⟩ => ⟨c, e, _, rfl, hq⟩) fun _ _ e => e)
  unfold richCompare
  simp only [oneThing_ref]
  refine wpAny_holding (wpAny_bind (wpAny_cRoomFor (Nat.lt_of_succ_lt hu) ?_))
  rw [cmpInfo_NotEq]
  dsimp only
  refine wpAny_bind (I.type.here (wpAny_bind (hb.here ?_)))
  split
  · rename_i q
    have e : PySem.W.subIn K tb (.ref C) = some false := by
      rcases Bool.or_eq_true_iff.mp hn with e | e
      · rw [beq_iff_eq.mp e] at q; simp at q
      · exact beq_iff_eq.mp e
    refine wpAny_bind ((PySem.W.looks_subIn X e).here ?_)
    simp only [Bool.false_eq_true, if_false]
    refine wpAny_bind (wpAny_mono one (fun r s' z => ?_) fun _ _ e => e)
    obtain ⟨v, rfl, hq⟩ := z
    exact wpAny_pure hq
  · refine wpAny_bind (wpAny_pure ?_)
    simp only [Bool.false_eq_true, if_false]
    refine wpAny_bind (wpAny_mono one (fun r s' z => ?_) fun _ _ e => e)
    obtain ⟨v, rfl, hq⟩ := z
    exact wpAny_pure hq
end
end FsX
end PySem
set_option Elab.async false
set_option linter.all false
set_option maxRecDepth 100000
set_option maxHeartbeats 4000000
/-! FsC: own ==, !=, [], operators of instances, over the layer -/
namespace Fs
open PySem PySem.Spec PyProof.Rows L2
open PySem.W (Frag)
section
variable {X : Cx} {CX : CXT} {k n : Nat} {g C : Addr} {sp : Sp} {E : XK} {a b : Expr} {pos : Pos} {ta tb : TE}
/-- o[y], o an instance of the class at C with its own __getitem__ -/
def rGetO (C : Addr) (sp : Sp) (E : XK) : R2 := fun x y H Q => ∃ a dx fs, x = .ref a ∧ H a = some (.ins C dx fs) ∧ sp [x, y] H Q E
theorem pe_ixO (hs : PySem.W.findIn X.K (.ref C) "__getitem__" = some (some (.ref g))) (hg : PySem.W.fnIn X.K g = true) (hf : PySem.W.isFn X.K (.ref g) = true) (F : FnR X.prog X.w X.K X.mg X.base CX k g sp) (hr : Room (k + 1) X.A) (hx : Passes CX X E)
    (ha : PE X a ta) (hb : PE X b tb) (hsl : ∀ o i, subscripted b true o i = runValue (.builtin "lifetime.subscript" ⟨[o, i], []⟩) := by intro _ _; with_unfolding_all rfl) : PE X (.Subscript a b pos) (tOp (rGetO C sp E) ta tb) := by
  refine ⟨fun pins s σ H Q I h => ?_⟩
  refine Subscript_ (thn (ha.run pins s σ H _ I h) fun u s1 ⟨x, H1, I1, rx, q1⟩ => thn (hb.run pins s1 σ H1 _ I1 q1) fun iv s2 ⟨y, H2, I2, ry, a', dx, fs, ex, ea, q2⟩ => ?_)
  subst ex
  obtain rfl : u = Value.ref a' := rx
  obtain ⟨mA, O, _, _, _, _⟩ := ins_get I2.hok ea
  obtain ⟨od, J, _⟩ := O.look
  obtain ⟨m, hF⟩ := I2.fr
  refine PySem.W.sub_K hF I2.ok.mod.kin J hs hg hf (wpAny_call (SlX.run_at (us := [.ref a', iv]) (ws := [.ref a', y]) F hr.in1 I2.env0.in1 hx I2 (.cons rfl (.cons ry .nil)) q2)) (hsl _ _)
/-- the type of the right operand is not one below C -/
def Oth (K : Frag) (C : Addr) (H : Hp) (y : V) : Prop := (∃ b dy ys, y = .ref b ∧ H b = some (.ins C dy ys)) ∨ ∃ b kvs, y = .ref b ∧ H b = some (.dK kvs) ∧ PySem.W.notFirst K C (.type "dict") = true
theorem Oth.looks {K : Frag} {pins : List (Addr × Obj)} {s : Shared} {σ : L2.St} {H : Hp} {y : V} {u : Value} (o : Oth K C H y) (I : Inv X pins σ H s) (ry : RelV y u) :
    ∃ tb, PySem.W.Looks (model X.prog X.w) s.heap (typeOf u) tb ∧ PySem.W.notFirst K C tb = true := by
  rcases o with ⟨b, dy, ys, rfl, eb⟩ | ⟨b, kvs, rfl, eb, hn⟩
  · obtain rfl : u = Value.ref b := ry
    obtain ⟨mA, O, _, _, _, _⟩ := ins_get I.hok eb
    obtain ⟨od, J, _⟩ := O.look
    exact ⟨.ref C, J.type, by unfold PySem.W.notFirst; simp⟩
  · obtain rfl : u = Value.ref b := ry
    obtain ⟨_, _, vs, _, ob, es, ep, h1, h2, _⟩ := dk_of I.hok eb
    refine ⟨.type "dict", ?_, hn⟩
    have e := (PySem.W.Looks.ld (M := model X.prog X.w) (part := none) h1).andThen (f := fun o => pure o.cls) .now
    intro A Q E s k q
    refine wpAny_typeOf_ref (k _ _ h1) ?_
    rw [h2.1]
    exact q
/-- x == y -/
def rEqO (K : Frag) (C : Addr) (sp : Sp) (E : XK) : R2 := fun x y H Q => ∃ a dx fs, x = .ref a ∧ H a = some (.ins C dx fs) ∧ Oth K C H y ∧ sp [x, y] H Q E
theorem op_eqO (hs : PySem.W.findIn X.K (.ref C) "__eq__" = some (some (.ref g))) (hf : PySem.W.isFn X.K (.ref g) = true) (F : FnR X.prog X.w X.K X.mg X.base CX n g sp) (hr : Room n X.A) (hx : Passes CX X E) : OpR X (compareOp .Eq) (rEqO X.K C sp E) := by
  intro pins s σ H x y v u Q I rx ry h
  obtain ⟨a, dx, fs, rfl, ea, o, q⟩ := h
  cases (show v = Value.ref a from rx)
  obtain ⟨mA, O, _, _, _, _⟩ := ins_get I.hok ea
  obtain ⟨od, J, _⟩ := O.look
  obtain ⟨m, hF⟩ := I.fr
  obtain ⟨tb, ht, hn⟩ := o.looks I ry
  show wpAny _ _ (richCompare .Eq _ _) _ _ _
  refine PySem.W.cmp_K (op := .Eq) (tb := tb) hr.units0 hF I.ok.mod.kin J ht hn hs hf ?_
  refine wpAny_mono (wpAny_call (run_fnR (us := [.ref a, u]) (vs := [.ref a, y]) F hr hx I (.cons rfl (.cons ry .nil)) q)) (fun w s' z => ?_) fun _ _ x => x
  obtain ⟨z', H', I', rz, qz⟩ := z
  exact SlX.cmpback rz ⟨z', H', I', rz, qz⟩
/-- x != y by the own ==: the other answer -/
def rNeO (K : Frag) (C : Addr) (sp : Sp) (E : XK) : R2 := fun x y H Q => ∃ a dx fs, x = .ref a ∧ H a = some (.ins C dx fs) ∧ Oth K C H y ∧ sp [x, y] H (fun v H' => ∃ c, v = .bl c ∧ Q (.bl (!c)) H') E
theorem op_neO (hs : PySem.W.findIn X.K (.ref C) "__eq__" = some (some (.ref g))) (hf : PySem.W.isFn X.K (.ref g) = true) (hne : PySem.W.findIn X.K (.ref C) "__ne__" = some (some (.builtin "object.__ne__"))) (hob : PySem.W.subIn X.K (.ref C) (.type "object") = some true)
    (F : FnR X.prog X.w X.K X.mg X.base CX n g sp) (hr : Room (n + 1) X.A) (hx : Passes CX X E) : OpR X (compareOp .NotEq) (rNeO X.K C sp E) := by
  intro pins s σ H x y v u Q I rx ry h
  obtain ⟨a, dx, fs, rfl, ea, o, q⟩ := h
  cases (show v = Value.ref a from rx)
  obtain ⟨mA, O, _, _, _, _⟩ := ins_get I.hok ea
  obtain ⟨od, J, _⟩ := O.look
  obtain ⟨tb, ht, hn⟩ := o.looks I ry
  show wpAny _ _ (richCompare .NotEq _ _) _ _ _
  refine PySem.FsX.cmpNe_K (by have := hr.un; omega) I.kIn J ht hn hs hf hne hob ?_
  refine wpAny_mono (wpAny_call (SlX.run_at (us := [.ref a, u]) (ws := [.ref a, y]) F hr.in1 I.env0.in1 hx I (.cons rfl (.cons ry .nil)) q)) (fun w s' z => ?_) fun _ _ x => x
  obtain ⟨z', H', I', rz, c, ec, qz⟩ := z
  subst ec
  cases (show w = Value.bool c from rz)
  exact ⟨c, rfl, .bl (!c), H', I', rfl, qz⟩
/-- x op y, both of the class at C -/
def rBinO (C : Addr) (sp : Sp) (E : XK) : R2 := fun x y H Q => ∃ a dx fs b dy ys, x = .ref a ∧ y = .ref b ∧ H a = some (.ins C dx fs) ∧ H b = some (.ins C dy ys) ∧ sp [x, y] H Q E
theorem op_binO {op : Operator} (hc : PySem.W.selfFirst X.K C = true) (hs : PySem.W.findIn X.K (.ref C) (PySem.dunder op.info.2) = some (some (.ref g))) (hf : PySem.W.isFn X.K (.ref g) = true) (F : FnR X.prog X.w X.K X.mg X.base CX n g sp) (hr : Room n X.A) (hx : Passes CX X E) :
    OpR X (binaryOp op) (rBinO C sp E) := by
  intro pins s σ H x y v u Q I rx ry h
  obtain ⟨a, dx, fs, b, dy, ys, rfl, rfl, ea, eb, q⟩ := h
  cases (show v = Value.ref a from rx)
  cases (show u = Value.ref b from ry)
  obtain ⟨mA, O, _, _, _, _⟩ := ins_get I.hok ea
  obtain ⟨od, J, _⟩ := O.look
  obtain ⟨mB, O2, _, _, _, _⟩ := ins_get I.hok eb
  obtain ⟨od2, J2, _⟩ := O2.look
  obtain ⟨m, hF⟩ := I.fr
  refine PySem.W.binop_K (op := op) hF I.ok.mod.kin J J2.type hc hs hf ?_
  refine wpAny_mono (wpAny_call (run_fnR (us := [.ref a, .ref b]) (vs := [.ref a, .ref b]) F hr hx I (.cons rfl (.cons rfl .nil)) q)) (fun w s' z => ?_) fun _ _ x => x
  obtain ⟨z', H', I', rz, qz⟩ := z
  exact SlX.cmpback rz ⟨z', H', I', rz, qz⟩
end

/-! ### calls: a local name that holds a class, a classmethod by keywords -/
theorem FnKw.of_fn {P : Program} {w : World} {K : Frag} {mg : Str → Option Value} {base : Heap} {CX : CXT} {k n : Nat} {f : Addr} {fd : FuncData} {ps ks : List Str} {sp : Sp} (F : FnOk P w K mg base CX k f fd ps sp)
    (hb : KBn K fd ps n ks (fun us ws => us ++ ws) (fun vs zs => vs ++ zs)) (hp : ps.length = n + ks.length) : FnKw P w K mg base CX k f ks sp := by
  intro A outer s H us ws vs zs Q E hr e0 r rz hl hsp
  have l1 := F.len _ _ _ _ hsp
  rw [List.length_append, hp, hl] at l1
  have l2 : us.length = n := by rw [← r.length]; omega
  exact F.run A outer s H ⟨us, ks.zip ws⟩ (us ++ ws) (vs ++ zs) Q E hr e0 (hb.to s us ws (e0.mod.kin.keeps fun b o e => (e0.bs b o e).1) l2 (rz.length.symm.trans hl)) (r.append rz) hsp
section
variable {X : Cx} {CX : CXT} {k i : Nat} {f C p g : Addr} {mc : Value} {ks : List Str} {sp : Sp} {E : XK} {x m : Str} {px pos apos : Pos} {o : Expr} {kws : List Keyword} {ta : TE} {tk : TA} {pl : Sem Bool}
/-- c(k = v, ..), the i-th slot holds the class at C -/
def tMakeL (i : Nat) (C : Addr) (m : Nat) (sp : Sp) (E : XK) (tk : TA) : TE := fun σ H Q => σ[i]? = some (some (.ref C)) ∧ tMakeW C m sp E tk σ H Q
theorem pe_makeWL (M : Mk X.K C f) (F : FnKw X.prog X.w X.K X.mg X.base CX k f ks sp) (hr : Room (k + 1) X.A) (hN : X.N[i]? = some x) (hv : Vis X.env.scope x) (hx : Passes CX X E) (hkw : PK X kws tk)
    (hall : (backToKw pos (keywordEach kws X.env)).all (·.1.isSome) = true := by rfl) (hks : (backToKw pos (keywordEach kws X.env)).filterMap (·.1) = ks := by rfl) (hdb : (x == ("__debug__" : Str)) = false := by decide) (hcd : (x == ("__classdict__" : Str)) = false := by decide)
    (hpl : ((backTo pos (starEach [] X.env)).any (·.1) || (backToKw pos (keywordEach kws X.env)).any (·.1.isNone)) = false := by rfl) :
    PE X (.Call (.Name x px) [] kws pos) (tMakeL i C ks.length sp E tk) := by
  refine ⟨fun pins s σ H Q I h => ?_⟩
  obtain ⟨hs, ht⟩ := h
  refine wpAny_Call_Name_kw (thn ((pe_var (pos := px) hN hv hdb hcd).run pins s σ H (fun v H1 => v = .ref C ∧ H1 = H) I ⟨.ref C, hs, rfl, rfl⟩) fun u s1 ⟨v, H1, I1, r1, q1⟩ => ?_)
  obtain ⟨rfl, rfl⟩ := q1
  cases r1
  refine PySem.W.callWith_KW0 (h₀ := X.base) I.ok.mod.kin M.kp hall ?_ hpl
  refine thn (hkw.run pos pins s1 σ _ _ I1 ht) fun ws s2 ⟨zs, H2, I2, rz, l2, q2⟩ => ⟨I2.kIn, ?_⟩
  rw [hks]
  exact run_makeW M F hr hx I2 rz l2 q2
/-- C.m(k = v), m a classmethod -/
def tCMethK (C : Addr) (n : Nat) (sp : Sp) (E : XK) (ta : TE) (tk : TA) : TE := fun σ H Q => ta σ H fun x H1 => x = .ref C ∧ tk σ H1 fun zs H2 => zs.length = n ∧ sp (.ref C :: zs) H2 Q E
theorem run_fnKw {pins : List (Addr × Obj)} {σ : L2.St} {H : Hp} {s : Shared} {Q : VK} {us ws : List Value} {vs zs : List V} (F : FnKw X.prog X.w X.K X.mg X.base CX k f ks sp) (hr : Room k X.A) (hx : Passes CX X E) (I : Inv X pins σ H s) (r : Vals vs us) (rz : Vals zs ws) (hl : zs.length = ks.length) (h : sp (vs ++ zs) H Q E) :
    codeAny (model X.prog X.w) X.A (.call (.ref f) ⟨us, ks.zip ws⟩) (fun r s' => match r with | .ok (.ret v) => EP X pins σ Q v s' | .ok _ => False | .error e => X.xe e s') s := by
  refine codeAny_mono (F X.A X.stack s H us ws vs zs Q E hr I.env0 r rz hl h) fun r s' hq => ?_
  cases r with
  | error e => exact hx pins σ H s e s' I hq
  | ok fl =>
    cases fl with
    | ret u => exact I.after hq
    | next => exact False.elim hq
    | brk => exact False.elim hq
    | cont => exact False.elim hq
theorem pe_cmethK (he : PE X o ta) (r : ClX.CRead X.K C mc) (c : ClX.CMet X.K C mc m p g) (F : FnKw X.prog X.w X.K X.mg X.base CX k g ks sp) (hr : Room k X.A) (hx : Passes CX X E) (hkw : PK X kws tk)
    (hall : (backToKw pos (keywordEach kws X.env)).all (·.1.isSome) = true := by rfl) (hks : (backToKw pos (keywordEach kws X.env)).filterMap (·.1) = ks := by rfl)
    (hpl : ((backTo pos (starEach [] X.env)).any (·.1) || (backToKw pos (keywordEach kws X.env)).any (·.1.isNone)) = false := by rfl)
    (ht : eval (.Call (.Attribute o m apos) [] kws pos) X.env = (do
      let ov ← eval o X.env
      standAt apos.atName
      let (f, first) ← holding [ov] (getMethod ov m pl)
      callWith pos f first (backTo pos (starEach [] X.env)) (backToKw pos (keywordEach kws X.env))) := by rfl) :
    PE X (.Call (.Attribute o m apos) [] kws pos) (tCMethK C ks.length sp E ta tk) := by
  refine ⟨fun pins s σ H Q I h => ?_⟩
  refine PySem.W.methodCall_KW (pl := pl) (thn (he.run pins s σ H _ I h) fun u s1 ⟨x, H1, I1, rx, ex, q⟩ => ?_) ht
  subst ex
  obtain rfl : u = Value.ref C := rx
  refine ClX.getmethcm_ok I1 r c fun s2 I2 => ?_
  refine PySem.W.callWith_of (P := PySem.W.MethP X.K _ g (.ref C)) hpl (PySem.W.keeps_M c.fi) (evalArgs_kw2_nil hall (thn (hkw.run pos _ s2 σ H1 _ I2 q) fun ws s3 ⟨zs, H2, I3, rz, l2, q2⟩ => ?_))
  rw [hks]
  refine ⟨⟨ClX.pin_at I3, I3.kIn⟩, ?_⟩
  have z := wpAny_call (PySem.W.method_call (pos := []) (kw := ks.zip ws) (ClX.pin_at I3) (run_fnKw (us := [.ref C]) (vs := [.ref C]) F hr hx I3 (.cons rfl .nil) rz l2 q2))
  exact thn z fun _ _ y => ClX.unpinE y
end
end Fs
set_option Elab.async false
set_option linter.all false
set_option maxRecDepth 100000
set_option maxHeartbeats 4000000
/-! FsD: set(d) of a dict of texts, sorted of it; tuple(d), list(d.values()) -/
namespace Fs
open PySem PySem.Spec PyProof.Rows L2
open PySem.W (Frag)

/-! ### a set by its elements in some order -/
def SR {K : Type} [DecidableEq K] {P : Program} {w : World} (knd : PySem.KeyKind P w K) (h : Heap) (a : Addr) (l : List (Int × Value)) : Prop :=
  ∃ o ep t es, h.get? a = some o ∧ o.ExactSet ∧ o.data = .set es ep t ∧ es.toList.Perm l ∧ ElemsOf knd l ∧ l.length < scanBound ∧ t.fits es.size = true ∧ Ris t.place.toList ∧ (w.params.followText "set-order" = true ∨ t.led = true)
theorem SR.move {K : Type} [DecidableEq K] {P : Program} {w : World} {knd : PySem.KeyKind P w K} {h h' : Heap} {a : Addr} {l : List (Int × Value)} (R : SR knd h a l) (k : ∀ o, h.get? a = some o → h'.get? a = some o) : SR knd h' a l :=
  let ⟨o, ep, t, es, ho, r⟩ := R
  ⟨o, ep, t, es, k o ho, r⟩
section
variable {K : Type} [DecidableEq K] {P : Program} {w : World} {knd : PySem.KeyKind P w K} {A : Around} {E : Value → Shared → Prop} {s : Shared} {a : Addr} {l : List (Int × Value)}
/-- the elements are stored, the table is laid anew where it is too full -/
theorem sr_tail {g : Bool → Sem Unit} (hg : ∀ (b : Bool) (s1 : Shared) (Q' : Unit → Shared → Prop), Q' () s1 → wpAny (model P w) A (g b) Q' E s1) {o : Obj} {es : Array (Int × Value)} {ep : Nat} {t : SetTable} (ho : s.heap.get? a = some o) (hx : o.ExactSet) (hd : o.data = .set es ep t)
    {es1 : Array (Int × Value)} {t2 : SetTable} {l' : List (Int × Value)} (pm : es1.toList.Perm l') (el : ElemsOf knd l') (hb : l'.length < scanBound) (hf : t2.fits es1.size = true) (hr : Ris t2.place.toList) (hl : w.params.followText "set-order" = true ∨ t2.led = true) {dm : Bool}
    {R : Option Bool → Shared → Prop} (hR : ∀ h', Heap.SameBut a s.heap h' → SR knd h' a l' → R (some true) { s with heap := h' }) :
    wpAny (model P w) A (storeSet a es1 t2 >>= fun _ => if (!dm && t2.tooFull) = true then (g (relayAll t2 es1 (SetTable.grown es1.size)).2.2 >>= fun _ => storeSet a (relayAll t2 es1 (SetTable.grown es1.size)).1 (relayAll t2 es1 (SetTable.grown es1.size)).2.1 >>= fun _ => pure (some true)) else pure (some true)) R E s := by
  have size1 : es1.size = l'.length := by rw [← Array.length_toList, pm.length_eq]
  have room1 : es1.size < scanBound := size1 ▸ hb
  refine wpAny_bind (wpAny_storeSet_of ho hd ?_ (fits_of_scanBound room1))
  have stored := store_at (es' := es1) (t' := t2) ho hd
  have other := Heap.SameBut.update s.heap a (Obj.putSet es1 t2)
  split
  · have w1 := relayAll_perm t2 es1 (SetTable.grown es1.size)
    have w2 := relayAll_fits t2 es1 (SetTable.grown es1.size)
    have w3 := relayAll_ris t2 es1 (SetTable.grown es1.size)
    have w4 := relayAll_led t2 es1 (SetTable.grown es1.size)
    generalize relayAll t2 es1 (SetTable.grown es1.size) = Z at w1 w2 w3 w4 ⊢
    obtain ⟨es2, t3, gv⟩ := Z
    dsimp only at w1 w2 w3 w4 ⊢
    have size2 : es2.size = l'.length := by rw [← Array.length_toList, (w1.trans pm).length_eq]
    have room2 : es2.size < scanBound := size2 ▸ hb
    refine wpAny_bind (hg _ _ _ (wpAny_bind (wpAny_storeSet_of stored rfl (wpAny_pure (hR _ (other.trans (Heap.SameBut.update _ a _)) ?_)) (fits_of_scanBound room2))))
    exact ⟨_, _, t3, es2, store_at (es' := es2) (t' := t3) stored rfl, hx, rfl, w1.trans pm, el, hb, w2, w3, hl.imp id fun z => by rw [w4]; exact z⟩
  · exact wpAny_pure (hR _ other ⟨_, _, t2, es1, stored, hx, rfl, pm, el, hb, hf, hr, hl⟩)
/-- an element that isn't there is added -/
theorem sr_add {k : K} {x : Value} {Q : Bool → Shared → Prop} (R : SR knd s.heap a l) (hkey : knd.is k x = true) (hsc : x.scannable = true) (no : ∀ e ∈ l, knd.is k e.2 = false) (room : l.length + 1 < scanBound)
    (hQ : ∀ h', Heap.SameBut a s.heap h' → SR knd h' a (l ++ [(knd.hash k, x)]) → Q true { s with heap := h' }) : wpAny (model P w) A (setAddHashed a x (knd.hash k)) Q E s := by
  obtain ⟨o, ep, t, es, ho, hx, hd, pm, el, hb, hf, hr, hl⟩ := R
  have el0 : ElemsOf knd es.toList := fun e he => el e (pm.mem_iff.mp he)
  have size0 : es.size < scanBound := by rw [← Array.length_toList, pm.length_eq]; exact hb
  have nf : List.findIdx? (fun e => knd.is k e.2) es.toList = none := List.findIdx?_eq_none_iff.mpr fun e he => no e (pm.mem_iff.mp he)
  have gw : ∀ (b : Bool) (s1 : Shared) (Q' : Unit → Shared → Prop), Q' () s1 → wpAny (model P w) A (match b with | true => rule "set.scan.the-table-gave-way" | false => pure ()) Q' E s1 := fun b s1 Q' q => by
    cases b
    · exact wpAny_pure q
    · exact wpAny_rule q
  unfold setAddHashed setAddHashedIn
  refine wpAny_holding (wpAny_bind (wpAny_setState_of ho hd hf ?_))
  dsimp only
  rw [byScan_of hsc size0 el0]
  simp only [↓reduceIte]
  unfold setAddByScan
  refine wpAny_bind (wpAny_bind (wpAny_rule (wpAny_bind (wpAny_setScan_of hkey ho hd hf el0 ?_))))
  rw [nf]
  dsimp only
  have w1 := layNew_perm t es (knd.hash k) x
  have w2 := layNew_fits t es (knd.hash k) x
  have w3 := layNew_ris t es (knd.hash k) x hr
  have w4 := layNew_led t es (knd.hash k) x
  generalize layNew t es (knd.hash k) x = Z at w1 w2 w3 w4 ⊢
  obtain ⟨es1, t1, dm, gv⟩ := Z
  dsimp only at w1 w2 w3 w4 ⊢
  rw [Array.toList_push] at w1
  have pm1 : es1.toList.Perm (l ++ [(knd.hash k, x)]) := w1.trans (pm.append_right _)
  have el1 : ElemsOf knd (l ++ [(knd.hash k, x)]) := fun e he => by
    rcases List.mem_append.mp he with q | q
    · exact el e q
    · rw [List.mem_singleton.mp q]
      exact ⟨⟨k, hkey, rfl⟩, hsc⟩
  have hb1 : (l ++ [(knd.hash k, x)]).length < scanBound := by rw [List.length_append]; exact room
  have led1 : w.params.followText "set-order" = true ∨ t1.led = true := hl.imp id fun z => by rw [w4]; exact z
  refine wpAny_bind (gw _ _ _ ?_)
  split
  · refine wpAny_bind ?_
    rw [hashByValue_scannable 8 hsc]
    refine wpAny_pure (sr_tail (knd := knd) gw ho hx hd pm1 el1 hb1 ?_ ?_ ?_ fun h' sb r => ?_)
    · split
      · exact w2
      · exact SetTable.fits_plain_off w2
    · split <;> exact w3
    · split <;> exact led1
    · dsimp only
      exact wpAny_pure (hQ h' sb r)
  · refine wpAny_bind (wpAny_pure ?_)
    simp only [↓reduceIte]
    refine sr_tail (knd := knd) gw ho hx hd pm1 el1 hb1 w2 w3 led1 fun h' sb r => ?_
    dsimp only
    exact wpAny_pure (hQ h' sb r)
end
section
variable {K : Type} [DecidableEq K] {P : Program} {w : World} {knd : PySem.KeyKind P w K} {A : Around} {E : Value → Shared → Prop} {s : Shared} {a d : Addr}
/-- a set without elements -/
def noSet (w : World) : Obj := { cls := .type "set", dict := none, data := .set #[] 0 (.fresh 0 0 (!w.params.followText "set-order")) }
theorem led_new (w : World) : w.params.followText "set-order" = true ∨ (SetTable.fresh 0 0 (!w.params.followText "set-order")).led = true := by
  show _ ∨ (!w.params.followText "set-order") = true
  cases w.params.followText "set-order"
  · exact .inr rfl
  · exact .inl rfl
theorem sr_new {h : Heap} (ho : h.get? a = some (noSet w)) : SR knd h a [] :=
  ⟨_, 0, _, #[], ho, ⟨rfl, rfl, rfl⟩, rfl, List.Perm.refl _, (fun e he => nomatch he), by decide, rfl, List.Pairwise.nil, led_new w⟩
theorem relaid_nil (t : SetTable) (n : Nat) : ∃ t', t.relaid #[] n = some (t', #[]) ∧ t'.place = #[] ∧ t'.led = t.led ∧ t'.dummies = #[] := by
  have nl : ∀ m, ((List.range (m + 1)).filterMap fun j => (((Array.replicate (m + 1) (none : Option Nat)).getD j none).map fun z => (j, z))) = [] := fun m => by
    rw [List.filterMap_eq_nil_iff]
    intro j hj
    have q : (Array.replicate (m + 1) (none : Option Nat)).getD j none = none := by
      rw [Array.getD_eq_getD_getElem?]
      cases e : (Array.replicate (m + 1) (none : Option Nat))[j]? with
      | none => rfl
      | some z =>
        rw [Array.getElem?_replicate] at e
        split at e
        · rw [← Option.some.inj e]; rfl
        · cases e
    rw [q]
    rfl
  have e : t.relaid #[] n = some ({ mask := SetTable.sizeAbove n - 1, place := (((List.range (SetTable.sizeAbove n - 1 + 1)).filterMap fun j => (((Array.replicate (SetTable.sizeAbove n - 1 + 1) (none : Option Nat)).getD j none).map fun z => (j, z))).map (·.1)).toArray, dummies := #[], finger := t.finger, led := t.led, moves := t.movedTo (SetTable.sizeAbove n - 1), plain := t.plain }, (((List.range (SetTable.sizeAbove n - 1 + 1)).filterMap fun j => (((Array.replicate (SetTable.sizeAbove n - 1 + 1) (none : Option Nat)).getD j none).map fun z => (j, z))).map (·.2)).toArray) := rfl
  rw [nl] at e
  exact ⟨_, e, rfl, rfl, rfl⟩
theorem sr_room {n : Nat} {Q : Unit → Shared → Prop} (hn : n < 64) (ho : s.heap.get? a = some (noSet w)) (hQ : ∀ h', Heap.SameBut a s.heap h' → SR knd h' a [] → Q () { s with heap := h' }) : wpAny (model P w) A (setRoomFor a n) Q E s := by
  unfold setRoomFor
  refine wpAny_bind (wpAny_setState_of ho rfl rfl ?_)
  cases q : SetTable.roomFor (SetTable.fresh 0 0 (!w.params.followText "set-order")) n with
  | none => exact wpAny_pure (hQ s.heap (Heap.SameBut.refl a s.heap) (sr_new ho))
  | some m =>
    have hm : m = n * 2 := by
      unfold SetTable.roomFor at q
      split at q
      · have e := Option.some.inj q
        have z : (SetTable.fresh 0 0 (!w.params.followText "set-order")).place.size = 0 := rfl
        rw [z] at e
        omega
      · cases q
    have all : ∀ i, i < 64 → SetTable.sizeAbove (i * 2) ≤ 256 := by decide +kernel
    have line : ¬ SetTable.sizeAbove m > sizeLine := by
      have := all n hn
      rw [hm, sizeLine_eq]
      omega
    obtain ⟨t', e1, e2, e3, e4⟩ := relaid_nil (SetTable.fresh 0 0 (!w.params.followText "set-order")) m
    unfold setRelay
    dsimp only
    refine wpAny_bind (wpAny_setState_of ho rfl rfl ?_)
    dsimp only
    rw [if_neg line]
    try refine wpAny_bind (wpAny_pure ?_)
    have ro : (#[] : Array (Int × Value)).map (·.1) = #[] := by simp
    rw [ro, e1]
    refine wpAny_bind (wpAny_pure ?_)
    refine wpAny_storeSet_of ho rfl (hQ _ (Heap.SameBut.update ..) ?_) (Nat.zero_le _)
    exact ⟨_, _, t', #[], store_at (es' := #[]) (t' := t') ho rfl, ⟨rfl, rfl, rfl⟩, rfl, List.Perm.refl _, (fun e he => nomatch he), by decide, by
      unfold SetTable.fits SetTable.fill
      rw [e2, e4]
      simp, by rw [e2]; exact List.Pairwise.nil, (led_new w).imp id fun z => by rw [e3]; exact z⟩
end
/-! ### set(d) -/
def entOf (e : DictEntry) : Int × Value := (e.hash, e.key)
section
variable {K : Type} [DecidableEq K] {P : Program} {w : World} {knd : PySem.KeyKind P w K} {A : Around} {E : Value → Shared → Prop} {s : Shared} {a d : Addr}
theorem pairs_at {des : List DictEntry} {kvs : List (K × Value)} (p : Pairs knd des kvs) : ∀ {i : Nat} {e : DictEntry}, des[i]? = some e → ∃ q, kvs[i]? = some q ∧ knd.is q.1 e.key = true := by
  induction p with
  | nil => intro i e h; cases h
  | @cons e0 kv es kvs h1 h2 r ih =>
    intro i e h
    cases i with
    | zero =>
      cases h
      exact ⟨kv, rfl, h1⟩
    | succ i => exact ih h
/-- the entry at i has a key that none ahead of it has -/
theorem pairs_new {des : List DictEntry} {kvs : List (K × Value)} (p : Pairs knd des kvs) (nd : (kvs.map (·.1)).Nodup) {i : Nat} {e : DictEntry} (he : des[i]? = some e) {q : K × Value} (hq : kvs[i]? = some q) :
    ∀ x ∈ (des.take i).map entOf, knd.is q.1 x.2 = false := by
  intro x hx
  obtain ⟨e2, h2, rfl⟩ := List.mem_map.mp hx
  obtain ⟨j, hj, e3⟩ := List.mem_iff_getElem.mp h2
  have lj : j < i ∧ j < des.length := by
    rw [List.length_take] at hj
    omega
  have ej : des[j]? = some e2 := by
    rw [List.getElem_take] at e3
    rw [List.getElem?_eq_getElem lj.2, e3]
  obtain ⟨q2, g2, k2⟩ := pairs_at p ej
  cases c : knd.is q.1 e2.key with
  | false => exact c
  | true =>
    have same : q.1 = q2.1 := knd.inj e2.key q.1 q2.1 c k2
    have m1 : (kvs.map (·.1))[i]? = some q.1 := by rw [List.getElem?_map, hq]; rfl
    have m2 : (kvs.map (·.1))[j]? = some q2.1 := by rw [List.getElem?_map, g2]; rfl
    have li : i < (kvs.map (·.1)).length := (List.getElem?_eq_some_iff.mp m1).1
    have lj2 : j < (kvs.map (·.1)).length := (List.getElem?_eq_some_iff.mp m2).1
    have ne := List.pairwise_iff_getElem.mp nd j i lj2 li lj.1
    rw [List.getElem?_eq_getElem li] at m1
    rw [List.getElem?_eq_getElem lj2] at m2
    exact absurd ((Option.some.inj m2).trans (same.symm.trans (Option.some.inj m1).symm)) ne
theorem take_one {α : Type} {l : List α} {i : Nat} {x : α} (h : l[i]? = some x) : l.take (i + 1) = l.take i ++ [x] := by rw [List.take_add_one, h]; rfl
theorem set_of_dict {o : Obj} {des : Array DictEntry} {ep : Nat} {kvs : List (K × Value)} {Q : Unit → Shared → Prop} (hda : d ≠ a) (hd : (d == sysModules) = false) (ho : s.heap.get? d = some o) (hx : o.ExactDict) (hdt : o.data = .dict des ep) (hk : PySem.KeysOf knd des) (hsc : ∀ e ∈ des, e.key.scannable = true)
    (p : Pairs knd des.toList kvs) (nd : (kvs.map (·.1)).Nodup) (few : des.size < 64) (hs : s.heap.get? a = some (noSet w))
    (hQ : ∀ h', Heap.SameBut a s.heap h' → SR knd h' a (des.toList.map entOf) → Q () { s with heap := h' }) : wpAny (model P w) A (Builtin.Frozenset.updateFrom "set.__init__" a (.ref d)) Q E s := by
  have hT : s.TypeIs (.ref d) "dict" := ⟨o, ho, hx.1⟩
  have n1 := PySem.F.sub_dict_set
  have n2 := PySem.F.sub_dict_frozenset
  unfold Builtin.Frozenset.updateFrom Builtin.Frozenset.isAnySet
  refine wpAny_bind ?_
  unfold orM
  refine wpAny_bind (wpAny_isInstance (T := "dict") (b := false) hT n1 ?_)
  show wpAny _ _ (isInstance (.ref d) (.type "frozenset")) _ _ _
  refine wpAny_isInstance (T := "dict") (b := false) hT n2 ?_
  simp only [Bool.false_eq_true, if_false]
  refine wpAny_bind (wpAny_typeOf hT ?_)
  simp only [beq_self_eq_true, if_true]
  refine wpAny_bind (wpAny_rule (wpAny_bind (wpAny_pure ?_)))
  try dsimp only
  rw [hd]
  simp only [Bool.false_eq_true, if_false]
  refine wpAny_bind (wpAny_dictEpoch ho hdt ?_)
  refine wpAny_bind (wpAny_dictEntries ho hdt ?_)
  refine wpAny_bind (sr_room (knd := knd) few hs fun h1 b1 r1 => ?_)
  have ho1 : h1.get? d = some o := (b1.2 d hda).trans ho
  refine wpAny_bind (wpAny_dictEntries (s := { s with heap := h1 }) ho1 hdt ?_)
  refine wpAny_bind (TI.forIn_rng (n := des.size) _ (fun rest _ s' => ∃ i h', rest = List.range' i (des.size - i) ∧ i ≤ des.size ∧ s' = { s with heap := h' } ∧ Heap.SameBut a s.heap h' ∧ SR knd h' a ((des.toList.take i).map entOf)) _ ?_ ?_ _ ?_)
  · rintro x rest b s' ⟨i, h', e1, e2, rfl, e4, e5⟩
    have hi : i < des.size := by
      rcases Nat.lt_or_ge i des.size with q | q
      · exact q
      · rw [Nat.sub_eq_zero_of_le q] at e1
        cases e1
    have hxi : x = i ∧ rest = List.range' (i + 1) (des.size - (i + 1)) := by
      have : des.size - i = (des.size - (i + 1)) + 1 := by omega
      rw [this, List.range'_succ] at e1
      injection e1 with q1 q2
      exact ⟨q1, q2⟩
    obtain ⟨rfl, rfl⟩ := hxi
    have ho2 : h'.get? d = some o := (e4.2 d hda).trans ho
    have hl : x < des.toList.length := by rw [Array.length_toList]; exact hi
    have ex : des[x]? = some des[x] := Array.getElem?_eq_getElem hi
    have exl : des.toList[x]? = some des[x] := by rw [Array.getElem?_toList]; exact ex
    obtain ⟨q, g1, g2⟩ := pairs_at p exl
    obtain ⟨k0, g3, g4⟩ := hk des[x] (Array.getElem_mem hi)
    have same : k0 = q.1 := knd.inj _ _ _ g3 g2
    rw [same] at g4
    refine wpAny_bind (wpAny_dictEntries (s := { s with heap := h' }) ho2 hdt ?_)
    rw [ex]
    dsimp only
    refine wpAny_bind (wpAny_holding ?_)
    rw [g4]
    refine sr_add (s := { s with heap := h' }) e5 g2 (hsc _ (Array.getElem_mem hi)) (pairs_new p nd exl g1) ?_ fun h2 sb r2 => ?_
    · rw [List.length_map, List.length_take, Array.length_toList]
      show min x des.size + 1 < 4096
      omega
    · have ho3 : h2.get? d = some o := (sb.2 d hda).trans ho2
      refine wpAny_bind (wpAny_dictEpoch (s := { s with heap := h2 }) ho3 hdt ?_)
      simp only [bne_self_eq_false, Bool.false_eq_true, if_false]
      refine wpAny_pure ⟨x + 1, h2, rfl, hi, rfl, e4.trans sb, ?_⟩
      rw [take_one exl, List.map_append]
      show SR knd h2 a (_ ++ [(des[x].hash, des[x].key)])
      rw [g4]
      exact r2
  · rintro b s' ⟨i, h', e1, e2, rfl, e4, e5⟩
    have hi : i = des.size := by
      rcases Nat.lt_or_ge i des.size with q | q
      · have : des.size - i = (des.size - (i + 1)) + 1 := by omega
        rw [this, List.range'_succ] at e1
        cases e1
      · omega
    subst hi
    rw [List.take_of_length_le (by rw [Array.length_toList]; omega)] at e5
    exact wpAny_pure (hQ h' e4 e5)
  · exact ⟨0, h1, by rw [Nat.sub_zero], Nat.zero_le _, rfl, b1, r1⟩
end
/-! ### the calls -/
section
variable {K : Type} [DecidableEq K] {P : Program} {w : World} {knd : PySem.KeyKind P w K} {A : Around} {E : Value → Shared → Prop} {s : Shared} {a d : Addr}
set_option maxHeartbeats 8000000 in
theorem call_set_dict {o : Obj} {des : Array DictEntry} {ep : Nat} {kvs : List (K × Value)} {Q : Value → Shared → Prop} (hd : (d == sysModules) = false) (ho : s.heap.get? d = some o) (hx : o.ExactDict) (hdt : o.data = .dict des ep) (hk : PySem.KeysOf knd des) (hsc : ∀ e ∈ des, e.key.scannable = true)
    (p : Pairs knd des.toList kvs) (nd : (kvs.map (·.1)).Nodup) (few : des.size < 64)
    (hQ : ∀ h', (∀ b u, s.heap.get? b = some u → h'.get? b = some u) → SR knd h' s.heap.objs.size (des.toList.map entOf) → Q (.ref s.heap.objs.size) { s with heap := h' }) : wpAny (model P w) A (call (.type "set") [.ref d]) Q E s := by
  obtain ⟨c, tl, hmro⟩ := F.called_set.mro
  have hmade := F.called_set.made
  have hsub := F.called_set.sub
  have h1 := F.called_set.notType
  have h2 := F.called_set.canCreate
  have hct := F.typeCall_set_1 (.ref d)
  have hli := F.called_set.init.lookup
  have hbi := F.called_set.init.bind (.ref s.heap.objs.size)
  have hS : (s.heap.push (noSet w)).get? s.heap.objs.size = some (noSet w) := Heap.get?_push_size _ rfl
  have hT : Shared.TypeIs { s with heap := s.heap.push (noSet w) } (.ref s.heap.objs.size) "set" := ⟨_, hS, rfl⟩
  refine wpAny_call (codeAny_of_tree ?_)
  show wpAny _ _ (callAny (.type "set") _) _ _ _
  refine wpAny_pure ⟨Code.quiet_builtin _ (by decide +kernel), codeAny_builtin F.entry_type_call ?_⟩
  rw [Around.under_plain (weight_type_call_type "set" [.ref d] []) rfl]
  repeat (any_goals (first | assumption | wp_step))
  refine codeAny_mono (code_set_led1 (.ref d) (E := E) (Q₁ := fun obj s1 => obj = .ref s.heap.objs.size ∧ s1 = { s with heap := s.heap.push (noSet w) }) ⟨rfl, rfl⟩) fun r s1 hr => ?_
  match r, hr with
  | .error e, hr => exact hr
  | .ok .next, hr => exact hr.elim
  | .ok .brk, hr => exact hr.elim
  | .ok .cont, hr => exact hr.elim
  | .ok (.ret obj), hr =>
    obtain ⟨rfl, rfl⟩ := hr
    repeat (any_goals (first | assumption | wp_step))
    refine codeAny_mono (codeAny_call_builtin (R := wants (fun r s2 => r = .none ∧ Q (.ref s.heap.objs.size) s2) E) F.called_set.init.plain F.entry_set_init (check_set_init_1 hT ?_)) fun r2 s2 hr2 => ?_
    · have hda : d ≠ s.heap.objs.size := Nat.ne_of_lt (Heap.lt_size ho)
      have up : ∀ {A' : Around} {Q' : Unit → Shared → Prop} {E' : Value → Shared → Prop}, (∀ h', Heap.SameBut s.heap.objs.size (s.heap.push (noSet w)) h' → SR knd h' s.heap.objs.size (des.toList.map entOf) → Q' () { s with heap := h' }) →
          wpAny (model P w) A' (Builtin.Frozenset.updateFrom "set.__init__" s.heap.objs.size (.ref d)) Q' E' { s with heap := s.heap.push (noSet w) } := fun q =>
        set_of_dict (s := { s with heap := s.heap.push (noSet w) }) hda hd (Heap.get?_push_of_some _ ho) hx hdt hk hsc p nd few hS q
      unfold Builtin.«set.__init__» noKeywords
      generalize hU : Builtin.Frozenset.updateFrom = U at up ⊢
      wp_walk
      refine up fun h' sb r => ?_
      show wpAny _ _ (ret Value.none) _ _ _
      exact wpAny_pure ⟨rfl, hQ h' (fun b u e => (sb.2 b (Nat.ne_of_lt (Heap.lt_size e))).trans (Heap.get?_push_of_some _ e)) r⟩
    · match r2, hr2 with
      | .error e, hr2 => exact hr2
      | .ok .next, hr2 => exact hr2.elim
      | .ok .brk, hr2 => exact hr2.elim
      | .ok .cont, hr2 => exact hr2.elim
      | .ok (.ret v), hr2 =>
        obtain ⟨rfl, hq⟩ := hr2
        repeat (any_goals (first | assumption | wp_step))
end
/-! ### sorted of such a set -/
def strOf (v : Value) : Str := match v with
  | .str x _ => x
  | _ => Str.empty
theorem strs_all : ∀ {us : List Value}, (∀ u ∈ us, ∃ x t, u = Value.str x t) → StrsAre us (us.map strOf)
  | [], _ => .nil
  | u :: us, h => by
    obtain ⟨x, t, rfl⟩ := h u List.mem_cons_self
    exact .cons x t (strs_all fun v hv => h v (List.mem_cons_of_mem _ hv))
section
variable {P : Program} {w : World} {A : Around} {E : Value → Shared → Prop} {s : Shared} {a : Addr} {l : List (Int × Value)}
theorem sorted_sr {Q : Value → Shared → Prop} (R : SR (mixKind P w) s.heap a l) (hh : A.handled = none) (few : l.length < 64) (hs : ∀ e ∈ l, ∃ x t, e.2 = Value.str x t)
    (hQ : ∀ s' p (out : Array Value) (c : Nat) (ys : List Str), (∀ b o, s.heap.get? b = some o → s'.heap.get? b = some o) → s'.gens = s.gens → s'.os = s.os → s.heap.objs.size ≤ p → s'.heap.get? p = some (seqObj "list" out c) → StrsAre out.toList ys →
      ys.Perm (l.map fun e => strOf e.2) → sortedS ys = true → Q (.ref p) s') : wpAny (model P w) A (call (.builtin "sorted") [.ref a]) Q E s := by
  obtain ⟨o, ep, t, es, ho, hx, hd, pm, el, hb, hf, hr, hl⟩ := R
  have size1 : es.size < scanBound := by rw [← Array.length_toList, pm.length_eq]; exact hb
  refine Calls.call_function_entry PyProof.Rows.kind_sorted PyProof.Rows.plain_sorted PyProof.Rows.entry_sorted (PyProof.Rows.args_sorted1 _) ?_
  unfold Builtin.«sorted»
  refine wpAny_bind (m := checkCount "sorted" 1 1 _) (wpAny_pure (wpAny_bind (collect_set (A := A.in1) hh ⟨o, ho, hx.1, hd⟩ hf size1 hr hl fun s1 vs k1 hz g1 o1 pv => ?_)))
  have pl : vs.Perm (l.map (·.2)) := pv.trans (pm.map _)
  have lv : vs.length = l.length := by rw [pl.length_eq, List.length_map]
  have hI : StrsAre vs (vs.map strOf) := strs_all fun v hv => by
    obtain ⟨e, he, q⟩ := List.mem_map.mp (pl.mem_iff.mp hv)
    obtain ⟨x, t, h1⟩ := hs e he
    exact ⟨x, t, by rw [← q, h1]⟩
  have pk : (vs.map strOf).Perm (l.map fun e => strOf e.2) := by
    have q := pl.map strOf
    rw [List.map_map] at q
    exact q
  refine wpAny_bind (wpAny_newList ?_ (by rw [lv, sizeLine_eq]; omega))
  have hoL : (s1.heap.push (seqObj "list" vs.toArray 0)).get? s1.heap.objs.size = some (seqObj "list" vs.toArray 0) := Heap.get?_push_size _ rfl
  refine wpAny_bind (wpAny_holding (wpAny_call_entry PyProof.Rows.slot_list_sort ⟨_, hoL, rfl⟩ PyProof.Rows.entry_list_sort
    (list_sort_treeK PyProof.Rows.strKind_oneLt (s := { s1 with heap := s1.heap.push (seqObj "list" vs.toArray 0) }) hoL hI.keysOf (fun v1 v2 rest e => keyKind_strs (by rw [← e]; exact hI)) (by rw [lv]; exact few) fun st' hp hs2 => ⟨_, rfl, ?_⟩)
    (PyProof.Rows.args_list_sort _)))
  obtain ⟨ys, q1, q2, q3⟩ := sorted_out_str hI hp hs2
  obtain ⟨c, hc⟩ := PyProof.Rows.sortedHeap_at (vs := vs) (out := (arrOf st').map (·.2)) hoL
  refine wpAny_pure ⟨_, rfl, hQ _ s1.heap.objs.size _ c ys (fun b u e => ?_) g1 o1 hz hc q1 (q2.trans pk) q3⟩
  have q := k1 b u e
  have hlt := Heap.lt_size q
  show (PyProof.Rows.sortedHeap (s1.heap.push (seqObj "list" vs.toArray 0)) s1.heap.objs.size vs _).get? b = some u
  rw [PyProof.Rows.sortedHeap_old (Nat.ne_of_lt hlt) (by rw [size_push']; exact Nat.lt_succ_of_lt hlt)]
  exact Heap.get?_push_of_some _ q
end
/-! ### over the layer -/
/-- the set of the texts ks -/
def SetS (P : Program) (w : World) (a : Addr) (ks : List Str) : HO := .ext fun h => ∃ l, SR (mixKind P w) h a l ∧ (∀ e ∈ l, ∃ x t, e.2 = Value.str x t) ∧ (l.map fun e => strOf e.2) = ks
section
variable {X : Cx}
/-- set(d), d a dict whose keys are texts -/
theorem cr_setD : CallR X (.type "set") (fun xs H Q => ∃ (a : Addr) (kvs : List (Key × V)) (ks : List Str), xs = [.ref a] ∧ H a = some (.dK kvs) ∧ kvs.map (·.1) = ks.map Sum.inr ∧ ks.length < 64 ∧ ∀ p, H p = none → Q (.ref p) (upd H p (SetS X.prog X.w p ks))) := by
  intro pins s σ H xs us Q I r h
  obtain ⟨a, kvs, ks, rfl, hd, hks, few, q⟩ := h
  rw [Vals.ref1 r]
  obtain ⟨z, lo, vs, rel, o, des, ep, ho, hx, hdt, hk, pr, nd⟩ := dk_of I.hok hd
  have keys : vs.map (·.1) = ks.map Sum.inr := rel.keys.symm.trans hks
  have lens : vs.length = ks.length := by
    have e := congrArg List.length keys
    rw [List.length_map, List.length_map] at e
    exact e
  have plen : ∀ {xs : List DictEntry} {ys : List (Key × Value)}, Pairs (mixKind X.prog X.w) xs ys → xs.length = ys.length := by
    intro xs ys p
    induction p with
    | nil => rfl
    | cons _ _ _ ih => rw [List.length_cons, List.length_cons, ih]
  have few2 : des.size < 64 := by rw [← Array.length_toList, plen pr, lens]; exact few
  have txt : ∀ (i : Nat) (e : DictEntry), des.toList[i]? = some e → ∃ y t, ks[i]? = some y ∧ e.key = Value.str y t := fun i e he => by
    obtain ⟨p, g1, g2⟩ := pairs_at pr he
    have g3 : (vs.map (·.1))[i]? = some p.1 := by rw [List.getElem?_map, g1]; rfl
    rw [keys, List.getElem?_map] at g3
    cases e4 : ks[i]? with
    | none => rw [e4] at g3; cases g3
    | some y =>
      rw [e4] at g3
      have e5 : Sum.inr y = p.1 := Option.some.inj g3
      rw [← e5] at g2
      obtain ⟨t, ev⟩ := Value.isStrOf_shape (x := y) (v := e.key) g2
      exact ⟨y, t, rfl, ev⟩
  have txt2 : ∀ e ∈ des.toList, ∃ y t, e.key = Value.str y t := fun e he => by
    obtain ⟨i, hi, e2⟩ := List.mem_iff_getElem.mp he
    obtain ⟨y, t, _, q⟩ := txt i e (by rw [List.getElem?_eq_getElem hi, e2])
    exact ⟨y, t, q⟩
  refine call_set_dict (knd := mixKind X.prog X.w) lo ho hx hdt hk (fun e he => ?_) pr nd few2 fun h' kp R => ?_
  · obtain ⟨y, t, q⟩ := txt2 e (by simpa using he)
    rw [q]
    rfl
  · have es : ((des.toList.map entOf).map fun e => strOf e.2) = ks := by
      rw [List.map_map]
      refine List.ext_getElem? fun i => ?_
      rw [List.getElem?_map]
      cases e : des.toList[i]? with
      | none =>
        have : ks.length ≤ i := by rw [← lens, ← plen pr]; exact List.getElem?_eq_none_iff.mp e
        rw [List.getElem?_eq_none_iff.mpr this]
        rfl
      | some x =>
        obtain ⟨y, t, g1, g2⟩ := txt i x e
        rw [g1]
        show some (strOf x.key) = some y
        rw [g2]
        rfl
    have st : ∀ e ∈ des.toList.map entOf, ∃ x t, e.2 = Value.str x t := fun e he => by
      obtain ⟨e2, h2, rfl⟩ := List.mem_map.mp he
      exact txt2 e2 h2
    refine ⟨.ref s.heap.objs.size, upd H s.heap.objs.size (SetS X.prog X.w s.heap.objs.size ks), I.laid (t' := s.toks) kp (Nat.le_refl _) ⟨⟨_, R, st, es⟩, let ⟨o, _, _, _, e, _⟩ := R; ⟨o, e⟩, fun h1 h2 ⟨l, r1, r2, r3⟩ k => ⟨l, r1.move k, r2, r3⟩⟩, rfl, q _ (I.hok.fresh (Nat.le_refl _))⟩
/-- sorted of it -/
theorem cr_sortedTx (hc : X.calm = true) : CallR X (.builtin "sorted") (fun xs H Q => ∃ (a : Addr) (ks : List Str), xs = [.ref a] ∧ H a = some (SetS X.prog X.w a ks) ∧ ks.length < 64 ∧ ∀ ys p, ys.Perm ks → sortedS ys = true → H p = none → Q (.ref p) (upd H p (.lst (ys.map V.str)))) := by
  intro pins s σ H xs us Q I r h
  obtain ⟨a, ks, rfl, ha, few, q⟩ := h
  obtain ⟨⟨l, R, st, rfl⟩, _⟩ := I.hok a _ ha
  rw [Vals.ref1 r]
  rw [List.length_map] at few
  refine sorted_sr R (I.ok.hd hc) few st fun s' p out c ys k g o hp hg hi pm so => ?_
  have hlen : (ys.map V.str).length ≤ sizeLine := by rw [List.length_map, pm.length_eq, List.length_map, sizeLine_eq]; omega
  have hn : H p = none := I.hok.fresh hp
  have J : Inv X pins σ (upd H p (.lst (ys.map V.str))) { s with heap := s'.heap, gens := s'.gens, drawn := s'.drawn, toks := s'.toks } :=
    I.call (ch := []) (Un.laid k hp hn) (I.hok.laid k hp ⟨hlen, out.toList, c, vals_of_strs hi, hg⟩) (by rw [g]; exact I.bare) (fun _ z => nomatch z)
  have e : s' = { s with heap := s'.heap, gens := s'.gens, drawn := s'.drawn, toks := s'.toks } := by
    cases s'
    cases s
    cases o
    rfl
  rw [e]
  exact ⟨.ref p, _, J, rfl, q ys p pm so hn⟩
end
end Fs
set_option Elab.async false
set_option linter.all false
set_option maxRecDepth 100000
set_option maxHeartbeats 4000000
/-! FsE: tuple(d), list(d.values()) -/
namespace Fs
open PySem PySem.Spec PyProof.Rows L2
open PySem.W (Frag)
section
variable {P : Program} {w : World} {A : Around} {E : Value → Shared → Prop} {s : Shared} {T : String} {r d : Addr} {n : Nat} {Pv : Nat → Value → Prop} {OK : Heap → Prop}
theorem new_tuple_of {Q1 : Value → Shared → Prop} (S : PySem.W.KdlSrc P w T r d n Pv OK) (nt : isSubtype (.type T) (.type "tuple") = pure false) (hne : (Value.type T == Value.type "tuple") = false) (hh : A.handled = none) (ok : OK s.heap) (hn : n ≤ sizeLine)
    (h : ∀ (h' : Heap) (tk : Nat) (acc : Array Value), (∀ b o, s.heap.get? b = some o → h'.get? b = some o) → ItemsOf Pv acc n → Q1 (.ref h'.objs.size) { s with heap := h'.push { cls := .type "tuple", data := .seq acc }, toks := tk }) :
    codeAny (model P w) A (.call (.builtin "tuple.__new__") ⟨[.type "tuple", .ref r], []⟩) (wants Q1 E) s := by
  refine codeAny_of_tree ?_
  show wpAny _ A.in1 (do checkBuiltinCall "tuple.__new__" ⟨[.type "tuple", .ref r], []⟩; again (.builtin "tuple.__new__" ⟨[.type "tuple", .ref r], []⟩)) _ _ s
  refine wpAny_bind (wpAny_of_eq (F.newCall_tuple_1 _) (wpAny_pure ⟨plainId_quiet F.plain_tuple_new _, codeAny_builtin F.entry_tuple_new ?_⟩))
  rw [Around.under_plainId F.plain_tuple_new _]
  have hsub := sub_tuple_self
  have hinit := init_tuple_lookup
  have hmh := madeHere_tuple
  have hTI := S.type s ok
  have hh1 : A.in1.handled = none := hh
  wp_walk using wpAny_typeOf hTI, PySem.W.kdu_collect (A := A.in1) S hh1 ok hn
  intro h' tk acc hk hacc
  show wpAny _ _ (Builtin.Tuple.tupleExact acc.toList.toArray >>= fun v => ret v) _ _ _
  have ea : acc.toList.toArray = acc := by simp
  rw [ea]
  unfold Builtin.Tuple.tupleExact
  exact wpAny_bind (wpAny_newObj_type (wpAny_pure (h h' tk acc hk hacc)) (by show acc.size ≤ sizeLine; rw [hacc.1]; exact hn))
theorem call_tuple_src {Q : Value → Shared → Prop} (S : PySem.W.KdlSrc P w T r d n Pv OK) (nt : isSubtype (.type T) (.type "tuple") = pure false) (hne : (Value.type T == Value.type "tuple") = false) (hh : A.handled = none) (ok : OK s.heap) (hn : n ≤ sizeLine)
    (h : ∀ (h' : Heap) (tk : Nat) (acc : Array Value), (∀ b o, s.heap.get? b = some o → h'.get? b = some o) → ItemsOf Pv acc n → Q (.ref h'.objs.size) { s with heap := h'.push { cls := .type "tuple", data := .seq acc }, toks := tk }) :
    wpAny (model P w) A (call (.type "tuple") [.ref r]) Q E s := by
  refine callType_codes (Q₁ := fun obj s1 => s1.TypeIs obj "tuple" ∧ Q obj s1) F.called_tuple (F.typeCall_tuple_1 _) F.entry_object_init
    (new_tuple_of (A := A.in1) S nt hne hh ok hn fun h' tk acc hk hacc => ⟨⟨_, Heap.get?_push_size _ rfl, rfl⟩, h h' tk acc hk hacc⟩) fun obj s1 h1 => ?_
  exact ⟨h1.1, F.args_object_init_2 obj _, object_init_meets F.called_tuple.init.lookup F.called_tuple.made (by decide) P w A.in1 _ s1 ⟨h1.1, rfl, h1.2⟩⟩
end
theorem dict_no_tuple : isSubtype (.type "dict") (.type "tuple") = pure false := by rw [isSubtype_type]; kernel_rfl
section
variable {X : Cx}
/-- tuple(d): its keys -/
theorem call_tupleD (hc : X.calm = true) : CallR X (.type "tuple") (fun xs H Q => ∃ (a : Addr) (kvs : List (Key × V)), xs = [.ref a] ∧ H a = some (.dK kvs) ∧ ∀ p, H p = none → Q (.ref p) (upd H p (.tup (kvs.map fun kv => kV kv.1)))) := by
  intro pins s σ H xs us Q I r h
  obtain ⟨a, kvs, rfl, hd, q⟩ := h
  rw [Vals.ref1 r]
  obtain ⟨z, lo, vs, rel, dd⟩ := dk_of I.hok hd
  obtain ⟨ep, hat⟩ := dd.dictAt
  have lens : kvs.length = vs.length := Paired.length rel
  have ek : (kvs.map fun kv => kV kv.1) = vs.map fun p => kV p.1 := by
    have e := congrArg (List.map kV) rel.keys
    rw [List.map_map, List.map_map] at e
    exact e
  refine call_tuple_src (PySem.W.kdl_dict (knd := mixKind X.prog X.w) (kvs := vs) (ep := ep) lo) dict_no_tuple (by decide) (I.ok.hd hc) hat (by rw [← lens]; exact z) fun h' tk acc hk hacc => ?_
  have hv : Vals (vs.map fun p => kV p.1) acc.toList := by
    refine vals_of_at (by rw [List.length_map, Array.length_toList]; exact hacc.1.symm) fun j x u e1 e2 => ?_
    obtain ⟨k, y, g1, g2⟩ := hacc.2 j u (by rw [← Array.getElem?_toList]; exact e2)
    rw [List.getElem?_map, g1] at e1
    rw [← Option.some.inj e1]
    exact keyIs_rel (show keyIs k u = true from g2)
  have I1 : Inv X pins σ H { s with heap := h', toks := tk } := I.kept hk
  refine ⟨.ref h'.objs.size, upd H h'.objs.size (.tup (kvs.map fun kv => kV kv.1)), I1.laid (t' := tk) (fun b u e => Heap.get?_push_of_some _ e) (Nat.le_refl _) (show ObjOk X.prog X.w _ _ _ (.tup _) from ⟨by rw [List.length_map]; exact z, acc.toList, by rw [ek]; exact hv, by rw [Array.toArray_toList]; exact IsTup.new _ _⟩), rfl, q _ (I1.hok.fresh (Nat.le_refl _))⟩
/-- list(e.values()) -/
def tListVals (te : TE) : TE := fun σ H Q => te σ H fun x H1 => ∃ (d : Addr) (kvs : List (Key × V)), x = .ref d ∧ H1 d = some (.dK kvs) ∧ ∀ p, H1 p = none → Q (.ref p) (upd H1 p (.lst (kvs.map (·.2))))
theorem kv_vals : ∀ {kvs : List (Key × V)} {vs : List (Key × Value)}, KV kvs vs → Vals (kvs.map (·.2)) (vs.map (·.2))
  | _, _, .nil => .nil
  | _, _, .cons h t => .cons h.2 (kv_vals t)
theorem pe_listVals {e : Expr} {te : TE} {p apos cpos pos : Pos} (hc : X.calm = true) (he : PE X e te) (hg : Gl X "list") (hm : X.mg "list" = none) (hv : bootBuiltins "list" = some (.type "list")) (hbase : attributeBase e "values" X.env (eval e X.env) = eval e X.env := by rfl) (hline : (apos.endLine == cpos.line) = true := by rfl)
    (hs : starEach [.Call (.Attribute e "values" apos) [] [] cpos] X.env = (false, eval (.Call (.Attribute e "values" apos) [] [] cpos) X.env) :: starEach [] X.env := by rfl) :
    PE X (.Call (.Name "list" p) [.Call (.Attribute e "values" apos) [] [] cpos] [] pos) (tListVals te) := by
  refine ⟨fun pins s σ H Q I hq => ?_⟩
  refine wpAny_Call_Name_kw (ld_blt I hg hm hv ?_)
  refine PyProof.Rows.callWith_type1 ?_ hs rfl
  rw [hs]
  show wpAny _ _ (spliced ((false, eval (.Call (.Attribute e "values" apos) [] [] cpos) X.env) :: backTo pos (starEach [] X.env))) _ _ s
  refine Calls.spliced_cons (wpAny_Call_method (T := "dict") (id := "dict.values") hbase rfl hline F.plainAttrs_dict F.slot_dict_values F.type_dict_values (thn (he.run pins s σ H _ I hq) fun u s1 ⟨x, H1, I1, rx, d, kvs, ex, hd, q⟩ => ?_))
  subst ex
  obtain rfl : u = Value.ref d := rx
  obtain ⟨hz, hs0, vs, kv, hdo⟩ := dk_of I1.hok hd
  obtain ⟨ep, hat⟩ := hdo.dictAt
  have lens : kvs.length = vs.length := Paired.length kv
  refine ⟨hdo.typeIs, hdo.mapOf.noDict, ?_⟩
  show wpAny _ _ (callWith cpos (.builtin "dict.values") [.ref d] [] []) _ X.xe s1
  refine method_meetsIn F.slot_dict_values F.entry_dict_values rfl (PySem.evalArgs_none ⟨rfl, hdo.typeIs, F.args_dict_values_1 _, _, meets_dict_values (mixKind X.prog X.w) d hs0, ⟨vs, hdo⟩, ?_⟩)
  refine Calls.spliced_nil ?_
  refine PySem.W.kdl_call (PySem.W.kdl_values (knd := mixKind X.prog X.w) (kvs := vs) (ep := ep)) (I1.ok.hd hc) ⟨⟨_, Heap.get?_push_size _ rfl, rfl, rfl⟩, hat.push _⟩ (by rw [← lens]; exact hz) fun h' tk acc c hk hS hacc => ?_
  have I2 : Inv X pins σ H1 { s1 with heap := s1.heap.push { cls := .type "dict_values", data := .fields #[.ref d] } } := I1.kept (t' := s1.toks) fun b ob q => Heap.get?_push_of_some _ q
  have ea : acc.toList = vs.map (·.2) := PySem.W.kdl_vals_eq (kvs := vs) acc.toList (by rw [Array.length_toList]; exact hacc.1) (fun j u e => hacc.2 j u (by rw [← Array.getElem?_toList]; exact e))
  have hvv : Vals (kvs.map (·.2)) acc.toList := by rw [ea]; exact kv_vals kv
  refine ⟨.ref _, _, I2.laid (t' := tk) hk (Nat.le_refl _) (show ObjOk X.prog X.w _ _ _ (.lst (kvs.map (·.2))) from ⟨by rw [List.length_map]; exact hz, acc.toList, c, hvv, by rw [Array.toArray_toList]; exact hS⟩), rfl, q _ (I2.hok.fresh (Nat.le_refl _))⟩
end
/-- a turn of a comprehension without a test -/
theorem yes_of {σ : L2.St} {H : Hp} {A B : Hp → Prop} (h : A H) : tYes σ H (fun b H3 => if b = true then A H3 else B H3) := by
  show if true = true then A H else B H
  rw [if_pos rfl]
  exact h
/-- what can't be reached -/
theorem pss_no {X : Cx} {ss : List Stmt} : PSs X ss (fun _ _ _ => False) := ⟨fun _ _ _ _ _ _ h => h.elim⟩
end Fs
set_option Elab.async false
set_option linter.all false
set_option maxRecDepth 100000
set_option maxHeartbeats 4000000
/-! FsF: dict comprehensions by turns; numbers by names -/
namespace Fs
open PySem PySem.Spec PyProof.Rows L2 Fh
open PySem.W (Frag)
section
variable {J : It} {n : Nat} {G : Hp → Prop} {Y : Nat → Hp → V → Hp → Prop}
/-- a dict comprehension over a walk: Pv by the turn and the heap -/
theorem dc_it (w : Walk J n G Y) {g : TG} {tt : TT} {tk tv : TE} {vs : List Nat} {σ : L2.St} {H1 : Hp} {D : Addr} {Qd : Hp → Prop} (Pv : Nat → Hp → Prop) (h0 : Pv 0 (upd H1 D (.dK []))) (hG : ∀ i H, i ≤ n → Pv i H → G H)
    (hs : ∀ i x H H', i < n → Pv i H → Y i H x H' → g x (wipe σ vs) H' fun σ2 H2 => wipe σ2 vs = wipe σ vs ∧ tt σ2 H2 fun b H3 =>
      if b = true then tk σ2 H3 fun y H4 => tv σ2 H4 fun z H5 => ∃ kvs k, y = kV k ∧ H5 D = some (.dK kvs) ∧ kvs.length < sizeLine ∧ Pv (i + 1) (upd H5 D (.dK (putK kvs k z))) else Pv (i + 1) H3) (hd : ∀ H, Pv n H → Qd H) :
    ∃ W : Nat → Nat → Hp → Prop, (∃ m, W 0 m (upd H1 D (.dK []))) ∧ ∀ i m H, W i m H →
      (J.stop i H ∧ Qd H) ∨ (J.go i H ∧ ∃ Nx : Hp → Prop, (∀ H', Nx H' → ∃ m', m' < m ∧ W (i + 1) m' H') ∧ ∀ x H', J.yld i H x H' → g x (wipe σ vs) H' fun σ2 H2 => wipe σ2 vs = wipe σ vs ∧ tt σ2 H2 fun b H3 =>
        if b = true then tk σ2 H3 fun y H4 => tv σ2 H4 fun z H5 => ∃ kvs k, y = kV k ∧ H5 D = some (.dK kvs) ∧ kvs.length < sizeLine ∧ Nx (upd H5 D (.dK (putK kvs k z))) else Nx H3) := by
  refine ⟨fun i m H => m + i = n ∧ Pv i H, ⟨n, rfl, h0⟩, fun i m H ⟨e, p⟩ => ?_⟩
  cases m with
  | zero =>
    rw [Nat.zero_add] at e
    subst e
    exact .inl ⟨w.stops H (hG _ H (Nat.le_refl _) p), hd H p⟩
  | succ m =>
    have hlt : i < n := by omega
    have q := hG i H (Nat.le_of_lt hlt) p
    exact .inr ⟨w.goes i H hlt q, Pv (i + 1), fun H' p' => ⟨m, Nat.lt_succ_self m, by omega, p'⟩, fun x H' y => hs i x H H' hlt p (w.yields i H x H' hlt q y)⟩
end
/-! ### numbers by names -/
abbrev Num : Type := List (Str × Int)
def cD (m : Num) : List (Key × V) := m.map fun q => (.inr q.1, .int q.2)
def names (m : Num) : List Str := m.map (·.1)
theorem cD_keys (m : Num) : (cD m).map (·.1) = (names m).map Sum.inr := by
  unfold cD names
  rw [List.map_map, List.map_map]
  rfl
theorem cD_len (m : Num) : (cD m).length = m.length := List.length_map _
theorem cD_val (m : Num) (y : Str) : valV (cD m) (.inr y) = (m.lookup y).map V.int := by
  induction m with
  | nil => rfl
  | cons q m ih =>
    obtain ⟨x, n⟩ := q
    by_cases e : y = x
    · subst e
      show ((List.find? (fun kv => decide (kv.1 = Sum.inr y)) ((Sum.inr y, V.int n) :: cD m)).map (·.2)) = _
      rw [List.find?_cons_of_pos (by simp), List.lookup_cons_self]
      rfl
    · have ne : ¬ ((Sum.inr x : Key) = Sum.inr y) := fun z => e (Sum.inr.inj z).symm
      show ((List.find? (fun kv => decide (kv.1 = Sum.inr y)) ((Sum.inr x, V.int n) :: cD m)).map (·.2)) = _
      rw [List.find?_cons_of_neg (by simpa using ne)]
      show valV (cD m) (.inr y) = _
      rw [ih, List.lookup_cons]
      have b : (y == x) = false := beq_eq_false_iff_ne.mpr e
      rw [b]
theorem names_len (m : Num) : (names m).length = m.length := List.length_map _
theorem lookup_some {m : Num} {y : Str} (h : y ∈ names m) : ∃ n, m.lookup y = some n ∧ (y, n) ∈ m := by
  induction m with
  | nil => cases h
  | cons q m ih =>
    obtain ⟨x, n⟩ := q
    by_cases e : y = x
    · subst e
      exact ⟨n, List.lookup_cons_self, List.mem_cons_self⟩
    · have h2 : y ∈ names m := by
        rcases List.mem_cons.mp (show y ∈ x :: names m from h) with z | z
        · exact absurd z e
        · exact z
      obtain ⟨k, h3, h4⟩ := ih h2
      exact ⟨k, by rw [List.lookup_cons, beq_eq_false_iff_ne.mpr e]; exact h3, List.mem_cons_of_mem _ h4⟩
theorem lookup_none {m : Num} {y : Str} (h : y ∉ names m) : m.lookup y = none := by
  induction m with
  | nil => rfl
  | cons q m ih =>
    obtain ⟨x, n⟩ := q
    have e : y ≠ x := fun z => h (by rw [z]; exact List.mem_cons_self)
    rw [List.lookup_cons, beq_eq_false_iff_ne.mpr e]
    exact ih fun z => h (List.mem_cons_of_mem _ z)
/-- those above 0, in the order of ys -/
def pick (m : Num) (ys : List Str) : Num := ys.filterMap fun y => (m.lookup y).bind fun n => if 0 < n then some (y, n) else none
theorem pick_snoc (m : Num) (ys : List Str) (y : Str) (n : Int) (h : m.lookup y = some n) : pick m (ys ++ [y]) = if 0 < n then pick m ys ++ [(y, n)] else pick m ys := by
  unfold pick
  rw [List.filterMap_append]
  show _ ++ List.filterMap _ [y] = _
  rw [List.filterMap_cons, h]
  by_cases p : 0 < n
  · rw [if_pos p]
    simp [p]
  · rw [if_neg p]
    simp [p]
theorem pick_names (m : Num) (ys : List Str) : ∀ y ∈ names (pick m ys), y ∈ ys := by
  intro y hy
  obtain ⟨q, hq, e⟩ := List.mem_map.mp hy
  obtain ⟨z, hz, e2⟩ := List.mem_filterMap.mp hq
  cases h : m.lookup z with
  | none => rw [h] at e2; cases e2
  | some n =>
    rw [h] at e2
    have e3 : (if 0 < n then some (z, n) else none) = some q := e2
    by_cases p : 0 < n
    · rw [if_pos p] at e3
      have e4 := Option.some.inj e3
      have e : q.1 = y := e
      rw [← e, ← e4]
      exact hz
    · rw [if_neg p] at e3
      cases e3
theorem pick_len (m : Num) (ys : List Str) : (pick m ys).length ≤ ys.length := List.length_filterMap_le _ _
/-- a new key stands at the end -/
theorem putK_new {m : Num} {y : Str} {v : V} (h : y ∉ names m) : putK (cD m) (.inr y) v = cD m ++ [(.inr y, v)] := by
  unfold putK
  have e : ((cD m).any fun kv => decide (kv.1 = Sum.inr y)) = false := by
    cases q : (cD m).any fun kv => decide (kv.1 = Sum.inr y) with
    | false => rfl
    | true =>
      obtain ⟨kv, h1, h2⟩ := List.any_eq_true.mp q
      obtain ⟨z, hz, e⟩ := List.mem_map.mp h1
      have e2 : kv.1 = Sum.inr y := of_decide_eq_true h2
      rw [← e] at e2
      have e3 : z.1 = y := Sum.inr.inj e2
      exact absurd (by rw [← e3]; exact List.mem_map_of_mem hz) h
  rw [e]
  rfl
theorem cD_snoc (m : Num) (y : Str) (n : Int) : cD (m ++ [(y, n)]) = cD m ++ [(.inr y, .int n)] := by
  unfold cD
  rw [List.map_append]
  rfl
theorem cD_kv (m : Num) : ((cD m).map fun kv => kV kv.1) = (names m).map V.str := by
  unfold cD names
  rw [List.map_map, List.map_map]
  rfl
theorem at_str {ys : List Str} {i : Nat} {x : V} (h : (ys.map V.str)[i]? = some x) : ∃ y, ys[i]? = some y ∧ x = .str y ∧ y ∈ ys := by
  rw [List.getElem?_map] at h
  cases e : ys[i]? with
  | none => rw [e] at h; cases h
  | some y =>
    rw [e] at h
    exact ⟨y, rfl, (Option.some.inj h).symm, List.mem_of_getElem? e⟩
theorem take_snoc {ys : List Str} {i : Nat} {y : Str} (h : ys[i]? = some y) : ys.take (i + 1) = ys.take i ++ [y] := by
  rw [List.take_add_one, h]
  rfl
theorem not_before {ys : List Str} {i : Nat} {y : Str} (nd : ys.Nodup) (h : ys[i]? = some y) : y ∉ ys.take i := by
  intro z
  obtain ⟨j, hj, e⟩ := List.mem_iff_getElem.mp z
  have hl : j < i ∧ j < ys.length := by
    rw [List.length_take] at hj
    omega
  have li : i < ys.length := (List.getElem?_eq_some_iff.mp h).1
  have ne := List.pairwise_iff_getElem.mp nd j i hl.2 li hl.1
  rw [List.getElem_take] at e
  rw [List.getElem?_eq_getElem li] at h
  exact ne (e.trans (Option.some.inj h).symm)
end Fs
set_option Elab.async false
set_option linter.all false
set_option maxRecDepth 100000
set_option maxHeartbeats 4000000
namespace Fs2
open PySem PySem.Spec PyProof.Rows L2 Fh Fs
open PySem.W (Frag)
def top (i : Nat) : Stmt := PySem.Challenge.pw_fewhands_k02_whole_staffs_as_numbers.main.body.getD i (.Pass ⟨0, 0, 0, 0⟩)
abbrev sWord : Stmt := top 5
abbrev sWhole : Stmt := top 6
abbrev sUnp : Stmt := top 12
abbrev sCnt : Stmt := top 13
abbrev sKeys : Stmt := top 14
abbrev sStf : Stmt := top 15
/-- the names that the package's body leans on -/
structure TxtS (mg : Str → Option Value) : Prop where
  isinstance : mg "isinstance" = none
  str : mg "str" = none
  int : mg "int" = none
  bool : mg "bool" = none
  dict : mg "dict" = none
  list : mg "list" = none
  tuple : mg "tuple" = none
  len : mg "len" = none
  all : mg "all" = none
  sum : mg "sum" = none
  sorted : mg "sorted" = none
  LETTERS : ∃ u, mg "LETTERS" = some (.str "abcdefghijklmnopqrstuvwxyz" u)
  LONGEST : ∃ u, mg "LONGEST" = some (.int 8 u)
  HUGE : ∃ u, mg "HUGE" = some (.int (10 ^ 30) u)
/-- a word -/
def Word (x : Str) : Prop := 1 ≤ x.length ∧ x.length ≤ 8 ∧ ∀ c ∈ x.cps.toList, c ∈ (Str.ofString "abcdefghijklmnopqrstuvwxyz").cps.toList
section
variable {P : Program} {w : World} {K : Frag} {mg : Str → Option Value} {base : Heap}
def spWord : Sp := fun vs H Q _ => ∃ x : Str, vs = [.str x] ∧ Word x ∧ ∀ H', Same H H' → Q (.bl true) H'
theorem scWord : FnScope ["value", "letter"] ["value"] (defScope sWord) := ⟨rfl, rfl, rfl, by decide +kernel, rfl, by decide +kernel, by decide +kernel⟩
theorem ok_word {f : Addr} {fd : FuncData} (F : Fun K "is_word" "is_word" sWord f fd) (T : TxtS mg) : FnOk P w K mg base CX0 1 f fd ["value"] spWord := by
  refine F.ok scWord (fun vs H Q E h => ?_) (fun cdv A outer s H vs Q E hr h => ?_)
  · obtain ⟨x, rfl, _⟩ := h
    rfl
  · obtain ⟨x, rfl, ⟨h1, h2, h3⟩, k⟩ := h
    obtain ⟨u1, gL⟩ := T.LETTERS
    obtain ⟨u2, gM⟩ := T.LONGEST
    refine ⟨_, pss_cons (ps_if (PW.pt (pw_or (pt_not (pt_val (pe_callB call_isi (by rfl) T.isinstance (by decide +kernel) (pa_cons (pv 0) (pa_cons (pe_bltn (v := .ty "str") (by rfl) T.str (by decide +kernel) rfl (by decide) (by decide)) pa_nil)))))
      (pw_or1 (pt_not (pt_chain op_le op_le pe_int (pe_callB call_len_str (by rfl) T.len PySem.boot_len (pa_cons (pv 0) pa_nil)) (pe_glob (v := .int 8) (by rfl) gM ⟨_, rfl⟩)))))) (pss_one (ps_ret pe_bl)) pss_nil)
      (pss_one (ps_ret (pe_callB (cr_all rfl) (by rfl) T.all (by decide +kernel) (pa_cons
        (pe_lc (own := [("letter", 1)]) (g := gName 1) (tt := tYes) rfl scWord.nd (pi_str (pv 0)) (blkOk_by (N := ["value", "letter"]) (sc := defScope sWord) (by decide +kernel)) (fun _ _ _ _ _ => pg_name (i := 1) scWord.nd rfl (Or.inl rfl)) (fun _ _ _ _ _ => pts_nil)
          (fun _ _ _ _ _ => pe_cmpR op_in_sign (pv 1) (pe_glob (v := .str "abcdefghijklmnopqrstuvwxyz") (by rfl) gL ⟨_, rfl⟩) (by rfl))) pa_nil)))), ?_⟩
    refine ⟨_, rfl, _, _, _, _, true, rfl, .ty _, .base (.str x), (by rfl), true, rfl, ?_⟩
    have lz : x.length ≤ sizeLine := by rw [sizeLine_eq]; omega
    refine ⟨_, rfl, x, rfl, lz, _, _, rfl, rfl, true, congrArg V.bl (decide_eq_true (by omega)), iteT ⟨_, _, rfl, rfl, true, congrArg V.bl (decide_eq_true (by omega)), iteF ?_⟩⟩
    refine ⟨_, rfl, x, rfl, fun D hD => ?_⟩
    refine lc_it walk_str (fun i H1 => Same H H1 ∧ H1 D = some (.lst (List.replicate i (V.bl true)))) ⟨Same.new hD, upd_same⟩ (fun _ _ _ _ => trivial) ?_ ?_
    · rintro i y H1 H2 hi ⟨s1, d1⟩ ⟨rfl, c, hc, rfl⟩
      have hm : c ∈ x.cps.toList := by
        rw [Array.getElem?_toList.symm] at hc
        exact List.mem_of_getElem? hc
      refine ⟨rfl, ?_⟩
      refine yes_of ?_
      refine ⟨_, rfl, c, _, rfl, rfl, _, d1, ?_, ?_⟩
      · rw [List.length_replicate, sizeLine_eq]
        have : x.length = x.cps.size := rfl
        omega
      · rw [decide_eq_true (h3 c hm), ← List.replicate_succ']
        exact ⟨fun b o z => by rw [upd_ne (ne_of_none z hD)]; exact s1 b o z, upd_same⟩
    · rintro H1 ⟨s1, d1⟩
      refine ⟨D, List.replicate x.cps.size true, rfl, ?_, ?_⟩
      · rw [List.map_replicate]
        exact SqL.of d1
      · have : (List.replicate x.cps.size true).all id = true := by simp
        rw [this]
        exact k _ s1
end
end Fs2
set_option Elab.async false
set_option linter.all false
set_option maxRecDepth 100000
set_option maxHeartbeats 4000000
namespace Fs2
open PySem PySem.Spec PyProof.Rows L2 Fh Fs
open PySem.W (Frag)
/-- an own class of the package, as isinstance sees it -/
structure OwnC (K : Frag) (mg : Str → Option Value) (nm : Str) (C : Addr) : Prop where
  gC : mg nm = some (.ref C)
  cl : Cls K C
  ha : PySem.W.findIn K (.ref C) "__class__" = some (some (.builtin "object.__class__"))
  hn : PySem.W.specialIn K (.builtin "object.__class__") "__get__" = some (some (.builtin "getset_descriptor.__get__"))
  ht : PySem.W.takesIn K (.builtin "object.__class__") = some true
  hm : PySem.W.mroIn K C (.type "object") = some true
  me : PySem.W.kitOne K (.ref C) (.ref C) = some true
  non : PySem.W.kitOne K (.type "NoneType") (.ref C) = some false
  dict : PySem.W.kitOne K (.type "dict") (.ref C) = some false
def Good (m : Num) : Prop := (names m).Nodup ∧ m.length < 64 ∧ ∀ q ∈ m, Word q.1 ∧ 0 ≤ q.2 ∧ q.2 ≤ 10 ^ 30
section
variable {P : Program} {w : World} {K : Frag} {mg : Str → Option Value} {base : Heap}
def spWhole : Sp := fun vs H Q _ => ∃ i lo hi : Int, vs = [.int i, .int lo, .int hi] ∧ lo ≤ i ∧ i ≤ hi ∧ Q (.bl true) H
theorem scWhole : FnScope ["value", "low", "high"] ["value", "low", "high"] (defScope sWhole) := ⟨rfl, rfl, rfl, by decide +kernel, rfl, by decide +kernel, by decide +kernel⟩
theorem ok_whole {f : Addr} {fd : FuncData} (F : Fun K "is_whole" "is_whole" sWhole f fd) (T : TxtS mg) : FnOk P w K mg base CX0 1 f fd ["value", "low", "high"] spWhole := by
  refine F.ok scWhole (fun vs H Q E h => ?_) (fun cdv A outer s H vs Q E hr h => ?_)
  · obtain ⟨i, lo, hi, rfl, _⟩ := h
    rfl
  · obtain ⟨i, lo, hi, rfl, h1, h2, k⟩ := h
    refine ⟨_, pss_cons (ps_if (PW.pt (pw_or (pt_not (pt_val (pe_callB call_isi (by rfl) T.isinstance (by decide +kernel) (pa_cons (pv 0) (pa_cons (pe_bltn (v := .ty "int") (by rfl) T.int (by decide +kernel) rfl (by decide) (by decide)) pa_nil)))))
      (pw_or1 (pt_val (pe_callB call_isi (by rfl) T.isinstance (by decide +kernel) (pa_cons (pv 0) (pa_cons (pe_bltn (v := .ty "bool") (by rfl) T.bool (by decide +kernel) rfl (by decide) (by decide)) pa_nil))))))) (pss_one (ps_ret pe_bl)) pss_nil)
      (pss_one (ps_ret (pe_chain op_le op_le (pv 1) (pv 0) (pv 2)))), ?_⟩
    refine ⟨_, rfl, _, _, _, _, true, rfl, .ty _, .base (.int i), (by rfl), true, rfl, ?_⟩
    refine ⟨_, rfl, _, _, _, _, false, rfl, .ty _, .base (.int i), (by rfl), false, rfl, iteF ?_⟩
    refine ⟨_, rfl, _, rfl, _, _, rfl, rfl, true, congrArg V.bl (decide_eq_true h1), iteT ⟨_, rfl, _, _, rfl, rfl, ?_⟩⟩
    show Q (.bl (decide (i ≤ hi))) H
    rw [decide_eq_true h2]
    exact k
def spUnp (CP : Addr) : Sp := fun vs H Q _ => ∃ d kvs, vs = [.ref d] ∧ H d = some (.dK kvs) ∧ ((∃ p dx c, valV kvs (.inr "packed") = some (.ref p) ∧ H p = some (.ins CP dx [("content", c)]) ∧ Q c H) ∨ (valV kvs (.inr "packed") = none ∧ Q (.ref d) H))
theorem scUnp : FnScope ["numbers", "packed"] ["numbers"] (defScope sUnp) := ⟨rfl, rfl, rfl, by decide +kernel, rfl, by decide +kernel, by decide +kernel⟩
theorem ok_unp {f CP : Addr} {fd : FuncData} (F : Fun K "_unpacked" "_unpacked" sUnp f fd) (T : TxtS mg) (C : OwnC K mg "Packed" CP) (no : NoAttr K CP "content") : FnOk P w K mg base CX0 1 f fd ["numbers"] (spUnp CP) := by
  refine F.ok scUnp (fun vs H Q E h => ?_) (fun cdv A outer s H vs Q E hr h => ?_)
  · obtain ⟨d, kvs, rfl, _⟩ := h
    rfl
  · obtain ⟨d, kvs, rfl, hd, h⟩ := h
    have hu := hu_of hr
    refine ⟨_, pss_cons (ps_set (i := 1) scUnp.nd rfl (Or.inl rfl) (pe_dget1 hu (pv 0) pe_str ⟨rfl, rfl, rfl, rfl⟩))
      (pss_cons (ps_if (pt_val (pe_callB call_isi (by rfl) T.isinstance (by decide +kernel) (pa_cons (pv 1) (pa_cons (pe_glob (v := .ref CP) (by rfl) C.gC rfl) pa_nil)))) (pss_one (ps_ret (pe_fld (pv 1) rfl))) pss_nil)
      (pss_one (ps_ret (pv 0)))), ?_⟩
    refine ⟨_, rfl, d, rfl, .inl ⟨kvs, .inl hd⟩, valV kvs (.inr "packed"), .inl ⟨kvs, .inr "packed", .inl hd, rfl, rfl⟩, ?_⟩
    rcases h with ⟨p, dx, c, e1, e2, k⟩ | ⟨e1, k⟩
    · rw [e1]
      refine ⟨_, rfl, _, _, _, _, true, rfl, .own CP, .base (.ins e2 C.cl C.ha C.hn C.ht C.hm), C.me, true, rfl, iteT ?_⟩
      exact ⟨_, rfl, p, CP, dx, _, c, rfl, e2, C.cl, no, rfl, k⟩
    · rw [e1]
      refine ⟨_, rfl, _, _, _, _, false, rfl, .own CP, .base .non, C.non, false, rfl, iteF ?_⟩
      exact ⟨_, rfl, k⟩
end
end Fs2
set_option Elab.async false
set_option linter.all false
set_option maxRecDepth 100000
set_option maxHeartbeats 4000000
namespace Fs2
open PySem PySem.Spec PyProof.Rows L2 Fh Fs
open PySem.W (Frag)
section
variable {P : Program} {w : World} {K : Frag} {mg : Str → Option Value} {base : Heap}
def spCnt : Sp := fun vs H Q _ => ∃ d m, vs = [.ref d] ∧ H d = some (.dK (cD m)) ∧ Good m ∧
  ∀ ys p H', ys.Perm (names m) → sortedS ys = true → H p = none → Same H H' → H' p = some (.dK (cD (pick m ys))) → Q (.ref p) H'
theorem scCnt : FnScope ["numbers", "names", "name"] ["numbers"] (defScope sCnt) := ⟨rfl, rfl, rfl, by decide +kernel, rfl, by decide +kernel, by decide +kernel⟩
theorem ok_cnt {f aW aH : Addr} {fd fW fH : FuncData} (F : Fun K "_counted" "_counted" sCnt f fd) (FW : Fun K "is_word" "is_word" sWord aW fW) (FH : Fun K "is_whole" "is_whole" sWhole aH fH) (gW : mg "is_word" = some (.ref aW)) (gH : mg "is_whole" = some (.ref aH)) (T : TxtS mg) :
    FnOk P w K mg base CX0 2 f fd ["numbers"] spCnt := by
  have GW : FnOk P w K mg base CX0 1 aW fW ["value"] spWord := ok_word FW T
  have GH : FnOk P w K mg base CX0 1 aH fH ["value", "low", "high"] spWhole := ok_whole FH T
  have bW : Binds K fW ["value"] [] := FW.binds (ps := ["value"]) fun _ _ _ _ _ _ us hl => match us, hl with | [_], _ => rfl
  have bH : Binds K fH ["value", "low", "high"] [] := FH.binds (ps := ["value", "low", "high"]) fun _ _ _ _ _ _ us hl => match us, hl with | [_, _, _], _ => rfl
  refine F.ok scCnt (fun vs H Q E h => ?_) (fun cdv A outer s H vs Q E hr h => ?_)
  · obtain ⟨d, m, rfl, _⟩ := h
    rfl
  · obtain ⟨d, m, rfl, hd, ⟨nd, few, good⟩, k⟩ := h
    have hu := hu_of hr
    obtain ⟨uH, gHuge⟩ := T.HUGE
    refine ⟨_, pss_cons (ps_set (i := 1) scCnt.nd rfl (Or.inl rfl) (pe_callB cr_sortedS (by rfl) T.sorted (by decide +kernel) (pa_cons (pe_callTy (call_list_dK rfl) (by rfl) T.list (by decide +kernel) (pa_cons (pv 0) pa_nil)) pa_nil)))
      (pss_cons (ps_for PassesOwn.never rfl (pi_list (pv 1)) (pg_name (i := 2) scCnt.nd rfl (Or.inl rfl))
        (pss_one (ps_if (pt_not (pt_val (pe_call GW hr rfl gW FW.kp bW .nil pass0 (pa_cons (pv 2) pa_nil)))) pss_no pss_nil)))
      (pss_cons (ps_for PassesOwn.never rfl (pi_list (pv 1)) (pg_name (i := 2) scCnt.nd rfl (Or.inl rfl))
        (pss_one (ps_if (pt_not (pt_val (pe_call GH hr rfl gH FH.kp bH .nil pass0 (pa_cons (pe_dget hu (pv 0) (pv 2) (fun _ _ => rfl)) (pa_cons pe_int (pa_cons (pe_glob (v := .int (10 ^ 30)) (by rfl) gHuge ⟨_, rfl⟩) pa_nil)))))) pss_no pss_nil)))
      (pss_one (ps_ret (pe_dc (own := [("name", 2)]) (g := gName 2) rfl scCnt.nd (pi_list (pv 1)) (blkOk_by (N := ["numbers", "names", "name"]) (sc := defScope sCnt) (by decide +kernel)) (fun _ _ _ _ _ => pg_name (i := 2) scCnt.nd rfl (Or.inl rfl))
        (fun _ _ _ _ _ => pts_one (pt_cmpR op_gt (pe_dget (by have := hu; exact this) (pv 0) (pv 2) (fun _ _ => rfl)) pe_int (nomark _))) (fun _ _ _ _ _ => pv 2) (fun _ _ _ _ _ => pe_dget (by have := hu; exact this) (pv 0) (pv 2) (fun _ _ => rfl))))))), ?_⟩
    refine ⟨_, rfl, d, cD m, rfl, hd, fun l hl => ⟨l, names m, rfl, by rw [← cD_kv]; exact SqL.of upd_same, by rw [names_len]; exact few, fun ys p pm so hp => ?_⟩⟩
    have hpd : H p = none := by
      by_cases e : p = l
      · rw [e]; exact hl
      · rw [upd_ne e] at hp; exact hp
    have s1 : Same H (upd (upd H l (.lst ((cD m).map fun kv => kV kv.1))) p (.lst (ys.map V.str))) := (Same.new hl).trans (Same.new hp)
    have l1 : (upd (upd H l (.lst ((cD m).map fun kv => kV kv.1))) p (.lst (ys.map V.str))) p = some (.lst (ys.map V.str)) := upd_same
    generalize upd (upd H l (.lst ((cD m).map fun kv => kV kv.1))) p (.lst (ys.map V.str)) = H1 at s1 l1 ⊢
    have ndy : ys.Nodup := pm.nodup_iff.mpr nd
    have num : ∀ {y : Str}, y ∈ ys → ∃ n, m.lookup y = some n ∧ Word y ∧ 0 ≤ n ∧ n ≤ 10 ^ 30 := fun {y} hy => by
      obtain ⟨n, e1, e2⟩ := lookup_some (m := m) (y := y) (pm.mem_iff.mp hy)
      exact ⟨n, e1, (good _ e2).1, (good _ e2).2.1, (good _ e2).2.2⟩
    have getn : ∀ {H' : Hp} {y : Str} {n : Int}, Same H1 H' → m.lookup y = some n → DGet H' d (.str y) (some (.int n)) := fun {H' y n} sm e =>
      .inl ⟨cD m, .inr y, .inl (sm _ _ (s1 _ _ hd)), rfl, by rw [cD_val, e]; rfl⟩
    refine ⟨_, rfl, p, rfl, ⟨_, SqL.of l1⟩, for_list (xs := ys.map V.str) (fun _ σ H2 => ∃ z, σ = [some (V.ref d), some (.ref p), z] ∧ Same H1 H2) ⟨none, rfl, Same.refl _⟩ (fun _ _ _ _ ⟨_, _, z⟩ => SqL.of (z _ _ l1)) ?_ ?_⟩
    · rintro i x σ H2 hx ⟨z, rfl, s2⟩
      obtain ⟨y, _, rfl, hy⟩ := at_str hx
      obtain ⟨n, _, wy, _, _⟩ := num hy
      refine ⟨_, rfl, y, rfl, wy, fun H3 s3 => ⟨true, rfl, iteF ?_⟩⟩
      exact ⟨_, rfl, s2.trans s3⟩
    · rintro σ H2 ⟨z, rfl, s2⟩
      refine ⟨_, rfl, p, rfl, ⟨_, SqL.of (s2 _ _ l1)⟩, for_list (xs := ys.map V.str) (fun _ σ H3 => ∃ z, σ = [some (V.ref d), some (.ref p), z] ∧ Same H1 H3) ⟨z, rfl, s2⟩ (fun _ _ _ _ ⟨_, _, z⟩ => SqL.of (z _ _ l1)) ?_ ?_⟩
      · rintro i x σ H3 hx ⟨z3, rfl, s3⟩
        obtain ⟨y, _, rfl, hy⟩ := at_str hx
        obtain ⟨n, en, _, n0, n1⟩ := num hy
        refine ⟨_, rfl, _, rfl, d, .int n, rfl, getn s3 en, n, 0, 10 ^ 30, rfl, n0, n1, true, rfl, iteF ?_⟩
        exact ⟨_, rfl, s3⟩
      · rintro σ H3 ⟨z3, rfl, s3⟩
        refine ⟨_, rfl, p, rfl, ⟨_, SqL.of (s3 _ _ l1)⟩, fun D hD => ?_⟩
        refine dc_it (walk_list (K := K) (a := p) (xs := ys.map V.str)) (fun i H4 => Same H3 H4 ∧ H4 D = some (.dK (cD (pick m (ys.take i))))) ⟨Same.new hD, upd_same⟩ (fun _ H4 _ z => SqL.of (z.1 _ _ (s3 _ _ l1))) ?_ ?_
        · rintro i x H4 H5 hi ⟨s4, d4⟩ ⟨rfl, hx⟩
          obtain ⟨y, hy, rfl, hm⟩ := at_str hx
          obtain ⟨n, en, _, _, _⟩ := num hm
          have gt := getn (s3.trans s4) en
          have nw : y ∉ names (pick m (ys.take i)) := fun z => not_before ndy hy (pick_names _ _ _ z)
          refine ⟨rfl, ?_⟩
          refine ⟨_, rfl, _, rfl, d, .int n, rfl, gt, n, 0, rfl, rfl, _, rfl, ite2 (fun pos => ?_) (fun neg => ?_)⟩
          · refine ⟨_, rfl, _, rfl, _, rfl, d, .int n, rfl, gt, _, .inr y, rfl, d4, ?_, ?_⟩
            · have h1 := pick_len m (ys.take i)
              have h2 : (ys.take i).length ≤ ys.length := by rw [List.length_take]; omega
              have h3 : ys.length = m.length := by rw [pm.length_eq, names_len]
              rw [cD_len, sizeLine_eq]
              omega
            · rw [putK_new nw, take_snoc hy, pick_snoc _ _ _ _ en, if_pos (of_decide_eq_true pos), cD_snoc]
              exact ⟨fun b o z => by rw [upd_ne (ne_of_none z hD)]; exact s4 b o z, upd_same⟩
          · rw [take_snoc hy, pick_snoc _ _ _ _ en, if_neg (fun z => neg (decide_eq_true z))]
            exact ⟨s4, d4⟩
        · rintro H4 ⟨s4, d4⟩
          rw [List.length_map, List.take_of_length_le (Nat.le_refl _)] at d4
          have hDn : H D = none := by
            cases e : H D with
            | none => rfl
            | some o =>
              have := s3 _ _ (s1 _ _ e)
              rw [hD] at this
              cases this
          exact k ys D H4 pm so hDn ((s1.trans s3).trans s4) d4
end
end Fs2
set_option Elab.async false
set_option linter.all false
set_option maxRecDepth 100000
set_option maxHeartbeats 4000000
namespace Fs2
open PySem PySem.Spec PyProof.Rows L2 Fh Fs
open PySem.W (Frag)
abbrev sPkI : Stmt := inClass (top 11) 0
abbrev sStI : Stmt := inClass (top 16) 0
abbrev sStOf : Stmt := inClass (top 16) 1
section
variable {P : Program} {w : World} {K : Frag} {mg : Str → Option Value} {base : Heap}
theorem boot_isi : bootBuiltins "isinstance" = some (.builtin "isinstance") := by decide +kernel
def spKeys : Sp := fun vs H Q _ => ∃ d m, vs = [.ref d] ∧ H d = some (.dK (cD m)) ∧ m.length < 1000 ∧ ∀ H', Same H H' → Q (.bl true) H'
theorem scKeys : FnScope ["value", "key"] ["value"] (defScope sKeys) := ⟨rfl, rfl, rfl, by decide +kernel, rfl, by decide +kernel, by decide +kernel⟩
theorem ok_keys {f : Addr} {fd : FuncData} (F : Fun K "_has_string_keys" "_has_string_keys" sKeys f fd) (T : TxtS mg) : FnOk P w K mg base CX0 1 f fd ["value"] spKeys := by
  refine F.ok scKeys (fun vs H Q E h => ?_) (fun cdv A outer s H vs Q E hr h => ?_)
  · obtain ⟨d, m, rfl, _⟩ := h
    rfl
  · obtain ⟨d, m, rfl, hd, hl, k⟩ := h
    refine ⟨_, pss_one (ps_ret (pe_and (pe_callB call_isi (by rfl) T.isinstance (by decide +kernel) (pa_cons (pv 0) (pa_cons (pe_bltn (v := .ty "dict") (by rfl) T.dict (by decide +kernel) rfl (by decide) (by decide)) pa_nil)))
      (pe_one (pe_callB (cr_all rfl) (by rfl) T.all (by decide +kernel) (pa_cons (pe_lock (pe_lc (own := [("key", 1)]) (g := gName 1) (tt := tYes) rfl scKeys.nd (pi_keys (pv 0)) (blkOk_by (N := ["value", "key"]) (sc := defScope sKeys) (by decide +kernel)) (fun _ _ _ _ _ => pg_name (i := 1) scKeys.nd rfl (Or.inl rfl)) (fun _ _ _ _ _ => pts_nil)
          (fun _ _ _ _ _ => pe_callB (r := rIsi K) call_isi (by rfl) T.isinstance boot_isi (pa_cons (pv 1) (pa_cons (pe_bltn (v := .ty "str") (by rfl) T.str (by decide +kernel) rfl (by decide) (by decide)) pa_nil))))) pa_nil))))), ?_⟩
    refine ⟨_, rfl, _, _, _, _, true, rfl, .ty _, .base (.dK hd), (by rfl), true, rfl, iteT ?_⟩
    refine ⟨d, .dK (cD m), hd, trivial, fun od => ?_⟩
    have fz : (upd H d (.frz od (.dK (cD m)))) d = some (.frz od (.dK (cD m))) := upd_same
    refine ⟨_, rfl, d, od, rfl, .inl ⟨cD m, fz, fun D hD => ?_⟩⟩
    have hDd : D ≠ d := fun z => by rw [z, fz] at hD; cases hD
    have hDH : H D = none := by rw [upd_ne hDd] at hD; exact hD
    refine lc_it walk_keys (fun i H1 => Same (upd H d (.frz od (.dK (cD m)))) H1 ∧ H1 D = some (.lst (List.replicate i (V.bl true)))) ⟨Same.new hD, upd_same⟩ (fun _ _ _ z => z.1 _ _ fz) ?_ ?_
    · rintro i x H1 H2 hi ⟨s1, d1⟩ ⟨rfl, kk, v, hk, rfl⟩
      have hs : ∃ y, kk = .inr y := by
        unfold cD at hk
        rw [List.getElem?_map] at hk
        cases e : m[i]? with
        | none => rw [e] at hk; cases hk
        | some q =>
          rw [e] at hk
          injection Option.some.inj hk with h1 _
          exact ⟨q.1, h1.symm⟩
      obtain ⟨y, rfl⟩ := hs
      refine ⟨rfl, ?_⟩
      refine yes_of ?_
      refine ⟨_, rfl, _, _, _, _, true, rfl, .ty _, .base (.str y), (by rfl), _, d1, ?_, ?_⟩
      · rw [List.length_replicate, sizeLine_eq]
        rw [cD_len] at hi
        omega
      · rw [← List.replicate_succ']
        exact ⟨fun b o z => by rw [upd_ne (ne_of_none z hD)]; exact s1 b o z, upd_same⟩
    · rintro H1 ⟨s1, d1⟩
      refine ⟨s1 _ _ fz, D, List.replicate (cD m).length true, rfl, ?_, ?_⟩
      · rw [List.map_replicate]
        exact SqL.of (by rw [upd_ne hDd]; exact d1)
      · have : (List.replicate (cD m).length true).all id = true := by simp
        rw [this]
        refine k _ fun b o z => ?_
        by_cases e : b = d
        · rw [e] at z ⊢
          rw [upd_same, ← z, hd]
        · rw [upd_ne e]
          exact s1 b o (by rw [upd_ne e]; exact z)
end
end Fs2
set_option Elab.async false
set_option linter.all false
set_option maxRecDepth 100000
set_option maxHeartbeats 4000000
namespace Fs2
open PySem PySem.Spec PyProof.Rows L2 Fh Fs
open PySem.W (Frag)
/-- the package's two classes and its defs -/
structure Pkg (K : Frag) (mg : Str → Option Value) (CP CS pI sI aW aH aU aC aK : Addr) (fW fH fU fC fK fPI fSI : FuncData) : Prop where
  T : TxtS mg
  P : OwnC K mg "Packed" CP
  noP : NoAttr K CP "content"
  mkP : Mk K CP pI
  FP : Fun K "__init__" "Packed.__init__" sPkI pI fPI
  S : OwnC K mg "Staff" CS
  noS : NoAttr K CS "_numbers"
  mkS : Mk K CS sI
  FS : Fun K "__init__" "Staff.__init__" sStI sI fSI
  FW : Fun K "is_word" "is_word" sWord aW fW
  FH : Fun K "is_whole" "is_whole" sWhole aH fH
  FU : Fun K "_unpacked" "_unpacked" sUnp aU fU
  FC : Fun K "_counted" "_counted" sCnt aC fC
  FK : Fun K "_has_string_keys" "_has_string_keys" sKeys aK fK
  gW : mg "is_word" = some (.ref aW)
  gH : mg "is_whole" = some (.ref aH)
  gU : mg "_unpacked" = some (.ref aU)
  gC : mg "_counted" = some (.ref aC)
  gK : mg "_has_string_keys" = some (.ref aK)
section
variable {P : Program} {w : World} {K : Frag} {mg : Str → Option Value} {base : Heap} {CP CS pI sI aW aH aU aC aK : Addr} {fW fH fU fC fK fPI fSI : FuncData}
def spPk (CP : Addr) : Sp := fun vs H Q _ => ∃ a dx c, vs = [.ref a, c] ∧ H a = some (.ins CP dx []) ∧ Q .non (upd H a (.ins CP dx [("content", c)]))
theorem scPk : FnScope ["self", "content"] ["self", "content"] (defScope sPkI) := ⟨rfl, rfl, rfl, by decide +kernel, rfl, by decide +kernel, by decide +kernel⟩
theorem ok_pk (G : Pkg K mg CP CS pI sI aW aH aU aC aK fW fH fU fC fK fPI fSI) : FnOk P w K mg base CX0 1 pI fPI ["self", "content"] (spPk CP) := by
  refine G.FP.ok scPk (fun vs H Q E h => ?_) (fun cdv A outer s H vs Q E hr h => ?_)
  · obtain ⟨a, dx, c, rfl, _⟩ := h
    rfl
  · obtain ⟨a, dx, c, rfl, ha, k⟩ := h
    refine ⟨_, pss_one (ps_fld (pv 0) (pv 1) rfl), ?_⟩
    exact ⟨_, rfl, _, rfl, a, CP, dx, [], rfl, ha, G.P.cl, G.noP, by decide, k⟩
/-- where a new staff's numbers stand -/
def Src (CP : Addr) (H : Hp) (d e : Addr) (m : Num) : Prop := (∃ p dx, H d = some (.dK [(.inr "packed", .ref p)]) ∧ H p = some (.ins CP dx [("content", .ref e)]) ∧ H e = some (.dK (cD m))) ∨ (e = d ∧ H d = some (.dK (cD m)) ∧ m.lookup ("packed" : Str) = none)
def spSt (CP CS : Addr) : Sp := fun vs H Q _ => ∃ a d dx e m, vs = [.ref a, .ref d] ∧ H a = some (.ins CS dx []) ∧ Src CP H d e m ∧ Good m ∧
  ∀ ys p H', ys.Perm (names m) → sortedS ys = true → H p = none → Same H H' → H' p = some (.dK (cD (pick m ys))) → Q .non (upd H' a (.ins CS dx [("_numbers", .ref p)]))
theorem scSt : FnScope ["self", "numbers"] ["self", "numbers"] (defScope sStI) := ⟨rfl, rfl, rfl, by decide +kernel, rfl, by decide +kernel, by decide +kernel⟩
theorem ok_st (G : Pkg K mg CP CS pI sI aW aH aU aC aK fW fH fU fC fK fPI fSI) {ks : List Str} (hk : ks.Nodup) (hz : ks.length ≤ sizeLine)
    (hb : ∀ (kV doc pm : Value) (an : Option Addr) (cdv ct x : Value) (ws : List Value), ws.length = ks.length → bindArgs (PySem.W.fnOf "__init__" "Staff.__init__" (defArgs sStI) (defBody sStI) (defScope sStI) .none kV doc pm an cdv ct) ⟨[x], ks.zip ws⟩ =
      ((alloc ({ cls := .type "dict", data := .dict #[] } : Obj) : Sem Addr) >>= fun D => forIn (ks.zip ws) PUnit.unit (fun x _ => (nsSet D x.1 x.2 >>= fun _ => pure (ForInStep.yield PUnit.unit))) >>= fun _ => pure [(("self" : Str), x), (("numbers" : Str), Value.ref D)])) :
    FnKw P w K mg base CX0 3 sI ks (spKw ks (spSt CP CS)) := by
  have GC : FnOk P w K mg base CX0 2 aC fC ["numbers"] spCnt := ok_cnt G.FC G.FW G.FH G.gW G.gH G.T
  have GU : FnOk P w K mg base CX0 1 aU fU ["numbers"] (spUnp CP) := ok_unp G.FU G.T G.P G.noP
  have bC : Binds K fC ["numbers"] [] := G.FC.binds (ps := ["numbers"]) fun _ _ _ _ _ _ us hl => match us, hl with | [_], _ => rfl
  have bU : Binds K fU ["numbers"] [] := G.FU.binds (ps := ["numbers"]) fun _ _ _ _ _ _ us hl => match us, hl with | [_], _ => rfl
  obtain ⟨oc, od, kV, doc, pm, an, cdv, ct, osl, rfl, lk, hcd⟩ := G.FS.ex
  refine fn_kwd (k := 2) (N := ["self", "numbers"]) lk hcd scSt StX.cxUp_none hk hz (fun x ws hl => hb kV doc pm an cdv ct x ws hl) fun A outer s H vs Q E hr h => ?_
  obtain ⟨a, d, dx, e, m, rfl, ha, src, good, k⟩ := h
  have hr1 : Room 1 _ := hr.mono (by decide)
  refine ⟨_, pss_one (ps_fld (pv 0) (pe_call GC hr rfl G.gC G.FC.kp bC .nil pass0 (pa_cons (pe_call GU hr1 rfl G.gU G.FU.kp bU .nil pass0 (pa_cons (pv 1) pa_nil)) pa_nil)) rfl), ?_⟩
  rcases src with ⟨p, dxp, hd, hp, he⟩ | ⟨rfl, hd, nop⟩
  · refine ⟨_, rfl, d, _, rfl, hd, .inl ⟨p, dxp, .ref e, by rfl, hp, e, m, rfl, he, good, fun ys q H' pm so hq sm hq2 => ?_⟩⟩
    exact ⟨_, rfl, a, CS, dx, [], rfl, sm _ _ ha, G.S.cl, G.noS, by decide, k ys q H' pm so hq sm hq2⟩
  · refine ⟨_, rfl, e, _, rfl, hd, .inr ⟨by rw [cD_val, nop]; rfl, e, m, rfl, hd, good, fun ys q H' pm so hq sm hq2 => ?_⟩⟩
    exact ⟨_, rfl, a, CS, dx, [], rfl, sm _ _ ha, G.S.cl, G.noS, by decide, k ys q H' pm so hq sm hq2⟩
/-- the staff at a -/
def StaffAt (CS : Addr) (H : Hp) (a : Addr) (m : Num) : Prop := ∃ dx d, H a = some (.ins CS dx [("_numbers", .ref d)]) ∧ H d = some (.dK (cD m))
def spOf (CS : Addr) : Sp := fun vs H Q _ => ∃ e m, vs = [.ref CS, .ref e] ∧ H e = some (.dK (cD m)) ∧ Good m ∧
  ∀ ys a d dx H', ys.Perm (names m) → sortedS ys = true → Same H H' → H a = none → H d = none → H' a = some (.ins CS dx [("_numbers", .ref d)]) → H' d = some (.dK (cD (pick m ys))) → Q (.ref a) H'
theorem scOf : FnScope ["cls", "numbers"] ["cls", "numbers"] (defScope sStOf) := ⟨rfl, rfl, rfl, by decide +kernel, rfl, by decide +kernel, by decide +kernel⟩
theorem ok_of (G : Pkg K mg CP CS pI sI aW aH aU aC aK fW fH fU fC fK fPI fSI) {f : Addr} {fd : FuncData} (F : Fun K "of" "Staff.of" sStOf f fd) : FnOk P w K mg base CX0 5 f fd ["cls", "numbers"] (spOf CS) := by
  have GK : FnOk P w K mg base CX0 1 aK fK ["value"] spKeys := ok_keys G.FK G.T
  have GP : FnOk P w K mg base CX0 1 pI fPI ["self", "content"] (spPk CP) := ok_pk G
  have GS : FnKw P w K mg base CX0 3 sI ["packed"] (spKw ["packed"] (spSt CP CS)) := ok_st G (by decide) (by decide) fun kV doc pm an cdv ct x ws hl => match ws, hl with | [_], _ => rfl
  have bK : Binds K fK ["value"] [] := G.FK.binds (ps := ["value"]) fun _ _ _ _ _ _ us hl => match us, hl with | [_], _ => rfl
  have bP : Binds K fPI ["self", "content"] [] := G.FP.binds (ps := ["self", "content"]) fun _ _ _ _ _ _ us hl => match us, hl with | [_, _], _ => rfl
  refine F.ok scOf (fun vs H Q E h => ?_) (fun cdv A outer s H vs Q E hr h => ?_)
  · obtain ⟨e, m, rfl, _⟩ := h
    rfl
  · obtain ⟨e, m, rfl, he, good, k⟩ := h
    have hr1 : Room 1 _ := hr.mono (by decide)
    have hr2 : Room 2 _ := hr.mono (by decide)
    refine ⟨_, pss_cons (ps_if (pt_not (pt_val (pe_call GK hr1 rfl G.gK G.FK.kp bK .nil pass0 (pa_cons (pv 1) pa_nil)))) pss_no pss_nil)
      (pss_one (ps_ret (pe_makeWL (i := 0) G.mkS GS hr rfl (Or.inl rfl) pass0 (pk_cons (pe_make G.mkP GP hr2 rfl G.P.gC bP .nil pass0 (pa_cons (pv 1) pa_nil)) pk_nil)))), ?_⟩
    refine ⟨_, rfl, e, m, rfl, he, by have := good.2.1; omega, fun H1 s1 => ⟨true, rfl, iteF ?_⟩⟩
    refine ⟨rfl, _, rfl, fun x dx hx hdx ne => ⟨x, dx, .ref e, rfl, upd_same, rfl, ?_⟩⟩
    rw [upd_upd]
    have hx2 : (upd H1 dx (.own x)) x = none := by rw [upd_ne (Ne.symm ne)]; exact hx
    have s2 : Same H1 (upd (upd H1 dx (.own x)) x (.ins CP dx [("content", .ref e)])) := (Same.new hdx).trans (Same.new hx2)
    have xI : (upd (upd H1 dx (.own x)) x (.ins CP dx [("content", .ref e)])) x = some (.ins CP dx [("content", .ref e)]) := upd_same
    generalize upd (upd H1 dx (.own x)) x (.ins CP dx [("content", .ref e)]) = H2 at s2 xI ⊢
    refine ⟨rfl, fun a da ha hda nea => ⟨.ref a, [.ref x], rfl, rfl, fun d hd => ?_⟩⟩
    have ha2 : (upd H2 da (.own a)) a = none := by rw [upd_ne (Ne.symm nea)]; exact ha
    have s3 : Same H2 (upd (upd H2 da (.own a)) a (.ins CS da [])) := (Same.new hda).trans (Same.new ha2)
    have aI : (upd (upd H2 da (.own a)) a (.ins CS da [])) a = some (.ins CS da []) := upd_same
    generalize upd (upd H2 da (.own a)) a (.ins CS da []) = H3 at s3 aI hd ⊢
    have s4 : Same H3 (upd H3 d (.dK (kwD ["packed"] [.ref x]))) := Same.new hd
    have s03 : Same H H3 := ((s1.trans s2).trans s3)
    have none_up : ∀ {b : Addr} {Ha Hb : Hp}, Same Ha Hb → Hb b = none → Ha b = none := fun {b Ha Hb} sm hb => by
      cases q : Ha b with
      | none => rfl
      | some o => rw [sm b o q] at hb; cases hb
    have haH : H a = none := none_up (s1.trans s2) ha
    refine ⟨a, d, da, e, m, rfl, s4 _ _ aI, .inl ⟨x, dx, upd_same, s4 _ _ (s3 _ _ xI), s4 _ _ (s03 _ _ he)⟩, good, fun ys p H' pm so hp sm hp2 => ⟨rfl, ?_⟩⟩
    have hap : p ≠ a := fun z => by
      rw [z] at hp
      rw [s4 _ _ aI] at hp
      cases hp
    refine k ys a p da _ pm so (fun b o z => ?_) haH (none_up (s03.trans s4) hp) upd_same (by rw [upd_ne hap]; exact hp2)
    rw [upd_ne (fun q => by rw [q, haH] at z; cases z)]
    exact sm _ _ (s4 _ _ (s03 _ _ z))
end
end Fs2
set_option Elab.async false
set_option linter.all false
set_option maxRecDepth 100000
set_option maxHeartbeats 4000000
/-! FsG: == of two dicts of numbers, both answers -/
namespace Fs
open PySem PySem.Spec PyProof.Rows L2 Fh
open PySem.W (Frag)
/-- every number of m stands in m2 -/
def allIn (m2 : Num) : Num → Bool
  | [] => true
  | q :: m => match m2.lookup q.1 with
    | some n => (q.2 == n) && allIn m2 m
    | none => false
def eqN (m m2 : Num) : Bool := m.length == m2.length && allIn m2 m
section
variable {X : Cx} {A : Around} {s : Shared}
theorem hitsN {m2 : Num} {vb : List (Key × Value)} (rb : KV (cD m2) vb) : ∀ {m : Num} {va : List (Key × Value)}, KV (cD m) va → PySem.W.KeqHits A s vb va (allIn m2 m)
  | [], _, .nil => .nil
  | q :: m, _, .cons (b := p) h t => by
    obtain ⟨k, v⟩ := p
    obtain ⟨h1, h2⟩ := h
    have hk : Sum.inr q.1 = k := h1
    subst hk
    have rel := rb.val (.inr q.1)
    rw [cD_val] at rel
    have ih := hitsN rb t
    unfold allIn
    cases e : m2.lookup q.1 with
    | none =>
      rw [e] at rel
      exact .miss rel.none_of
    | some n =>
      rw [e] at rel
      obtain ⟨y, hy, ry⟩ := rel.some_of
      obtain ⟨t1, rfl⟩ := (show ∃ t, v = Value.int q.2 t from h2)
      obtain ⟨t2, rfl⟩ := (show ∃ t, y = Value.int n t from ry)
      obtain ⟨e1, E1, E2⟩ := HT.eqAt_int A s q.2 t1 n t2
      have ee : e1 = (q.2 == n) := by
        cases c : (q.2 == n) with
        | true => exact E2.mpr (eq_of_beq c)
        | false =>
          cases d : e1 with
          | false => rfl
          | true =>
            rw [E2.mp d, beq_self_eq_true] at c
            cases c
      rw [ee] at E1
      exact .hit hy E1 ih
/-- == of two dicts of numbers -/
def rEqN : R2 := fun x y H Q => ∃ a b m m2, x = .ref a ∧ y = .ref b ∧ H a = some (.dK (cD m)) ∧ H b = some (.dK (cD m2)) ∧ Q (.bl (eqN m m2)) H
theorem op_eqN (hu : X.A.units < cLine) : OpR X (compareOp .Eq) rEqN := by
  intro pins s σ H x y v u Q I rx ry h
  obtain ⟨a, b, m, m2, rfl, rfl, ea, eb, q⟩ := h
  obtain rfl : v = Value.ref a := rx
  obtain rfl : u = Value.ref b := ry
  obtain ⟨_, ya, va, ra, da⟩ := dk_of I.hok ea
  obtain ⟨_, yb, vb, rb, db⟩ := dk_of I.hok eb
  have l1 : va.length = m.length := by rw [← ra.length, cD_len]
  have l2 : vb.length = m2.length := by rw [← rb.length, cD_len]
  exact PySem.W.keq_eq (knd := mixKind X.prog X.w) ya yb da db hu (fun _ => hitsN rb ra) (fin_bl I q (by unfold eqN; rw [l1, l2]))
theorem eqN_self {m : Num} (nd : (names m).Nodup) : eqN m m = true := by
  have go : ∀ {l : Num}, (∀ q ∈ l, m.lookup q.1 = some q.2) → allIn m l = true := by
    intro l
    induction l with
    | nil => intro _; rfl
    | cons q l ih =>
      intro h
      unfold allIn
      rw [h q List.mem_cons_self]
      show (q.2 == q.2 && allIn m l) = true
      rw [beq_self_eq_true, ih fun p hp => h p (List.mem_cons_of_mem _ hp)]
      rfl
  have at_ : ∀ {l : Num}, (names l).Nodup → ∀ q ∈ l, l.lookup q.1 = some q.2 := by
    intro l
    induction l with
    | nil => intro _ q hq; cases hq
    | cons p l ih =>
      intro n q hq
      obtain ⟨n1, n2⟩ := List.nodup_cons.mp (show (p.1 :: names l).Nodup from n)
      rcases List.mem_cons.mp hq with e | e
      · rw [e]
        exact List.lookup_cons_self
      · have ne : q.1 ≠ p.1 := fun z => n1 (by rw [← z]; exact List.mem_map_of_mem e)
        rw [List.lookup_cons, beq_eq_false_iff_ne.mpr ne]
        exact ih n2 q e
  unfold eqN
  rw [beq_self_eq_true, go (at_ nd)]
  rfl
theorem eqN_lack {m : Num} {y : Str} {n : Int} (h : y ∉ names m) : eqN m [(y, n)] = false := by
  unfold eqN
  match m, h with
  | [], _ => rfl
  | [q], h =>
    have ne : q.1 ≠ y := fun z => h (by rw [← z]; exact List.mem_cons_self)
    show (true && allIn [(y, n)] [q]) = false
    unfold allIn
    rw [List.lookup_cons, beq_eq_false_iff_ne.mpr ne]
    rfl
  | q1 :: q2 :: m, _ => rfl
end
end Fs
set_option Elab.async false
set_option linter.all false
set_option maxRecDepth 100000
set_option maxHeartbeats 4000000
namespace Fs2
open PySem PySem.Spec PyProof.Rows L2 Fh Fs
open PySem.W (Frag)
abbrev sStK : Stmt := inClass (top 16) 2
abbrev sStT : Stmt := inClass (top 16) 3
abbrev sStN : Stmt := inClass (top 16) 4
abbrev sStG : Stmt := inClass (top 16) 5
abbrev sStE : Stmt := inClass (top 16) 7
section
variable {P : Program} {w : World} {K : Frag} {mg : Str → Option Value} {base : Heap} {CP CS pI sI aW aH aU aC aK : Addr} {fW fH fU fC fK fPI fSI : FuncData} {f : Addr} {fd : FuncData}
theorem scK : FnScope ["self"] ["self"] (defScope sStK) := ⟨rfl, rfl, rfl, by decide +kernel, rfl, by decide +kernel, by decide +kernel⟩
theorem scT : FnScope ["self"] ["self"] (defScope sStT) := ⟨rfl, rfl, rfl, by decide +kernel, rfl, by decide +kernel, by decide +kernel⟩
theorem scN : FnScope ["self"] ["self"] (defScope sStN) := ⟨rfl, rfl, rfl, by decide +kernel, rfl, by decide +kernel, by decide +kernel⟩
theorem scG : FnScope ["self", "kind"] ["self", "kind"] (defScope sStG) := ⟨rfl, rfl, rfl, by decide +kernel, rfl, by decide +kernel, by decide +kernel⟩
theorem scE : FnScope ["self", "other"] ["self", "other"] (defScope sStE) := ⟨rfl, rfl, rfl, by decide +kernel, rfl, by decide +kernel, by decide +kernel⟩
def spK (CS : Addr) : Sp := fun vs H Q _ => ∃ a m, vs = [.ref a] ∧ StaffAt CS H a m ∧ ∀ p, H p = none → Q (.ref p) (upd H p (.tup ((names m).map V.str)))
theorem ok_kinds (G : Pkg K mg CP CS pI sI aW aH aU aC aK fW fH fU fC fK fPI fSI) (F : Fun K "kinds" "Staff.kinds" sStK f fd) : FnOk P w K mg base CX0 1 f fd ["self"] (spK CS) := by
  refine F.ok scK (fun vs H Q E h => ?_) (fun cdv A outer s H vs Q E hr h => ?_)
  · obtain ⟨a, m, rfl, _⟩ := h
    rfl
  · obtain ⟨a, m, rfl, ⟨dx, d, ha, hd⟩, k⟩ := h
    refine ⟨_, pss_one (ps_ret (pe_callTy (call_tupleD rfl) (by rfl) G.T.tuple (by decide +kernel) (pa_cons (pe_fld (pv 0) rfl) pa_nil))), ?_⟩
    exact ⟨_, rfl, a, CS, dx, _, .ref d, rfl, ha, G.S.cl, G.noS, rfl, d, cD m, rfl, hd, fun p hp => by rw [cD_kv]; exact k p hp⟩
def total (m : Num) : Int := (m.map (·.2)).sum
def spT (CS : Addr) : Sp := fun vs H Q _ => ∃ a m, vs = [.ref a] ∧ StaffAt CS H a m ∧ ∀ H', Same H H' → Q (.int (total m)) H'
def spN (CS : Addr) : Sp := fun vs H Q _ => ∃ a m, vs = [.ref a] ∧ StaffAt CS H a m ∧ ∀ p, H p = none → Q (.ref p) (upd H p (.dK (cD m)))
theorem ok_numbers (G : Pkg K mg CP CS pI sI aW aH aU aC aK fW fH fU fC fK fPI fSI) (F : Fun K "numbers" "Staff.numbers" sStN f fd) : FnOk P w K mg base CX0 1 f fd ["self"] (spN CS) := by
  refine F.ok scN (fun vs H Q E h => ?_) (fun cdv A outer s H vs Q E hr h => ?_)
  · obtain ⟨a, m, rfl, _⟩ := h
    rfl
  · obtain ⟨a, m, rfl, ⟨dx, d, ha, hd⟩, k⟩ := h
    refine ⟨_, pss_one (ps_ret (pe_callTy call_dictD (by rfl) G.T.dict (by decide +kernel) (pa_cons (pe_fld (pv 0) rfl) pa_nil))), ?_⟩
    exact ⟨_, rfl, a, CS, dx, _, .ref d, rfl, ha, G.S.cl, G.noS, rfl, d, cD m, rfl, .inl hd, fun p hp => k p hp⟩
def spG (K : Frag) (CS : Addr) : Sp := fun vs H Q _ => ∃ a m v, vs = [.ref a, v] ∧ StaffAt CS H a m ∧ ((∃ y, v = .str y ∧ Q (.int ((m.lookup y).getD 0)) H) ∨ ∃ t, TyX K H v t ∧ PySem.W.kitOne K t (.type "str") = some false ∧ Q (.int 0) H)
theorem ok_get (G : Pkg K mg CP CS pI sI aW aH aU aC aK fW fH fU fC fK fPI fSI) (F : Fun K "__getitem__" "Staff.__getitem__" sStG f fd) : FnOk P w K mg base CX0 1 f fd ["self", "kind"] (spG K CS) := by
  refine F.ok scG (fun vs H Q E h => ?_) (fun cdv A outer s H vs Q E hr h => ?_)
  · obtain ⟨a, m, v, rfl, _⟩ := h
    rfl
  · obtain ⟨a, m, v, rfl, ⟨dx, d, ha, hd⟩, k⟩ := h
    have hu := hu_of hr
    refine ⟨_, pss_cons (ps_if (pt_not (pt_val (pe_callB call_isi (by rfl) G.T.isinstance (by decide +kernel) (pa_cons (pv 1) (pa_cons (pe_bltn (v := .ty "str") (by rfl) G.T.str (by decide +kernel) rfl (by decide) (by decide)) pa_nil))))) (pss_one (ps_ret pe_int)) pss_nil)
      (pss_one (ps_ret (pe_dget2 hu (pe_fld (pv 0) rfl) (pv 1) pe_int ⟨rfl, rfl, rfl, rfl⟩))), ?_⟩
    rcases k with ⟨y, rfl, k⟩ | ⟨t, ty, kt, k⟩
    · refine ⟨_, rfl, _, _, _, _, true, rfl, .ty _, .base (.str y), (by rfl), true, rfl, iteF ?_⟩
      refine ⟨_, rfl, a, CS, dx, _, .ref d, rfl, ha, G.S.cl, G.noS, rfl, d, rfl, .inl ⟨_, .inl hd⟩, _, rfl, valV (cD m) (.inr y), .inl ⟨cD m, .inr y, .inl hd, rfl, rfl⟩, ?_⟩
      rw [cD_val]
      cases e : m.lookup y with
      | none => rw [e] at k; exact k
      | some n => rw [e] at k; exact k
    · exact ⟨_, rfl, _, _, _, _, false, rfl, .ty _, ty, kt, false, rfl, iteT k⟩
def spE (CS : Addr) : Sp := fun vs H Q _ => ∃ a m v, vs = [.ref a, v] ∧ StaffAt CS H a m ∧ ((∃ b m2, v = .ref b ∧ StaffAt CS H b m2 ∧ Q (.bl (eqN m m2)) H) ∨ ∃ b kvs, v = .ref b ∧ H b = some (.dK kvs) ∧ Q (.bl false) H)
theorem ok_eq (G : Pkg K mg CP CS pI sI aW aH aU aC aK fW fH fU fC fK fPI fSI) (F : Fun K "__eq__" "Staff.__eq__" sStE f fd) : FnOk P w K mg base CX0 1 f fd ["self", "other"] (spE CS) := by
  refine F.ok scE (fun vs H Q E h => ?_) (fun cdv A outer s H vs Q E hr h => ?_)
  · obtain ⟨a, m, v, rfl, _⟩ := h
    rfl
  · obtain ⟨a, m, v, rfl, ⟨dx, d, ha, hd⟩, k⟩ := h
    have hu := hu_of hr
    refine ⟨_, pss_one (ps_ret (pe_and (pe_callB call_isi (by rfl) G.T.isinstance (by decide +kernel) (pa_cons (pv 1) (pa_cons (pe_glob (v := .ref CS) (by rfl) G.S.gC rfl) pa_nil)))
      (pe_one (pe_cmpR (op_eqN (Nat.lt_of_succ_lt hu)) (pe_fld (pv 0) rfl) (pe_fld (pv 1) rfl) (nomark _))))), ?_⟩
    rcases k with ⟨b, m2, rfl, ⟨dy, d2, hb, hd2⟩, k⟩ | ⟨b, kvs, rfl, hb, k⟩
    · refine ⟨_, rfl, _, _, _, _, true, rfl, .own CS, .base (.ins hb G.S.cl G.S.ha G.S.hn G.S.ht G.S.hm), G.S.me, true, rfl, iteT ?_⟩
      exact ⟨_, rfl, a, CS, dx, _, .ref d, rfl, ha, G.S.cl, G.noS, rfl, _, rfl, b, CS, dy, _, .ref d2, rfl, hb, G.S.cl, G.noS, rfl, d, d2, m, m2, rfl, rfl, hd, hd2, k⟩
    · exact ⟨_, rfl, _, _, _, _, false, rfl, .own CS, .base (.dK hb), G.S.dict, false, rfl, iteF k⟩
end
end Fs2
set_option Elab.async false
set_option linter.all false
set_option maxRecDepth 100000
set_option maxHeartbeats 4000000
/-! FsH: words -/
namespace Fs
open PySem PySem.Spec PyProof.Rows L2 Fh
open PySem.W (Frag)
def abc : List Nat := (Str.ofString "abcdefghijklmnopqrstuvwxyz").cps.toList
def Low (x : Str) : Prop := ∀ c ∈ x.cps.toList, c ∈ abc
theorem len_tl (x : Str) : x.length = x.cps.toList.length := (Array.length_toList).symm
theorem app_tl (x y : Str) : (x ++ y).cps.toList = x.cps.toList ++ y.cps.toList := by
  show (x.cps ++ y.cps).toList = _
  exact Array.toList_append
theorem app_len (x y : Str) : (x ++ y).length = x.length + y.length := by rw [len_tl, len_tl, len_tl, app_tl, List.length_append]
theorem Low.app {x y : Str} (a : Low x) (b : Low y) : Low (x ++ y) := fun c hc => by
  rw [app_tl] at hc
  rcases List.mem_append.mp hc with z | z
  · exact a c z
  · exact b c z
theorem Low.one {c : Nat} (h : c ∈ abc) : Low ⟨#[c]⟩ := fun d hd => by
  rcases List.mem_cons.mp (show d ∈ [c] from hd) with z | z
  · rw [z]; exact h
  · cases z
theorem Low.cut {z : Str} (h : Low z) (lo hi : Option Int) : Low (cutS z lo hi) := fun c hc => by
  unfold cutS at hc
  exact h c (List.mem_of_mem_drop (List.mem_of_mem_take hc))
theorem cut_parts {z : Str} {k : Nat} (h : k ≤ z.length) : (cutS z none (some (k : Int))).length + (cutS z (some (k : Int)) none).length = z.length := by
  have e1 : (cutS z none (some (k : Int))).length = k := by
    rw [len_tl]
    unfold cutS
    rw [HT.sIx_none, HT.sIx_nat, Nat.min_eq_left h]
    show ((z.cps.toList.drop 0).take (k - 0)).length = k
    rw [List.drop_zero, Nat.sub_zero, List.length_take, ← len_tl]
    omega
  have e2 : (cutS z (some (k : Int)) none).length = z.length - k := by
    rw [len_tl]
    unfold cutS
    rw [HT.sIx_none, HT.sIx_nat, Nat.min_eq_left h]
    show ((z.cps.toList.drop k).take (z.length - k)).length = _
    rw [List.length_take, List.length_drop, ← len_tl]
    omega
  omega
theorem joinL_nil : ∀ ps : List (List Nat), TL.joinL [] ps = ps.flatten
  | [] => rfl
  | [p] => by
    show p = [p].flatten
    simp
  | p :: q :: r => by
    show p ++ ([] ++ TL.joinL [] (q :: r)) = _
    rw [List.nil_append, joinL_nil (q :: r)]
    rfl
theorem join_tl (ys : List Str) : (Txt.join (Str.ofString "") ys).cps.toList = (ys.map fun y => y.cps.toList).flatten := by
  have h := TL.tl_join (Str.ofString "") ys
  have e : TL.tl (Str.ofString "") = [] := by decide +kernel
  rw [e, joinL_nil] at h
  rw [TL.join_eq]
  exact h
theorem join_low {ys : List Str} (h : ∀ y ∈ ys, Low y ∧ y.length = 1) : Low (Txt.join (Str.ofString "") ys) ∧ (Txt.join (Str.ofString "") ys).length = ys.length ∧ (ys.map (·.length)).sum = ys.length := by
  refine ⟨fun c hc => ?_, ?_, ?_⟩
  · rw [join_tl] at hc
    obtain ⟨l, hl, hc2⟩ := List.mem_flatten.mp hc
    obtain ⟨y, hy, rfl⟩ := List.mem_map.mp hl
    exact (h y hy).1 c hc2
  · rw [len_tl, join_tl]

    induction ys with
    | nil => rfl
    | cons y ys ih =>
      have h1 := (h y List.mem_cons_self).2
      rw [len_tl] at h1
      rw [List.map_cons, List.flatten_cons, List.length_append, ih fun z hz => h z (List.mem_cons_of_mem _ hz), h1, List.length_cons]
      omega
  · skip
    induction ys with
    | nil => rfl
    | cons y ys ih =>
      rw [List.map_cons, List.sum_cons, ih fun z hz => h z (List.mem_cons_of_mem _ hz), (h y List.mem_cons_self).2, List.length_cons]
      omega
def zs : Str := Str.ofString "zzzzzzzz"
theorem ne_zs_len {x : Str} (h : x.length ≤ 7) : x ≠ zs := fun e => by
  rw [e] at h
  exact absurd h (by decide +kernel)
theorem ne_zs_w {x y : Str} (h : 119 ∈ y.cps.toList) : x ++ y ≠ zs := fun e => by
  have m : 119 ∈ (x ++ y).cps.toList := by
    rw [app_tl]
    exact List.mem_append_right _ h
  rw [e] at m
  exact absurd m (by decide +kernel)
theorem pen_off {H : Hp} {p c D : Addr} {n : Nat} {o : HO} (h : PenAt H p c n) (h1 : D ≠ p) (h2 : D ≠ c) : PenAt (upd H D o) p c n := by
  obtain ⟨cs, s, r, S, s0, s1⟩ := h.open
  exact PenS.at_ ⟨S.pc, by rw [upd_ne (Ne.symm h1)]; exact S.hp, by rw [upd_ne (Ne.symm h2)]; exact S.hc, S.hl⟩ s0 s1
theorem pen_apart {H H' : Hp} {p c D : Addr} {n : Nat} (h : PenAt H p c n) (sm : Same H H') (hD : H' D = none) : D ≠ p ∧ D ≠ c := by
  obtain ⟨cs, s, r, S, _, _⟩ := h.open
  constructor
  · intro e
    rw [e, sm _ _ S.hp] at hD
    cases hD
  · intro e
    rw [e, sm _ _ S.hc] at hD
    cases hD
theorem but_none {p b : Addr} {H H' : Hp} (h : But p H H') (hb : H' b = none) (ne : b ≠ p) : H b = none := by
  cases q : H b with
  | none => rfl
  | some u => rw [h b u ne q] at hb; cases hb
end Fs
set_option Elab.async false
set_option linter.all false
set_option maxRecDepth 100000
set_option maxHeartbeats 4000000
/-! FsI: two sorted rearrangements of the same texts are the same -/
namespace Fs
open PySem PySem.Spec PyProof.Rows L2 Fh
theorem rising_pairs : ∀ (l : List Str) (p : Str), risingS p l = true → (p :: l).Pairwise fun a b => a.cps.toList ≤ b.cps.toList
  | [], p, _ => List.pairwise_singleton _ _
  | x :: r, p, h => by
    obtain ⟨h1, h2⟩ := Bool.and_eq_true_iff.mp (show (!ltCps x.cps.toList p.cps.toList && risingS x r) = true from h)
    have ih := rising_pairs r x h2
    have px : p.cps.toList ≤ x.cps.toList := by
      rw [ltCps_eq] at h1
      have : ¬ x.cps.toList < p.cps.toList := by simpa using h1
      exact List.not_lt.mp this
    refine List.pairwise_cons.mpr ⟨fun y hy => ?_, ih⟩
    rcases List.mem_cons.mp hy with e | e
    · rw [e]; exact px
    · exact List.le_trans px ((List.pairwise_cons.mp ih).1 y e)
theorem sorted_same {xs ys : List Str} (p : xs.Perm ys) (h1 : sortedS xs = true) (h2 : sortedS ys = true) : xs = ys := by
  have pw : ∀ l : List Str, sortedS l = true → l.Pairwise fun a b => a.cps.toList ≤ b.cps.toList := fun l h => by
    cases l with
    | nil => exact List.Pairwise.nil
    | cons x r => exact rising_pairs r x h
  refine List.Perm.eq_of_pairwise (fun a b _ _ u v => ?_) (pw _ h1) (pw _ h2) p
  have e := List.le_antisymm u v
  have e2 : a.cps = b.cps := Array.toList_inj.mp e
  cases a
  cases b
  cases e2
  rfl
end Fs
set_option Elab.async false
set_option linter.all false
set_option maxRecDepth 100000
set_option maxHeartbeats 4000000
/-! FsJ: numbers by names as data; pairs laid one by one; those above 0 once more -/
namespace Fs
open PySem PySem.Spec PyProof.Rows L2 Fh
open PySem.W (Frag)
/-! ### as data -/
def kvD (m : Num) : List (PyData × PyData) := m.map fun q => (.str q.1, .int q.2)
def numD (m : Num) : PyData := .dict (kvD m)
theorem dks_num {N : Addr → Prop} {H : Hp} : ∀ m : Num, DKs N H (cD m) (kvD m)
  | [] => .nil
  | q :: m => .cons (k := Sum.inr q.1) (.int q.2) (dks_num m)
theorem da_num {N : Addr → Prop} {H : Hp} {a : Addr} {m : Num} (h : H a = some (.dK (cD m))) (n : ¬ N a) : DA N H (.ref a) (numD m) := .dK h n (dks_num m)
theorem das_strs {N : Addr → Prop} {H : Hp} : ∀ ys : List Str, DAs N H (ys.map V.str) (ys.map PyData.str)
  | [] => .nil
  | y :: ys => .cons (.str y) (das_strs ys)
/-- few of them, with short names and numbers -/
structure Lite (m : Num) : Prop where
  few : m.length ≤ 64
  each : ∀ q ∈ m, q.1.length ≤ 8 ∧ (∀ c ∈ q.1.cps.toList, c < 16 ^ 8) ∧ q.2.natAbs < 10 ^ 33
theorem Lite.tail {q : Str × Int} {m : Num} (h : Lite (q :: m)) : Lite m := ⟨by have := h.few; rw [List.length_cons] at this; omega, fun p hp => h.each p (List.mem_cons_of_mem _ hp)⟩
theorem log_small {i : Int} (h : i.natAbs < 10 ^ 33) : i.natAbs.log2 < 111 := by
  by_cases z : i.natAbs = 0
  · rw [z]; decide
  · refine (Nat.log2_lt z).mpr (Nat.lt_trans h (by decide +kernel))
theorem int_short {i : Int} (h : i.natAbs < 10 ^ 33) : PyData.leavesShort 40 (.int i) = true := by
  have e := int_text_length_le10 (k := 33) (by decide) h
  simp only [PyData.leavesShort, decide_eq_true_eq]
  show (Str.ofString (toString i)).length ≤ 40
  rw [PySem.ofString_length]
  omega
theorem int_weight {i : Int} (h : i.natAbs < 10 ^ 33) : PyData.weight (.int i) ≤ 111 := by
  have e := log_small h
  simp only [PyData.weight]
  split <;> omega
theorem kv_showable : ∀ {m : Num}, Lite m → PyData.showableKv (kvD m) = true
  | [], _ => rfl
  | q :: m, h => by
    have e := log_small (h.each q List.mem_cons_self).2.2
    show (PyData.showable (.str q.1) && PyData.showable (.int q.2) && PyData.showableKv (kvD m)) = true
    rw [kv_showable h.tail]
    simp only [PyData.showable, Bool.true_and, Bool.and_true, decide_eq_true_eq]
    omega
theorem kv_short : ∀ {m : Num}, Lite m → PyData.leavesShortKv 40 (kvD m) = true
  | [], _ => rfl
  | q :: m, h => by
    obtain ⟨e1, e2, e3⟩ := h.each q List.mem_cons_self
    show (PyData.leavesShort 40 (.str q.1) && PyData.leavesShort 40 (.int q.2) && PyData.leavesShortKv 40 (kvD m)) = true
    rw [kv_short h.tail, int_short e3]
    simp only [PyData.leavesShort, Bool.and_true, List.all_eq_true, decide_eq_true_eq]
    exact e2
theorem kv_weight : ∀ {m : Num}, Lite m → PyData.weightKv (kvD m) ≤ 121 * m.length
  | [], _ => Nat.le_refl _
  | q :: m, h => by
    obtain ⟨e1, e2, e3⟩ := h.each q List.mem_cons_self
    have w1 : PyData.weight (.str q.1) ≤ 8 := e1
    have w2 := int_weight e3
    have w3 := kv_weight h.tail
    show PyData.weight (.str q.1) + PyData.weight (.int q.2) + 2 + PyData.weightKv (kvD m) ≤ _
    rw [List.length_cons]
    omega
theorem kv_depth : ∀ m : Num, PyData.depthKv (kvD m) = 0
  | [] => rfl
  | q :: m => by
    show max (max (PyData.depth (.str q.1)) (PyData.depth (.int q.2))) (PyData.depthKv (kvD m)) = 0
    rw [kv_depth m]
    simp only [PyData.depth, Nat.max_self]
/-- may be shown -/
def Rp (d : PyData) : Prop := d.showable = true ∧ d.depth ≤ 60 ∧ d.shown.length ≤ sizeLine
theorem rp_of {d : PyData} (h1 : d.showable = true) (h2 : d.depth ≤ 60) (h3 : d.leavesShort 40 = true) (h4 : d.weight ≤ 10000) : Rp d := by
  refine ⟨h1, h2, ?_⟩
  have e := PyData.shown_le 40 (by decide) d h3
  rw [sizeLine_eq]
  omega
theorem num_rp {m : Num} (h : Lite m) : Rp (numD m) := by
  have w := kv_weight h
  have f := h.few
  refine rp_of ?_ ?_ ?_ ?_
  · simp only [numD, PyData.showable]; exact kv_showable h
  · simp only [numD, PyData.depth, kv_depth]; omega
  · simp only [numD, PyData.leavesShort]; exact kv_short h
  · simp only [numD, PyData.weight]; omega
theorem int_rp {i : Int} (h : i.natAbs < 10 ^ 33) : Rp (.int i) := by
  have e := log_small h
  refine rp_of ?_ ?_ (int_short h) (by have := int_weight h; omega)
  · simp only [PyData.showable, decide_eq_true_eq]; omega
  · simp only [PyData.depth]; omega
/-- [numbers, names, total] -/
theorem three_rp {m : Num} {t : Int} (h : Lite m) (ht : t.natAbs < 10 ^ 33) : Rp (.list [numD m, .tuple ((names m).map PyData.str), .int t]) := by
  obtain ⟨a1, a2, a3⟩ := num_rp h
  have w := kv_weight h
  have f := h.few
  have e := log_small ht
  have tx : ∀ ys : List Str, (∀ y ∈ ys, y.length ≤ 8 ∧ ∀ c ∈ y.cps.toList, c < 16 ^ 8) → PyData.showableAll (ys.map PyData.str) = true ∧ PyData.leavesShortAll 40 (ys.map PyData.str) = true ∧ PyData.weightAll (ys.map PyData.str) ≤ 9 * ys.length ∧ PyData.depthAll (ys.map PyData.str) = 0 := by
    intro ys
    induction ys with
    | nil => intro _; exact ⟨rfl, rfl, Nat.le_refl _, rfl⟩
    | cons y ys ih =>
      intro g
      obtain ⟨i1, i2, i3, i4⟩ := ih fun z hz => g z (List.mem_cons_of_mem _ hz)
      obtain ⟨g1, g2⟩ := g y List.mem_cons_self
      refine ⟨?_, ?_, ?_, ?_⟩
      · show (PyData.showable (.str y) && PyData.showableAll (ys.map PyData.str)) = true
        rw [i1]; simp only [PyData.showable, Bool.and_true]
      · show (PyData.leavesShort 40 (.str y) && PyData.leavesShortAll 40 (ys.map PyData.str)) = true
        rw [i2]
        simp only [PyData.leavesShort, Bool.and_true, List.all_eq_true, decide_eq_true_eq]
        exact g2
      · show PyData.weight (.str y) + 1 + PyData.weightAll (ys.map PyData.str) ≤ _
        have w1 : PyData.weight (.str y) ≤ 8 := g1
        rw [List.length_cons]; omega
      · show max (PyData.depth (.str y)) (PyData.depthAll (ys.map PyData.str)) = 0
        rw [i4]; simp only [PyData.depth, Nat.max_self]
  obtain ⟨s1, s2, s3, s4⟩ := tx (names m) fun y hy => by
    obtain ⟨q, hq, rfl⟩ := List.mem_map.mp hy
    exact ⟨(h.each q hq).1, (h.each q hq).2.1⟩
  have nl := names_len m
  refine rp_of ?_ ?_ ?_ ?_
  · simp only [PyData.showable, PyData.showableAll, Bool.and_true, numD, kv_showable h, s1, Bool.true_and, decide_eq_true_eq]; omega
  · simp only [PyData.depth, PyData.depthAll, numD, kv_depth, s4]; omega
  · simp only [PyData.leavesShort, PyData.leavesShortAll, numD, kv_short h, s2, Bool.true_and, Bool.and_true]
    simpa only [PyData.leavesShort] using int_short ht
  · have w2 := int_weight ht
    have e3 : PyData.weight (.list [numD m, .tuple ((names m).map PyData.str), .int t]) = PyData.weightKv (kvD m) + 1 + (PyData.weightAll ((names m).map PyData.str) + 1 + (PyData.weight (.int t) + 1 + 0)) := by simp only [PyData.weight, PyData.weightAll, numD]
    rw [e3]; omega
/-! ### pairs laid one by one -/
theorem names_cons (q : Str × Int) (m : Num) : names (q :: m) = q.1 :: names m := rfl
theorem putK_old {m : Num} {y : Str} {n : Int} (h : y ∈ names m) : ∃ m2, putK (cD m) (.inr y) (.int n) = cD m2 ∧ names m2 = names m ∧ ∀ q ∈ m2, q ∈ m ∨ q = (y, n) := by
  have a : ((cD m).any fun kv => decide (kv.1 = Sum.inr y)) = true := by
    obtain ⟨q, hq, e⟩ := List.mem_map.mp h
    exact List.any_eq_true.mpr ⟨(.inr q.1, .int q.2), List.mem_map_of_mem (f := fun q : Str × Int => ((Sum.inr q.1 : Key), V.int q.2)) hq, decide_eq_true (congrArg Sum.inr e)⟩
  refine ⟨m.map fun q => if q.1 = y then (q.1, n) else q, ?_, ?_, ?_⟩
  · unfold putK
    rw [a, if_pos rfl]
    unfold cD
    rw [List.map_map, List.map_map]
    refine List.map_congr_left fun q _ => ?_
    show (if (Sum.inr q.1 : Key) = Sum.inr y then ((Sum.inr q.1 : Key), V.int n) else (Sum.inr q.1, V.int q.2)) = _
    by_cases z : q.1 = y
    · rw [if_pos (congrArg Sum.inr z)]
      show _ = ((Sum.inr (if q.1 = y then (q.1, n) else q).1 : Key), V.int (if q.1 = y then (q.1, n) else q).2)
      rw [if_pos z]
    · rw [if_neg fun w => z (Sum.inr.inj w)]
      show _ = ((Sum.inr (if q.1 = y then (q.1, n) else q).1 : Key), V.int (if q.1 = y then (q.1, n) else q).2)
      rw [if_neg z]
  · unfold names
    rw [List.map_map]
    refine List.map_congr_left fun q _ => ?_
    show (if q.1 = y then (q.1, n) else q).1 = q.1
    split <;> rfl
  · intro q hq
    obtain ⟨p, hp, rfl⟩ := List.mem_map.mp hq
    by_cases z : p.1 = y
    · rw [if_pos z, z]; exact .inr rfl
    · rw [if_neg z]; exact .inl hp
/-- the pairs of l, later ones win -/
theorem merge_num : ∀ (l m : Num), (names m).Nodup → ∃ m2, mergeK (cD m) (cD l) = cD m2 ∧ (names m2).Nodup ∧ (∀ q ∈ m2, q ∈ m ∨ q ∈ l) ∧ m2.length ≤ m.length + l.length
  | [], m, nd => ⟨m, rfl, nd, fun q hq => .inl hq, by omega⟩
  | q :: l, m, nd => by
    have step : ∃ m1, putK (cD m) (.inr q.1) (.int q.2) = cD m1 ∧ (names m1).Nodup ∧ (∀ p ∈ m1, p ∈ m ∨ p = q) ∧ m1.length ≤ m.length + 1 := by
      by_cases h : q.1 ∈ names m
      · obtain ⟨m1, e1, e2, e3⟩ := putK_old (n := q.2) h
        refine ⟨m1, e1, by rw [e2]; exact nd, fun p hp => e3 p hp, ?_⟩
        have l1 := names_len m1
        have l2 := names_len m
        rw [e2] at l1
        omega
      · refine ⟨m ++ [q], by rw [putK_new h, ← cD_snoc], ?_, fun p hp => ?_, by rw [List.length_append]; exact Nat.le_refl _⟩
        · have e : names (m ++ [q]) = names m ++ [q.1] := by unfold names; rw [List.map_append]; rfl
          rw [e]
          refine List.nodup_append.mpr ⟨nd, List.pairwise_singleton _ _, fun a ha b hb => ?_⟩
          rw [List.mem_singleton.mp hb]
          exact fun z => h (z ▸ ha)
        · rcases List.mem_append.mp hp with z | z
          · exact .inl z
          · exact .inr (List.mem_singleton.mp z)
    obtain ⟨m1, e1, n1, i1, l1⟩ := step
    obtain ⟨m2, e2, n2, i2, l2⟩ := merge_num l m1 n1
    refine ⟨m2, ?_, n2, fun p hp => ?_, by rw [List.length_cons]; omega⟩
    · show mergeK (putK (cD m) (.inr q.1) (.int q.2)) (cD l) = cD m2
      rw [e1, e2]
    · rcases i2 p hp with z | z
      · rcases i1 p z with y | y
        · exact .inl y
        · exact .inr (by rw [y]; exact List.mem_cons_self)
      · exact .inr (List.mem_cons_of_mem _ z)
/-- none twice: as they are -/
theorem merge_new : ∀ (l m : Num), (names (m ++ l)).Nodup → mergeK (cD m) (cD l) = cD (m ++ l)
  | [], m, _ => by rw [List.append_nil]; rfl
  | q :: l, m, nd => by
    have e : m ++ q :: l = (m ++ [q]) ++ l := by simp
    have h : q.1 ∉ names m := by
      have e2 : names (m ++ q :: l) = names m ++ names (q :: l) := by unfold names; rw [List.map_append]
      rw [e2] at nd
      intro z
      exact (List.nodup_append.mp nd).2.2 _ z _ List.mem_cons_self rfl
    show mergeK (putK (cD m) (.inr q.1) (.int q.2)) (cD l) = _
    rw [putK_new h, ← cD_snoc, e]
    exact merge_new l _ (by rw [← e]; exact nd)
/-! ### those above 0 -/
theorem pick_cons (m : Num) (y : Str) (ys : List Str) : pick m (y :: ys) = match m.lookup y with
    | some n => if 0 < n then (y, n) :: pick m ys else pick m ys
    | none => pick m ys := by
  show List.filterMap _ (y :: ys) = _
  rw [List.filterMap_cons]
  cases e : m.lookup y with
  | none => rfl
  | some n =>
    by_cases p : 0 < n
    · simp only [Option.bind_some, if_pos p]
      rfl
    · simp only [Option.bind_some, if_neg p]
      rfl
theorem lookup_mem {m : Num} {y : Str} {n : Int} (e : m.lookup y = some n) : (y, n) ∈ m := by
  induction m with
  | nil => cases e
  | cons q m ih =>
    rw [List.lookup_cons] at e
    cases c : (y == q.1) with
    | true =>
      rw [c] at e
      have e2 := eq_of_beq c
      have e3 : q.2 = n := Option.some.inj e
      rw [e2, ← e3]; exact List.mem_cons_self
    | false =>
      rw [c] at e
      exact List.mem_cons_of_mem _ (ih e)
theorem pick_lookup {m : Num} {ys : List Str} {y : Str} (h : ∀ z ∈ names m, z ∈ ys) (pos : ∀ q ∈ m, 0 ≤ q.2) : ((pick m ys).lookup y).getD 0 = (m.lookup y).getD 0 := by
  have main : ∀ ys : List Str, ((pick m ys).lookup y).getD 0 = if y ∈ ys then (m.lookup y).getD 0 else 0 := by
    intro ys
    induction ys with
    | nil => rfl
    | cons z ys ih =>
      rw [pick_cons]
      cases e : m.lookup z with
      | none =>
        show ((pick m ys).lookup y).getD 0 = _
        rw [ih]
        by_cases a : y = z
        · subst a
          rw [if_pos List.mem_cons_self, e]
          split <;> rfl
        · have : y ∈ z :: ys ↔ y ∈ ys := by simp [a]
          simp only [this]
      | some n =>
        by_cases p : 0 < n
        · simp only [if_pos p]
          by_cases a : y = z
          · subst a
            rw [List.lookup_cons_self, if_pos List.mem_cons_self, e]
          · rw [List.lookup_cons, beq_eq_false_iff_ne.mpr a]
            have : y ∈ z :: ys ↔ y ∈ ys := by simp [a]
            simp only [this]
            exact ih
        · simp only [if_neg p]
          rw [ih]
          by_cases a : y = z
          · subst a
            have m1 := lookup_mem e
            have n0 : n = 0 := by
              have h0 : 0 ≤ n := pos _ m1
              omega
            rw [if_pos List.mem_cons_self, e, n0]
            split <;> rfl
          · have : y ∈ z :: ys ↔ y ∈ ys := by simp [a]
            simp only [this]
  rw [main ys]
  split
  · rfl
  · rename_i nm
    have : y ∉ names m := fun z => nm (h y z)
    rw [lookup_none this]
    rfl
theorem pick_sub (m : Num) : ∀ ys : List Str, (names (pick m ys)).Sublist ys
  | [] => List.Sublist.slnil
  | y :: ys => by
    rw [pick_cons]
    cases e : m.lookup y with
    | none => exact (pick_sub m ys).cons _
    | some n =>
      by_cases p : 0 < n
      · simp only [if_pos p]
        exact (pick_sub m ys).cons_cons _
      · simp only [if_neg p]
        exact (pick_sub m ys).cons _
theorem pick_nodup {m : Num} {ys : List Str} (h : ys.Nodup) : (names (pick m ys)).Nodup := (pick_sub m ys).nodup h
theorem pick_mem {m : Num} {ys : List Str} : ∀ q ∈ pick m ys, m.lookup q.1 = some q.2 ∧ 0 < q.2 := by
  intro q hq
  obtain ⟨z, hz, e2⟩ := List.mem_filterMap.mp hq
  cases e : m.lookup z with
  | none => rw [e] at e2; cases e2
  | some n =>
    rw [e] at e2
    have e3 : (if 0 < n then some (z, n) else none) = some q := e2
    split at e3
    · rename_i p
      rw [← Option.some.inj e3]
      exact ⟨e, p⟩
    · cases e3
theorem lookup_of {l : Num} (nd : (names l).Nodup) : ∀ q ∈ l, l.lookup q.1 = some q.2 := by
  induction l with
  | nil => intro q hq; cases hq
  | cons p l ih =>
    intro q hq
    obtain ⟨n1, n2⟩ := List.nodup_cons.mp (show (p.1 :: names l).Nodup from nd)
    rcases List.mem_cons.mp hq with e | e
    · rw [e]
      exact List.lookup_cons_self
    · have ne : q.1 ≠ p.1 := fun z => n1 (by rw [← z]; exact List.mem_map_of_mem e)
      rw [List.lookup_cons, beq_eq_false_iff_ne.mpr ne]
      exact ih n2 q e
/-- all above 0, in their own order: as they are -/
theorem pick_self {m : Num} (nd : (names m).Nodup) (pos : ∀ q ∈ m, 0 < q.2) : pick m (names m) = m := by
  have go : ∀ l : Num, (∀ q ∈ l, q ∈ m) → pick m (names l) = l := by
    intro l
    induction l with
    | nil => intro _; rfl
    | cons q l ih =>
      intro h
      have hq := h q List.mem_cons_self
      show pick m (q.1 :: names l) = _
      rw [pick_cons, lookup_of nd q hq]
      simp only [if_pos (pos q hq)]
      rw [ih fun p hp => h p (List.mem_cons_of_mem _ hp)]
  exact go m fun q hq => hq
theorem sorted_sub {xs ys : List Str} (s : xs.Sublist ys) (h : sortedS ys = true) : sortedS xs = true := by
  have pw : ∀ l : List Str, sortedS l = true → l.Pairwise fun a b => a.cps.toList ≤ b.cps.toList := fun l h => by
    cases l with
    | nil => exact List.Pairwise.nil
    | cons x r => exact rising_pairs r x h
  have back : ∀ (l : List Str) (p : Str), ((p :: l).Pairwise fun a b => a.cps.toList ≤ b.cps.toList) → risingS p l = true := by
    intro l
    induction l with
    | nil => intro _ _; rfl
    | cons x r ih =>
      intro p h
      obtain ⟨h1, h2⟩ := List.pairwise_cons.mp h
      show (!ltCps x.cps.toList p.cps.toList && risingS x r) = true
      rw [ih x h2, Bool.and_true, ltCps_eq]
      have : ¬ x.cps.toList < p.cps.toList := List.not_lt.mpr (h1 x List.mem_cons_self)
      simpa using this
  cases xs with
  | nil => rfl
  | cons x r => exact back r x ((pw ys h).sublist s)
/-- a second staff of the same numbers -/
theorem pick_again {m : Num} {ys zs : List Str} (nd : (names m).Nodup) (py : ys.Perm (names m)) (sy : sortedS ys = true) (pz : zs.Perm (names (pick m ys))) (sz : sortedS zs = true) : pick (pick m ys) zs = pick m ys := by
  have e : zs = names (pick m ys) := sorted_same pz sz (sorted_sub (pick_sub m ys) sy)
  rw [e]
  exact pick_self (pick_nodup (py.nodup_iff.mpr nd)) fun q hq => (pick_mem q hq).2
end Fs
set_option Elab.async false
set_option linter.all false
set_option maxRecDepth 100000
set_option maxHeartbeats 4000000
/-! FsK: slices of texts, pairs laid by a comprehension -/
namespace Fs
open PySem PySem.Spec PyProof.Rows L2 Fh
open PySem.W (Frag)
theorem cut_strs (ys : List Str) (lo hi : Option Int) : ∃ ms : List Str, cutV (ys.map V.str) lo hi = ms.map V.str ∧ ms.length ≤ ys.length ∧ ∀ x ∈ ms, x ∈ ys := by
  unfold cutV
  refine ⟨(ys.drop (HT.sIx (ys.map V.str).length 0 lo)).take (HT.sIx (ys.map V.str).length (ys.map V.str).length hi - HT.sIx (ys.map V.str).length 0 lo), ?_, ?_, fun x hx => List.mem_of_mem_drop (List.mem_of_mem_take hx)⟩
  · rw [List.map_take, List.map_drop]
  · rw [List.length_take, List.length_drop]
    omega
/-- tuples of a key and its value, none of them at p or at E -/
def Prs (H : Hp) (p E : Addr) (ps : List Addr) (l : Num) : Prop := Paired (fun q (kv : Key × V) => H q = some (.tup [kV kv.1, kv.2]) ∧ q ≠ p ∧ q ≠ E) ps (cD l)
theorem Prs.nil {H : Hp} {p E : Addr} : Prs H p E [] [] := Paired.nil
theorem Prs.but {H H' : Hp} {p E : Addr} {ps : List Addr} {l : Num} (h : Prs H p E ps l) (b : But p H H') : Prs H' p E ps l := Paired.mono (fun q kv z => ⟨b _ _ z.2.1 z.1, z.2⟩) h
theorem Prs.snoc {H : Hp} {p E T : Addr} {ps : List Addr} {l : Num} {y : Str} {n : Int} {o : HO} (h : Prs H p E ps l) (nT : H T = none) (Tp : T ≠ p) (TE : T ≠ E) :
    Prs (upd (upd H T (.tup [.str y, .int n])) E o) p E (ps ++ [T]) (l ++ [(y, n)]) := by
  unfold Prs
  rw [cD_snoc]
  have h2 : Paired (fun q (kv : Key × V) => (upd (upd H T (.tup [.str y, .int n])) E o) q = some (.tup [kV kv.1, kv.2]) ∧ q ≠ p ∧ q ≠ E) ps (cD l) := Paired.mono (fun q kv z => ⟨by
    rw [upd_ne z.2.2, upd_ne (ne_of_none z.1 nT)]
    exact z.1, z.2⟩) h
  refine Paired.snoc h2 ⟨?_, Tp, TE⟩
  rw [upd_ne TE, upd_same]
  rfl
theorem Prs.sqt {K : Frag} {H : Hp} {p E : Addr} {ps : List Addr} {l : Num} (h : Prs H p E ps l) : Paired (fun q (kv : Key × V) => SqT K H q [kV kv.1, kv.2]) ps (cD l) := Paired.mono (fun q kv z => SqT.of z.1) h
theorem Prs.len {H : Hp} {p E : Addr} {ps : List Addr} {l : Num} (h : Prs H p E ps l) : ps.length = l.length := by
  have e := Paired.length h
  rw [cD_len] at e
  exact e
/-- all but p and E stays -/
def But2 (p E : Addr) (H H' : Hp) : Prop := ∀ b o, b ≠ p → b ≠ E → H b = some o → H' b = some o
theorem none_but {p b : Addr} {H H' : Hp} (h : But p H H') (hb : H' b = none) (ne : b ≠ p) : H b = none := but_none h hb ne
theorem ne_new {H : Hp} {a b : Addr} {o : HO} (ha : H a = some o) (hb : H b = none) : b ≠ a := fun z => by
  rw [z, ha] at hb
  cases hb
theorem none_back {Ha Hb : Hp} {b : Addr} (sm : Same Ha Hb) (hb : Hb b = none) : Ha b = none := by
  cases q : Ha b with
  | none => rfl
  | some o => rw [sm b o q] at hb; cases hb
theorem str_map_get {ys : List Str} {i : Nat} {x : V} (h : (ys.map V.str)[i]? = some x) : ∃ y, x = .str y ∧ ys[i]? = some y ∧ y ∈ ys := by
  obtain ⟨y, h1, h2, h3⟩ := at_str h
  exact ⟨y, h2, h1, h3⟩
theorem take_succ_of {ys : List Str} {i : Nat} {y : Str} (h : ys[i]? = some y) : ys.take (i + 1) = ys.take i ++ [y] := take_snoc h
end Fs
set_option Elab.async false
set_option linter.all false
set_option maxRecDepth 100000
set_option maxHeartbeats 8000000
/-! FtA: sets of texts from lists and tuples, their len -/
namespace Fs
open PySem PySem.Spec PyProof.Rows L2 Fh
open PySem.W (Frag)
section
variable {K : Type} [DecidableEq K] {P : Program} {w : World} {knd : PySem.KeyKind P w K} {A : Around} {E : Value → Shared → Prop} {s : Shared} {a : Addr} {l : List (Int × Value)}
/-- an element that is there already -/
theorem sr_have {k : K} {x : Value} {Q : Bool → Shared → Prop} (R : SR knd s.heap a l) (hkey : knd.is k x = true) (hsc : x.scannable = true) (yes : ∃ e ∈ l, knd.is k e.2 = true)
    (hQ : Q false s) : wpAny (model P w) A (setAddHashed a x (knd.hash k)) Q E s := by
  obtain ⟨o, ep, t, es, ho, hx, hd, pm, el, hb, hf, hr, hl⟩ := R
  have el0 : ElemsOf knd es.toList := fun e he => el e (pm.mem_iff.mp he)
  have size0 : es.size < scanBound := by rw [← Array.length_toList, pm.length_eq]; exact hb
  unfold setAddHashed setAddHashedIn
  refine wpAny_holding (wpAny_bind (wpAny_setState_of ho hd hf ?_))
  dsimp only
  rw [byScan_of hsc size0 el0]
  simp only [↓reduceIte]
  unfold setAddByScan
  refine wpAny_bind (wpAny_bind (wpAny_rule (wpAny_bind (wpAny_setScan_of hkey ho hd hf el0 ?_))))
  cases nf : List.findIdx? (fun e => knd.is k e.2) es.toList with
  | none =>
    obtain ⟨e, he, z⟩ := yes
    have := List.findIdx?_eq_none_iff.mp nf e (pm.mem_iff.mpr he)
    rw [z] at this
    cases this
  | some i =>
    dsimp only
    refine wpAny_pure ?_
    exact wpAny_pure hQ
end
/-- the elements in the order in which they are met -/
def addT (ks : List Str) (x : Str) : List Str := if x ∈ ks then ks else ks ++ [x]
def ded (xs : List Str) : List Str := xs.foldl addT []
theorem ded_snoc (xs : List Str) (x : Str) : ded (xs ++ [x]) = addT (ded xs) x := by unfold ded; rw [List.foldl_append]; rfl
theorem foldl_addT : ∀ (xs ks : List Str), ks.Nodup → (xs.foldl addT ks).Nodup ∧ (∀ y, y ∈ xs.foldl addT ks ↔ y ∈ ks ∨ y ∈ xs) ∧ (xs.foldl addT ks).length ≤ ks.length + xs.length
  | [], ks, nd => ⟨nd, fun y => by simp, Nat.le_refl _⟩
  | x :: xs, ks, nd => by
    have n1 : (addT ks x).Nodup := by
      unfold addT
      split
      · exact nd
      · rename_i h
        refine List.nodup_append.mpr ⟨nd, List.pairwise_singleton _ _, fun a ha b hb => ?_⟩
        rw [List.mem_singleton.mp hb]
        exact fun z => h (z ▸ ha)
    have m1 : ∀ y, y ∈ addT ks x ↔ y ∈ ks ∨ y = x := fun y => by
      unfold addT
      split
      · rename_i h
        exact ⟨.inl, fun z => z.elim id fun e => by rw [e]; exact h⟩
      · rw [List.mem_append, List.mem_singleton]
    have l1 : (addT ks x).length ≤ ks.length + 1 := by
      unfold addT
      split
      · omega
      · rw [List.length_append]; exact Nat.le_refl _
    obtain ⟨a1, a2, a3⟩ := foldl_addT xs (addT ks x) n1
    refine ⟨a1, fun y => ?_, ?_⟩
    · show y ∈ xs.foldl addT (addT ks x) ↔ _
      rw [a2, m1, List.mem_cons, or_assoc]
    · show (xs.foldl addT (addT ks x)).length ≤ _
      rw [List.length_cons]
      omega
theorem ded_nodup (xs : List Str) : (ded xs).Nodup := (foldl_addT xs [] List.nodup_nil).1
theorem ded_mem {xs : List Str} {y : Str} : y ∈ ded xs ↔ y ∈ xs := by
  have e := (foldl_addT xs [] List.nodup_nil).2.1 y
  show y ∈ xs.foldl addT [] ↔ y ∈ xs
  simpa using e
theorem ded_len (xs : List Str) : (ded xs).length ≤ xs.length := by
  have e := (foldl_addT xs [] List.nodup_nil).2.2
  show (xs.foldl addT []).length ≤ _
  simpa using e
theorem ded_self {xs : List Str} (nd : xs.Nodup) : ded xs = xs := by
  have go : ∀ (xs ks : List Str), (ks ++ xs).Nodup → xs.foldl addT ks = ks ++ xs := by
    intro xs
    induction xs with
    | nil => intro ks _; simp
    | cons x xs ih =>
      intro ks h
      have nx : x ∉ ks := fun z => (List.nodup_append.mp h).2.2 _ z _ List.mem_cons_self rfl
      show xs.foldl addT (addT ks x) = _
      have e : addT ks x = ks ++ [x] := by unfold addT; rw [if_neg nx]
      rw [e, ih _ (by simpa using h)]
      simp
  exact go xs [] (by simpa using nd)
/-- what stands at a: the texts ks, in some order -/
def SRt (P : Program) (w : World) (h : Heap) (a : Addr) (ks : List Str) : Prop := ∃ l, SR (mixKind P w) h a l ∧ (∀ e ∈ l, ∃ x t, e.2 = Value.str x t) ∧ (l.map fun e => strOf e.2) = ks
theorem SRt.move {P : Program} {w : World} {h h' : Heap} {a : Addr} {ks : List Str} (R : SRt P w h a ks) (k : ∀ o, h.get? a = some o → h'.get? a = some o) : SRt P w h' a ks :=
  let ⟨l, r, p, q⟩ := R
  ⟨l, r.move k, p, q⟩
section
variable {prog : Program} {w : World} {A : Around} {R : Result → Shared → Prop} {I : Addr} {fp wr : List Addr} {G : Array GenState → Array GenState → Prop} {n : Nat} {Pv : Nat → Value → Prop} {St : Nat → Shared → Prop}
theorem addTx {E : Value → Shared → Prop} {s : Shared} {S : Addr} {ks : List Str} {x : Str} {t : Tok} {Q : Bool → Shared → Prop} (R : SRt prog w s.heap S ks) (few : ks.length < 100)
    (hQ : ∀ b h' tk, s.toks ≤ tk → Heap.SameBut S s.heap h' → SRt prog w h' S (addT ks x) → Q b { s with heap := h', toks := tk }) : wpAny (model prog w) A (setAdd S (.str x t)) Q E s := by
  obtain ⟨l, r, pt, rfl⟩ := R
  rw [List.length_map] at few
  have hk : (mixKind prog w).is (Sum.inr x) (.str x t) = true := keyIs_str x t
  unfold setAdd
  refine wpAny_holding (wpAny_bind ((mixKind prog w).pyHash (k := Sum.inr x) hk ?_))
  by_cases hx : x ∈ l.map fun e => strOf e.2
  · obtain ⟨e, he, ee⟩ := List.mem_map.mp hx
    obtain ⟨y, u, ey⟩ := pt e he
    have exy : y = x := by rw [← ee, ey]; rfl
    refine sr_have (knd := mixKind prog w) (s := { s with toks := s.toks + 1 }) r hk rfl ⟨e, he, by rw [ey, exy]; exact keyIs_str x u⟩ ?_
    refine hQ false s.heap (s.toks + 1) (Nat.le_succ _) (Heap.SameBut.refl S s.heap) ⟨l, r, pt, ?_⟩
    unfold addT
    rw [if_pos hx]
  · refine sr_add (knd := mixKind prog w) (s := { s with toks := s.toks + 1 }) r hk rfl (fun e he => ?_) (by show l.length + 1 < 4096; omega) fun h' sb r2 => ?_
    · cases c : (mixKind prog w).is (Sum.inr x) e.2 with
      | false => rfl
      | true =>
        obtain ⟨u, ev⟩ := Value.isStrOf_shape (x := x) (v := e.2) c
        exact absurd (List.mem_map.mpr ⟨e, he, by rw [ev]; rfl⟩) hx
    · refine hQ true h' (s.toks + 1) (Nat.le_succ _) sb ⟨_, r2, fun e he => ?_, ?_⟩
      · rcases List.mem_append.mp he with z | z
        · exact pt e z
        · rw [List.mem_singleton.mp z]
          exact ⟨x, t, rfl⟩
      · rw [List.map_append]
        unfold addT
        rw [if_neg hx]
        rfl
theorem loopTx (Wk : WalksS prog w A.in1 I fp wr G n Pv St) (S : Addr) (far : S ∉ fp) (xs : List Str) (size : xs.length = n) (few : n < 64)
    (vals : ∀ i v, Pv i v → ∃ t, v = .str (xs.getD i Str.empty) t) :
    ∀ (k i : Nat) (s : Shared), n - i = k → i ≤ n → St i s → SRt prog w s.heap S (ded (xs.take i)) →
      (∀ s', Moved (S :: wr) G s s' → SRt prog w s'.heap S (ded xs) → R (.ok (.ret .none)) s') →
      codeAny (model prog w) A (.builtin "set.update.loop" ⟨[.ref S, .ref I], []⟩) R s := by
  have offw : S ∉ wr := fun h => far (Wk.sub _ h)
  have more : ∀ b ∈ wr, b ∈ S :: wr := fun b hb => List.mem_cons_of_mem _ hb
  intro k
  induction k with
  | zero =>
    intro i s hk hi st0 was fin
    have hin : i = n := by omega
    subst hin
    rw [List.take_of_length_le (by omega)] at was
    refine codeAny_builtin PyProof.Rows.F.entry_set_update_loop ?_
    rw [Around.under_plainId PyProof.Rows.F.plain_set_update_loop _]
    show wpAny _ A.in1 (pyNext (.ref I) >>= _) _ _ s
    refine wpAny_bind (Wk.done s _ _ st0 fun s' mv => ?_)
    show wpAny _ A.in1 (ret Value.none) _ _ s'
    exact wpAny_pure (fin s' (mv.mono more) (was.move fun o ho => mv.heap S _ offw ho))
  | succ k ih =>
    intro i s hk hi st0 was fin
    have below : i < n := by omega
    refine codeAny_builtin PyProof.Rows.F.entry_set_update_loop ?_
    rw [Around.under_plainId PyProof.Rows.F.plain_set_update_loop _]
    show wpAny _ A.in1 (pyNext (.ref I) >>= _) _ _ s
    refine wpAny_bind (Wk.item i s _ _ below st0 fun v s' isat st1 mv => ?_)
    obtain ⟨t, rfl⟩ := vals i v isat
    have was1 : SRt prog w s'.heap S (ded (xs.take i)) := was.move fun o ho => mv.heap S _ offw ho
    show wpAny _ A.in1 (holding [Value.str (xs.getD i Str.empty) t] (setAdd S (.str (xs.getD i Str.empty) t)) >>= _) _ _ s'
    have f1 := ded_len (xs.take i)
    rw [List.length_take] at f1
    have gx : xs[i]? = some (xs.getD i Str.empty) := by
      rw [List.getD_eq_getElem?_getD, List.getElem?_eq_getElem (by omega)]
      rfl
    refine wpAny_bind (wpAny_holding (addTx was1 (by omega) fun b h' tk htk hsb hS2 => ?_))
    have nowi : SRt prog w h' S (ded (xs.take (i + 1))) := by
      rw [take_snoc gx, ded_snoc]
      exact hS2
    refine wpAny_pure ⟨plainId_quiet PyProof.Rows.F.plain_set_update_loop _, ih (i + 1) _ (by omega) below (Wk.frame _ s' _ _ st1 htk fun b hb o e => ?_) nowi fun s'' mv2 hS'' => ?_⟩
    · rw [hsb.2 b (fun h : b = S => far (by rw [← h]; exact hb))]; exact e
    · refine fin s'' (Moved.trans Wk.gtrans ((mv.mono more).then_heap htk fun b o hb e => ?_) mv2) hS''
      rw [hsb.2 b (fun h : b = S => hb (by rw [h]; exact List.mem_cons_self))]; exact e
end

section
variable {prog : Program} {w : World} {A : Around} {E : Value → Shared → Prop} {s : Shared}
set_option maxHeartbeats 8000000 in
/-- set(a list of texts) -/
theorem set_list {d : Addr} {arr : Array Value} {ys : List Str} {Q : Value → Shared → Prop} (calm : A.handled = none) (src : s.heap.IsList d arr) (tx : PyProof.Rows.StrsAre arr.toList ys) (few : ys.length < 64)
    (hQ : ∀ (h2 : Heap) (tk : Nat), (∀ b u, s.heap.get? b = some u → h2.get? b = some u) → SRt prog w h2 s.heap.objs.size (ded ys) → Q (.ref s.heap.objs.size) { s with heap := h2, toks := tk }) :
    wpAny (model prog w) A (call (.type "set") [.ref d]) Q E s := by
  obtain ⟨c0, c1, c2⟩ := F.called_set.mro
  have c3 := F.called_set.made
  have c4 := F.called_set.sub
  have c5 := F.called_set.notType
  have c6 := F.called_set.canCreate
  have c7 := F.typeCall_set_1 (.ref d)
  have c8 := F.called_set.init.lookup
  have c9 := F.called_set.init.bind (.ref s.heap.objs.size)
  have new0 : (s.heap.push (noSet w)).get? s.heap.objs.size = some (noSet w) := Heap.get?_push_size _ rfl
  have ty0 : Shared.TypeIs { s with heap := s.heap.push (noSet w) } (.ref s.heap.objs.size) "set" := ⟨_, new0, rfl⟩
  refine wpAny_call (codeAny_of_tree ?_)
  show wpAny _ _ (callAny (.type "set") _) _ _ _
  refine wpAny_pure ⟨Code.quiet_builtin _ (by decide +kernel), codeAny_builtin F.entry_type_call ?_⟩
  rw [Around.under_plain (weight_type_call_type "set" [.ref d] []) rfl]
  repeat (any_goals (first | assumption | wp_step))
  refine codeAny_mono (code_set_led1 (.ref d) (E := E) (Q₁ := fun ob s1 => ob = .ref s.heap.objs.size ∧ s1 = { s with heap := s.heap.push (noSet w) }) ⟨rfl, rfl⟩) fun r s1 hr => ?_
  match r, hr with
  | .error e, hr => exact hr
  | .ok .next, hr => exact hr.elim
  | .ok .brk, hr => exact hr.elim
  | .ok .cont, hr => exact hr.elim
  | .ok (.ret ob), hr =>
    obtain ⟨rfl, rfl⟩ := hr
    repeat (any_goals (first | assumption | wp_step))
    refine codeAny_mono (codeAny_call_builtin (R := wants (fun r s2 => r = .none ∧ Q (.ref s.heap.objs.size) s2) E) F.called_set.init.plain F.entry_set_init (check_set_init_1 ty0 ?_)) fun r2 s2 hr2 => ?_
    · obtain ⟨ob, hob, cl, nl, dt⟩ := src
      obtain ⟨k1, k2, k3, k4⟩ := ob
      simp only at cl dt
      subst cl; subst dt
      have old0 : (s.heap.push (noSet w)).get? d = some { cls := .type "list", dict := k2, data := .seq arr nl, slots := k4 } := Heap.get?_push_of_some _ hob
      have u1 := F.sub_list_set
      have u2 := F.sub_list_frozenset
      have u3 : (Value.type "list" == Value.type "dict") = false := by decide
      have src1 : (s.heap.push (noSet w)).IsList d arr := ⟨_, old0, rfl, nl, rfl⟩
      unfold Builtin.«set.__init__» noKeywords Builtin.Frozenset.updateFrom
      generalize eP : pyIter = PI
      wp_walk
      subst eP
      refine wpAny_pyIter_list src1 ?_
      refine wpAny_bind (wpAny_runValue ?_)
      have dS : d < s.heap.objs.size := Heap.lt_size hob
      have calm3 : A.in1.in1.in1.handled = none := by simp [calm]
      have dne : d ≠ (s.heap.push (noSet w)).objs.size := by
        rw [Heap.size_push]; exact Nat.ne_of_lt (Nat.lt_succ_of_lt dS)
      have off0 : s.heap.objs.size ∉ [(s.heap.push (noSet w)).objs.size, d] := by
        rw [Heap.size_push]
        intro z
        rcases List.mem_cons.mp z with y | y
        · exact absurd y (Nat.ne_of_lt (Nat.lt_succ_self _))
        · exact absurd (List.mem_singleton.mp y) (Nat.ne_of_gt dS)
      have len0 : ys.length = arr.size := by rw [← StrsAre.len_eq tx, Array.length_toList]
      refine loopTx ((Walks.list calm3 _ d dne arr).toS) s.heap.objs.size off0 ys len0 (by rw [← len0]; exact few) (fun j v hv => SS.strs_at tx j v (by rw [Array.getElem?_toList]; exact hv)) (arr.size - 0) 0 _ (by omega) (Nat.zero_le _)
        ⟨⟨_, Heap.get?_push_size _ rfl, rfl, rfl⟩, (src1.push _)⟩ ⟨[], sr_new (Heap.get?_push_of_some _ new0), (fun _ z => nomatch z), rfl⟩ ?_
      intro s3 mv rr
      obtain ⟨h3, g3, d3, t3, o3⟩ := s3
      have e1 : g3 = s.gens := mv.gens
      have e2 : d3 = s.drawn := mv.drawn
      have e3 : o3 = s.os := mv.os
      subst e1; subst e2; subst e3
      show wpAny _ _ _ _ _ _
      refine wpAny_pure ?_
      show wpAny _ _ (ret Value.none) _ _ _
      refine wpAny_pure ⟨rfl, hQ h3 t3 (fun b u e => ?_) rr⟩
      have lb : b < s.heap.objs.size := Heap.lt_size e
      refine mv.heap b u (fun z => ?_) (Heap.get?_push_of_some _ (Heap.get?_push_of_some _ e))
      rcases List.mem_cons.mp z with y | y
      · exact absurd y (Nat.ne_of_lt lb)
      · rw [Heap.size_push] at y
        exact absurd (List.mem_singleton.mp y) (Nat.ne_of_lt (Nat.lt_succ_of_lt lb))
    · match r2, hr2 with
      | .error e, hr2 => exact hr2
      | .ok .next, hr2 => exact hr2.elim
      | .ok .brk, hr2 => exact hr2.elim
      | .ok .cont, hr2 => exact hr2.elim
      | .ok (.ret v), hr2 =>
        obtain ⟨rfl, hq⟩ := hr2
        repeat (any_goals (first | assumption | wp_step))
end

section
variable {prog : Program} {w : World} {A : Around} {E : Value → Shared → Prop} {s : Shared}
set_option maxHeartbeats 8000000 in
/-- set(a tuple of texts) -/
theorem set_tuple {d : Addr} {arr : Array Value} {ys : List Str} {Q : Value → Shared → Prop} (calm : A.handled = none) (src : s.heap.IsTuple d arr) (tx : PyProof.Rows.StrsAre arr.toList ys) (few : ys.length < 64)
    (hQ : ∀ (h2 : Heap) (tk : Nat), (∀ b u, s.heap.get? b = some u → h2.get? b = some u) → SRt prog w h2 s.heap.objs.size (ded ys) → Q (.ref s.heap.objs.size) { s with heap := h2, toks := tk }) :
    wpAny (model prog w) A (call (.type "set") [.ref d]) Q E s := by
  obtain ⟨c0, c1, c2⟩ := F.called_set.mro
  have c3 := F.called_set.made
  have c4 := F.called_set.sub
  have c5 := F.called_set.notType
  have c6 := F.called_set.canCreate
  have c7 := F.typeCall_set_1 (.ref d)
  have c8 := F.called_set.init.lookup
  have c9 := F.called_set.init.bind (.ref s.heap.objs.size)
  have new0 : (s.heap.push (noSet w)).get? s.heap.objs.size = some (noSet w) := Heap.get?_push_size _ rfl
  have ty0 : Shared.TypeIs { s with heap := s.heap.push (noSet w) } (.ref s.heap.objs.size) "set" := ⟨_, new0, rfl⟩
  refine wpAny_call (codeAny_of_tree ?_)
  show wpAny _ _ (callAny (.type "set") _) _ _ _
  refine wpAny_pure ⟨Code.quiet_builtin _ (by decide +kernel), codeAny_builtin F.entry_type_call ?_⟩
  rw [Around.under_plain (weight_type_call_type "set" [.ref d] []) rfl]
  repeat (any_goals (first | assumption | wp_step))
  refine codeAny_mono (code_set_led1 (.ref d) (E := E) (Q₁ := fun ob s1 => ob = .ref s.heap.objs.size ∧ s1 = { s with heap := s.heap.push (noSet w) }) ⟨rfl, rfl⟩) fun r s1 hr => ?_
  match r, hr with
  | .error e, hr => exact hr
  | .ok .next, hr => exact hr.elim
  | .ok .brk, hr => exact hr.elim
  | .ok .cont, hr => exact hr.elim
  | .ok (.ret ob), hr =>
    obtain ⟨rfl, rfl⟩ := hr
    repeat (any_goals (first | assumption | wp_step))
    refine codeAny_mono (codeAny_call_builtin (R := wants (fun r s2 => r = .none ∧ Q (.ref s.heap.objs.size) s2) E) F.called_set.init.plain F.entry_set_init (check_set_init_1 ty0 ?_)) fun r2 s2 hr2 => ?_
    · obtain ⟨ob, hob, cl, nl, dt⟩ := src
      obtain ⟨k1, k2, k3, k4⟩ := ob
      simp only at cl dt
      subst cl; subst dt
      have old0 : (s.heap.push (noSet w)).get? d = some { cls := .type "tuple", dict := k2, data := .seq arr nl, slots := k4 } := Heap.get?_push_of_some _ hob
      have u1 := F.sub_tuple_set
      have u2 := F.sub_tuple_frozenset
      have u3 : (Value.type "tuple" == Value.type "dict") = false := by decide
      have src1 : (s.heap.push (noSet w)).IsTuple d arr := ⟨_, old0, rfl, nl, rfl⟩
      unfold Builtin.«set.__init__» noKeywords Builtin.Frozenset.updateFrom
      generalize eP : pyIter = PI
      wp_walk
      subst eP
      refine wpAny_pyIter_tuple src1 ?_
      refine wpAny_bind (wpAny_runValue ?_)
      have dS : d < s.heap.objs.size := Heap.lt_size hob
      have calm3 : A.in1.in1.in1.handled = none := by simp [calm]
      have dne : d ≠ (s.heap.push (noSet w)).objs.size := by
        rw [Heap.size_push]; exact Nat.ne_of_lt (Nat.lt_succ_of_lt dS)
      have off0 : s.heap.objs.size ∉ [(s.heap.push (noSet w)).objs.size, d] := by
        rw [Heap.size_push]
        intro z
        rcases List.mem_cons.mp z with y | y
        · exact absurd y (Nat.ne_of_lt (Nat.lt_succ_self _))
        · exact absurd (List.mem_singleton.mp y) (Nat.ne_of_gt dS)
      have len0 : ys.length = arr.size := by rw [← StrsAre.len_eq tx, Array.length_toList]
      refine loopTx ((Walks.tuple calm3 _ d dne arr).toS) s.heap.objs.size off0 ys len0 (by rw [← len0]; exact few) (fun j v hv => SS.strs_at tx j v (by rw [Array.getElem?_toList]; exact hv)) (arr.size - 0) 0 _ (by omega) (Nat.zero_le _)
        ⟨⟨_, Heap.get?_push_size _ rfl, rfl, rfl⟩, (src1.push _)⟩ ⟨[], sr_new (Heap.get?_push_of_some _ new0), (fun _ z => nomatch z), rfl⟩ ?_
      intro s3 mv rr
      obtain ⟨h3, g3, d3, t3, o3⟩ := s3
      have e1 : g3 = s.gens := mv.gens
      have e2 : d3 = s.drawn := mv.drawn
      have e3 : o3 = s.os := mv.os
      subst e1; subst e2; subst e3
      show wpAny _ _ _ _ _ _
      refine wpAny_pure ?_
      show wpAny _ _ (ret Value.none) _ _ _
      refine wpAny_pure ⟨rfl, hQ h3 t3 (fun b u e => ?_) rr⟩
      have lb : b < s.heap.objs.size := Heap.lt_size e
      refine mv.heap b u (fun z => ?_) (Heap.get?_push_of_some _ (Heap.get?_push_of_some _ e))
      rcases List.mem_cons.mp z with y | y
      · exact absurd y (Nat.ne_of_lt lb)
      · rw [Heap.size_push] at y
        exact absurd (List.mem_singleton.mp y) (Nat.ne_of_lt (Nat.lt_succ_of_lt lb))
    · match r2, hr2 with
      | .error e, hr2 => exact hr2
      | .ok .next, hr2 => exact hr2.elim
      | .ok .brk, hr2 => exact hr2.elim
      | .ok .cont, hr2 => exact hr2.elim
      | .ok (.ret v), hr2 =>
        obtain ⟨rfl, hq⟩ := hr2
        repeat (any_goals (first | assumption | wp_step))
end

section
variable {X : Cx}
/-- set(xs), xs a list or tuple of texts -/
theorem cr_setL (hc : X.calm = true) : CallR X (.type "set") (fun xs H Q => ∃ (a : Addr) (ys : List Str), xs = [.ref a] ∧ (SqL X.K H a (ys.map V.str) ∨ SqT X.K H a (ys.map V.str)) ∧ ys.length < 64 ∧ ∀ p, H p = none → Q (.ref p) (upd H p (SetS X.prog X.w p (ded ys)))) := by
  intro pins s σ H xs us Q I r h
  obtain ⟨a, ys, rfl, hq, few, q⟩ := h
  rw [Vals.ref1 r]
  have fin : ∀ (h2 : Heap) (tk : Nat), (∀ b u, s.heap.get? b = some u → h2.get? b = some u) → SRt X.prog X.w h2 s.heap.objs.size (ded ys) → EP X pins σ Q (.ref s.heap.objs.size) { s with heap := h2, toks := tk } := fun h2 tk kp ⟨l, R, st, es⟩ =>
    ⟨.ref s.heap.objs.size, upd H s.heap.objs.size (SetS X.prog X.w s.heap.objs.size (ded ys)), I.laid (t' := tk) kp (Nat.le_refl _) ⟨⟨l, R, st, es⟩, let ⟨o, _, _, _, e, _⟩ := R; ⟨o, e⟩, fun h1 h2 ⟨l, r1, r2, r3⟩ k => ⟨l, r1.move k, r2, r3⟩⟩, rfl, q _ (I.hok.fresh (Nat.le_refl _))⟩
  rcases hq with hq | hq
  · obtain ⟨its, rv, pl, hz⟩ := I.list hq
    exact set_list (I.ok.hd hc) pl.isList (by simpa using strsAre_of rv) few fin
  · obtain ⟨its, rv, pl, hz⟩ := I.tuple hq
    exact set_tuple (I.ok.hd hc) pl (by simpa using strsAre_of rv) few fin
/-- len(s) -/
theorem cr_lenS : CallR X (.builtin "len") (fun xs H Q => ∃ (a : Addr) (ks : List Str), xs = [.ref a] ∧ H a = some (SetS X.prog X.w a ks) ∧ ks.length < 1000 ∧ Q (.int ks.length) H) := by
  intro pins s σ H xs us Q I r h
  obtain ⟨a, ks, rfl, ha, few, q⟩ := h
  obtain ⟨⟨l, R, st, rfl⟩, _⟩ := I.hok a _ ha
  rw [Vals.ref1 r]
  rw [List.length_map] at few q
  obtain ⟨o, ep, t, es, ho, hx, hd, pm, el, hb, hf, hr, hl⟩ := R
  have sz : es.size = l.length := by rw [← Array.length_toList, pm.length_eq]
  refine call_len_set ho hx hd hf (by rw [sz]; omega) ⟨.int l.length, H, I.tok _, ⟨_, by rw [sz]⟩, q⟩
end
end Fs
set_option Elab.async false
set_option linter.all false
set_option maxRecDepth 100000
set_option maxHeartbeats 8000000
/-! FtB: sorted of lists and tuples of texts, a walk over either, names = a list -/
namespace Fs
open PySem PySem.Spec PyProof.Rows L2 Fh
open PySem.W (Frag)
section
variable {P : Program} {w : World} {A : Around} {E : Value → Shared → Prop} {s : Shared} {d : Addr}
theorem sorted_seq {o : Obj} {T : String} {arr : Array Value} {nl : Nat} {ys : List Str} {Q : Value → Shared → Prop} (hT : T = "list" ∨ T = "tuple") (ho : s.heap.get? d = some o) (hc : o.cls = .type T) (hd : o.data = .seq arr nl) (tx : StrsAre arr.toList ys) (few : ys.length < 64)
    (hQ : ∀ (s' : Shared) (h1 : Heap) (out : Array Value) (c : Nat) (zs : List Str), (∀ b o, s.heap.get? b = some o → h1.get? b = some o) → (∀ b o, h1.get? b = some o → s'.heap.get? b = some o) → s'.gens = s.gens → s'.os = s.os → s'.heap.get? h1.objs.size = some (seqObj "list" out c) → StrsAre out.toList zs →
      zs.Perm ys → sortedS zs = true → Q (.ref h1.objs.size) s') : wpAny (model P w) A (call (.builtin "sorted") [.ref d]) Q E s := by
  have len0 : ys.length = arr.size := by rw [← StrsAre.len_eq tx, Array.length_toList]
  refine Calls.call_function_entry PyProof.Rows.kind_sorted PyProof.Rows.plain_sorted PyProof.Rows.entry_sorted (PyProof.Rows.args_sorted1 _) ?_
  unfold Builtin.«sorted»
  refine wpAny_bind (m := checkCount "sorted" 1 1 _) (wpAny_pure (wpAny_bind (wpAny_collect_seq d hT ho hc hd (fun h1 k1 => ?_) (by rw [sizeLine_eq]; omega))))
  have lv : arr.toList.length = ys.length := by rw [Array.length_toList, len0]
  refine wpAny_bind (wpAny_newList ?_ (by rw [lv, sizeLine_eq]; omega))
  have hoL : (h1.push (seqObj "list" arr.toList.toArray 0)).get? h1.objs.size = some (seqObj "list" arr.toList.toArray 0) := Heap.get?_push_size _ rfl
  refine wpAny_bind (wpAny_holding (wpAny_call_entry PyProof.Rows.slot_list_sort ⟨_, hoL, rfl⟩ PyProof.Rows.entry_list_sort
    (list_sort_treeK PyProof.Rows.strKind_oneLt (s := { s with heap := h1.push (seqObj "list" arr.toList.toArray 0) }) hoL tx.keysOf (fun v1 v2 rest e => keyKind_strs (by rw [← e]; exact tx)) (by rw [lv]; exact few) fun st' hp hs2 => ⟨_, rfl, ?_⟩)
    (PyProof.Rows.args_list_sort _)))
  obtain ⟨zs, q1, q2, q3⟩ := sorted_out_str tx hp hs2
  obtain ⟨c, hc2⟩ := PyProof.Rows.sortedHeap_at (vs := arr.toList) (out := (arrOf st').map (·.2)) hoL
  refine wpAny_pure ⟨_, rfl, hQ _ h1 _ c zs k1 (fun b u q => ?_) rfl rfl hc2 q1 q2 q3⟩
  have hlt := Heap.lt_size q
  show (PyProof.Rows.sortedHeap (h1.push (seqObj "list" arr.toList.toArray 0)) h1.objs.size arr.toList _).get? b = some u
  rw [PyProof.Rows.sortedHeap_old (Nat.ne_of_lt hlt) (by rw [size_push']; exact Nat.lt_succ_of_lt hlt)]
  exact Heap.get?_push_of_some _ q
end
section
variable {X : Cx}
/-- sorted(xs), xs a list or tuple of texts -/
theorem cr_sortedSeq : CallR X (.builtin "sorted") (fun xs H Q => ∃ (a : Addr) (ys : List Str), xs = [.ref a] ∧ (SqL X.K H a (ys.map V.str) ∨ SqT X.K H a (ys.map V.str)) ∧ ys.length < 64 ∧ ∀ zs p, zs.Perm ys → sortedS zs = true → H p = none → Q (.ref p) (upd H p (.lst (zs.map V.str)))) := by
  intro pins s σ H xs us Q I r h
  obtain ⟨a, ys, rfl, hq, few, q⟩ := h
  rw [Vals.ref1 r]
  have fin : ∀ (s' : Shared) (h1 : Heap) (out : Array Value) (c : Nat) (zs : List Str), (∀ b o, s.heap.get? b = some o → h1.get? b = some o) → (∀ b o, h1.get? b = some o → s'.heap.get? b = some o) → s'.gens = s.gens → s'.os = s.os → s'.heap.get? h1.objs.size = some (seqObj "list" out c) → StrsAre out.toList zs →
      zs.Perm ys → sortedS zs = true → EP X pins σ Q (.ref h1.objs.size) s' := fun s' h1 out c zs k1 k g o hg hi pm so => by
    have hlen : (zs.map V.str).length ≤ sizeLine := by rw [List.length_map, pm.length_eq, sizeLine_eq]; omega
    have I1 : Inv X pins σ H { s with heap := h1 } := I.kept (t' := s.toks) k1
    have hn : H h1.objs.size = none := I1.hok.fresh (Nat.le_refl _)
    have J : Inv X pins σ (upd H h1.objs.size (.lst (zs.map V.str))) s' :=
      I1.call' (ch := []) o (Un.laid (h := h1) k (Nat.le_refl _) hn) (I1.hok.laid (h := h1) k (Nat.le_refl _) ⟨hlen, out.toList, c, vals_of_strs hi, hg⟩) (by rw [g]; exact I.bare) (fun _ z => nomatch z)
    exact ⟨.ref h1.objs.size, _, J, rfl, q zs _ pm so hn⟩
  rcases hq with hq | hq
  · obtain ⟨its, rv, ⟨o, n, ho, hc, _, hd⟩, hz⟩ := I.list hq
    exact sorted_seq (.inl rfl) ho hc hd (by simpa using strsAre_of rv) few fin
  · obtain ⟨its, rv, ⟨o, ho, hc, n, hd⟩, hz⟩ := I.tuple hq
    exact sorted_seq (.inr rfl) ho hc hd (by simpa using strsAre_of rv) few fin
/-- over a list or a tuple -/
def iSeq (K : Frag) (tl : TE) : TI := fun σ H R => tl σ H fun x H1 => ∃ a, x = .ref a ∧ (((∃ xs, SqL K H1 a xs) ∧ R (Itl K a) H1) ∨ ((∃ xs, SqT K H1 a xs) ∧ R (Itt K a) H1))
theorem iSeq_l {K : Frag} {H : Hp} {a : Addr} {xs : List V} {R : It → Hp → Prop} (h : SqL K H a xs) (r : R (Itl K a) H) : ((∃ xs, SqL K H a xs) ∧ R (Itl K a) H) ∨ ((∃ xs, SqT K H a xs) ∧ R (Itt K a) H) := .inl ⟨⟨xs, h⟩, r⟩
theorem iSeq_t {K : Frag} {H : Hp} {a : Addr} {xs : List V} {R : It → Hp → Prop} (h : SqT K H a xs) (r : R (Itt K a) H) : ((∃ xs, SqL K H a xs) ∧ R (Itl K a) H) ∨ ((∃ xs, SqT K H a xs) ∧ R (Itt K a) H) := .inr ⟨⟨xs, h⟩, r⟩
theorem ty_l {K : Frag} {H : Hp} {a : Addr} {xs : List V} (h : SqL K H a xs) : TyX K H (.ref a) (.type "list") := by
  rcases h with (h | ⟨o, h⟩) | ⟨o, its, n, hk, hc, _⟩
  · exact .base (.lst h)
  · exact .base (.frz h)
  · exact .kList hk hc
theorem ty_t {K : Frag} {H : Hp} {a : Addr} {xs : List V} (h : SqT K H a xs) : TyX K H (.ref a) (.type "tuple") := by
  rcases h with (h | ⟨o, h⟩) | ⟨o, its, n, hk, hc, _⟩
  · exact .base (.tup h)
  · exact .fTuple h
  · exact .kTuple hk hc
end
section
variable {X : Cx} {tg e : Expr} {tl : TE}
theorem pi_seq (he : PE X e tl) : PI X tg e (iSeq X.K tl) := by
  refine ⟨fun pins s σ H R I h => thn (he.run pins s σ H _ I h) fun u s2 ⟨x, H2, I2, rx, d, ex, q⟩ => ?_⟩
  subst ex
  obtain rfl : u = Value.ref d := rx
  have it0 := I2.hok.fresh (Nat.le_refl s2.heap.objs.size)
  have one : ∀ c ∈ [s2.heap.objs.size], c = s2.heap.objs.size := fun c hc => List.mem_singleton.mp hc
  rcases q with ⟨⟨xs, hq⟩, q⟩ | ⟨⟨xs, hq⟩, q⟩
  · obtain ⟨us, ru, pu, _⟩ := I2.list hq
    exact wpAny_pyIter_list pu.isList ⟨_, [s2.heap.objs.size], _, _, H2, rfl, I2.kept (t' := s2.toks) (fun c o z => Heap.get?_push_of_some _ z), turn_list d _, ⟨_, Heap.get?_push_size _ rfl, rfl, rfl⟩, fun c hc => by rw [one c hc]; exact I2.fpOk (Nat.le_refl _) it0, q⟩
  · obtain ⟨us, ru, pu, _⟩ := I2.tuple hq
    exact wpAny_pyIter_tuple (show s2.heap.IsTuple d us.toArray from pu) ⟨_, [s2.heap.objs.size], _, _, H2, rfl, I2.kept (t' := s2.toks) (fun c o z => Heap.get?_push_of_some _ z), turn_tuple d _, ⟨_, Heap.get?_push_size _ rfl, rfl, rfl⟩, fun c hc => by rw [one c hc]; exact I2.fpOk (Nat.le_refl _) it0, q⟩
theorem sqT_same {K : Frag} {H H' : Hp} {a : Addr} {xs : List V} (s : Same H H') (h : SqT K H a xs) : SqT K H' a xs := by
  rcases h with (h | ⟨o, h⟩) | h
  · exact .inl (.inl (s _ _ h))
  · exact .inl (.inr ⟨o, s _ _ h⟩)
  · exact .inr h
theorem mpP {R G : Prop} (h : R → G) (r : R) : G := h r
end
/-! ### names = a list -/
section
variable {prog : Program} {w : World} {A : Around} {E : Value → Shared → Prop}
theorem draw_some {it d : Addr} (dne : d ≠ it) (calm : A.handled = none) (arr : Array Value) : ∀ (k i : Nat) (s : Shared) (Q : List Value → Shared → Prop), s.heap.IsListIter it d i → s.heap.IsList d arr → i + k = arr.size →
    (∀ h2 tk, h2.IsListIter it d arr.size → h2.IsList d arr → (∀ b o, b ≠ it → s.heap.get? b = some o → h2.get? b = some o) → Q (arr.toList.drop i) { s with heap := h2, toks := tk }) → wpAny (model prog w) A (draw (.ref it) k) Q E s
  | 0, i, s, Q, h1, h2, e, hQ => by
    have ei : i = arr.size := by omega
    subst ei
    show wpAny _ _ (pure []) Q E s
    have e2 : arr.toList.drop arr.size = [] := by rw [List.drop_eq_nil_iff]; rw [Array.length_toList]; exact Nat.le_refl _
    rw [e2] at hQ
    exact wpAny_pure (hQ s.heap s.toks h1 h2 fun b o _ z => z)
  | k + 1, i, s, Q, h1, h2, e, hQ => by
    have W := Walks.list (prog := prog) (w := w) calm it d dne arr
    show wpAny _ _ (pyNext (.ref it) >>= _) Q E s
    refine wpAny_bind (W.item i s _ _ (by omega) ⟨h1, h2⟩ fun v h3 tk hv st k3 => ?_)
    refine wpAny_bind (wpAny_holding (draw_some dne calm arr k (i + 1) _ _ st.1 st.2 (by omega) fun h4 tk4 a1 a2 k4 => wpAny_pure ?_))
    have hi : i < arr.toList.length := by rw [Array.length_toList]; omega
    have ev : v = arr.toList[i] := by
      rw [← Array.getElem?_toList, List.getElem?_eq_getElem hi] at hv
      exact (Option.some.inj hv).symm
    have z := hQ h4 tk4 a1 a2 fun b o nb q => k4 b o nb (k3 b o (fun y => nb (List.mem_singleton.mp y)) q)
    rw [List.drop_eq_getElem_cons hi, ← ev] at z
    exact z
theorem unpack_some {s : Shared} {d : Addr} {arr : Array Value} {Q : List Value → Shared → Prop} (calm : A.handled = none) (src : s.heap.IsList d arr)
    (hQ : ∀ h2 tk, (∀ b o, s.heap.get? b = some o → h2.get? b = some o) → Q arr.toList { s with heap := h2, toks := tk }) : wpAny (model prog w) A (unpackItems (.ref d) arr.size none) Q E s := by
  have dne : d ≠ s.heap.objs.size := by
    obtain ⟨o, ho, _⟩ := src
    exact Nat.ne_of_lt (Heap.lt_size ho)
  unfold unpackItems notIterableAtAll
  refine wpAny_bind (wpAny_bind (wpAny_specialOf src.typeIs F.slot_list_iter.lookup (wpAny_pure ?_)))
  simp only [Bool.false_eq_true, if_false]
  refine wpAny_bind (wpAny_holding (wpAny_pyIter_list src ?_))
  refine wpAny_bind (wpAny_holding (draw_some dne calm arr arr.size 0 _ _ ⟨_, Heap.get?_push_size _ rfl, rfl, rfl⟩ (src.push _) (by omega) fun h3 tk a1 a2 k3 => ?_))
  rw [List.drop_zero, if_neg (by rw [Array.length_toList]; omega)]
  have W := Walks.list (prog := prog) (w := w) calm s.heap.objs.size d dne arr
  refine wpAny_bind (wpAny_holding (W.done _ _ _ ⟨a1, a2⟩ fun h4 tk4 k4 => ?_))
  simp only [Option.isSome_none, Bool.false_eq_true, if_false]
  refine wpAny_pure (hQ h4 tk4 fun b o q => ?_)
  have nb : b ≠ s.heap.objs.size := Nat.ne_of_lt (Heap.lt_size q)
  exact k4 b o (fun y => nb (List.mem_singleton.mp y)) (k3 b o nb (Heap.get?_push_of_some _ q))
end
section
variable {X : Cx} {pos : Pos}
/-- a, b, .. = e, e a list -/
def gTupL (K : Frag) (n : Nat) (t : TGs) : TG := fun v σ H Q => ∃ a xs, v = .ref a ∧ SqL K H a xs ∧ xs.length = n ∧ t xs σ H Q
theorem pg_tupL {es : List Expr} {k : Nat} {t : TGs} {n : Nat} (hc : X.calm = true) (h : PGs X es t)
    (many : (assignEach es X.env).length = n := by rfl) (nostar : (assignEach es X.env).findIdx? (·.1) = none := by rfl) : PG X (.Tuple es k pos) (gTupL X.K n t) := by
  refine ⟨fun pins s σ H v u Q I r hw => ?_⟩
  obtain ⟨a, xs, rfl, hq, hl, hw⟩ := hw
  cases r
  obtain ⟨its, rv, pl, hz⟩ := I.list hq
  rw [assign_Tuple]
  refine wpAny_bind (wpAny_standAt ?_)
  unfold unpack
  have e : (assignEach es X.env).length = its.toArray.size := by rw [many, List.size_toArray, ← rv.length, hl]
  rw [e, nostar]
  refine wpAny_bind (wpAny_holding (unpack_some (I.ok.hd hc) pl.isList fun h2 tk kp => ?_))
  have I1 : Inv X pins σ H { s with heap := h2, toks := tk } := I.kept (t' := tk) kp
  exact h.run pins _ σ H xs _ Q I1 (by simpa using rv) hw
end
end Fs
set_option Elab.async false
set_option linter.all false
set_option maxRecDepth 100000
set_option maxHeartbeats 4000000
/-! FtC: own == of an instance beside a tuple, a text, None -/
namespace Fs
open PySem PySem.Spec PyProof.Rows L2 Fh
open PySem.W (Frag)
section
variable {X : Cx} {CX : CXT} {n : Nat} {g C : Addr} {sp : Sp} {E : XK}
/-- what a right operand of another type is -/
def OthT (H : Hp) (y : V) (t : Value) : Prop := (∃ b xs, y = .ref b ∧ H b = some (.tup xs) ∧ t = .type "tuple") ∨ (∃ z, y = .str z ∧ t = .type "str") ∨ (y = .non ∧ t = .type "NoneType")
theorem OthT.looks {pins : List (Addr × Obj)} {s : Shared} {σ : L2.St} {H : Hp} {y : V} {u t : Value} (o : OthT H y t) (I : Inv X pins σ H s) (ry : RelV y u) : PySem.W.Looks (model X.prog X.w) s.heap (typeOf u) t := by
  rcases o with ⟨b, xs, rfl, eb, rfl⟩ | ⟨z, rfl, rfl⟩ | ⟨rfl, rfl⟩
  · obtain rfl : u = Value.ref b := ry
    obtain ⟨its, rv, ⟨ob, ho, hc, m, hd⟩, hz⟩ := I.tuple (SqT.of eb)
    intro A Q E s k q
    refine wpAny_typeOf_ref (k _ _ ho) ?_
    rw [hc]
    exact q
  · obtain ⟨tk, rfl⟩ := ry
    intro A Q E s k q
    exact wpAny_pure q
  · obtain rfl : u = Value.none := ry
    intro A Q E s k q
    exact wpAny_pure q
def rEqT (K : Frag) (C : Addr) (sp : Sp) (E : XK) : R2 := fun x y H Q => ∃ a dx fs t, x = .ref a ∧ H a = some (.ins C dx fs) ∧ OthT H y t ∧ PySem.W.notFirst K C t = true ∧ sp [x, y] H Q E
theorem op_eqT (hs : PySem.W.findIn X.K (.ref C) "__eq__" = some (some (.ref g))) (hf : PySem.W.isFn X.K (.ref g) = true) (F : FnR X.prog X.w X.K X.mg X.base CX n g sp) (hr : Room n X.A) (hx : Passes CX X E) : OpR X (compareOp .Eq) (rEqT X.K C sp E) := by
  intro pins s σ H x y v u Q I rx ry h
  obtain ⟨a, dx, fs, t, rfl, ea, o, hn, q⟩ := h
  cases (show v = Value.ref a from rx)
  obtain ⟨mA, O, _, _, _, _⟩ := ins_get I.hok ea
  obtain ⟨od, J, _⟩ := O.look
  obtain ⟨m, hF⟩ := I.fr
  have ht := o.looks I ry
  show wpAny _ _ (richCompare .Eq _ _) _ _ _
  refine PySem.W.cmp_K (op := .Eq) (tb := t) hr.units0 hF I.ok.mod.kin J ht hn hs hf ?_
  refine wpAny_mono (wpAny_call (run_fnR (us := [.ref a, u]) (vs := [.ref a, y]) F hr hx I (.cons rfl (.cons ry .nil)) q)) (fun w s' z => ?_) fun _ _ x => x
  obtain ⟨z', H', I', rz, qz⟩ := z
  exact SlX.cmpback rz ⟨z', H', I', rz, qz⟩
end
end Fs
set_option Elab.async false
set_option linter.all false
set_option maxRecDepth 100000
set_option maxHeartbeats 4000000
/-! FuA: {**a, **b} -/
namespace PySem
namespace Mrg
open PySem.Builtin
section
variable {prog : Program} {w : World} {K : Type} [DecidableEq K] {knd : KeyKind prog w K} {A : Around} {E : Value → Shared → Prop} {s : Shared}
theorem put_pairs {d : Addr} {kvs : List (K × Value)} {k : K} {key v : Value} {Q : Unit → Shared → Prop} (hkey : knd.is k key = true) (hm : s.heap.DictOf knd d kvs)
    (hQ : ∀ h', h'.DictOf knd d (stored kvs k v) → Heap.SameBut d s.heap h' → Q () { s with heap := h' })
    (hsz : kvs.length ≤ sizeLine := by size_fits) :
    wpAny (model prog w) A (dictPut d (knd.hash k) key v) Q E s := by
  obtain ⟨o, es, ep, ho, hc, hd, hk, hp, hn⟩ := hm
  have hes : es.size ≤ sizeLine := by have e1 := hp.length; have e2 : es.toList.length = es.size := by simp
                                      omega
  unfold dictPut
  refine wpAny_bind (wpAny_dictFind_of hkey ho hd hk ?_)
  have hidx : (es.findIdx? fun e => knd.is k e.key) = kvs.findIdx? fun kv => decide (kv.1 = k) := by
    rw [← hp.findIdx k]; obtain ⟨l⟩ := es; simp
  cases hi : es.findIdx? fun e => knd.is k e.key with
  | some i =>
    refine wpAny_updateDict ho hd (hQ _ ⟨_, _, ep, Heap.get?_update_self _ ho (Obj.isFreed_of_dict (Obj.data_mapDict hd _)),
      hc.mapDict _, Obj.data_mapDict hd _, hk.modify _ _, ?_, ?_⟩ (Heap.SameBut.update ..))
    · rw [stored, if_pos (any_of_findIdx_some (hidx ▸ hi))]
      have hl : (es.toList.findIdx? fun e => knd.is k e.key) = some i := by rw [← hi]; obtain ⟨l⟩ := es; simp
      have := hp.modify hn hl v
      obtain ⟨l⟩ := es
      simpa using this
    · rw [stored, if_pos (any_of_findIdx_some (hidx ▸ hi)), keys_map_store]; exact hn
  | none =>
    have hnot : k ∉ kvs.map (·.1) := not_mem_of_findIdx_none (hidx ▸ hi)
    have hany : ¬ (kvs.any fun kv => decide (kv.1 = k)) = true := by
      rw [List.any_eq_true]; rintro ⟨kv, hkv, he⟩
      exact hnot (List.mem_map.mpr ⟨kv, hkv, of_decide_eq_true he⟩)
    refine wpAny_updateDictKeys (hz := hes) ho hd (hQ _ ⟨_, _, ep + 1, Heap.get?_update_self _ ho (Obj.isFreed_of_dict (Obj.data_mapDictKeys hd _)),
      hc.mapDictKeys _, Obj.data_mapDictKeys hd _, hk.push hkey _, ?_, ?_⟩ (Heap.SameBut.update ..))
    · rw [stored, if_neg hany]
      have := hp.append hkey (knd.hash k) v
      obtain ⟨l⟩ := es
      simpa using this
    · rw [stored, if_neg hany, List.map_append, List.nodup_append]
      refine ⟨hn, by simp, ?_⟩
      intro a ha b hb
      simp only [List.map_cons, List.map_nil, List.mem_singleton] at hb
      subst hb
      exact fun e => hnot (e ▸ ha)
theorem merge_ok {d o : Addr} {kvs more : List (K × Value)} {Q : Unit → Shared → Prop} (nr : ∀ k v, knd.is k v = true → ∀ a, v ≠ .ref a) (hdo : d ≠ o) (hoS : (o == sysModules) = false)
    (hd : s.heap.DictOf knd d kvs) (ho : s.heap.DictOf knd o more)
    (hQ : ∀ h', h'.DictOf knd d (merged kvs more) → h'.DictOf knd o more → Heap.SameBut d s.heap h' → Q () { s with heap := h' })
    (hsz : kvs.length + more.length ≤ sizeLine) :
    wpAny (model prog w) A (mergeMapping d (.ref o) false) Q E s := by
  obtain ⟨od, esd, epd, hod, hcd, hdd, hkd, hpd, hnd⟩ := id hd
  obtain ⟨oo, eso, epo, hoo, hco, hdo', hko, hpo, hno⟩ := id ho
  have hlen : more.length = eso.size := by rw [← hpo.length]; simp
  unfold mergeMapping
  refine wpAny_bind (wpAny_isInstance ho.typeIs isSubtype_dict_dict ?_)
  dsimp only
  rw [if_pos rfl]
  refine wpAny_bind (wpAny_specialOf ho.typeIs F.slot_dict_iter.lookup (wpAny_bind (wpAny_pure ?_)))
  simp only [beq_self_eq_true]
  rw [if_neg (by rw [hoS]; exact Bool.false_ne_true)]
  refine wpAny_bind (wpAny_dictEntries hod hdd ?_)
  have loop : wpAny (model prog w) A (do
      let l ← dictEntries o
      let epoch ← dictEpoch o
      forIn (List.range l.size) PUnit.unit fun i (_ : PUnit) => (do
          let l' ← dictEntries o
          match l'[i]? with
            | some e => do
              holding [e.key, e.val] (dictPut d e.hash e.key e.val)
              let ep' ← dictEpoch o
              if (ep' != epoch) = true then do
                  (unsupported "dict.changed-during-merge" : Sem PUnit)
                  pure (ForInStep.yield PUnit.unit)
                else pure (ForInStep.yield PUnit.unit)
            | _ => do
              (unsupported "dict.changed-during-merge" : Sem PUnit)
              pure (ForInStep.yield PUnit.unit) : Sem (ForInStep PUnit))
      pure ()) Q E s := by
    refine wpAny_bind (wpAny_dictEntries hoo hdo' ?_)
    refine wpAny_bind (wpAny_dictEpoch hoo hdo' ?_)
    refine wpAny_bind ?_
    rw [List.range_eq_range']
    refine wpAny_forIn_list _
      (fun rest _ s' => ∃ h' i, s' = { s with heap := h' } ∧ rest = List.range' i (eso.size - i) ∧ i ≤ eso.size ∧ h'.DictOf knd d (merged kvs (more.take i)) ∧ h'.get? o = some oo ∧ Heap.SameBut d s.heap h')
      _ ?_ ?_ _ _ ⟨s.heap, 0, rfl, by simp, Nat.zero_le _, by simpa [merged] using hd, hoo, Heap.SameBut.refl _ _⟩
    · rintro x rest b s' ⟨h', i, rfl, hr, hi, hd', hoo', hs'⟩
      have hlt : i < eso.size := by
        rcases Nat.lt_or_ge i eso.size with h | h
        · exact h
        · rw [Nat.sub_eq_zero_of_le h] at hr; simp at hr
      obtain ⟨rfl, hrest⟩ : x = i ∧ rest = List.range' (i + 1) (eso.size - (i + 1)) := by
        have e : eso.size - i = (eso.size - (i + 1)) + 1 := by omega
        rw [e, List.range'_succ] at hr
        injection hr with h1 h2
        exact ⟨h1, h2⟩
      refine wpAny_bind (wpAny_dictEntries hoo' hdo' ?_)
      rw [Array.getElem?_eq_getElem hlt]
      obtain ⟨kv, hkv⟩ : ∃ kv, more[x]? = some kv := ⟨more[x]'(by rw [hlen]; exact hlt), List.getElem?_eq_getElem _⟩
      obtain ⟨k, v⟩ := kv
      obtain ⟨hkey, hval⟩ := hpo.get? (e := eso[x]) (by simp [hlt]) hkv
      obtain ⟨k', hkey', hhash⟩ := hko eso[x] (Array.getElem_mem hlt)
      obtain rfl : k' = k := knd.inj _ _ _ hkey' hkey
      show wpAny _ _ (holding [eso[x].key, eso[x].val] (dictPut d eso[x].hash eso[x].key eso[x].val) >>= _) _ _ _
      rw [hhash, hval]
      have hmx : (merged kvs (more.take x)).length ≤ sizeLine := by
        have e1 := merged_length_le kvs (more.take x)
        have e2 : (more.take x).length ≤ more.length := by rw [List.length_take]; omega
        omega
      refine wpAny_bind (wpAny_holding (put_pairs (hsz := hmx) hkey hd' fun h'' hd'' hs'' => ?_))
      have hoo'' : h''.get? o = some oo := (hs''.2 o (Ne.symm hdo)).trans hoo'
      refine wpAny_bind (wpAny_dictEpoch hoo'' hdo' ?_)
      rw [if_neg (by simp)]
      exact wpAny_pure ⟨h'', x + 1, rfl, hrest, hlt, by rw [merged_take_succ kvs more x (k', v) hkv]; exact hd'', hoo'', hs'.trans hs''⟩
    · rintro b s' ⟨h', i, rfl, hr, hi, hd', hoo', hs'⟩
      have hin : i = eso.size := by
        rcases Nat.lt_or_ge i eso.size with h | h
        · have e : eso.size - i = (eso.size - (i + 1)) + 1 := by omega
          rw [e, List.range'_succ] at hr; exact nomatch hr
        · exact Nat.le_antisymm hi h
      refine wpAny_pure (hQ h' ?_ ⟨oo, eso, epo, hoo', hco, hdo', hko, hpo, hno⟩ hs')
      rw [hin, ← hlen, List.take_length] at hd'; exact hd'
  split
  · refine wpAny_bind (wpAny_dictEntries hoo hdo' ?_)
    refine wpAny_bind ?_
    rw [← Array.forIn_toList]
    refine wpAny_forIn_list _ (fun rest _ s' => s' = s ∧ ∀ e ∈ rest, e ∈ eso.toList) _ ?_ ?_ _ _ ⟨rfl, fun e he => he⟩
    · rintro e rest b s' ⟨rfl, hm⟩
      obtain ⟨k', hkey', _⟩ := hko e (Array.mem_toList_iff.mp (hm e List.mem_cons_self))
      have n := nr _ _ hkey'
      have hm2 : ∀ e ∈ rest, e ∈ eso.toList := fun e he => hm e (List.mem_cons_of_mem _ he)
      cases ek : e.key with
      | ref a => exact absurd ek (n a)
      | _ => exact wpAny_pure ⟨rfl, hm2⟩
    · rintro b s' ⟨rfl, _⟩
      exact loop
  · exact loop
end
end Mrg
end PySem
set_option Elab.async false
set_option linter.all false
set_option maxRecDepth 100000
set_option maxHeartbeats 4000000
/-! FuB: {**a, **b} over the layer -/
namespace Fs
open PySem PySem.Spec PyProof.Rows L2 Fh
open PySem.W (Frag)
def tMrg2 (ta tb : TE) : TE := fun σ H Q => ∀ p, H p = none → ta σ (upd H p (.dK [])) fun x H1 => ∃ (a : Addr) (k1 : List (Key × V)), x = .ref a ∧ a ≠ p ∧ H1 a = some (.dK k1) ∧ H1 p = some (.dK []) ∧ k1.length ≤ 1000 ∧ tb σ (upd H1 p (.dK (mergeK [] k1))) fun y H2 =>
  ∃ (b : Addr) (k2 : List (Key × V)), y = .ref b ∧ b ≠ p ∧ H2 b = some (.dK k2) ∧ H2 p = some (.dK (mergeK [] k1)) ∧ k2.length ≤ 1000 ∧ Q (.ref p) (upd H2 p (.dK (mergeK (mergeK [] k1) k2)))
theorem mix_no_ref {P : Program} {w : World} : ∀ (k : Key) (v : Value), (mixKind P w).is k v = true → ∀ a, v ≠ .ref a := by
  intro k v h a e
  subst e
  cases k <;> cases h
theorem pe_disp2 {X : Cx} {pos : Pos} {a b : Expr} {ta tb : TE} (ha : PE X a ta) (hb : PE X b tb) : PE X (.Dict [none, none] [a, b] pos) (tMrg2 ta tb) := by
  refine ⟨fun pins s σ H Q I h => ?_⟩
  have hn := I.hok.fresh (Nat.le_refl s.heap.objs.size)
  have I1 := I.laid (a := s.heap.objs.size) (o := .dK []) (h' := s.heap.push { cls := .type "dict", data := .dict #[] }) (t' := s.toks) (fun _ _ q => Heap.get?_push_of_some _ q) (Nat.le_refl _) (dk_empty s.heap I.big)
  rw [arm_eval_Dict]
  refine wpAny_bind (wpAny_standAt ?_)
  show wpAny _ _ (dictDisplay [(none, (do let x ← eval a X.env; standAt pos; pure x)), (none, (do let x ← eval b X.env; standAt pos; pure x))]) _ _ _
  unfold dictDisplay
  dsimp only
  rw [List.forIn_cons]
  dsimp only
  simp only [List.isEmpty_nil, if_true, pure_bind]
  refine wpAny_bind (wpAny_bind (wpAny_bind (wpAny_alloc ?_)))
  refine wpAny_bind (wpAny_holding (wpAny_bind (thn (ha.run pins _ σ _ _ I1 (h _ hn)) fun u s1 hh => wpAny_bind (wpAny_standAt (wpAny_pure ?_)))))
  obtain ⟨x, H1, I2, rx, a0, k1, ex, ne1, e1, ep, l1, q1⟩ := hh
  subst ex
  obtain rfl : u = Value.ref a0 := rx
  obtain ⟨z1, hd1, vs1, r1, dd1⟩ := dk_of I2.hok e1
  obtain ⟨z0, hd0, vs0, r0, dd0⟩ := dk_of I2.hok ep
  cases r0
  have lv1 : vs1.length = k1.length := r1.length.symm
  refine wpAny_bind (wpAny_onRaise (wpAny_tryCatch (wpAny_onRaise (wpAny_holding (PySem.Mrg.merge_ok (knd := mixKind X.prog X.w) mix_no_ref (Ne.symm ne1) hd1 dd0 dd1 (fun h1 m1 n1 sb1 => ?_) (by rw [List.length_nil, lv1, sizeLine_eq]; omega))))))
  have he1 : ∃ q, h1.get? s.heap.objs.size = some q := let ⟨q, _, _, hq, _⟩ := m1; ⟨q, hq⟩
  have hz1 : (mergeK [] k1).length ≤ 1000 := by
    have h1 := length_mergeK k1 []
    rw [List.length_nil] at h1
    omega
  have I3 := d_write (t' := s1.toks) I2 (by rw [ep]; exact True.intro) sb1 he1 (dk_new (by rw [sizeLine_eq]; omega) hd0 (r1.merge .nil) m1)
  refine wpAny_pure ?_
  dsimp only
  rw [List.forIn_cons]
  simp only [List.isEmpty_nil, if_true, pure_bind]
  refine wpAny_bind ?_
  refine wpAny_bind (wpAny_holding (wpAny_bind (thn (hb.run pins _ σ _ _ I3 q1) fun u2 s2 hh => wpAny_bind (wpAny_standAt (wpAny_pure ?_)))))
  obtain ⟨y, H2, I4, ry, b0, k2, ey, ne2, e2, ep2, l2, q2⟩ := hh
  subst ey
  obtain rfl : u2 = Value.ref b0 := ry
  obtain ⟨z2, hd2, vs2, r2, dd2⟩ := dk_of I4.hok e2
  obtain ⟨z3, hd3, vs3, r3, dd3⟩ := dk_of I4.hok ep2
  have lv2 : vs2.length = k2.length := r2.length.symm
  have lv3 : vs3.length = (mergeK [] k1).length := r3.length.symm
  refine wpAny_bind (wpAny_onRaise (wpAny_tryCatch (wpAny_onRaise (wpAny_holding (PySem.Mrg.merge_ok (knd := mixKind X.prog X.w) mix_no_ref (Ne.symm ne2) hd2 dd3 dd2 (fun h2 m2 n2 sb2 => ?_) (by rw [lv2, lv3, sizeLine_eq]; omega))))))
  have he2 : ∃ q, h2.get? s.heap.objs.size = some q := let ⟨q, _, _, hq, _⟩ := m2; ⟨q, hq⟩
  have hz2 := length_mergeK k2 (mergeK [] k1)
  have I5 := d_write (t' := s2.toks) I4 (by rw [ep2]; exact True.intro) sb2 he2 (dk_new (by rw [sizeLine_eq]; omega) hd0 (r2.merge r3) m2)
  refine wpAny_pure ?_
  dsimp only
  rw [List.forIn_nil]
  refine wpAny_pure ?_
  simp only [List.isEmpty_nil, if_true, pure_bind]
  exact wpAny_pure ⟨.ref s.heap.objs.size, _, I5, rfl, q2⟩
end Fs
set_option Elab.async false
set_option linter.all false
set_option maxRecDepth 100000
set_option maxHeartbeats 4000000
/-! FuC: numbers by texts, in their one form -/
namespace Fs
open PySem PySem.Spec PyProof.Rows L2 Fh
open PySem.W (Frag)
def num (m : Num) (y : Str) : Int := (m.lookup y).getD 0
structure Can (m : Num) : Prop where
  s : sortedS (names m) = true
  nd : (names m).Nodup
  pos : ∀ q ∈ m, 0 < q.2
theorem num_none {m : Num} {y : Str} (h : y ∉ names m) : num m y = 0 := by unfold num; rw [lookup_none h]; rfl
theorem num_pos {m : Num} (c : Can m) {y : Str} (h : y ∈ names m) : 0 < num m y ∧ m.lookup y = some (num m y) := by
  obtain ⟨n, e, hm⟩ := lookup_some h
  have p := c.pos _ hm
  unfold num
  rw [e]
  exact ⟨p, rfl⟩
theorem num_nn {m : Num} (c : Can m) (y : Str) : 0 ≤ num m y := by
  by_cases h : y ∈ names m
  · exact Int.le_of_lt (num_pos c h).1
  · rw [num_none h]; exact Int.le_refl _
theorem lookup_num {m : Num} (c : Can m) (y : Str) : m.lookup y = if 0 < num m y then some (num m y) else none := by
  by_cases h : y ∈ names m
  · rw [if_pos (num_pos c h).1, (num_pos c h).2]
  · rw [num_none h, if_neg (by decide), lookup_none h]
theorem can_ext {a b : Num} (ca : Can a) (cb : Can b) (h : ∀ y, num a y = num b y) : a = b := by
  have el : ∀ y, a.lookup y = b.lookup y := fun y => by rw [lookup_num ca, lookup_num cb, h y]
  have mem : ∀ {a b : Num}, Can a → Can b → (∀ y, num a y = num b y) → ∀ y, y ∈ names a → y ∈ names b := fun ca cb h y hy => by
    rcases Classical.em (y ∈ names _) with z | z
    · exact z
    · have p := (num_pos ca hy).1
      rw [h y, num_none z] at p
      exact absurd p (by decide)
  have pm : (names a).Perm (names b) := (List.perm_ext_iff_of_nodup ca.nd cb.nd).mpr fun y => ⟨mem ca cb h y, mem cb ca (fun y => (h y).symm) y⟩
  have en : names a = names b := sorted_same pm ca.s cb.s
  have pa : pick a (names a) = a := pick_self ca.nd ca.pos
  have pb : pick b (names b) = b := pick_self cb.nd cb.pos
  rw [← pa, ← pb, en]
  unfold pick
  congr 1
  funext y
  rw [el y]
/-- of a dict's numbers: those above 0, in order -/
theorem pick_can {m : Num} {ys : List Str} (nd : (names m).Nodup) (py : ys.Perm (names m)) (sy : sortedS ys = true) : Can (pick m ys) :=
  ⟨sorted_sub (pick_sub m ys) sy, pick_nodup (py.nodup_iff.mpr nd), fun q hq => (pick_mem q hq).2⟩
theorem pick_num {m : Num} {ys : List Str} (py : ∀ z ∈ names m, z ∈ ys) (pos : ∀ q ∈ m, 0 ≤ q.2) (y : Str) : num (pick m ys) y = num m y := pick_lookup py pos
theorem num_map {ys : List Str} {f : Str → Int} (nd : ys.Nodup) (y : Str) : num (ys.map fun z => (z, f z)) y = if y ∈ ys then f y else 0 := by
  induction ys with
  | nil => rfl
  | cons z ys ih =>
    have ih := ih (List.nodup_cons.mp nd).2
    unfold num at ih ⊢
    rw [List.map_cons, List.lookup_cons]
    by_cases e : y = z
    · rw [e, beq_self_eq_true]
      simp
    · have e2 : (y == z) = false := by simpa using e
      rw [e2]
      simp only [List.mem_cons, e, false_or]
      exact ih
theorem names_map (ys : List Str) (f : Str → Int) : names (ys.map fun z => (z, f z)) = ys := by
  unfold names
  rw [List.map_map]
  exact List.map_id _
/-- the staff at a, its dict perhaps locked -/
def NumR (H : Hp) (d : Addr) (m : Num) : Prop := Rd H d (.dK (cD m))
end Fs
namespace Fs
open PySem PySem.Spec PyProof.Rows L2 Fh
open PySem.W (Frag)
theorem lock_back {H Hk : Hp} {d : Addr} {od : Obj} {u : HO} (hd : H d = some u) (s : Same (upd H d (.frz od u)) Hk) : Same H (upd Hk d u) := fun b o z => by
  by_cases e : b = d
  · rw [e] at z ⊢
    rw [upd_same, ← z, hd]
  · rw [upd_ne e]
    exact s b o (by rw [upd_ne e]; exact z)
theorem merge_iff : ∀ (l m : Num), (names m).Nodup → ∃ m2, mergeK (cD m) (cD l) = cD m2 ∧ (names m2).Nodup ∧ (∀ y, y ∈ names m2 ↔ y ∈ names m ∨ y ∈ names l) ∧ m2.length ≤ m.length + l.length
  | [], m, nd => ⟨m, rfl, nd, fun y => ⟨.inl, fun h => h.elim id fun z => nomatch z⟩, Nat.le_refl _⟩
  | q :: l, m, nd => by
    by_cases h : q.1 ∈ names m
    · obtain ⟨m1, e1, n1, _⟩ := putK_old (n := q.2) h
      obtain ⟨m2, e2, n2, i2, l2⟩ := merge_iff l m1 (by rw [n1]; exact nd)
      have len1 : m1.length = m.length := by rw [← names_len m1, ← names_len m, n1]
      refine ⟨m2, ?_, n2, fun y => ?_, by rw [List.length_cons]; omega⟩
      · show mergeK (putK (cD m) (.inr q.1) (.int q.2)) (cD l) = cD m2
        rw [e1]
        exact e2
      · rw [i2 y, n1, names_cons, List.mem_cons]
        constructor
        · rintro (z | z)
          · exact .inl z
          · exact .inr (.inr z)
        · rintro (z | z | z)
          · exact .inl z
          · rw [z]; exact .inl h
          · exact .inr z
    · have nd1 : (names (m ++ [(q.1, q.2)])).Nodup := by
        unfold names at h nd ⊢
        rw [List.map_append]
        exact List.nodup_append.mpr ⟨nd, List.nodup_cons.mpr ⟨List.not_mem_nil, List.nodup_nil⟩, fun a ha b hb e => h (by
          rw [List.map_cons, List.map_nil, List.mem_singleton] at hb
          rw [← hb, ← e]
          exact ha)⟩
      obtain ⟨m2, e2, n2, i2, l2⟩ := merge_iff l (m ++ [(q.1, q.2)]) nd1
      refine ⟨m2, ?_, n2, fun y => ?_, by rw [List.length_cons]; rw [List.length_append, List.length_singleton] at l2; omega⟩
      · show mergeK (putK (cD m) (.inr q.1) (.int q.2)) (cD l) = cD m2
        rw [putK_new h, ← cD_snoc]
        exact e2
      · rw [i2 y, names_cons, List.mem_cons]
        have e : y ∈ names (m ++ [(q.1, q.2)]) ↔ y ∈ names m ∨ y = q.1 := by
          unfold names
          rw [List.map_append, List.mem_append, List.map_cons, List.map_nil, List.mem_singleton]
        rw [e, or_assoc]
end Fs
set_option Elab.async false
set_option linter.all false
set_option maxRecDepth 100000
set_option maxHeartbeats 8000000
namespace Fs2
open PySem PySem.Spec PyProof.Rows L2 Fh Fs
open PySem.W (Frag)
abbrev sAdd : Stmt := inClass (top 16) 8
abbrev sSub : Stmt := inClass (top 16) 9
abbrev sOr : Stmt := inClass (top 16) 10
abbrev sAnd : Stmt := inClass (top 16) 11
abbrev sFit : Stmt := inClass (top 16) 12
abbrev sWin : Stmt := inClass (top 16) 13
/-- numbers of a staff as they are kept -/
structure Fit (m : Num) : Prop where
  c : Can m
  w : ∀ y ∈ names m, Word y
  l : m.length ≤ 12
  u : ∀ y, num m y ≤ 10 ^ 30
def StaffR (CS : Addr) (H : Hp) (a : Addr) (m : Num) : Prop := ∃ dx d, H a = some (.ins CS dx [("_numbers", .ref d)]) ∧ Rd H d (.dK (cD m))
theorem StaffAt.r {CS : Addr} {H : Hp} {a : Addr} {m : Num} (h : StaffAt CS H a m) : StaffR CS H a m := by
  obtain ⟨dx, d, h1, h2⟩ := h
  exact ⟨dx, d, h1, .inl h2⟩
theorem StaffAt.same {CS : Addr} {H H' : Hp} {a : Addr} {m : Num} (s : Same H H') (h : StaffAt CS H a m) : StaffAt CS H' a m := by
  obtain ⟨dx, d, h1, h2⟩ := h
  exact ⟨dx, d, s _ _ h1, s _ _ h2⟩
theorem StaffR.same {CS : Addr} {H H' : Hp} {a : Addr} {m : Num} (s : Same H H') (h : StaffR CS H a m) : StaffR CS H' a m := by
  obtain ⟨dx, d, h1, h2⟩ := h
  refine ⟨dx, d, s _ _ h1, ?_⟩
  rcases h2 with z | ⟨o, z⟩
  · exact .inl (s _ _ z)
  · exact .inr ⟨o, s _ _ z⟩
/-- when the dict at d is locked -/
theorem StaffR.lock {CS : Addr} {H : Hp} {a d : Addr} {m : Num} {es : List (Key × V)} {od : Obj} (hd : H d = some (.dK es)) (h : StaffR CS H a m) : StaffR CS (upd H d (.frz od (.dK es))) a m := by
  obtain ⟨dx, e, h1, h2⟩ := h
  refine ⟨dx, e, by rw [upd_ne (fun z => by rw [z, hd] at h1; cases h1)]; exact h1, ?_⟩
  by_cases z : e = d
  · rw [z] at h2 ⊢
    rcases h2 with q | ⟨o, q⟩
    · rw [hd] at q
      cases q
      exact .inr ⟨od, upd_same⟩
    · rw [hd] at q
      cases q
  · rcases h2 with q | ⟨o, q⟩
    · exact .inl (by rw [upd_ne z]; exact q)
    · exact .inr ⟨o, by rw [upd_ne z]; exact q⟩
structure TxtM (mg : Str → Option Value) : Prop where
  max : mg "max" = none
  min : mg "min" = none
section
variable {P : Program} {w : World} {K : Frag} {mg : Str → Option Value} {base : Heap} {CP CS pI sI aW aH aU aC aK : Addr} {fW fH fU fC fK fPI fSI : FuncData} {f : Addr} {fd : FuncData}
def spGR (CS : Addr) : Sp := fun vs H Q _ => ∃ a m y, vs = [.ref a, .str y] ∧ StaffR CS H a m ∧ Q (.int (num m y)) H
theorem ok_getR (G : Pkg K mg CP CS pI sI aW aH aU aC aK fW fH fU fC fK fPI fSI) (F : Fun K "__getitem__" "Staff.__getitem__" sStG f fd) : FnOk P w K mg base CX0 1 f fd ["self", "kind"] (spGR CS) := by
  refine F.ok scG (fun vs H Q E h => ?_) (fun cdv A outer s H vs Q E hr h => ?_)
  · obtain ⟨a, m, v, rfl, _⟩ := h
    rfl
  · obtain ⟨a, m, y, rfl, ⟨dx, d, ha, hd⟩, k⟩ := h
    have hu := hu_of hr
    refine ⟨_, pss_cons (ps_if (pt_not (pt_val (pe_callB call_isi (by rfl) G.T.isinstance (by decide +kernel) (pa_cons (pv 1) (pa_cons (pe_bltn (v := .ty "str") (by rfl) G.T.str (by decide +kernel) rfl (by decide) (by decide)) pa_nil))))) (pss_one (ps_ret pe_int)) pss_nil)
      (pss_one (ps_ret (pe_dget2 hu (pe_fld (pv 0) rfl) (pv 1) pe_int ⟨rfl, rfl, rfl, rfl⟩))), ?_⟩
    refine ⟨_, rfl, _, _, _, _, true, rfl, .ty _, .base (.str y), (by rfl), true, rfl, iteF ?_⟩
    refine ⟨_, rfl, a, CS, dx, _, .ref d, rfl, ha, G.S.cl, G.noS, rfl, d, rfl, .inl ⟨_, hd⟩, _, rfl, valV (cD m) (.inr y), .inl ⟨cD m, .inr y, hd, rfl, rfl⟩, ?_⟩
    rw [cD_val]
    unfold num at k
    cases e : m.lookup y with
    | none => rw [e] at k; exact k
    | some n => rw [e] at k; exact k
def spStf (CS : Addr) : Sp := fun vs H Q _ => ∃ e m, vs = [.ref e] ∧ H e = some (.dK (cD m)) ∧ Good m ∧ m.length ≤ 12 ∧
  ∀ x r H', Same H H' → H x = none → StaffAt CS H' x r → Fit r → (∀ y, num r y = num m y) → Q (.ref x) H'
theorem scStf : FnScope ["numbers"] ["numbers"] (defScope sStf) := ⟨rfl, rfl, rfl, by decide +kernel, rfl, by decide +kernel, by decide +kernel⟩
theorem fit_pick {m : Num} {ys : List Str} (g : Good m) (l : m.length ≤ 12) (py : ys.Perm (names m)) (sy : sortedS ys = true) : Fit (pick m ys) := by
  have ny : ∀ y, num (pick m ys) y = num m y := pick_num (fun z hz => py.mem_iff.mpr hz) fun q hq => (g.2.2 q hq).2.1
  refine ⟨pick_can g.1 py sy, fun y hy => ?_, ?_, fun y => ?_⟩
  · have h1 : y ∈ names m := py.mem_iff.mp (pick_names _ _ y hy)
    obtain ⟨n, _, hm⟩ := lookup_some h1
    exact (g.2.2 _ hm).1
  · have h1 := pick_len m ys
    have h2 := py.length_eq
    rw [names_len] at h2
    omega
  · rw [ny y]
    by_cases h : y ∈ names m
    · obtain ⟨n, e, hm⟩ := lookup_some h
      unfold num
      rw [e]
      exact (g.2.2 _ hm).2.2
    · rw [num_none h]
      decide
theorem ok_stf (G : Pkg K mg CP CS pI sI aW aH aU aC aK fW fH fU fC fK fPI fSI) (F : Fun K "_staff" "_staff" sStf f fd) : FnOk P w K mg base CX0 5 f fd ["numbers"] (spStf CS) := by
  have GP : FnOk P w K mg base CX0 1 pI fPI ["self", "content"] (spPk CP) := ok_pk G
  have GS : FnKw P w K mg base CX0 3 sI ["packed"] (spKw ["packed"] (spSt CP CS)) := ok_st G (by decide) (by decide) fun kV doc pm an cdv ct x ws hl => match ws, hl with | [_], _ => rfl
  have bP : Binds K fPI ["self", "content"] [] := G.FP.binds (ps := ["self", "content"]) fun _ _ _ _ _ _ us hl => match us, hl with | [_, _], _ => rfl
  refine F.ok scStf (fun vs H Q E h => ?_) (fun cdv A outer s H vs Q E hr h => ?_)
  · obtain ⟨e, m, rfl, _⟩ := h
    rfl
  · obtain ⟨e, m, rfl, he, good, ml, k⟩ := h
    have hr2 : Room 2 _ := hr.mono (by decide)
    refine ⟨_, pss_one (ps_ret (pe_makeW (ks := ["packed"]) G.mkS GS hr rfl G.S.gC pass0 (pk_cons (pe_make G.mkP GP hr2 rfl G.P.gC bP .nil pass0 (pa_cons (pv 0) pa_nil)) pk_nil))), ?_⟩
    refine ⟨_, rfl, fun x dx hx hdx ne => ⟨x, dx, .ref e, rfl, upd_same, rfl, ?_⟩⟩
    rw [upd_upd]
    have hx2 : (upd H dx (.own x)) x = none := by rw [upd_ne (Ne.symm ne)]; exact hx
    have s2 : Same H (upd (upd H dx (.own x)) x (.ins CP dx [("content", .ref e)])) := (Same.new hdx).trans (Same.new hx2)
    have xI : (upd (upd H dx (.own x)) x (.ins CP dx [("content", .ref e)])) x = some (.ins CP dx [("content", .ref e)]) := upd_same
    generalize upd (upd H dx (.own x)) x (.ins CP dx [("content", .ref e)]) = H2 at s2 xI ⊢
    refine ⟨rfl, fun a da ha hda nea => ⟨.ref a, [.ref x], rfl, rfl, fun d hd => ?_⟩⟩
    have ha2 : (upd H2 da (.own a)) a = none := by rw [upd_ne (Ne.symm nea)]; exact ha
    have s3 : Same H2 (upd (upd H2 da (.own a)) a (.ins CS da [])) := (Same.new hda).trans (Same.new ha2)
    have aI : (upd (upd H2 da (.own a)) a (.ins CS da [])) a = some (.ins CS da []) := upd_same
    generalize upd (upd H2 da (.own a)) a (.ins CS da []) = H3 at s3 aI hd ⊢
    have s4 : Same H3 (upd H3 d (.dK (kwD ["packed"] [.ref x]))) := Same.new hd
    have s03 : Same H H3 := s2.trans s3
    have haH : H a = none := none_back s2 ha
    refine ⟨a, d, da, e, m, rfl, s4 _ _ aI, .inl ⟨x, dx, upd_same, s4 _ _ (s3 _ _ xI), s4 _ _ (s03 _ _ he)⟩, good, fun ys p H' pm so hp sm hp2 => ⟨rfl, ?_⟩⟩
    have hap : p ≠ a := fun z => by
      rw [z] at hp
      rw [s4 _ _ aI] at hp
      cases hp
    refine k a (pick m ys) _ (fun b o z => ?_) haH ⟨da, p, upd_same, by rw [upd_ne hap]; exact hp2⟩ (fit_pick good ml pm so) (pick_num (fun z hz => pm.mem_iff.mpr hz) fun q hq => (good.2.2 q hq).2.1)
    rw [upd_ne (fun q => by rw [q, haH] at z; cases z)]
    exact sm _ _ (s4 _ _ (s03 _ _ z))
end
end Fs2
set_option Elab.async false
set_option linter.all false
set_option maxRecDepth 100000
set_option maxHeartbeats 4000000
/-! FtD: the error InvalidTask(field) over the layer: made and raised, read and asked for its class where it is caught -/
namespace PySem
namespace ErrT
open PySem.W PySem.Calls PyProof.Rows PySem.HandSPX
/-! ### the text of __init__ -/
def iA (p1 p2 : Pos) : Arguments := { posonlyargs := [], args := [{ arg := "self", annotation := none, pos := p1 }, { arg := "field", annotation := none, pos := p2 }], vararg := none, kwonlyargs := [], kw_defaults := [], kwarg := none, defaults := [] }
def iB (q1 q2 q3 q4 : Pos) : List Stmt := [.Assign [.Attribute (.Name "self" q1) "field" q2] (.Name "field" q3) q4]
def iS : Scope := { kind := .function, names := [(PySem.Str.ofString "self", .local), (PySem.Str.ofString "field", .local)], isGenerator := false, isCoroutine := false, more := [] }
/-- what the written part says of Low, at C, and of its __init__, at fI -/
structure ErrTxt (K : Frag) (mg : Str → Option Value) (C fI : Addr) : Prop where
  gC : mg "InvalidTask" = some (.ref C)
  cls : ∃ nm q N bs bm sn sub ab col dd k0 k1 k2 k3 k5, K.lookup C = some (excClassObj nm q C N bs bm true sn sub ab col dd k0 k1 k2 k3 k5 "ValueError.__new__") ∧ refsVE bm = true
  sa : findIn K (.ref C) "__setattr__" = some (some (.builtin "object.__setattr__"))
  ga : findIn K (.ref C) "__getattribute__" = some (some (.builtin "BaseException.__getattribute__"))
  gg : findIn K (.ref C) "__getattr__" = some none
  noN : findIn K (.ref C) "field" = some none
  iC : findIn K (.ref C) "__init__" = some (some (.ref fI))
  tC : typeIn K (.ref fI) = some (.type "function")
  kC : keepIn K (.ref C) = true
  exC : subIn K (.ref C) (.type "BaseException") = some true
  tyC : typeIn K (.ref C) = some (.type "type")
  hdC : hasDictIn K C = true
  te : exmOne K (.ref C) (.ref C) = some true
  fn : ∃ (oc : Value) (od : Option Addr) (kV doc pm : Value) (an : Option Addr) (cdv ct : Value) (osl : Array (Option Value)) (p1 p2 q1 q2 q3 q4 : Pos),
    K.lookup fI = some ⟨oc, od, .func (fnOf "__init__" "InvalidTask.__init__" (iA p1 p2) (iB q1 q2 q3 q4) iS .none kV doc pm an cdv ct), osl⟩ ∧ codeIn K cdv "InvalidTask.__init__" = true
theorem one_size (v : Value) : [v].length ≤ sizeLine := by
  rw [sizeLine_eq]
  exact (by decide : 1 ≤ 16777216)
theorem kept_but {K : Frag} {h h' : Heap} {x : Addr} (X : K.In h) (hx : K.lookup x = none) (k : ∀ b o, b ≠ x → h.get? b = some o → h'.get? b = some o) : K.In h' := fun a o e =>
  k a o (fun z => by rw [z, hx] at e; cases e) (X a o e)
theorem ldC {M : Model} {s : Shared} {name : Str} {scope : Scope} {L a : Addr} {cd : Value} {m : Str → Option Value} {x : Str} {pos : Pos} {v : Value} {Q : Value → Shared → Prop} {A : Around} {E : Value → Shared → Prop} (hn : s.heap.Ns L m) (hv : m x = some v) (h : Q v s)
    (hk : scope.kind = .function := by rfl) (hl : (envOfC name scope L a cd).kindOf x = some .local := by rfl) (hd : (x == ("__debug__" : Str)) = false := by decide) :
    wpAny M A (eval (.Name x pos) (envOfC name scope L a cd)) Q E s := wpAny_Name (wpAny_loadName_local hk hl hn hv h) hd
/-- what __init__ leaves of a fresh exception at x -/
structure InitEnd (h h' : Heap) (x C dx t1 : Addr) (v : Value) : Prop where
  keep : ∀ b o, b ≠ x → h.get? b = some o → h'.get? b = some o
  obj : h'.get? x = some { cls := .ref C, dict := some dx, data := .fields #[.ref t1, .none, .none, .none, .bool false, .none] }
  dbig : h.objs.size ≤ dx
  dne : dx ≠ x
  ns : h'.Ns1 dx (fun y => if y = "field" then some v else none)
/-- a made Low -/
structure OwnMade (h h' : Heap) (e C d : Addr) (v : Value) : Prop where
  keep : ∀ b o, h.get? b = some o → h'.get? b = some o
  new : h.objs.size ≤ e
  obj : ∃ oe vs, h'.get? e = some oe ∧ oe.cls = .ref C ∧ oe.dict = some d ∧ oe.data = .fields vs ∧ vs[1]? = some .none
  dbig : h.objs.size ≤ d
  dne : d ≠ e
  ns : h'.Ns1 d (fun y => if y = "field" then some v else none)
section
variable {prog : Program} {w : World} {A : Around} {E : Value → Shared → Prop} {R : Result → Shared → Prop} {s : Shared} {K : Frag} {mg : Str → Option Value} {C fI : Addr}
theorem errT_init (T : ErrTxt K mg C fI) {x t0 : Addr} {v : Value} (X : K.In s.heap) (hlim : s.heap.NoLimit) (hx : s.heap.get? x = some (excO C t0)) (hnx : K.lookup x = none) (hroom : A.depth < recursionLimit)
    (hq : ∀ h' tk dx, InitEnd s.heap h' x C dx t0 v → R (.ok (.ret .none)) { s with heap := h', toks := tk }) :
    codeAny (model prog w) A (.call (.ref fI) ⟨[.ref x, v], []⟩) R s := by
  obtain ⟨oc, od, kV, doc, pm, an, cdv, ct, osl, p1, p2, q1, q2, q3, q4, ho, hcd⟩ := T.fn
  obtain ⟨nm, q, N, bs, bm, sn, sub, ab, col, dd, k0, k1, k2, k3, k5, hC, hbm⟩ := T.cls
  have hcl : clsIn K C = some { name := nm, bases := bs, mro := .ref C :: bm, ns := N, qualname := q, hasDict := true, slotNames := sn, subclasses := sub, abstract := ab, collection := col, hasDel := false } := by unfold clsIn; rw [hC] <;> rfl
  refine Att.call_fn (binds := [("self", .ref x), ("field", v)]) X hlim ho hcd hroom (BindsTo.of_eq (by first | rfl | with_unfolding_all rfl)) (by first | rfl | decide | with_unfolding_all rfl) (fun s₁ IC => ?_) rfl rfl rfl
  obtain ⟨h₁, tk₁, rfl⟩ := IC.toInCall.same
  have k : ∀ b o, s.heap.get? b = some o → h₁.get? b = some o := IC.toInCall.keep
  have hn := IC.toInCall.ns
  have hxL : s.heap.objs.size ≠ x := Nat.ne_of_gt (Heap.lt_size hx)
  have X₁ : K.In h₁ := X.keeps k
  have hx₁ := k _ _ hx
  -- self.by = by
  show wpAny _ _ (execs _ _) _ _ _
  refine wpAny_execs_cons (plainObj_wpAny_Assign_Attribute ?_)
  refine ldC (v := v) hn (by first | rfl | with_unfolding_all rfl | kernel_rfl) (ldC (v := .ref x) hn (by first | rfl | with_unfolding_all rfl | kernel_rfl) ?_)
  refine set_plain X₁ (ox := excO C t0) (od := none) ⟨hx₁, rfl, rfl, trivial⟩ T.sa ?_
  refine exc_osa X₁ hx₁ hcl (show refsVE (.ref C :: bm) = true from hbm) rfl T.noN (fun h₃ tk₃ dx k₃ dn dne hx₃ hn₃ => ?_)
  show wpAny _ _ (execs _ _) _ _ _
  have z : s.heap.objs.size < h₁.objs.size := hn.lt
  exact wpAny_execs_nil (hq h₃ tk₃ dx ⟨fun b o hb e => k₃ b o hb (k b o e), hx₃, Nat.le_of_lt (Nat.lt_of_lt_of_le z dn), dne, hn₃⟩)
theorem errT_made (T : ErrTxt K mg C fI) {v : Value} (X : K.In s.heap) (hlim : s.heap.NoLimit) (hroom : A.depth + 1 < recursionLimit)
    (hq : ∀ h' tk e d, OwnMade s.heap h' e C d v → R (.ok (.ret (.ref e))) { s with heap := h', toks := tk }) :
    codeAny (model prog w) A (.call (.ref C) ⟨[v], []⟩) R s := by
  obtain ⟨nm, q, N, bs, bm, sn, sub, ab, col, dd, k0, k1, k2, k3, k5, hC, hbm⟩ := T.cls
  obtain ⟨hp, g, dr, tk, os⟩ := s
  have k : ∀ b o, hp.get? b = some o → ((hp.push (kdv_tup [v])).push (excO C hp.objs.size)).get? b = some o := fun b o e => Heap.get?_push_of_some _ (Heap.get?_push_of_some _ e)
  have hget : ((hp.push (kdv_tup [v])).push (excO C hp.objs.size)).get? (hp.objs.size + 1) = some (excO C hp.objs.size) := by heap_get
  have hnx : K.lookup (hp.objs.size + 1) = none := by
    cases e : K.lookup (hp.objs.size + 1) with
    | none => rfl
    | some o =>
      have z : hp.get? (hp.objs.size + 1) = some o := X _ _ e
      exact absurd (Nat.lt_of_succ_lt (Heap.lt_size z)) (Nat.lt_irrefl _)
  refine call_own F.excBase_ValueError (fun X => refsVE_contains X bm hbm) (X _ _ hC) (looks_findIn X T.iC) (fun self => bind_fn X self T.tC) (one_size v) ?_
  refine errT_init (s := ⟨(hp.push (kdv_tup [v])).push (excO C hp.objs.size), g, dr, tk, os⟩) T (X.keeps k) (hlim.keeps k) hget hnx ?_ fun h' tk' dx ⟨k', hx, dn, dne, hns⟩ => ?_
  · show A.depth + 1 < recursionLimit
    exact hroom
  · have old : ∀ b o, hp.get? b = some o → h'.get? b = some o := fun b o e => k' b o (Nat.ne_of_lt (Nat.lt_succ_of_lt (Heap.lt_size e))) (k b o e)
    have z : hp.objs.size + 1 + 1 ≤ dx := by
      first
        | (simpa only [Heap.size_push] using dn)
        | exact dn
        | (have q := dn; rw [Heap.size_push, Heap.size_push] at q; exact q)
    exact ⟨rfl, hq h' tk' (hp.objs.size + 1) dx ⟨old, Nat.le_succ _, ⟨_, _, hx, rfl, rfl, rfl, rfl⟩, Nat.le_trans (Nat.le_trans (Nat.le_succ _) (Nat.le_succ _)) z, dne, hns⟩⟩
end
end ErrT
end PySem
namespace L2
open PySem PySem.Spec PyProof.Rows
theorem relO_errT {v : V} {v' : Value} (r : RelV v v') (f : Str) : RelO (List.lookup f [(("field" : Str), v)]) (if f = "field" then some v' else none) := by
  by_cases hw : f = "field"
  · subst hw
    rw [if_pos rfl]
    have q : List.lookup ("field" : Str) [(("field" : Str), v)] = some v := by simp [List.lookup]
    rw [q]
    exact r
  · rw [if_neg hw]
    have qw : (f == ("field" : Str)) = false := by simpa using hw
    have q2 : List.lookup f [(("field" : Str), v)] = none := by simp [List.lookup, qw]
    rw [q2]
    trivial
section
variable {X : Cx} {C fI : Addr}
/-- Low(e) -/
def tMkErrT (C : Addr) (ta : TA) : St → Hp → XK → Prop := fun σ H Q => ta σ H fun vs H1 => ∃ v, vs = [v] ∧ ∀ d, H1 d = none → Q (.ref C) (some d) (upd H1 d (.xd [(("field" : Str), v)]))
theorem pmk_errT {a : Expr} {ta : TA} {p pos : Pos} {k : Nat} (T : PySem.ErrT.ErrTxt X.K X.mg C fI) (hr : Room k X.A) (ha : PA X [a] ta) (hg : Gl X "InvalidTask" := by rfl)
    (he : starEach (a :: []) X.env = (false, eval a X.env) :: starEach [] X.env := by rfl) (hpl : (backTo pos (starEach [] X.env)).any (·.1) = false := by rfl) :
    PMk X (.Call (.Name "InvalidTask" p) [a] [] pos) (tMkErrT C ta) := by
  intro pins s σ H Q I h
  refine wpAny_Call_Name_kw (ld_glob I hg T.gC ?_)
  refine PySem.W.callWith_K (h₀ := X.base) I.ok.mod.kin T.kC (thn (ha.run pos pins s σ H _ I h) fun us s1 hh => ?_) he hpl
  obtain ⟨vs, H1, I1, r1, v, ev, q1⟩ := hh
  subst ev
  refine ⟨I1.kIn, ?_⟩
  cases r1 with
  | cons rv rn =>
    rename_i v' us'
    cases rn
    show wpAny _ _ (call (.ref C) [v']) _ _ _
    have hlim := I1.nolimit
    obtain ⟨hp, g, dr, tk, os⟩ := s1
    refine wpAny_call (PySem.ErrT.errT_made T I1.kIn hlim (by have := hr.dp; omega) fun h' tk' e d M => ?_)
    show MkP X pins σ Q (.ref e) ⟨h', g, dr, tk', os⟩
    obtain ⟨oe, fv, hoe, hc, hd, hdat, h1⟩ := M.obj
    have hns := M.ns
    obtain ⟨G', g1, g2⟩ := restrict h' fun b => decide (b ≠ e)
    have gk : ∀ b, b ≠ e → G'.get? b = h'.get? b := fun b hb => g1 b (decide_eq_true hb)
    have ge : G'.get? e = none := g2 e (by simp)
    have old : ∀ b o, hp.get? b = some o → G'.get? b = some o := fun b o q => (gk b (Nat.ne_of_lt (Nat.lt_of_lt_of_le (Heap.lt_size q) M.new))).trans (M.keep b o q)
    have ob : ObjOk X.prog X.w (upd H1 d (.xd [(("field" : Str), v)])) G' d (.xd [(("field" : Str), v)]) :=
      ⟨_, hns.at (fun o q => (gk d M.dne).trans q), fun f => relO_errT rv f⟩
    have J : Inv X pins σ (upd H1 d (.xd [(("field" : Str), v)])) ⟨G', g, dr, tk', os⟩ := I1.laid (t' := tk') old M.dbig ob
    refine ⟨e, oe, fv, ⟨G', g, dr, tk', os⟩, _, .ref C, some d, rfl, J, fun b o q => ?_, ge, hoe, ⟨hc, hd⟩, hdat, h1, ?_, rfl, I1.bare, raises_own T.exC T.tyC, q1 d (I1.hok.fresh M.dbig)⟩
    · by_cases hb : b = e
      · have q' : G'.get? b = some o := q
        rw [hb, ge] at q'; cases q'
      · exact (gk b hb).symm.trans q
    · rw [upd_ne (Ne.symm M.dne)]
      exact I1.hok.fresh M.new
/-- raise Low(e) -/
def tRaiseErrT (C : Addr) (W : WX) (ta : TA) : TS := fun _ σ H => tMkErrT C ta σ H fun cls d H' => W cls d σ H'
theorem ps_raiseErrT {a : Expr} {ta : TA} {W : WX} {p pos pos2 : Pos} {k : Nat} (hc : X.calm = true) (T : PySem.ErrT.ErrTxt X.K X.mg C fI) (hr : Room k X.A) (tk : Takes X W) (ha : PA X [a] ta) (hg : Gl X "InvalidTask" := by rfl)
    (he : starEach (a :: []) X.env = (false, eval a X.env) :: starEach [] X.env := by rfl) (hpl : (backTo pos (starEach [] X.env)).any (·.1) = false := by rfl) :
    PS X (.Raise (some (.Call (.Name "InvalidTask" p) [a] [] pos)) none pos2) (tRaiseErrT C W ta) := ps_raise hc tk (pmk_errT T hr ha hg he hpl)
/-- low.by, low the exception that the suite holds (at a; its class cls, its dict d) -/
def tErrTField (C : Addr) (a : Addr) (cls : Value) (d : Option Addr) (te : TE) : TE := fun σ H Q => te σ H fun x H1 => x = .ref a ∧ cls = .ref C ∧ ∃ (dd : Addr) (v : V), d = some dd ∧ H1 dd = some (.xd [(("field" : Str), v)]) ∧ Q v H1
theorem pe_errTField {a : Addr} {oe : Obj} {cls : Value} {d : Option Addr} {pn : List (Addr × Obj)} {e : Expr} {te : TE} {pos : Pos} (T : PySem.ErrT.ErrTxt X.K X.mg C fI) (hz : Zc cls d oe) (hf : ∃ vs, oe.data = .fields vs) (he : PE (X.suite a ((a, oe) :: pn)) e te)
    (hb : attributeBase e "field" X.env (eval e X.env) = eval e X.env := by rfl) :
    PE (X.suite a ((a, oe) :: pn)) (.Attribute e "field" pos) (tErrTField C a cls d te) := by
  refine ⟨fun pins s σ H Q I h => ?_⟩
  refine attr_of hb (thn (he.run pins s σ H _ I h) fun u s1 hh => ?_)
  obtain ⟨x, H1, I1, rx, ex, ec, dd, v, ed, ea, q⟩ := hh
  subst ex
  obtain rfl : u = Value.ref a := rx
  subst ec
  subst ed
  obtain ⟨ha, _⟩ := I1.pin (a, oe) (List.mem_append_left _ List.mem_cons_self)
  obtain ⟨vs, hd⟩ := hf
  have hx : ObjOk X.prog X.w H1 s1.heap dd (.xd [(("field" : Str), v)]) := I1.hok dd _ ea
  obtain ⟨mA, hns, hr⟩ := hx
  obtain ⟨od, ho, hl⟩ := lookIn_ns hns
  have l : List.lookup ("field" : Str) [(("field" : Str), v)] = some v := by simp [List.lookup]
  obtain ⟨u, hu, ru⟩ := RelO.some_of (v := v) (o := mA "field") (by rw [← l]; exact hr "field")
  have J : PySem.W.InstAt s1.heap a oe C (some od) := ⟨ha, hz.1, by unfold PySem.W.notCls; rw [hd] <;> rfl, by rw [hz.2]; exact ho⟩
  exact HandSPX.exc_get I1.kIn J T.ga T.gg T.exC (PySem.W.findObj_own T.hdC T.noN rfl (by rw [hl, hu])) (handed_of ru) ⟨v, H1, I1.tok _, ru, q⟩
end
end L2
set_option Elab.async false
set_option linter.all false
set_option maxRecDepth 100000
set_option maxHeartbeats 4000000
/-! FtE: values of any kind, as data, at the top loosely held; what isinstance tells of them -/
namespace Fs
open PySem PySem.Spec PyProof.Rows L2 Fh
open PySem.W (Frag)
/-! ### isinstance of the error that a suite holds -/
structure ErrC (K : Frag) (C : Addr) : Prop where
  is : (PySem.W.clsIn K C).isSome = true
  cl : PySem.W.findIn K (.ref C) "__class__" = some (some (.builtin "object.__class__"))
  hn : PySem.W.specialIn K (.builtin "object.__class__") "__get__" = some (some (.builtin "getset_descriptor.__get__"))
  ht : PySem.W.takesIn K (.builtin "object.__class__") = some true
  hm : PySem.W.mroIn K C (.type "object") = some true
def rIsED (K : Frag) (C a : Addr) (cls : Value) (d : Option Addr) : List V → Hp → VK → Prop := fun xs H Q => ∃ (dd : Addr) (fs : List (Str × V)) (c : V) (cv : Value) (b : Bool), xs = [.ref a, c] ∧ cls = .ref C ∧ d = some dd ∧ H dd = some (.xd fs) ∧ ClsV c cv ∧ PySem.W.kitOne K (.ref C) cv = some b ∧ Q (.bl b) H
theorem call_isED {X : Cx} {a C fI : Addr} {oe : Obj} {cls : Value} {d : Option Addr} {pn : List (Addr × Obj)} (T : PySem.ErrT.ErrTxt X.K X.mg C fI) (U : ErrC X.K C) (hz : Zc cls d oe) (hf : ∃ vs, oe.data = .fields vs) : CallR (X.suite a ((a, oe) :: pn)) (.builtin "isinstance") (rIsED X.K C a cls d) := by
  intro pins s σ H xs us Q I r h
  obtain ⟨dd, fs, c, cv, b, rfl, ec, ed, hd, hc, e, q⟩ := h
  obtain ⟨u1, u2, rfl, r1, r2⟩ := vals2 r
  have e1 : u1 = Value.ref a := r1
  rw [e1, hc.eq r2]
  subst ec ed
  obtain ⟨ha, _⟩ := I.pin (a, oe) (List.mem_append_left _ List.mem_cons_self)
  obtain ⟨vs, hv⟩ := hf
  have hx : ObjOk X.prog X.w H s.heap dd (.xd fs) := I.hok dd _ hd
  obtain ⟨mA, hns, hr⟩ := hx
  obtain ⟨od, ho, hl⟩ := lookIn_ns hns
  have J : PySem.W.InstAt s.heap a oe C (some od) := ⟨ha, hz.1, by unfold PySem.W.notCls; rw [hv] <;> rfl, by rw [hz.2]; exact ho⟩
  exact PySem.W.kia_one (PySem.W.kitx_exc (od := some od) U.is T.ga T.gg T.exC U.cl U.hn U.ht U.hm) I.kIn J e (fun z => nomatch z) fun tk => ⟨.bl b, H, I.tok tk, rfl, q⟩
/-! ### values of any kind -/
def IsD (N : Addr → Prop) (H : Hp) (v : V) : PyData → Prop
  | .none => v = .non
  | .bool b => v = .bl b
  | .int i => v = .int i
  | .str x => v = .str x
  | .list ds => ∃ a xs, v = .ref a ∧ ¬ N a ∧ H a = some (.lst xs) ∧ DAs N H xs ds
  | .tuple ds => ∃ a xs, v = .ref a ∧ ¬ N a ∧ H a = some (.tup xs) ∧ DAs N H xs ds
  | .dict _ => ∃ a es, v = .ref a ∧ ¬ N a ∧ H a = some (.dK es)
theorem IsD.of {N : Addr → Prop} {H : Hp} {v : V} {d : PyData} (h : DA N H v d) : IsD N H v d := by
  cases h with
  | non => exact rfl
  | bl b => exact rfl
  | int i => exact rfl
  | str x => exact rfl
  | lst h1 h2 h3 h4 => exact ⟨_, _, rfl, h3, h1, h4⟩
  | tup h1 h3 h4 => exact ⟨_, _, rfl, h3, h1, h4⟩
  | dK h1 h3 _ => exact ⟨_, _, rfl, h3, h1⟩
theorem IsD.same {N : Addr → Prop} {H H' : Hp} {v : V} {d : PyData} (s : Same H H') (h : IsD N H v d) : IsD N H' v d := by
  cases d with
  | none => exact h
  | bool b => exact h
  | int i => exact h
  | str x => exact h
  | list ds => obtain ⟨a, xs, e, n, z, r⟩ := h; exact ⟨a, xs, e, n, s _ _ z, DAs.same s r⟩
  | tuple ds => obtain ⟨a, xs, e, n, z, r⟩ := h; exact ⟨a, xs, e, n, s _ _ z, DAs.same s r⟩
  | dict kvs => obtain ⟨a, es, e, n, z⟩ := h; exact ⟨a, es, e, n, s _ _ z⟩
theorem IsD.but {N : Addr → Prop} {p : Addr} {H H' : Hp} {v : V} {d : PyData} (s : But p H H') (hp : N p) (h : IsD N H v d) : IsD N H' v d := by
  have ne : ∀ {a : Addr}, ¬ N a → a ≠ p := fun n e => n (e ▸ hp)
  cases d with
  | none => exact h
  | bool b => exact h
  | int i => exact h
  | str x => exact h
  | list ds => obtain ⟨a, xs, e, n, z, r⟩ := h; exact ⟨a, xs, e, n, s _ _ (ne n) z, DAs.but s hp r⟩
  | tuple ds => obtain ⟨a, xs, e, n, z, r⟩ := h; exact ⟨a, xs, e, n, s _ _ (ne n) z, DAs.but s hp r⟩
  | dict kvs => obtain ⟨a, es, e, n, z⟩ := h; exact ⟨a, es, e, n, s _ _ (ne n) z⟩
def tyn : PyData → String
  | .none => "NoneType"
  | .bool _ => "bool"
  | .int _ => "int"
  | .str _ => "str"
  | .list _ => "list"
  | .tuple _ => "tuple"
  | .dict _ => "dict"
theorem IsD.ty {K : Frag} {N : Addr → Prop} {H : Hp} {v : V} {d : PyData} (h : IsD N H v d) : TyX K H v (.type (tyn d)) := by
  cases d with
  | none => rw [show v = .non from h]; exact .base .non
  | bool b => rw [show v = .bl b from h]; exact .base (.bl b)
  | int i => rw [show v = .int i from h]; exact .base (.int i)
  | str x => rw [show v = .str x from h]; exact .base (.str x)
  | list ds => obtain ⟨a, xs, e, n, z, r⟩ := h; rw [e]; exact ty_l (SqL.of z)
  | tuple ds => obtain ⟨a, xs, e, n, z, r⟩ := h; rw [e]; exact ty_t (SqT.of z)
  | dict kvs => obtain ⟨a, es, e, n, z⟩ := h; rw [e]; exact .base (.dK z)
def isStr : PyData → Bool
  | .str _ => true
  | _ => false
def isInt : PyData → Bool
  | .int _ => true
  | .bool _ => true
  | _ => false
def isBool : PyData → Bool
  | .bool _ => true
  | _ => false
def isSeq : PyData → Bool
  | .list _ => true
  | .tuple _ => true
  | _ => false
theorem kit_str (K : Frag) (d : PyData) : PySem.W.kitOne K (.type (tyn d)) (.type "str") = some (isStr d) := by cases d <;> rfl
theorem kit_int (K : Frag) (d : PyData) : PySem.W.kitOne K (.type (tyn d)) (.type "int") = some (isInt d) := by cases d <;> rfl
theorem kit_bool (K : Frag) (d : PyData) : PySem.W.kitOne K (.type (tyn d)) (.type "bool") = some (isBool d) := by cases d <;> rfl
theorem kit_seq (K : Frag) (d : PyData) : PySem.W.kitAny K (.type (tyn d)) [.type "list", .type "tuple"] = some (isSeq d) := by cases d <;> rfl
/-! ### words, names, whole numbers -/
def abcN : List Nat := (Str.ofString "abcdefghijklmnopqrstuvwxyz").cps.toList
def sgB (x : Str) : List Bool := x.cps.toList.map fun c => decide (c ∈ abcN)
def wordB (x : Str) : Bool := decide (1 ≤ x.length) && (decide (x.length ≤ 8) && (sgB x).all id)
def wordD : PyData → Bool
  | .str x => wordB x
  | _ => false
def txts : List PyData → List Str
  | [] => []
  | .str x :: ds => x :: txts ds
  | _ :: ds => txts ds
def namesB (ds : List PyData) : Bool := (ds.map wordD).all id && decide ((txts ds).length = (ded (txts ds)).length)
def namesD : PyData → Bool
  | .list ds => namesB ds
  | .tuple ds => namesB ds
  | _ => false
def wholeD (lo hi : Int) : PyData → Bool
  | .int i => decide (lo ≤ i) && decide (i ≤ hi)
  | _ => false
def smS (d : PyData) : Prop := ∀ x, d = .str x → x.length ≤ 1000
def Sm : PyData → Prop
  | .str x => x.length ≤ 1000
  | .list ds => ds.length ≤ 50 ∧ ∀ d ∈ ds, smS d
  | .tuple ds => ds.length ≤ 50 ∧ ∀ d ∈ ds, smS d
  | _ => True
theorem Sm.str {d : PyData} (h : Sm d) : smS d := fun x e => by rw [e] at h; exact h
theorem txts_words : ∀ {ds : List PyData}, (ds.map wordD).all id = true → ds = (txts ds).map PyData.str ∧ (∀ x ∈ txts ds, wordB x = true)
  | [], _ => ⟨rfl, (fun _ z => nomatch z)⟩
  | d :: ds, h => by
    rw [List.map_cons, List.all_cons] at h
    obtain ⟨h1, h2⟩ := (Bool.and_eq_true _ _ ▸ h : id (wordD d) = true ∧ (ds.map wordD).all id = true)
    obtain ⟨i1, i2⟩ := txts_words h2
    cases d with
    | str x =>
      refine ⟨?_, fun y hy => ?_⟩
      · show PyData.str x :: ds = PyData.str x :: (txts ds).map PyData.str
        rw [← i1]
      · rcases List.mem_cons.mp (show y ∈ x :: txts ds from hy) with z | z
        · rw [z]; exact h1
        · exact i2 y z
    | _ => cases h1
theorem das_vals {N : Addr → Prop} {H : Hp} : ∀ {xs : List V} {ws : List Str}, DAs N H xs (ws.map PyData.str) → xs = ws.map V.str
  | _, [], .nil => rfl
  | _, w :: ws, .cons h r => by
    cases h
    rw [das_vals r]
    rfl
theorem ded_nodup_len {xs : List Str} (h : xs.length = (ded xs).length) : xs.Nodup := by
  have h2 : ∀ (xs ks : List Str), ks.Nodup → (xs.foldl addT ks).length = ks.length + xs.length → (ks ++ xs).Nodup := by
    intro xs
    induction xs with
    | nil => intro ks nd _; rw [List.append_nil]; exact nd
    | cons x xs ih =>
      intro ks nd e
      rw [List.foldl_cons] at e
      have l := (foldl_addT xs (addT ks x) (by
        unfold addT
        split
        · exact nd
        · rename_i hx
          exact List.nodup_append.mpr ⟨nd, List.nodup_cons.mpr ⟨List.not_mem_nil, List.nodup_nil⟩, fun a ha b hb e => hx (by rw [List.mem_singleton.mp hb] at e; rw [← e]; exact ha)⟩)).2.2
      by_cases hx : x ∈ ks
      · have e1 : addT ks x = ks := if_pos hx
        rw [e1] at l e
        rw [List.length_cons] at e
        omega
      · have e1 : addT ks x = ks ++ [x] := if_neg hx
        rw [e1] at e
        have nd2 : (ks ++ [x]).Nodup := List.nodup_append.mpr ⟨nd, List.nodup_cons.mpr ⟨List.not_mem_nil, List.nodup_nil⟩, fun a ha b hb e => hx (by rw [List.mem_singleton.mp hb] at e; rw [← e]; exact ha)⟩
        have z := ih (ks ++ [x]) nd2 (by rw [e, List.length_append, List.length_cons, List.length_singleton]; omega)
        rw [List.append_assoc] at z
        exact z
  have z := h2 xs [] List.nodup_nil (by rw [List.length_nil, Nat.zero_add]; exact h.symm)
  exact z
end Fs
namespace Fs
open PySem PySem.Spec PyProof.Rows L2 Fh
open PySem.W (Frag)
/-! ### what stays when one instance is filled -/
def KeepD (H H' : Hp) : Prop := ∀ b o, H b = some o → (∀ C dx fs, o ≠ .ins C dx fs) → H' b = some o
mutual
theorem DA.keep {N : Addr → Prop} {H H' : Hp} (s : KeepD H H') : ∀ {v : V} {d : PyData}, DA N H v d → DA N H' v d
  | _, _, .non => .non
  | _, _, .bl b => .bl b
  | _, _, .int i => .int i
  | _, _, .str x => .str x
  | _, _, .lst h n m r => .lst (s _ _ h (fun _ _ _ z => nomatch z)) n m (DAs.keep s r)
  | _, _, .tup h m r => .tup (s _ _ h (fun _ _ _ z => nomatch z)) m (DAs.keep s r)
  | _, _, .dK h m r => .dK (s _ _ h (fun _ _ _ z => nomatch z)) m (DKs.keep s r)
theorem DAs.keep {N : Addr → Prop} {H H' : Hp} (s : KeepD H H') : ∀ {v : List V} {d : List PyData}, DAs N H v d → DAs N H' v d
  | _, _, .nil => .nil
  | _, _, .cons h r => .cons (DA.keep s h) (DAs.keep s r)
theorem DKs.keep {N : Addr → Prop} {H H' : Hp} (s : KeepD H H') : ∀ {v : List (Key × V)} {d : List (PyData × PyData)}, DKs N H v d → DKs N H' v d
  | _, _, .nil => .nil
  | _, _, .cons h r => .cons (DA.keep s h) (DKs.keep s r)
end
theorem IsD.keep {N : Addr → Prop} {H H' : Hp} {v : V} {d : PyData} (s : KeepD H H') (h : IsD N H v d) : IsD N H' v d := by
  cases d with
  | none => exact h
  | bool b => exact h
  | int i => exact h
  | str x => exact h
  | list ds => obtain ⟨a, xs, e, n, z, r⟩ := h; exact ⟨a, xs, e, n, s _ _ z (fun _ _ _ z => nomatch z), DAs.keep s r⟩
  | tuple ds => obtain ⟨a, xs, e, n, z, r⟩ := h; exact ⟨a, xs, e, n, s _ _ z (fun _ _ _ z => nomatch z), DAs.keep s r⟩
  | dict kvs => obtain ⟨a, es, e, n, z⟩ := h; exact ⟨a, es, e, n, s _ _ z (fun _ _ _ z => nomatch z)⟩
end Fs
set_option Elab.async false
set_option linter.all false
set_option maxRecDepth 100000
set_option maxHeartbeats 4000000
/-! FtF: a list beside [] -/
namespace Fs
open PySem PySem.Spec PyProof.Rows L2 Fh
open PySem.W (Frag)
section
variable {X : Cx}
def rEqE (K : Frag) : R2 := fun x y H Q => ∃ (a b : Addr) (xs : List V), x = .ref a ∧ y = .ref b ∧ SqL K H a xs ∧ SqL K H b [] ∧ Q (.bl xs.isEmpty) H
def rNeE (K : Frag) : R2 := fun x y H Q => ∃ (a b : Addr) (xs : List V), x = .ref a ∧ y = .ref b ∧ SqL K H a xs ∧ SqL K H b [] ∧ Q (.bl (!xs.isEmpty)) H
theorem op_eqE (hu : X.A.units < cLine) : OpR X (compareOp .Eq) (rEqE X.K) := by
  intro pins s σ H x y v u Q I rx ry h
  obtain ⟨a, b, xs, rfl, rfl, ha, hb, q⟩ := h
  cases (show v = Value.ref a from rx)
  cases (show u = Value.ref b from ry)
  obtain ⟨i1, r1, p1, _⟩ := I.list ha
  obtain ⟨i2, r2, p2, _⟩ := I.list hb
  have l2 : i2 = [] := by cases r2; rfl
  subst l2
  cases xs with
  | nil =>
    have l1 : i1 = [] := by cases r1; rfl
    subst l1
    exact SeqAt.eq_listAt (e := fun _ => true) p1.isList p2.isList rfl hu (fun j h1 _ => absurd h1 (Nat.not_lt_zero _)) ⟨.bl true, H, I, rfl, q⟩
  | cons z zs =>
    cases r1 with
    | cons rz rr => exact SeqAt.eq_list_lengthsAt p1.isList p2.isList (by simp) hu ⟨.bl false, H, I, rfl, q⟩
theorem op_neE (hu : X.A.units < cLine) : OpR X (compareOp .NotEq) (rNeE X.K) := by
  intro pins s σ H x y v u Q I rx ry h
  obtain ⟨a, b, xs, rfl, rfl, ha, hb, q⟩ := h
  cases (show v = Value.ref a from rx)
  cases (show u = Value.ref b from ry)
  obtain ⟨i1, r1, p1, _⟩ := I.list ha
  obtain ⟨i2, r2, p2, _⟩ := I.list hb
  have l2 : i2 = [] := by cases r2; rfl
  subst l2
  cases xs with
  | nil =>
    have l1 : i1 = [] := by cases r1; rfl
    subst l1
    exact SeqAt.RcNeAt.lists (e := fun _ => true) p1.isList p2.isList rfl hu (fun j h1 _ => absurd h1 (Nat.not_lt_zero _)) _ _ _ _ ⟨.bl false, H, I, rfl, q⟩
  | cons z zs =>
    cases r1 with
    | cons rz rr => exact SeqAt.RcNeAt.lists_lengths p1.isList p2.isList (by simp) hu _ _ _ _ ⟨.bl true, H, I, rfl, q⟩
end
end Fs
namespace Fs
open PySem PySem.Spec PyProof.Rows L2 Fh
open PySem.W (Frag)
mutual
theorem DA.weak {N N' : Addr → Prop} {H : Hp} (h : ∀ a, N' a → N a) : ∀ {v : V} {d : PyData}, DA N H v d → DA N' H v d
  | _, _, .non => .non
  | _, _, .bl b => .bl b
  | _, _, .int i => .int i
  | _, _, .str x => .str x
  | _, _, .lst e n m r => .lst e n (fun z => m (h _ z)) (DAs.weak h r)
  | _, _, .tup e m r => .tup e (fun z => m (h _ z)) (DAs.weak h r)
  | _, _, .dK e m r => .dK e (fun z => m (h _ z)) (DKs.weak h r)
theorem DAs.weak {N N' : Addr → Prop} {H : Hp} (h : ∀ a, N' a → N a) : ∀ {v : List V} {d : List PyData}, DAs N H v d → DAs N' H v d
  | _, _, .nil => .nil
  | _, _, .cons e r => .cons (DA.weak h e) (DAs.weak h r)
theorem DKs.weak {N N' : Addr → Prop} {H : Hp} (h : ∀ a, N' a → N a) : ∀ {v : List (Key × V)} {d : List (PyData × PyData)}, DKs N H v d → DKs N' H v d
  | _, _, .nil => .nil
  | _, _, .cons e r => .cons (DA.weak h e) (DKs.weak h r)
end
theorem IsD.weak {N N' : Addr → Prop} {H : Hp} {v : V} {d : PyData} (w : ∀ a, N' a → N a) (h : IsD N H v d) : IsD N' H v d := by
  cases d with
  | none => exact h
  | bool b => exact h
  | int i => exact h
  | str x => exact h
  | list ds => obtain ⟨a, xs, e, n, z, r⟩ := h; exact ⟨a, xs, e, fun q => n (w _ q), z, DAs.weak w r⟩
  | tuple ds => obtain ⟨a, xs, e, n, z, r⟩ := h; exact ⟨a, xs, e, fun q => n (w _ q), z, DAs.weak w r⟩
  | dict kvs => obtain ⟨a, es, e, n, z⟩ := h; exact ⟨a, es, e, fun q => n (w _ q), z⟩
/-- what a drawn value of any kind may be: apart from all of N -/
def spAnyN (ds : List PyData) : Sp := fun vs H Q _ => ∃ (N : Addr → Prop) (p c : Addr) (n : Nat), vs = [.ref p] ∧ N p ∧ Kept N H ∧ PenAt H p c n ∧ n ≤ 1000000 ∧
  ∀ (d : PyData) (x : V) (H' : Hp), d ∈ ds → DA N H' x d → PenAt H' p c (n + 1) → But p H H' → Q x H'
theorem kept_but {N : Addr → Prop} {H H' : Hp} {p c : Addr} {m : Nat} (k : Kept N H) (b : But p H H') (P : PenAt H' p c m) : Kept N H' := fun a n z => by
  by_cases e : a = p
  · obtain ⟨_, cs, sp, re, hp, _⟩ := P
    rw [e, hp] at z
    cases z
  · cases q : H a with
    | none => exact k a n q
    | some o =>
      rw [b a o e q] at z
      cases z
def IsDs (N : Addr → Prop) (H : Hp) : List V → List PyData → Prop
  | [], [] => True
  | v :: vs, d :: ds => (IsD N H v d ∧ Sm d) ∧ IsDs N H vs ds
  | _, _ => False
theorem IsDs.keep {N : Addr → Prop} {H H' : Hp} (k : ∀ v d, IsD N H v d → IsD N H' v d) : ∀ {vs : List V} {ds : List PyData}, IsDs N H vs ds → IsDs N H' vs ds
  | [], [], _ => trivial
  | v :: vs, d :: ds, h => ⟨⟨k _ _ h.1.1, h.1.2⟩, IsDs.keep k h.2⟩
  | [], _ :: _, h => h.elim
  | _ :: _, [], h => h.elim
theorem IsDs.snoc {N : Addr → Prop} {H : Hp} {v : V} {d : PyData} (e : IsD N H v d) (m : Sm d) : ∀ {vs : List V} {ds : List PyData}, IsDs N H vs ds → IsDs N H (vs ++ [v]) (ds ++ [d])
  | [], [], _ => ⟨⟨e, m⟩, trivial⟩
  | v :: vs, d :: ds, h => ⟨h.1, IsDs.snoc e m h.2⟩
  | [], _ :: _, h => h.elim
  | _ :: _, [], h => h.elim
theorem IsDs.len {N : Addr → Prop} {H : Hp} : ∀ {vs : List V} {ds : List PyData}, IsDs N H vs ds → vs.length = ds.length
  | [], [], _ => rfl
  | v :: vs, d :: ds, h => congrArg (· + 1) h.2.len
  | [], _ :: _, h => h.elim
  | _ :: _, [], h => h.elim
end Fs
set_option Elab.async false
set_option linter.all false
set_option maxRecDepth 100000
set_option maxHeartbeats 4000000
/-! FhY: a head by facts with getters and classmethods, the statics among what is looked at -/
namespace FhY
open PySem PySem.Spec PyProof.Rows L2 Fh
open PySem.W (Frag)
/-- the def in a property's, a classmethod's record -/
def getA (K : Frag) (T : String) (p : Addr) : Addr := match PySem.W.recIn K p T with
  | some (.ref g :: _) => g
  | _ => 0
def recB (K : Frag) (T : String) (p : Addr) : Bool := match PySem.W.recIn K p T with
  | some (.ref _ :: _) => true
  | _ => false
theorem recB_ok {K : Frag} {T : String} {p : Addr} (h : recB K T p = true) : ∃ rest, PySem.W.recIn K p T = some (.ref (getA K T p) :: rest) := by
  unfold recB at h
  unfold getA
  split at h
  · rename_i g r e
    exact ⟨r, by rw [e]⟩
  · cases h
def propB (K : Frag) (C : Addr) (f : Str) : Bool := He.eqO (PySem.W.findIn K (.ref C) f) (some (some (.ref (He.ma K C f)))) && (He.eqO (PySem.W.specialIn K (.ref (He.ma K C f)) "__get__") (some (some (.builtin "property.__get__"))) &&
  (decide (PySem.W.takesIn K (.ref (He.ma K C f)) = some true) && recB K "property" (He.ma K C f)))
theorem propB_ok {K : Frag} {C : Addr} {f : Str} (h : propB K C f = true) : PropOf K C f (He.ma K C f) (getA K "property" (He.ma K C f)) := by
  obtain ⟨h1, h⟩ := He.ba h
  obtain ⟨h2, h⟩ := He.ba h
  obtain ⟨h3, h4⟩ := He.ba h
  exact ⟨He.eqO_ok h1, He.eqO_ok h2, of_decide_eq_true h3, recB_ok h4⟩
def cmFound (r : Option PySem.W.CFound) (p C : Addr) : Bool := match r with
  | some (.get (.builtin s) (.ref q) .none (.ref D)) => decide (s = "classmethod.__get__") && (decide (q = p) && decide (D = C))
  | _ => false
theorem cmFound_ok {r : Option PySem.W.CFound} {p C : Addr} (h : cmFound r p C = true) : r = some (.get (.builtin "classmethod.__get__") (.ref p) .none (.ref C)) := by
  unfold cmFound at h
  split at h
  · obtain ⟨h1, h2⟩ := He.ba h
    obtain ⟨h3, h4⟩ := He.ba h2
    rw [of_decide_eq_true h1, of_decide_eq_true h3, of_decide_eq_true h4]
  · cases h
def cmB (K : Frag) (C : Addr) (m : Str) : Bool := cmFound (PySem.W.findCls K (.ref C) (.type "type") m) (He.ma K C m) C && (recB K "classmethod" (He.ma K C m) && PySem.W.fnIn K (getA K "classmethod" (He.ma K C m)))
theorem cmB_ok {K : Frag} {C : Addr} {m : Str} (h : cmB K C m = true) : ClX.CMet K C (.type "type") m (He.ma K C m) (getA K "classmethod" (He.ma K C m)) := by
  obtain ⟨h1, h⟩ := He.ba h
  obtain ⟨h2, h3⟩ := He.ba h
  exact ⟨cmFound_ok h1, recB_ok h2, h3⟩
def crB (K : Frag) (C : Addr) : Bool := PySem.W.readsIn K C (.type "type") && He.eqO (PySem.W.specialIn K (.ref C) "__getattribute__") (some (some (.builtin "type.__getattribute__")))
theorem crB_ok {K : Frag} {C : Addr} (h : crB K C = true) : ClX.CRead K C (.type "type") := by
  obtain ⟨h1, h2⟩ := He.ba h
  exact ⟨h1, He.eqO_ok h2⟩
/-! ### a def that stands in such a record -/
structure GDef where
  at_ : Frag → Addr
  name : Str
  qual : Str
  params : Arguments
  body : List Stmt
  scope : Scope
def gW (K : Frag) (a : Addr) : He.FnW := match K.lookup a with
  | some ⟨_, _, .func fd, _⟩ => some (fd.name, fd.qualname, fd.params, fd.body, fd.scope, fd.globals, fd.closure, fd.builtins)
  | _ => none
def GDef.val (d : GDef) : He.FnW := some (d.name, d.qual, d.params, .stmts d.body, d.scope, mainGlobals, [], builtinsNs)
def GDef.ok (K : Frag) (d : GDef) : Bool := PySem.W.keepIn K (.ref (d.at_ K)) && (match K.lookup (d.at_ K) with
  | some ⟨_, _, .func fd, _⟩ => PySem.W.codeIn K fd.code d.qual && (He.dflB K fd.defaults [] && He.kwdB K fd.kwdefaults [])
  | _ => false)
theorem GDef.funD {K : Frag} {d : GDef} (e : gW K (d.at_ K) = d.val) (c : d.ok K = true) : ∃ fd, FunD K d.name d.qual d.params d.body d.scope [] [] (d.at_ K) fd := by
  obtain ⟨kp, c2⟩ := He.ba c
  unfold gW at e
  cases q : K.lookup (d.at_ K) with
  | none =>
    rw [q] at c2
    cases c2
  | some o =>
    obtain ⟨oc, od, dt, osl⟩ := o
    rw [q] at c2 e
    cases dt with
    | func fd =>
      obtain ⟨n1, n2, n3, n4, n5, n6, n7, n8, n9, n10, n11, n12, n13, n14, n15⟩ := fd
      have e2 : (some (n1, n2, n3, n4, n5, n6, n7, n15) : He.FnW) = some (d.name, d.qual, d.params, .stmts d.body, d.scope, mainGlobals, [], builtinsNs) := e
      simp only [Option.some.injEq, Prod.mk.injEq] at e2
      obtain ⟨h1, h2, h3, h4, h5, h6, h7, h8⟩ := e2
      subst h1 h2 h3 h4 h5 h6 h7 h8
      have c3 : (PySem.W.codeIn K n13 d.qual && (He.dflB K n8 [] && He.kwdB K n9 [])) = true := c2
      obtain ⟨k1, k2⟩ := He.ba c3
      obtain ⟨k3, k4⟩ := He.ba k2
      exact ⟨_, ⟨oc, od, n8, n9, n10, n11, n12, n13, n14, osl, rfl, q, k1, He.dflB_ok k3, He.kwdB_ok k4⟩, kp⟩
    | _ => cases c2
/-! ### the Hook -/
abbrev AlY : Type := (He.AlD × List He.FnW) × Bool
def obsK (fa : List He.Fa) (fn : List He.DefD) (gs : List GDef) (ex : Frag → Bool) (K : Frag) : AlY := ((He.obsD fa fn K, gs.map fun d => gW K (d.at_ K)), ex K && gs.all fun d => d.ok K)
def valY (fn : List He.DefD) (gs : List GDef) : AlY := ((He.valD fn, gs.map GDef.val), true)
def asY (n : Nat) (g : Addr → Option Obj) : List Addr := cStatics :: He.asD g n
def obsY (n : Nat) (fa : List He.Fa) (fn : List He.DefD) (gs : List GDef) (ex : Frag → Bool) (g : Addr → Option Obj) : AlY := obsK fa fn gs ex (He.frT g (asY n g))
def hookY (n : Nat) (fa : List He.Fa) (fn : List He.DefD) (gs : List GDef) (ex : Frag → Bool) : PySem.W.Hook where
  α := AlY
  obs := fun s => obsY n fa fn gs ex s.heap.get?
  val := fun _ => valY fn gs
  says := fun _ h => ∃ K : Frag, K.In h ∧ obsK fa fn gs ex K = valY fn gs
  of := fun _ _ e => ⟨_, He.frT_in, e⟩
  keeps := fun _ _ _ ⟨K, hK, c⟩ k => ⟨K, PySem.W.Frag.In.keeps hK k, c⟩
theorem obsY_eq {n : Nat} {fa : List He.Fa} {fn : List He.DefD} {gs : List GDef} {ex : Frag → Bool} {g : Addr → Option Obj} {s : Shared} (h : ∀ a, g a = s.heap.get? a) : obsY n fa fn gs ex g = (hookY n fa fn gs ex).obs s := by
  have e : g = s.heap.get? := funext h
  rw [e] <;> rfl
section
variable {fa : List He.Fa} {fn : List He.DefD} {gs : List GDef} {ex : Frag → Bool} {K : Frag}
theorem says_d (c : obsK fa fn gs ex K = valY fn gs) : He.SaysD fa fn K := congrArg (fun z : AlY => z.1.1) c
theorem says_more (c : obsK fa fn gs ex K = valY fn gs) : ex K = true := (He.ba (show (ex K && gs.all fun d => d.ok K) = true from congrArg (fun z : AlY => z.2) c)).1
theorem says_get (c : obsK fa fn gs ex K = valY fn gs) (i : Nat) {d : GDef} (h : gs[i]? = some d := by rfl) : ∃ fd, FunD K d.name d.qual d.params d.body d.scope [] [] (d.at_ K) fd := by
  have c2 := (He.ba (show (ex K && gs.all fun d => d.ok K) = true from congrArg (fun z : AlY => z.2) c)).2
  have e : gs.map (fun d => gW K (d.at_ K)) = gs.map GDef.val := congrArg (fun z : AlY => z.1.2) c
  have e2 : (gs.map fun d => gW K (d.at_ K))[i]? = (gs.map GDef.val)[i]? := by rw [e]
  rw [List.getElem?_map, List.getElem?_map, h] at e2
  exact GDef.funD (Option.some.inj e2) (List.all_eq_true.mp c2 d (List.mem_of_getElem? h))
end
end FhY
set_option Elab.async false
set_option linter.all false
set_option maxRecDepth 100000
set_option maxHeartbeats 4000000
/-! FhZ: errors' classes by the head's facts, a law's end -/
namespace Fh
open PySem PySem.Spec PyProof.Rows L2
open PySem.W (Frag)
/-! ### a def by the head's facts -/
theorem funD {K : Frag} {x qual : Str} {st : Stmt} {f : Addr} {fd : FuncData} (F : FunD K x qual (defArgs st) (defBody st) (defScope st) [] [] f fd) : Fun K x qual st f fd := by
  obtain ⟨oc, od, dV, kV, doc, pm, an, cdv, ct, osl, rfl, lk, hcd, hd, _⟩ := F.ex
  rcases hd with ⟨_, rfl⟩ | ⟨h, _⟩
  · exact ⟨⟨oc, od, kV, doc, pm, an, cdv, ct, osl, rfl, lk, hcd⟩, F.kp⟩
  · exact absurd rfl h
def dDef (x : Str) (st : Stmt) : He.DefD := ⟨(x, none), x, x, defArgs st, defBody st, defScope st, [], []⟩
def dMeth (c m q : Str) (st : Stmt) : He.DefD := ⟨(c, some m), m, q, defArgs st, defBody st, defScope st, [], []⟩
/-! ### an error's class by the head's facts -/
def eqT (a b : Option Value) : Bool := decide (a = b)
def eiB (K : Frag) (C : Addr) (b : BK) : Bool := PySem.W.excInitIn K C b.bm b.nw && (decide ((PySem.W.clsIn K C).map (·.mro) = some (.ref C :: b.bm)) && (PySem.W.hasDictIn K C && (eqT (PySem.W.typeIn K (.ref C)) (some (.type "type")) &&
  (He.eqO (PySem.W.findIn K (.ref C) "__setattr__") (some (some (.builtin "object.__setattr__"))) && (He.eqO (PySem.W.findIn K (.ref C) "__getattribute__") (some (some (.builtin "BaseException.__getattribute__"))) &&
  (He.eqO (PySem.W.findIn K (.ref C) "__getattr__") (some none) && (He.eqO (PySem.W.findIn K (.ref C) "__class__") (some (some (.builtin "object.__class__"))) && (PySem.W.keepIn K (.ref C) &&
  (He.eqO (PySem.W.specialIn K (.builtin "object.__class__") "__get__") (some (some (.builtin "getset_descriptor.__get__"))) && decide (PySem.W.takesIn K (.builtin "object.__class__") = some true))))))))))
theorem eiB_ok {K : Frag} {C : Addr} {b : BK} (h : eiB K C b = true) : EK K C b := by
  obtain ⟨h1, h⟩ := He.ba h
  obtain ⟨h2, h⟩ := He.ba h
  obtain ⟨h3, h⟩ := He.ba h
  obtain ⟨h4, h⟩ := He.ba h
  obtain ⟨h5, h⟩ := He.ba h
  obtain ⟨h6, h⟩ := He.ba h
  obtain ⟨h7, h⟩ := He.ba h
  obtain ⟨h8, h⟩ := He.ba h
  obtain ⟨h9, h⟩ := He.ba h
  obtain ⟨h10, h11⟩ := He.ba h
  exact ⟨h1, of_decide_eq_true h2, h3, of_decide_eq_true h4, He.eqO_ok h5, He.eqO_ok h6, He.eqO_ok h7, He.eqO_ok h8, h9, He.eqO_ok h10, of_decide_eq_true h11⟩
abbrev ClR : Type := Str × BK × List Str
def clB (K : Frag) (r : ClR) : Bool := eiB K (He.ga K r.1) r.2.1 && (match r.2.2 with
  | [] => PySem.W.excIn K (He.ga K r.1) r.2.1.bm r.2.1.nw
  | fs => He.eqO (PySem.W.findIn K (.ref (He.ga K r.1)) "__init__") (some (some (.ref (He.ma K (He.ga K r.1) "__init__")))) && (eqT (PySem.W.typeIn K (.ref (He.ma K (He.ga K r.1) "__init__"))) (some (.type "function")) &&
    fs.all fun f => He.eqO (PySem.W.findIn K (.ref (He.ga K r.1)) f) (some none)))
def clsB (rs : List ClR) (K : Frag) : Bool := rs.all (clB K) && decide ((rs.map fun r => He.ga K r.1).Nodup)
structure ClI (K : Frag) (r : ClR) : Prop where
  ei : EK K (He.ga K r.1) r.2.1
  iC : PySem.W.findIn K (.ref (He.ga K r.1)) "__init__" = some (some (.ref (He.ma K (He.ga K r.1) "__init__")))
  tI : PySem.W.typeIn K (.ref (He.ma K (He.ga K r.1) "__init__")) = some (.type "function")
  no : ∀ f ∈ r.2.2, PySem.W.findIn K (.ref (He.ga K r.1)) f = some none
theorem clB_one {K : Frag} {n : Str} {b : BK} {f : Str} {fs : List Str} (h : clB K (n, b, f :: fs) = true) : ClI K (n, b, f :: fs) := by
  obtain ⟨h1, h⟩ := He.ba h
  obtain ⟨h2, h⟩ := He.ba h
  obtain ⟨h3, h4⟩ := He.ba h
  exact ⟨eiB_ok h1, He.eqO_ok h2, of_decide_eq_true h3, fun g hg => He.eqO_ok (List.all_eq_true.mp h4 g hg)⟩
theorem clB_none {K : Frag} {n : Str} {b : BK} (h : clB K (n, b, []) = true) : EK K (He.ga K n) b ∧ PySem.W.excIn K (He.ga K n) b.bm b.nw = true := by
  obtain ⟨h1, h2⟩ := He.ba h
  exact ⟨eiB_ok h1, h2⟩
theorem clsB_at {K : Frag} {rs : List ClR} (h : clsB rs K = true) {r : ClR} (i : Nat) (e : rs[i]? = some r) : clB K r = true :=
  List.all_eq_true.mp (He.ba h).1 r (List.mem_of_getElem? e)
theorem clsB_apart {K : Frag} {rs : List ClR} (h : clsB rs K = true) {i j : Nat} (hi : i < rs.length) (hj : j < rs.length) (d : ClR) (e : He.ga K (rs.getD i d).1 = He.ga K (rs.getD j d).1) : i = j := by
  have nd : (rs.map fun r => He.ga K r.1).Pairwise (· ≠ ·) := of_decide_eq_true (He.ba h).2
  have p := List.pairwise_iff_getElem.mp nd
  have gi : rs.getD i d = rs[i] := by rw [List.getD_eq_getElem?_getD, List.getElem?_eq_getElem hi]; rfl
  have gj : rs.getD j d = rs[j] := by rw [List.getD_eq_getElem?_getD, List.getElem?_eq_getElem hj]; rfl
  rw [gi, gj] at e
  rcases Nat.lt_trichotomy i j with q | q | q
  · exact absurd (by rw [List.getElem_map, List.getElem_map]; exact e) (p i j (by rw [List.length_map]; exact hi) (by rw [List.length_map]; exact hj) q)
  · exact q
  · exact absurd (by rw [List.getElem_map, List.getElem_map]; exact e.symm) (p j i (by rw [List.length_map]; exact hj) (by rw [List.length_map]; exact hi) q)
/-- a law's end: the head's facts in hand -/
theorem walk_ofGE {l : PySem.W.OpenLaw} {n k : Nat} {q : Program} {loose : List Str} {XP : (Str → Option Value) → Heap → Prop} {YP : World → Heap → Prop} {d : DefRec} {CX : CXT} {x : Str}
    (hn : l.most = some n) (hn2 : n ≤ sizeLine) (hdf : d.params.defaults = []) (hr : Room k callerA)
    (F : ∀ (w : World) (mg : Str → Option Value) (fa : Addr) (h : Heap), YP w h → h.Ns mainGlobals mg → mg d.name = some (.ref fa) →
      ∃ (K : Frag) (fd : FuncData) (sp : Sp), K.In h ∧ (∀ (s : Shared) (u : Value), BindsTo s fd ⟨[u], []⟩ [(x, u)]) ∧
        (∀ (H : Hp) (a : Addr) (ns : List Int), ns.length ≤ n → (∀ z ∈ ns, Builtin.Int.intBits z ≤ 1048576) → Only H → SqL K H a (ns.map V.int) → sp [.ref a] H (fun v _ => v = .bl true) fun _ _ _ => False) ∧
        ∀ base : Heap, K.In base → base.Ns mainGlobals mg → FnG l.prog w K mg base CX k fa fd [x] sp)
    (hCX : ∀ (H : Hp) (s : Shared) (e : Value) (s' : Shared), CX [] H s (fun _ _ _ => False) e s' → False) :
    PySem.W.WalkO q loose XP YP l.row.toRowW d [] (fun f vs => PySem.call f vs) := by
  refine Att.attach_callB hn hdf fun w s0 s1 mg mb fa o pm cd doc a vs ns G Y ho hd hcd hmg hobj hints hlen hbits hg => ?_
  obtain ⟨K, fd, sp, KX, hb, hsp, hF⟩ := F w mg fa _ Y G.T.g hmg
  exact law_callG KX G.T.g G.T.b G.T.builtins G.T.nolimit hg hobj hints (Nat.le_trans hlen hn2) hr hF hb (fun H hO hS => hsp H a ns hlen hbits hO hS) (fun H e s' => hCX H s1 e s')
end Fh
namespace FhY
open PySem PySem.Spec PyProof.Rows L2 Fh
open PySem.W (Frag)
theorem funM {fa : List He.Fa} {fn : List He.DefD} {K : Frag} (c : He.SaysD fa fn K) (i : Nat) {cn m q : Str} {st : Stmt} (h : fn[i]? = some (dMeth cn m q st)) : ∃ fd, Fun K m q st (He.ma K (He.ga K cn) m) fd := by
  obtain ⟨fd, F⟩ := c.def_ i h
  exact ⟨fd, funD F⟩
theorem funT {fa : List He.Fa} {fn : List He.DefD} {K : Frag} (c : He.SaysD fa fn K) (i : Nat) {x : Str} {st : Stmt} (h : fn[i]? = some (dDef x st)) : ∃ fd, Fun K x x st (He.ga K x) fd := by
  obtain ⟨fd, F⟩ := c.def_ i h
  exact ⟨fd, funD F⟩
/-- a getter, a classmethod's def -/
def gDef (c m q : Str) (T : String) (st : Stmt) : GDef := ⟨fun K => getA K T (He.ma K (He.ga K c) m), m, q, defArgs st, defBody st, defScope st⟩
theorem funG {fa : List He.Fa} {fn : List He.DefD} {gs : List GDef} {ex : Frag → Bool} {K : Frag} (c : obsK fa fn gs ex K = valY fn gs) (i : Nat) {cn m q : Str} {T : String} {st : Stmt} (h : gs[i]? = some (gDef cn m q T st)) :
    ∃ fd, Fun K m q st (getA K T (He.ma K (He.ga K cn) m)) fd := by
  obtain ⟨fd, F⟩ := says_get c i h
  exact ⟨fd, funD F⟩
end FhY
set_option Elab.async false
set_option linter.all false
set_option maxRecDepth 100000
set_option maxHeartbeats 4000000
/-! FtG: the error's row of facts by the head's Bools -/
namespace Fs
open PySem PySem.Spec PyProof.Rows L2 Fh
open PySem.W (Frag)
theorem ei_obj {K : Frag} {C : Addr} {bmB : List Value} {nw : String} (T : EI K C bmB nw) : ∃ nm q N bs sn sub ab col dd k0 k1 k2 k3 k5, K.lookup C = some (excClassObj nm q C N bs bmB true sn sub ab col dd k0 k1 k2 k3 k5 nw) := by
  have q := T.q
  have m := T.mro
  have hd := T.hd
  unfold PySem.W.hasDictIn at hd
  unfold PySem.W.clsIn at m hd
  unfold PySem.W.excInitIn at q
  split at q
  · rename_i dd cd sl ho
    rw [ho] at m hd
    split at q
    · rename_i C' bm k0 k1 k2 k3 n k5 hm hs
      simp only [Bool.and_eq_true, beq_iff_eq, Bool.not_eq_true'] at q
      obtain ⟨⟨⟨rfl, rfl⟩, hdel⟩, ht⟩ := q
      obtain ⟨nm, bs, mro, ns, qn, hdc, sn, sub, ab, col, del⟩ := cd
      dsimp only at hm hdel
      subst hm hdel
      have m2 : some (Value.ref C' :: bm) = some (Value.ref C' :: bmB) := m
      injection m2 with m3
      injection m3 with _ m4
      subst m4
      have hd2 : hdc = true := hd
      subst hd2
      have hsl : sl = #[k0, k1, k2, k3, some (.builtin n), k5] := by
        obtain ⟨l⟩ := sl
        simp only at hs
        rw [hs]
      subst hsl
      exact ⟨nm, qn, ns, bs, sn, sub, ab, col, dd, k0, k1, k2, k3, k5, ho⟩
    · cases q
  · cases q
theorem errT_of {K : Frag} {mg : Str → Option Value} {C : Addr} (gC : mg "InvalidTask" = some (.ref C)) (T : EK K C .ve) {fI : Addr} (no : PySem.W.findIn K (.ref C) "field" = some none) (iC : PySem.W.findIn K (.ref C) "__init__" = some (some (.ref fI))) (tI : PySem.W.typeIn K (.ref fI) = some (.type "function"))
    (fn : ∃ (oc : Value) (od : Option Addr) (kV doc pm : Value) (an : Option Addr) (cdv ct : Value) (osl : Array (Option Value)) (p1 p2 q1 q2 q3 q4 : Pos),
      K.lookup fI = some ⟨oc, od, .func (PySem.W.fnOf "__init__" "InvalidTask.__init__" (PySem.ErrT.iA p1 p2) (PySem.ErrT.iB q1 q2 q3 q4) PySem.ErrT.iS .none kV doc pm an cdv ct), osl⟩ ∧ PySem.W.codeIn K cdv "InvalidTask.__init__" = true) : PySem.ErrT.ErrTxt K mg C fI := by
  obtain ⟨nm, q, N, bs, sn, sub, ab, col, dd, k0, k1, k2, k3, k5, ho⟩ := ei_obj T
  have sB : PySem.W.subIn K (.ref C) (.type "BaseException") = some true := by rw [T.sub]; rfl
  have sC : PySem.W.subIn K (.ref C) (.ref C) = some true := by rw [T.sub, List.contains_cons]; simp
  exact { gC := gC, cls := ⟨nm, q, N, bs, _, sn, sub, ab, col, dd, k0, k1, k2, k3, k5, ho, by decide +kernel⟩, sa := T.sa, ga := T.ga, gg := T.gg, noN := no, iC := iC, tC := tI, kC := T.kC, exC := sB, tyC := T.ty, hdC := T.hd, te := PySem.W.exm_ref sB T.hd T.ty sC, fn := fn }
theorem errC_of {K : Frag} {C : Addr} (T : EK K C .ve) : ErrC K C := by
  obtain ⟨cd, h1, _⟩ := T.cls
  exact ⟨by rw [h1]; rfl, T.cl, T.hn, T.ht, by rw [T.mroI]; rfl⟩
theorem errV_of {K : Frag} {C : Addr} (T : EK K C .ve) : PySem.W.kitOne K (.ref C) (.type "ValueError") = some true := by
  rw [T.kitT (by decide +kernel)]
  rfl
end Fs
set_option Elab.async false
set_option linter.all false
set_option maxRecDepth 100000
set_option maxHeartbeats 4000000
/-! FtH: the error TooFew(kind), over OverflowError, over the layer -/
namespace PySem
namespace ErrF
open PySem.W PySem.Calls PyProof.Rows PySem.HandSPX
/-! ### the text of __init__ -/
def iA (p1 p2 : Pos) : Arguments := { posonlyargs := [], args := [{ arg := "self", annotation := none, pos := p1 }, { arg := "kind", annotation := none, pos := p2 }], vararg := none, kwonlyargs := [], kw_defaults := [], kwarg := none, defaults := [] }
def iB (q1 q2 q3 q4 : Pos) : List Stmt := [.Assign [.Attribute (.Name "self" q1) "kind" q2] (.Name "kind" q3) q4]
def iS : Scope := { kind := .function, names := [(PySem.Str.ofString "self", .local), (PySem.Str.ofString "kind", .local)], isGenerator := false, isCoroutine := false, more := [] }
/-- what the written part says of TooFew, at C, and of its __init__, at fI -/
structure ErrFxt (K : Frag) (mg : Str → Option Value) (C fI : Addr) : Prop where
  gC : mg "TooFew" = some (.ref C)
  ei : Fh.EK K C .oe
  sa : findIn K (.ref C) "__setattr__" = some (some (.builtin "object.__setattr__"))
  ga : findIn K (.ref C) "__getattribute__" = some (some (.builtin "BaseException.__getattribute__"))
  gg : findIn K (.ref C) "__getattr__" = some none
  noN : findIn K (.ref C) "kind" = some none
  iC : findIn K (.ref C) "__init__" = some (some (.ref fI))
  tC : typeIn K (.ref fI) = some (.type "function")
  kC : keepIn K (.ref C) = true
  exC : subIn K (.ref C) (.type "BaseException") = some true
  tyC : typeIn K (.ref C) = some (.type "type")
  hdC : hasDictIn K C = true
  te : exmOne K (.ref C) (.ref C) = some true
  fn : ∃ (oc : Value) (od : Option Addr) (kV doc pm : Value) (an : Option Addr) (cdv ct : Value) (osl : Array (Option Value)) (p1 p2 q1 q2 q3 q4 : Pos),
    K.lookup fI = some ⟨oc, od, .func (fnOf "__init__" "TooFew.__init__" (iA p1 p2) (iB q1 q2 q3 q4) iS .none kV doc pm an cdv ct), osl⟩ ∧ codeIn K cdv "TooFew.__init__" = true
theorem one_size (v : Value) : [v].length ≤ sizeLine := by
  rw [sizeLine_eq]
  exact (by decide : 1 ≤ 16777216)
theorem kept_but {K : Frag} {h h' : Heap} {x : Addr} (X : K.In h) (hx : K.lookup x = none) (k : ∀ b o, b ≠ x → h.get? b = some o → h'.get? b = some o) : K.In h' := fun a o e =>
  k a o (fun z => by rw [z, hx] at e; cases e) (X a o e)
theorem ldC {M : Model} {s : Shared} {name : Str} {scope : Scope} {L a : Addr} {cd : Value} {m : Str → Option Value} {x : Str} {pos : Pos} {v : Value} {Q : Value → Shared → Prop} {A : Around} {E : Value → Shared → Prop} (hn : s.heap.Ns L m) (hv : m x = some v) (h : Q v s)
    (hk : scope.kind = .function := by rfl) (hl : (envOfC name scope L a cd).kindOf x = some .local := by rfl) (hd : (x == ("__debug__" : Str)) = false := by decide) :
    wpAny M A (eval (.Name x pos) (envOfC name scope L a cd)) Q E s := wpAny_Name (wpAny_loadName_local hk hl hn hv h) hd
/-- what __init__ leaves of a fresh exception at x -/
structure InitEnd (h h' : Heap) (x C dx t1 : Addr) (v : Value) : Prop where
  keep : ∀ b o, b ≠ x → h.get? b = some o → h'.get? b = some o
  obj : h'.get? x = some { cls := .ref C, dict := some dx, data := .fields #[.ref t1, .none, .none, .none, .bool false, .none] }
  dbig : h.objs.size ≤ dx
  dne : dx ≠ x
  ns : h'.Ns1 dx (fun y => if y = "kind" then some v else none)
/-- a made TooFew -/
structure OwnMade (h h' : Heap) (e C d : Addr) (v : Value) : Prop where
  keep : ∀ b o, h.get? b = some o → h'.get? b = some o
  new : h.objs.size ≤ e
  obj : ∃ oe vs, h'.get? e = some oe ∧ oe.cls = .ref C ∧ oe.dict = some d ∧ oe.data = .fields vs ∧ vs[1]? = some .none
  dbig : h.objs.size ≤ d
  dne : d ≠ e
  ns : h'.Ns1 d (fun y => if y = "kind" then some v else none)
section
variable {prog : Program} {w : World} {A : Around} {E : Value → Shared → Prop} {R : Result → Shared → Prop} {s : Shared} {K : Frag} {mg : Str → Option Value} {C fI : Addr}
theorem errF_init (T : ErrFxt K mg C fI) {x t0 : Addr} {v : Value} (X : K.In s.heap) (hlim : s.heap.NoLimit) (hx : s.heap.get? x = some (excO C t0)) (hnx : K.lookup x = none) (hroom : A.depth < recursionLimit)
    (hq : ∀ h' tk dx, InitEnd s.heap h' x C dx t0 v → R (.ok (.ret .none)) { s with heap := h', toks := tk }) :
    codeAny (model prog w) A (.call (.ref fI) ⟨[.ref x, v], []⟩) R s := by
  obtain ⟨oc, od, kV, doc, pm, an, cdv, ct, osl, p1, p2, q1, q2, q3, q4, ho, hcd⟩ := T.fn
  obtain ⟨nm, q, N, bs, sn, sub, ab, col, dd, k0, k1, k2, k3, k5, hC⟩ := Fs.ei_obj T.ei
  refine Att.call_fn (binds := [("self", .ref x), ("kind", v)]) X hlim ho hcd hroom (BindsTo.of_eq (by first | rfl | with_unfolding_all rfl)) (by first | rfl | decide | with_unfolding_all rfl) (fun s₁ IC => ?_) rfl rfl rfl
  obtain ⟨h₁, tk₁, rfl⟩ := IC.toInCall.same
  have k : ∀ b o, s.heap.get? b = some o → h₁.get? b = some o := IC.toInCall.keep
  have hn := IC.toInCall.ns
  have hxL : s.heap.objs.size ≠ x := Nat.ne_of_gt (Heap.lt_size hx)
  have X₁ : K.In h₁ := X.keeps k
  have hx₁ := k _ _ hx
  -- self.by = by
  show wpAny _ _ (execs _ _) _ _ _
  refine wpAny_execs_cons (plainObj_wpAny_Assign_Attribute ?_)
  refine ldC (v := v) hn (by first | rfl | with_unfolding_all rfl | kernel_rfl) (ldC (v := .ref x) hn (by first | rfl | with_unfolding_all rfl | kernel_rfl) ?_)
  refine set_plain X₁ (ox := excO C t0) (od := none) ⟨hx₁, rfl, rfl, trivial⟩ T.sa ?_
  refine Fh.osaG_new T.ei (Fh.BK.sf .oe) X₁ hx₁ T.noN (fun h₃ tk₃ dx k₃ dn dne hx₃ hn₃ => ?_)
  show wpAny _ _ (execs _ _) _ _ _
  have z : s.heap.objs.size < h₁.objs.size := hn.lt
  exact wpAny_execs_nil (hq h₃ tk₃ dx ⟨fun b o hb e => k₃ b o hb (k b o e), hx₃, Nat.le_of_lt (Nat.lt_of_lt_of_le z dn), dne, hn₃⟩)
theorem errF_made (T : ErrFxt K mg C fI) {v : Value} (X : K.In s.heap) (hlim : s.heap.NoLimit) (hroom : A.depth + 1 < recursionLimit)
    (hq : ∀ h' tk e d, OwnMade s.heap h' e C d v → R (.ok (.ret (.ref e))) { s with heap := h', toks := tk }) :
    codeAny (model prog w) A (.call (.ref C) ⟨[v], []⟩) R s := by
  obtain ⟨nm, q, N, bs, sn, sub, ab, col, dd, k0, k1, k2, k3, k5, hC⟩ := Fs.ei_obj T.ei
  obtain ⟨hp, g, dr, tk, os⟩ := s
  have k : ∀ b o, hp.get? b = some o → ((hp.push (kdv_tup [v])).push (excO C hp.objs.size)).get? b = some o := fun b o e => Heap.get?_push_of_some _ (Heap.get?_push_of_some _ e)
  have hget : ((hp.push (kdv_tup [v])).push (excO C hp.objs.size)).get? (hp.objs.size + 1) = some (excO C hp.objs.size) := by heap_get
  have hnx : K.lookup (hp.objs.size + 1) = none := by
    cases e : K.lookup (hp.objs.size + 1) with
    | none => rfl
    | some o =>
      have z : hp.get? (hp.objs.size + 1) = some o := X _ _ e
      exact absurd (Nat.lt_of_succ_lt (Heap.lt_size z)) (Nat.lt_irrefl _)
  refine call_own (Fh.BK.fb .oe) (fun _ => rfl) (X _ _ hC) (looks_findIn X T.iC) (fun self => bind_fn X self T.tC) (one_size v) ?_
  refine errF_init (s := ⟨(hp.push (kdv_tup [v])).push (excO C hp.objs.size), g, dr, tk, os⟩) T (X.keeps k) (hlim.keeps k) hget hnx ?_ fun h' tk' dx ⟨k', hx, dn, dne, hns⟩ => ?_
  · show A.depth + 1 < recursionLimit
    exact hroom
  · have old : ∀ b o, hp.get? b = some o → h'.get? b = some o := fun b o e => k' b o (Nat.ne_of_lt (Nat.lt_succ_of_lt (Heap.lt_size e))) (k b o e)
    have z : hp.objs.size + 1 + 1 ≤ dx := by
      first
        | (simpa only [Heap.size_push] using dn)
        | exact dn
        | (have q := dn; rw [Heap.size_push, Heap.size_push] at q; exact q)
    exact ⟨rfl, hq h' tk' (hp.objs.size + 1) dx ⟨old, Nat.le_succ _, ⟨_, _, hx, rfl, rfl, rfl, rfl⟩, Nat.le_trans (Nat.le_trans (Nat.le_succ _) (Nat.le_succ _)) z, dne, hns⟩⟩
end
end ErrF
end PySem
namespace L2
open PySem PySem.Spec PyProof.Rows
theorem relO_errF {v : V} {v' : Value} (r : RelV v v') (f : Str) : RelO (List.lookup f [(("kind" : Str), v)]) (if f = "kind" then some v' else none) := by
  by_cases hw : f = "kind"
  · subst hw
    rw [if_pos rfl]
    have q : List.lookup ("kind" : Str) [(("kind" : Str), v)] = some v := by simp [List.lookup]
    rw [q]
    exact r
  · rw [if_neg hw]
    have qw : (f == ("kind" : Str)) = false := by simpa using hw
    have q2 : List.lookup f [(("kind" : Str), v)] = none := by simp [List.lookup, qw]
    rw [q2]
    trivial
section
variable {X : Cx} {C fI : Addr}
/-- TooFew(e) -/
def tMkErrF (C : Addr) (ta : TA) : St → Hp → XK → Prop := fun σ H Q => ta σ H fun vs H1 => ∃ v, vs = [v] ∧ ∀ d, H1 d = none → Q (.ref C) (some d) (upd H1 d (.xd [(("kind" : Str), v)]))
theorem pmk_errF {a : Expr} {ta : TA} {p pos : Pos} {k : Nat} (T : PySem.ErrF.ErrFxt X.K X.mg C fI) (hr : Room k X.A) (ha : PA X [a] ta) (hg : Gl X "TooFew" := by rfl)
    (he : starEach (a :: []) X.env = (false, eval a X.env) :: starEach [] X.env := by rfl) (hpl : (backTo pos (starEach [] X.env)).any (·.1) = false := by rfl) :
    PMk X (.Call (.Name "TooFew" p) [a] [] pos) (tMkErrF C ta) := by
  intro pins s σ H Q I h
  refine wpAny_Call_Name_kw (ld_glob I hg T.gC ?_)
  refine PySem.W.callWith_K (h₀ := X.base) I.ok.mod.kin T.kC (thn (ha.run pos pins s σ H _ I h) fun us s1 hh => ?_) he hpl
  obtain ⟨vs, H1, I1, r1, v, ev, q1⟩ := hh
  subst ev
  refine ⟨I1.kIn, ?_⟩
  cases r1 with
  | cons rv rn =>
    rename_i v' us'
    cases rn
    show wpAny _ _ (call (.ref C) [v']) _ _ _
    have hlim := I1.nolimit
    obtain ⟨hp, g, dr, tk, os⟩ := s1
    refine wpAny_call (PySem.ErrF.errF_made T I1.kIn hlim (by have := hr.dp; omega) fun h' tk' e d M => ?_)
    show MkP X pins σ Q (.ref e) ⟨h', g, dr, tk', os⟩
    obtain ⟨oe, fv, hoe, hc, hd, hdat, h1⟩ := M.obj
    have hns := M.ns
    obtain ⟨G', g1, g2⟩ := restrict h' fun b => decide (b ≠ e)
    have gk : ∀ b, b ≠ e → G'.get? b = h'.get? b := fun b hb => g1 b (decide_eq_true hb)
    have ge : G'.get? e = none := g2 e (by simp)
    have old : ∀ b o, hp.get? b = some o → G'.get? b = some o := fun b o q => (gk b (Nat.ne_of_lt (Nat.lt_of_lt_of_le (Heap.lt_size q) M.new))).trans (M.keep b o q)
    have ob : ObjOk X.prog X.w (upd H1 d (.xd [(("kind" : Str), v)])) G' d (.xd [(("kind" : Str), v)]) :=
      ⟨_, hns.at (fun o q => (gk d M.dne).trans q), fun f => relO_errF rv f⟩
    have J : Inv X pins σ (upd H1 d (.xd [(("kind" : Str), v)])) ⟨G', g, dr, tk', os⟩ := I1.laid (t' := tk') old M.dbig ob
    refine ⟨e, oe, fv, ⟨G', g, dr, tk', os⟩, _, .ref C, some d, rfl, J, fun b o q => ?_, ge, hoe, ⟨hc, hd⟩, hdat, h1, ?_, rfl, I1.bare, raises_own T.exC T.tyC, q1 d (I1.hok.fresh M.dbig)⟩
    · by_cases hb : b = e
      · have q' : G'.get? b = some o := q
        rw [hb, ge] at q'; cases q'
      · exact (gk b hb).symm.trans q
    · rw [upd_ne (Ne.symm M.dne)]
      exact I1.hok.fresh M.new
/-- raise TooFew(e) -/
def tRaiseErrF (C : Addr) (W : WX) (ta : TA) : TS := fun _ σ H => tMkErrF C ta σ H fun cls d H' => W cls d σ H'
theorem ps_raiseErrF {a : Expr} {ta : TA} {W : WX} {p pos pos2 : Pos} {k : Nat} (hc : X.calm = true) (T : PySem.ErrF.ErrFxt X.K X.mg C fI) (hr : Room k X.A) (tk : Takes X W) (ha : PA X [a] ta) (hg : Gl X "TooFew" := by rfl)
    (he : starEach (a :: []) X.env = (false, eval a X.env) :: starEach [] X.env := by rfl) (hpl : (backTo pos (starEach [] X.env)).any (·.1) = false := by rfl) :
    PS X (.Raise (some (.Call (.Name "TooFew" p) [a] [] pos)) none pos2) (tRaiseErrF C W ta) := ps_raise hc tk (pmk_errF T hr ha hg he hpl)
/-- low.by, low the exception that the suite holds (at a; its class cls, its dict d) -/
def tErrFField (C : Addr) (a : Addr) (cls : Value) (d : Option Addr) (te : TE) : TE := fun σ H Q => te σ H fun x H1 => x = .ref a ∧ cls = .ref C ∧ ∃ (dd : Addr) (v : V), d = some dd ∧ H1 dd = some (.xd [(("kind" : Str), v)]) ∧ Q v H1
theorem pe_errFField {a : Addr} {oe : Obj} {cls : Value} {d : Option Addr} {pn : List (Addr × Obj)} {e : Expr} {te : TE} {pos : Pos} (T : PySem.ErrF.ErrFxt X.K X.mg C fI) (hz : Zc cls d oe) (hf : ∃ vs, oe.data = .fields vs) (he : PE (X.suite a ((a, oe) :: pn)) e te)
    (hb : attributeBase e "kind" X.env (eval e X.env) = eval e X.env := by rfl) :
    PE (X.suite a ((a, oe) :: pn)) (.Attribute e "kind" pos) (tErrFField C a cls d te) := by
  refine ⟨fun pins s σ H Q I h => ?_⟩
  refine attr_of hb (thn (he.run pins s σ H _ I h) fun u s1 hh => ?_)
  obtain ⟨x, H1, I1, rx, ex, ec, dd, v, ed, ea, q⟩ := hh
  subst ex
  obtain rfl : u = Value.ref a := rx
  subst ec
  subst ed
  obtain ⟨ha, _⟩ := I1.pin (a, oe) (List.mem_append_left _ List.mem_cons_self)
  obtain ⟨vs, hd⟩ := hf
  have hx : ObjOk X.prog X.w H1 s1.heap dd (.xd [(("kind" : Str), v)]) := I1.hok dd _ ea
  obtain ⟨mA, hns, hr⟩ := hx
  obtain ⟨od, ho, hl⟩ := lookIn_ns hns
  have l : List.lookup ("kind" : Str) [(("kind" : Str), v)] = some v := by simp [List.lookup]
  obtain ⟨u, hu, ru⟩ := RelO.some_of (v := v) (o := mA "kind") (by rw [← l]; exact hr "kind")
  have J : PySem.W.InstAt s1.heap a oe C (some od) := ⟨ha, hz.1, by unfold PySem.W.notCls; rw [hd] <;> rfl, by rw [hz.2]; exact ho⟩
  exact HandSPX.exc_get I1.kIn J T.ga T.gg T.exC (PySem.W.findObj_own T.hdC T.noN rfl (by rw [hl, hu])) (handed_of ru) ⟨v, H1, I1.tok _, ru, q⟩
end
end L2
set_option Elab.async false
set_option linter.all false
set_option maxRecDepth 100000
set_option maxHeartbeats 4000000
/-! FuD: the error TooFew where a suite holds it; its row of facts by the head's Bools -/
namespace Fs
open PySem PySem.Spec PyProof.Rows L2 Fh
open PySem.W (Frag)
theorem call_isEF {X : Cx} {a C fI : Addr} {oe : Obj} {cls : Value} {d : Option Addr} {pn : List (Addr × Obj)} (T : PySem.ErrF.ErrFxt X.K X.mg C fI) (U : ErrC X.K C) (hz : Zc cls d oe) (hf : ∃ vs, oe.data = .fields vs) : CallR (X.suite a ((a, oe) :: pn)) (.builtin "isinstance") (rIsED X.K C a cls d) := by
  intro pins s σ H xs us Q I r h
  obtain ⟨dd, fs, c, cv, b, rfl, ec, ed, hd, hc, e, q⟩ := h
  obtain ⟨u1, u2, rfl, r1, r2⟩ := vals2 r
  have e1 : u1 = Value.ref a := r1
  rw [e1, hc.eq r2]
  subst ec ed
  obtain ⟨ha, _⟩ := I.pin (a, oe) (List.mem_append_left _ List.mem_cons_self)
  obtain ⟨vs, hv⟩ := hf
  have hx : ObjOk X.prog X.w H s.heap dd (.xd fs) := I.hok dd _ hd
  obtain ⟨mA, hns, hr⟩ := hx
  obtain ⟨od, ho, hl⟩ := lookIn_ns hns
  have J : PySem.W.InstAt s.heap a oe C (some od) := ⟨ha, hz.1, by unfold PySem.W.notCls; rw [hv] <;> rfl, by rw [hz.2]; exact ho⟩
  exact PySem.W.kia_one (PySem.W.kitx_exc (od := some od) U.is T.ga T.gg T.exC U.cl U.hn U.ht U.hm) I.kIn J e (fun z => nomatch z) fun tk => ⟨.bl b, H, I.tok tk, rfl, q⟩
theorem errF_of {K : Frag} {mg : Str → Option Value} {C : Addr} (gC : mg "TooFew" = some (.ref C)) (T : EK K C .oe) {fI : Addr} (no : PySem.W.findIn K (.ref C) "kind" = some none) (iC : PySem.W.findIn K (.ref C) "__init__" = some (some (.ref fI))) (tI : PySem.W.typeIn K (.ref fI) = some (.type "function"))
    (fn : ∃ (oc : Value) (od : Option Addr) (kV doc pm : Value) (an : Option Addr) (cdv ct : Value) (osl : Array (Option Value)) (p1 p2 q1 q2 q3 q4 : Pos),
      K.lookup fI = some ⟨oc, od, .func (PySem.W.fnOf "__init__" "TooFew.__init__" (PySem.ErrF.iA p1 p2) (PySem.ErrF.iB q1 q2 q3 q4) PySem.ErrF.iS .none kV doc pm an cdv ct), osl⟩ ∧ PySem.W.codeIn K cdv "TooFew.__init__" = true) : PySem.ErrF.ErrFxt K mg C fI := by
  have sB : PySem.W.subIn K (.ref C) (.type "BaseException") = some true := by rw [T.sub]; rfl
  have sC : PySem.W.subIn K (.ref C) (.ref C) = some true := by rw [T.sub, List.contains_cons]; simp
  exact { gC := gC, ei := T, sa := T.sa, ga := T.ga, gg := T.gg, noN := no, iC := iC, tC := tI, kC := T.kC, exC := sB, tyC := T.ty, hdC := T.hd, te := PySem.W.exm_ref sB T.hd T.ty sC, fn := fn }
theorem errC_ofO {K : Frag} {C : Addr} (T : EK K C .oe) : ErrC K C := by
  obtain ⟨cd, h1, _⟩ := T.cls
  exact ⟨by rw [h1]; rfl, T.cl, T.hn, T.ht, by rw [T.mroI]; rfl⟩
theorem errO_of {K : Frag} {C : Addr} (T : EK K C .oe) : PySem.W.kitOne K (.ref C) (.type "OverflowError") = some true := by
  rw [T.kitT (by decide +kernel)]
  rfl
end Fs
set_option Elab.async false
set_option linter.all false
set_option maxRecDepth 100000
set_option maxHeartbeats 8000000
namespace Fs2
open PySem PySem.Spec PyProof.Rows L2 Fh Fs
open PySem.W (Frag)
theorem boot_max : bootBuiltins "max" = some (.builtin "max") := by decide +kernel
theorem boot_min : bootBuiltins "min" = some (.builtin "min") := by decide +kernel
theorem key_at {m : Num} {i : Nat} {kk : Key} {v : V} (h : (cD m)[i]? = some (kk, v)) : ∃ y n, kk = .inr y ∧ v = .int n ∧ (names m)[i]? = some y ∧ y ∈ names m := by
  unfold cD at h
  unfold names
  rw [List.getElem?_map] at h
  rw [List.getElem?_map]
  cases e : m[i]? with
  | none => rw [e] at h; cases h
  | some q =>
    rw [e] at h
    injection Option.some.inj h with h1 h2
    exact ⟨q.1, q.2, h1.symm, h2.symm, rfl, List.mem_map.mpr ⟨q, List.mem_of_getElem? e, rfl⟩⟩
/-- the look by [] -/
structure Gm (K : Frag) (CS gG aS kG pK : Addr) (fG fS fK : FuncData) (mg : Str → Option Value) : Prop where
  hG : PySem.W.findIn K (.ref CS) "__getitem__" = some (some (.ref gG))
  iG : PySem.W.fnIn K gG = true
  jG : PySem.W.isFn K (.ref gG) = true
  FG : Fun K "__getitem__" "Staff.__getitem__" sStG gG fG
  FS : Fun K "_staff" "_staff" sStf aS fS
  gS : mg "_staff" = some (.ref aS)
  pk : PropOf K CS "kinds" pK kG
  FK : Fun K "kinds" "Staff.kinds" sStK kG fK
theorem good_map {ys : List Str} {f : Str → Int} (nd : ys.Nodup) (l : ys.length ≤ 24) (w : ∀ y ∈ ys, Word y) (b : ∀ y ∈ ys, 0 ≤ f y ∧ f y ≤ 10 ^ 30) : Good (ys.map fun z => (z, f z)) := by
  refine ⟨by rw [names_map]; exact nd, by rw [List.length_map]; omega, fun q hq => ?_⟩
  obtain ⟨z, hz, rfl⟩ := List.mem_map.mp hq
  exact ⟨w z hz, (b z hz).1, (b z hz).2⟩
theorem map_take_succ {ys : List Str} {f : Str → Int} {i : Nat} {y : Str} (h : ys[i]? = some y) : (ys.take (i + 1)).map (fun z => (z, f z)) = (ys.take i).map (fun z => (z, f z)) ++ [(y, f y)] := by
  rw [take_snoc h, List.map_append]
  rfl
section
variable {P : Program} {w : World} {K : Frag} {mg : Str → Option Value} {base : Heap} {CP CS pI sI aW aH aU aC aK : Addr} {fW fH fU fC fK fPI fSI : FuncData} {gG aS kG pK : Addr} {fG fS fKi : FuncData} {f : Addr} {fd : FuncData}
def spAdd (CS : Addr) : Sp := fun vs H Q _ => ∃ a b m1 m2, vs = [.ref a, .ref b] ∧ StaffAt CS H a m1 ∧ StaffAt CS H b m2 ∧ Fit m1 ∧ Fit m2 ∧ m1.length + m2.length ≤ 12 ∧ (∀ y, num m1 y + num m2 y ≤ 10 ^ 30) ∧
  ∀ x r H', Same H H' → H x = none → StaffAt CS H' x r → Fit r → (∀ y, num r y = num m1 y + num m2 y) → Q (.ref x) H'
theorem scAdd : FnScope ["self", "other", "kinds", "kind"] ["self", "other"] (defScope sAdd) := ⟨rfl, rfl, rfl, by decide +kernel, rfl, by decide +kernel, by decide +kernel⟩
theorem ok_Add (G : Pkg K mg CP CS pI sI aW aH aU aC aK fW fH fU fC fK fPI fSI) (M : Gm K CS gG aS kG pK fG fS fKi mg) (TM : TxtM mg) (F : Fun K "__add__" "Staff.__add__" sAdd f fd) : FnOk P w K mg base CX0 6 f fd ["self", "other"] (spAdd CS) := by
  have GGe : FnOk P w K mg base CX0 1 gG fG ["self", "kind"] (spGR CS) := ok_getR G M.FG
  have GSt : FnOk P w K mg base CX0 5 aS fS ["numbers"] (spStf CS) := ok_stf G M.FS
  have bGe : Binds K fG ["self", "kind"] [] := M.FG.binds (ps := ["self", "kind"]) fun _ _ _ _ _ _ us hl => match us, hl with | [_, _], _ => rfl
  have bS : Binds K fS ["numbers"] [] := M.FS.binds (ps := ["numbers"]) fun _ _ _ _ _ _ us hl => match us, hl with | [_], _ => rfl
  refine F.ok scAdd (fun vs H Q E h => ?_) (fun cdv A outer s H vs Q E hr h => ?_)
  · obtain ⟨a, b, m1, m2, rfl, _⟩ := h
    rfl
  · obtain ⟨a, b, m1, m2, rfl, A1, A2, f1, f2, ll, hB, k⟩ := h
    have hr2 : Room 2 _ := hr.mono (by decide)
    refine ⟨_, pss_cons (ps_set (i := 2) scAdd.nd rfl (Or.inl rfl) (pe_disp2 (pe_fld (pv 0) rfl) (pe_fld (pv 1) rfl))) (pss_one (ps_ret (pe_call GSt hr rfl M.gS M.FS.kp bS .nil pass0 (pa_cons (pe_lock (pe_dc (own := [("kind", 3)]) (g := gName 3) (tt := tYes) rfl scAdd.nd (pi_keys (pv 2)) (blkOk_by (N := ["self", "other", "kinds", "kind"]) (sc := defScope sAdd) (by decide +kernel)) (fun _ _ _ _ _ => pg_name (i := 3) scAdd.nd rfl (Or.inl rfl)) (fun _ _ _ _ _ => pts_nil) (fun _ _ _ _ _ => pv 3) (fun _ _ _ _ _ => (pe_op op_add (pe_ixO M.hG M.iG M.jG (GGe.raw bGe .nil) hr2 pass0 (pv 0) (pv 3)) (pe_ixO M.hG M.iG M.jG (GGe.raw bGe .nil) hr2 pass0 (pv 1) (pv 3)))))) pa_nil)))), ?_⟩
    obtain ⟨dx, d1, ha, hd1⟩ := A1
    obtain ⟨dy, d2, hb, hd2⟩ := A2
    refine fun p hp => ?_
    have ne : ∀ {q : Addr} {o : HO}, H q = some o → q ≠ p := fun z e => by rw [e, hp] at z; cases z
    have up : ∀ {q : Addr} {o o2 : HO}, H q = some o → (upd H p o2) q = some o := fun z => by rw [upd_ne (ne z)]; exact z
    refine ⟨_, rfl, a, CS, dx, _, .ref d1, rfl, up ha, G.S.cl, G.noS, rfl, d1, cD m1, rfl, ne hd1, up hd1, upd_same, by rw [cD_len]; omega, ?_⟩
    rw [upd_upd]
    refine ⟨_, rfl, b, CS, dy, _, .ref d2, rfl, up hb, G.S.cl, G.noS, rfl, d2, cD m2, rfl, ne hd2, up hd2, upd_same, by rw [cD_len]; omega, ?_⟩
    rw [upd_upd, show mergeK [] (cD m1) = cD m1 from merge_new m1 [] f1.c.nd]
    obtain ⟨mm, em, ndm, im, lm⟩ := merge_iff m2 m1 f1.c.nd
    rw [em]
    have wm : ∀ y ∈ names mm, Word y := fun y hy => ((im y).mp hy).elim (f1.w y) (f2.w y)
    have sA : Same H (upd H p (.dK (cD mm))) := Same.new hp
    have B1 : StaffAt CS (upd H p (.dK (cD mm))) a m1 := ⟨dx, d1, up ha, up hd1⟩
    have B2 : StaffAt CS (upd H p (.dK (cD mm))) b m2 := ⟨dy, d2, up hb, up hd2⟩
    have hm : (upd H p (.dK (cD mm))) p = some (.dK (cD mm)) := upd_same
    generalize upd H p (.dK (cD mm)) = HA at sA B1 B2 hm ⊢
    have hf0 : ∀ y, y ∉ names mm → num m1 y + num m2 y = 0 := fun y hy => by
      have h1 : y ∉ names m1 := fun z => hy ((im y).mpr (.inl z))
      have h2 : y ∉ names m2 := fun z => hy ((im y).mpr (.inr z))
      rw [num_none h1, num_none h2]
      rfl
    refine ⟨p, .dK (cD mm), hm, trivial, fun od => ?_⟩
    have fz : (upd HA p (.frz od (.dK (cD mm)))) p = some (.frz od (.dK (cD mm))) := upd_same
    refine ⟨_, rfl, p, od, rfl, .inl ⟨cD mm, fz, fun D hD => ?_⟩⟩
    have hDd : D ≠ p := fun z => by rw [z, fz] at hD; cases hD
    have R1 := StaffR.lock (od := od) hm B1.r
    have R2 := StaffR.lock (od := od) hm B2.r
    have lk := lock_back (od := od) (Hk := upd HA p (.frz od (.dK (cD mm)))) hm (Same.refl _)
    have dd : Addr := p
    obtain ⟨ex1, ed1, ea1, er1⟩ := R1
    obtain ⟨ex2, ed2, ea2, er2⟩ := R2
    refine dc_it walk_keys (fun i Hi => Same (upd HA p (.frz od (.dK (cD mm)))) Hi ∧ Hi D = some (.dK (cD (((names mm).take i).map fun y => (y, num m1 y + num m2 y))))) ⟨Same.new hD, upd_same⟩ (fun _ _ _ z => z.1 _ _ fz) ?_ ?_
    · rintro i x Hi Hj hi ⟨s1, e1⟩ ⟨rfl, kk, v, hk, rfl⟩
      obtain ⟨y, n, rfl, _, gy, my⟩ := key_at hk
      have nw : y ∉ names (((names mm).take i).map fun y => (y, num m1 y + num m2 y)) := by rw [names_map]; exact not_before ndm gy
      refine ⟨rfl, ?_⟩
      refine yes_of ?_
      refine ⟨_, rfl, _, rfl, _, rfl, a, ex1, _, rfl, s1 _ _ ea1, a, m1, y, rfl, StaffR.same s1 ⟨ex1, ed1, ea1, er1⟩, _, rfl, _, rfl, b, ex2, _, rfl, s1 _ _ ea2, b, m2, y, rfl, StaffR.same s1 ⟨ex2, ed2, ea2, er2⟩, _, _, rfl, rfl, _, .inr y, rfl, e1, ?_, fun b o z => by rw [upd_ne (ne_of_none z hD)]; exact s1 b o z, ?_⟩
      · rw [cD_len, List.length_map, List.length_take, names_len, sizeLine_eq]
        omega
      · rw [putK_new nw, map_take_succ gy, cD_snoc, upd_same]
    · rintro Hi ⟨s1, e1⟩
      have len : (cD mm).length = (names mm).length := by rw [cD_len, names_len]
      rw [len, List.take_length] at e1
      refine ⟨s1 _ _ fz, D, (names mm).map fun y => (y, num m1 y + num m2 y), rfl, by rw [upd_ne hDd]; exact e1, good_map ndm (by rw [names_len]; omega) wm (fun y hy => ?_), by rw [List.length_map, names_len]; omega, fun x r H' s' nx X fr nr => ?_⟩
      · have p1 := num_nn f1.c y
        have p2 := num_nn f2.c y
        have q1 := f1.u y
        have q2 := f2.u y
        have q := hB y
        omega
      · have sB := (sA.trans (lock_back (od := od) hm s1))
        refine k x r H' (sB.trans s') (none_back sB nx) X fr fun y => ?_
        rw [nr y, num_map ndm]
        by_cases hy : y ∈ names mm
        · rw [if_pos hy]
        · rw [if_neg hy, hf0 y hy]
def spOr (CS : Addr) : Sp := fun vs H Q _ => ∃ a b m1 m2, vs = [.ref a, .ref b] ∧ StaffAt CS H a m1 ∧ StaffAt CS H b m2 ∧ Fit m1 ∧ Fit m2 ∧ m1.length + m2.length ≤ 12 ∧ 
  ∀ x r H', Same H H' → H x = none → StaffAt CS H' x r → Fit r → (∀ y, num r y = (if num m2 y > num m1 y then num m2 y else num m1 y)) → Q (.ref x) H'
theorem scOr : FnScope ["self", "other", "kinds", "kind"] ["self", "other"] (defScope sOr) := ⟨rfl, rfl, rfl, by decide +kernel, rfl, by decide +kernel, by decide +kernel⟩
theorem ok_Or (G : Pkg K mg CP CS pI sI aW aH aU aC aK fW fH fU fC fK fPI fSI) (M : Gm K CS gG aS kG pK fG fS fKi mg) (TM : TxtM mg) (F : Fun K "__or__" "Staff.__or__" sOr f fd) : FnOk P w K mg base CX0 6 f fd ["self", "other"] (spOr CS) := by
  have GGe : FnOk P w K mg base CX0 1 gG fG ["self", "kind"] (spGR CS) := ok_getR G M.FG
  have GSt : FnOk P w K mg base CX0 5 aS fS ["numbers"] (spStf CS) := ok_stf G M.FS
  have bGe : Binds K fG ["self", "kind"] [] := M.FG.binds (ps := ["self", "kind"]) fun _ _ _ _ _ _ us hl => match us, hl with | [_, _], _ => rfl
  have bS : Binds K fS ["numbers"] [] := M.FS.binds (ps := ["numbers"]) fun _ _ _ _ _ _ us hl => match us, hl with | [_], _ => rfl
  refine F.ok scOr (fun vs H Q E h => ?_) (fun cdv A outer s H vs Q E hr h => ?_)
  · obtain ⟨a, b, m1, m2, rfl, _⟩ := h
    rfl
  · obtain ⟨a, b, m1, m2, rfl, A1, A2, f1, f2, ll, k⟩ := h
    have hr2 : Room 2 _ := hr.mono (by decide)
    refine ⟨_, pss_cons (ps_set (i := 2) scOr.nd rfl (Or.inl rfl) (pe_disp2 (pe_fld (pv 0) rfl) (pe_fld (pv 1) rfl))) (pss_one (ps_ret (pe_call GSt hr rfl M.gS M.FS.kp bS .nil pass0 (pa_cons (pe_lock (pe_dc (own := [("kind", 3)]) (g := gName 3) (tt := tYes) rfl scOr.nd (pi_keys (pv 2)) (blkOk_by (N := ["self", "other", "kinds", "kind"]) (sc := defScope sOr) (by decide +kernel)) (fun _ _ _ _ _ => pg_name (i := 3) scOr.nd rfl (Or.inl rfl)) (fun _ _ _ _ _ => pts_nil) (fun _ _ _ _ _ => pv 3) (fun _ _ _ _ _ => (pe_callB (call_max2 rfl) (by rfl) TM.max boot_max (pa_cons (pe_ixO M.hG M.iG M.jG (GGe.raw bGe .nil) hr2 pass0 (pv 0) (pv 3)) (pa_cons (pe_ixO M.hG M.iG M.jG (GGe.raw bGe .nil) hr2 pass0 (pv 1) (pv 3)) pa_nil)))))) pa_nil)))), ?_⟩
    obtain ⟨dx, d1, ha, hd1⟩ := A1
    obtain ⟨dy, d2, hb, hd2⟩ := A2
    refine fun p hp => ?_
    have ne : ∀ {q : Addr} {o : HO}, H q = some o → q ≠ p := fun z e => by rw [e, hp] at z; cases z
    have up : ∀ {q : Addr} {o o2 : HO}, H q = some o → (upd H p o2) q = some o := fun z => by rw [upd_ne (ne z)]; exact z
    refine ⟨_, rfl, a, CS, dx, _, .ref d1, rfl, up ha, G.S.cl, G.noS, rfl, d1, cD m1, rfl, ne hd1, up hd1, upd_same, by rw [cD_len]; omega, ?_⟩
    rw [upd_upd]
    refine ⟨_, rfl, b, CS, dy, _, .ref d2, rfl, up hb, G.S.cl, G.noS, rfl, d2, cD m2, rfl, ne hd2, up hd2, upd_same, by rw [cD_len]; omega, ?_⟩
    rw [upd_upd, show mergeK [] (cD m1) = cD m1 from merge_new m1 [] f1.c.nd]
    obtain ⟨mm, em, ndm, im, lm⟩ := merge_iff m2 m1 f1.c.nd
    rw [em]
    have wm : ∀ y ∈ names mm, Word y := fun y hy => ((im y).mp hy).elim (f1.w y) (f2.w y)
    have sA : Same H (upd H p (.dK (cD mm))) := Same.new hp
    have B1 : StaffAt CS (upd H p (.dK (cD mm))) a m1 := ⟨dx, d1, up ha, up hd1⟩
    have B2 : StaffAt CS (upd H p (.dK (cD mm))) b m2 := ⟨dy, d2, up hb, up hd2⟩
    have hm : (upd H p (.dK (cD mm))) p = some (.dK (cD mm)) := upd_same
    generalize upd H p (.dK (cD mm)) = HA at sA B1 B2 hm ⊢
    have hf0 : ∀ y, y ∉ names mm → (if num m2 y > num m1 y then num m2 y else num m1 y) = 0 := fun y hy => by
      have h1 : y ∉ names m1 := fun z => hy ((im y).mpr (.inl z))
      have h2 : y ∉ names m2 := fun z => hy ((im y).mpr (.inr z))
      rw [num_none h1, num_none h2]
      rfl
    refine ⟨p, .dK (cD mm), hm, trivial, fun od => ?_⟩
    have fz : (upd HA p (.frz od (.dK (cD mm)))) p = some (.frz od (.dK (cD mm))) := upd_same
    refine ⟨_, rfl, p, od, rfl, .inl ⟨cD mm, fz, fun D hD => ?_⟩⟩
    have hDd : D ≠ p := fun z => by rw [z, fz] at hD; cases hD
    have R1 := StaffR.lock (od := od) hm B1.r
    have R2 := StaffR.lock (od := od) hm B2.r
    have lk := lock_back (od := od) (Hk := upd HA p (.frz od (.dK (cD mm)))) hm (Same.refl _)
    have dd : Addr := p
    obtain ⟨ex1, ed1, ea1, er1⟩ := R1
    obtain ⟨ex2, ed2, ea2, er2⟩ := R2
    refine dc_it walk_keys (fun i Hi => Same (upd HA p (.frz od (.dK (cD mm)))) Hi ∧ Hi D = some (.dK (cD (((names mm).take i).map fun y => (y, (if num m2 y > num m1 y then num m2 y else num m1 y)))))) ⟨Same.new hD, upd_same⟩ (fun _ _ _ z => z.1 _ _ fz) ?_ ?_
    · rintro i x Hi Hj hi ⟨s1, e1⟩ ⟨rfl, kk, v, hk, rfl⟩
      obtain ⟨y, n, rfl, _, gy, my⟩ := key_at hk
      have nw : y ∉ names (((names mm).take i).map fun y => (y, (if num m2 y > num m1 y then num m2 y else num m1 y))) := by rw [names_map]; exact not_before ndm gy
      refine ⟨rfl, ?_⟩
      refine yes_of ?_
      refine ⟨_, rfl, _, rfl, _, rfl, a, ex1, _, rfl, s1 _ _ ea1, a, m1, y, rfl, StaffR.same s1 ⟨ex1, ed1, ea1, er1⟩, _, rfl, _, rfl, b, ex2, _, rfl, s1 _ _ ea2, b, m2, y, rfl, StaffR.same s1 ⟨ex2, ed2, ea2, er2⟩, _, _, rfl, _, .inr y, rfl, e1, ?_, fun b o z => by rw [upd_ne (ne_of_none z hD)]; exact s1 b o z, ?_⟩
      · rw [cD_len, List.length_map, List.length_take, names_len, sizeLine_eq]
        omega
      · rw [putK_new nw, map_take_succ gy, cD_snoc, upd_same]
    · rintro Hi ⟨s1, e1⟩
      have len : (cD mm).length = (names mm).length := by rw [cD_len, names_len]
      rw [len, List.take_length] at e1
      refine ⟨s1 _ _ fz, D, (names mm).map fun y => (y, (if num m2 y > num m1 y then num m2 y else num m1 y)), rfl, by rw [upd_ne hDd]; exact e1, good_map ndm (by rw [names_len]; omega) wm (fun y hy => ?_), by rw [List.length_map, names_len]; omega, fun x r H' s' nx X fr nr => ?_⟩
      · have p1 := num_nn f1.c y
        have p2 := num_nn f2.c y
        have q1 := f1.u y
        have q2 := f2.u y
        constructor <;> split <;> omega
      · have sB := (sA.trans (lock_back (od := od) hm s1))
        refine k x r H' (sB.trans s') (none_back sB nx) X fr fun y => ?_
        rw [nr y, num_map ndm]
        by_cases hy : y ∈ names mm
        · rw [if_pos hy]
        · rw [if_neg hy, hf0 y hy]
def spAnd (CS : Addr) : Sp := fun vs H Q _ => ∃ a b m1 m2, vs = [.ref a, .ref b] ∧ StaffAt CS H a m1 ∧ StaffAt CS H b m2 ∧ Fit m1 ∧ Fit m2 ∧ m1.length + m2.length ≤ 12 ∧ 
  ∀ x r H', Same H H' → H x = none → StaffAt CS H' x r → Fit r → (∀ y, num r y = (if num m2 y < num m1 y then num m2 y else num m1 y)) → Q (.ref x) H'
theorem scAnd : FnScope ["self", "other", "kind"] ["self", "other"] (defScope sAnd) := ⟨rfl, rfl, rfl, by decide +kernel, rfl, by decide +kernel, by decide +kernel⟩
theorem ok_And (G : Pkg K mg CP CS pI sI aW aH aU aC aK fW fH fU fC fK fPI fSI) (M : Gm K CS gG aS kG pK fG fS fKi mg) (TM : TxtM mg) (F : Fun K "__and__" "Staff.__and__" sAnd f fd) : FnOk P w K mg base CX0 6 f fd ["self", "other"] (spAnd CS) := by
  have GGe : FnOk P w K mg base CX0 1 gG fG ["self", "kind"] (spGR CS) := ok_getR G M.FG
  have GSt : FnOk P w K mg base CX0 5 aS fS ["numbers"] (spStf CS) := ok_stf G M.FS
  have bGe : Binds K fG ["self", "kind"] [] := M.FG.binds (ps := ["self", "kind"]) fun _ _ _ _ _ _ us hl => match us, hl with | [_, _], _ => rfl
  have bS : Binds K fS ["numbers"] [] := M.FS.binds (ps := ["numbers"]) fun _ _ _ _ _ _ us hl => match us, hl with | [_], _ => rfl
  refine F.ok scAnd (fun vs H Q E h => ?_) (fun cdv A outer s H vs Q E hr h => ?_)
  · obtain ⟨a, b, m1, m2, rfl, _⟩ := h
    rfl
  · obtain ⟨a, b, m1, m2, rfl, A1, A2, f1, f2, ll, k⟩ := h
    have hr2 : Room 2 _ := hr.mono (by decide)
    refine ⟨_, (pss_one (ps_ret (pe_call GSt hr rfl M.gS M.FS.kp bS .nil pass0 (pa_cons (pe_lock (pe_dc (own := [("kind", 2)]) (g := gName 2) (tt := tYes) rfl scAnd.nd (pi_keys (pe_fld (pv 0) rfl)) (blkOk_by (N := ["self", "other", "kind"]) (sc := defScope sAnd) (by decide +kernel)) (fun _ _ _ _ _ => pg_name (i := 2) scAnd.nd rfl (Or.inl rfl)) (fun _ _ _ _ _ => pts_nil) (fun _ _ _ _ _ => pv 2) (fun _ _ _ _ _ => (pe_callB (call_min2 rfl) (by rfl) TM.min boot_min (pa_cons (pe_ixO M.hG M.iG M.jG (GGe.raw bGe .nil) hr2 pass0 (pv 0) (pv 2)) (pa_cons (pe_ixO M.hG M.iG M.jG (GGe.raw bGe .nil) hr2 pass0 (pv 1) (pv 2)) pa_nil)))))) pa_nil)))), ?_⟩
    obtain ⟨dx, d1, ha, hd1⟩ := A1
    have B1 : StaffAt CS H a m1 := ⟨dx, d1, ha, hd1⟩
    have B2 := A2
    have sA : Same H H := Same.refl H
    have hm := hd1
    have ndm := f1.c.nd
    have wm := f1.w
    have hf0 : ∀ y, y ∉ names m1 → (if num m2 y < num m1 y then num m2 y else num m1 y) = 0 := fun y hy => by
      rw [num_none hy]
      have p2 := num_nn f2.c y
      rw [if_neg (by omega)]
    refine ⟨d1, .dK (cD m1), hm, trivial, fun od => ?_⟩
    have fz : (upd H d1 (.frz od (.dK (cD m1)))) d1 = some (.frz od (.dK (cD m1))) := upd_same
    have R1 := StaffR.lock (od := od) hm B1.r
    have R2 := StaffR.lock (od := od) hm B2.r
    have ha1 : (upd H d1 (.frz od (.dK (cD m1)))) a = some (.ins CS dx [("_numbers", .ref d1)]) := by rw [upd_ne (fun z => by rw [z, hd1] at ha; cases ha)]; exact ha
    refine ⟨_, rfl, a, CS, dx, _, .ref d1, rfl, ha1, G.S.cl, G.noS, rfl, d1, od, rfl, .inl ⟨cD m1, fz, fun D hD => ?_⟩⟩
    have hDd : D ≠ d1 := fun z => by rw [z, fz] at hD; cases hD
    obtain ⟨ex1, ed1, ea1, er1⟩ := R1
    obtain ⟨ex2, ed2, ea2, er2⟩ := R2
    refine dc_it walk_keys (fun i Hi => Same (upd H d1 (.frz od (.dK (cD m1)))) Hi ∧ Hi D = some (.dK (cD (((names m1).take i).map fun y => (y, (if num m2 y < num m1 y then num m2 y else num m1 y)))))) ⟨Same.new hD, upd_same⟩ (fun _ _ _ z => z.1 _ _ fz) ?_ ?_
    · rintro i x Hi Hj hi ⟨s1, e1⟩ ⟨rfl, kk, v, hk, rfl⟩
      obtain ⟨y, n, rfl, _, gy, my⟩ := key_at hk
      have nw : y ∉ names (((names m1).take i).map fun y => (y, (if num m2 y < num m1 y then num m2 y else num m1 y))) := by rw [names_map]; exact not_before ndm gy
      refine ⟨rfl, ?_⟩
      refine yes_of ?_
      refine ⟨_, rfl, _, rfl, _, rfl, a, ex1, _, rfl, s1 _ _ ea1, a, m1, y, rfl, StaffR.same s1 ⟨ex1, ed1, ea1, er1⟩, _, rfl, _, rfl, b, ex2, _, rfl, s1 _ _ ea2, b, m2, y, rfl, StaffR.same s1 ⟨ex2, ed2, ea2, er2⟩, _, _, rfl, _, .inr y, rfl, e1, ?_, fun b o z => by rw [upd_ne (ne_of_none z hD)]; exact s1 b o z, ?_⟩
      · rw [cD_len, List.length_map, List.length_take, names_len, sizeLine_eq]
        omega
      · rw [putK_new nw, map_take_succ gy, cD_snoc, upd_same]
    · rintro Hi ⟨s1, e1⟩
      have len : (cD m1).length = (names m1).length := by rw [cD_len, names_len]
      rw [len, List.take_length] at e1
      refine ⟨s1 _ _ fz, D, (names m1).map fun y => (y, (if num m2 y < num m1 y then num m2 y else num m1 y)), rfl, by rw [upd_ne hDd]; exact e1, good_map ndm (by rw [names_len]; omega) wm (fun y hy => ?_), by rw [List.length_map, names_len]; omega, fun x r H' s' nx X fr nr => ?_⟩
      · have p1 := num_nn f1.c y
        have p2 := num_nn f2.c y
        have q1 := f1.u y
        have q2 := f2.u y
        constructor <;> split <;> omega
      · have sB := (sA.trans (lock_back (od := od) hm s1))
        refine k x r H' (sB.trans s') (none_back sB nx) X fr fun y => ?_
        rw [nr y, num_map ndm]
        by_cases hy : y ∈ names m1
        · rw [if_pos hy]
        · rw [if_neg hy, hf0 y hy]
end
end Fs2
set_option Elab.async false
set_option linter.all false
set_option maxRecDepth 100000
set_option maxHeartbeats 8000000
namespace Fs2
open PySem PySem.Spec PyProof.Rows L2 Fh Fs
open PySem.W (Frag)
section
variable {P : Program} {w : World} {K : Frag} {mg : Str → Option Value} {base : Heap} {CP CS pI sI aW aH aU aC aK CE aE : Addr} {fW fH fU fC fK fPI fSI : FuncData} {gG aS kG pK : Addr} {fG fS fKi : FuncData} {f : Addr} {fd : FuncData}
def spSub (CS CE : Addr) : Sp := fun vs H Q E => ∃ a b m1 m2, vs = [.ref a, .ref b] ∧ StaffAt CS H a m1 ∧ StaffAt CS H b m2 ∧ Fit m1 ∧ Fit m2 ∧ m1.length + m2.length ≤ 12 ∧
  ((∀ y, num m2 y ≤ num m1 y) → ∀ x r H', Same H H' → H x = none → StaffAt CS H' x r → Fit r → (∀ y, num r y = num m1 y - num m2 y) → Q (.ref x) H') ∧
  (∀ (i : Nat) k dd H', (names m2)[i]? = some k → num m1 k < num m2 k → (∀ z ∈ (names m2).take i, num m2 z ≤ num m1 z) → Same H H' → H' dd = some (.xd [("kind", .str k)]) → E (.ref CE) (some dd) H')
abbrev NSb : List Str := ["self", "other", "kind"]
theorem scSub : FnScope NSb ["self", "other"] (defScope sSub) := ⟨rfl, rfl, rfl, by decide +kernel, rfl, by decide +kernel, by decide +kernel⟩
theorem ok_Sub (G : Pkg K mg CP CS pI sI aW aH aU aC aK fW fH fU fC fK fPI fSI) (M : Gm K CS gG aS kG pK fG fS fKi mg) (EF : PySem.ErrF.ErrFxt K mg CE aE) (F : Fun K "__sub__" "Staff.__sub__" sSub f fd) : FnOk P w K mg base (L2.CX P w) 6 f fd ["self", "other"] (spSub CS CE) := by
  have GGe : FnOk P w K mg base CX0 1 gG fG ["self", "kind"] (spGR CS) := ok_getR G M.FG
  have GSt : FnOk P w K mg base CX0 5 aS fS ["numbers"] (spStf CS) := ok_stf G M.FS
  have GKi : FnOk P w K mg base CX0 1 kG fKi ["self"] (spK CS) := ok_kinds G M.FK
  have bGe : Binds K fG ["self", "kind"] [] := M.FG.binds (ps := ["self", "kind"]) fun _ _ _ _ _ _ us hl => match us, hl with | [_, _], _ => rfl
  have bS : Binds K fS ["numbers"] [] := M.FS.binds (ps := ["numbers"]) fun _ _ _ _ _ _ us hl => match us, hl with | [_], _ => rfl
  have bKi : Binds K fKi ["self"] [] := M.FK.binds (ps := ["self"]) fun _ _ _ _ _ _ us hl => match us, hl with | [_], _ => rfl
  refine F.okX scSub (fun vs H Q E h => ?_) (fun cdv A outer s H vs Q E hr h => ?_)
  · obtain ⟨a, b, m1, m2, rfl, _⟩ := h
    rfl
  · obtain ⟨a, b, m1, m2, rfl, A1, A2, f1, f2, ll, k, kE⟩ := h
    have hr1 : Room 1 _ := hr.mono (by decide)
    have hr2 : Room 2 _ := hr.mono (by decide)
    refine ⟨_, pss_cons (ps_for (passes_of rfl) rfl (pi_tup (pe_prop (pv 1) G.S.cl M.pk GKi hr2 bKi .nil pass0 (by rfl))) (pg_name (i := 2) scSub.nd rfl (Or.inl rfl))
      (pss_one (ps_if (pt_cmpR op_lt (pe_ixO M.hG M.iG M.jG (GGe.raw bGe .nil) hr2 pass0 (pv 0) (pv 2)) (pe_ixO M.hG M.iG M.jG (GGe.raw bGe .nil) hr2 pass0 (pv 1) (pv 2)) (nomark _)) (pss_one (ps_raiseErrF rfl EF hr1 (takes_of rfl rfl rfl rfl) (by exact (pa_cons (pv 2) pa_nil)))) pss_nil)))
      (pss_one (ps_ret (pe_call GSt hr rfl M.gS M.FS.kp bS .nil pass0 (pa_cons (pe_lock (pe_dc (own := [("kind", 2)]) (g := gName 2) (tt := tYes) rfl scSub.nd (pi_keys (pe_fld (pv 0) rfl)) (blkOk_by (N := NSb) (sc := defScope sSub) (by decide +kernel)) (fun _ _ _ _ _ => pg_name (i := 2) scSub.nd rfl (Or.inl rfl)) (fun _ _ _ _ _ => pts_nil) (fun _ _ _ _ _ => pv 2)
        (fun _ _ _ _ _ => pe_op op_sub (pe_ixO M.hG M.iG M.jG (GGe.raw bGe .nil) hr2 pass0 (pv 0) (pv 2)) (pe_ixO M.hG M.iG M.jG (GGe.raw bGe .nil) hr2 pass0 (pv 1) (pv 2))))) pa_nil)))), ?_⟩
    obtain ⟨dx, d1, ha, hd1⟩ := A1
    obtain ⟨dy, d2, hb, hd2⟩ := A2
    have B1 : StaffAt CS H a m1 := ⟨dx, d1, ha, hd1⟩
    have B2 : StaffAt CS H b m2 := ⟨dy, d2, hb, hd2⟩
    refine ⟨_, rfl, b, dy, _, rfl, hb, b, m2, rfl, B2, fun p hp => ?_⟩
    have s0 : Same H (upd H p (.tup ((names m2).map V.str))) := Same.new hp
    have hT : (upd H p (.tup ((names m2).map V.str))) p = some (.tup ((names m2).map V.str)) := upd_same
    generalize upd H p (.tup ((names m2).map V.str)) = H0 at s0 hT ⊢
    refine ⟨p, rfl, ⟨_, SqT.of hT⟩, for_tup (xs := (names m2).map V.str) (fun i σ H' => ∃ x2, σ = [some (V.ref a), some (.ref b), x2] ∧ Same H0 H' ∧ ∀ z ∈ (names m2).take i, num m2 z ≤ num m1 z) ⟨none, rfl, Same.refl _, (fun _ z => nomatch z)⟩ (fun _ _ _ _ ⟨_, _, z, _⟩ => SqT.of (z _ _ hT)) ?_ ?_⟩
    · rintro i x σ H' hx ⟨x2, rfl, s1, lo⟩
      obtain ⟨y, gy, rfl, my⟩ := at_str hx
      have s01 := s0.trans s1
      refine ⟨_, rfl, _, rfl, a, dx, _, rfl, s01 _ _ ha, a, m1, y, rfl, (B1.same s01).r, _, rfl, _, rfl, b, dy, _, rfl, s01 _ _ hb, b, m2, y, rfl, (B2.same s01).r, _, _, rfl, rfl, _, rfl, ite2 (fun c => ?_) (fun c => ?_)⟩
      · refine ⟨_, rfl, _, rfl, fun dd ndd => ?_⟩
        exact kE i y dd _ gy (of_decide_eq_true c) lo (s01.trans (Same.new ndd)) upd_same
      · have nc : ¬ num m1 y < num m2 y := fun z => c (decide_eq_true z)
        refine ⟨_, rfl, s1, fun z hz => ?_⟩
        rw [take_snoc gy] at hz
        rcases List.mem_append.mp hz with q | q
        · exact lo z q
        · rw [List.mem_singleton.mp q]; omega
    · rintro σ H1 ⟨x2, rfl, s1, lo⟩
      rw [List.length_map, List.take_length] at lo
      have all : ∀ y, num m2 y ≤ num m1 y := fun y => by
        by_cases h : y ∈ names m2
        · exact lo y h
        · rw [num_none h]; exact num_nn f1.c y
      have s01 := s0.trans s1
      have B1 := B1.same s01
      have B2 := B2.same s01
      have ha := s01 _ _ ha
      have hm := s01 _ _ hd1
      have ndm := f1.c.nd
      have hf0 : ∀ y, y ∉ names m1 → num m1 y - num m2 y = 0 := fun y hy => by
        have q := all y
        have p2 := num_nn f2.c y
        rw [num_none hy] at q ⊢
        omega
      refine ⟨d1, .dK (cD m1), hm, trivial, fun od => ?_⟩
      have fz : (upd H1 d1 (.frz od (.dK (cD m1)))) d1 = some (.frz od (.dK (cD m1))) := upd_same
      have R1 := StaffR.lock (od := od) hm B1.r
      have R2 := StaffR.lock (od := od) hm B2.r
      have ha1 : (upd H1 d1 (.frz od (.dK (cD m1)))) a = some (.ins CS dx [("_numbers", .ref d1)]) := by rw [upd_ne (fun z => by rw [z, hm] at ha; cases ha)]; exact ha
      refine ⟨_, rfl, a, CS, dx, _, .ref d1, rfl, ha1, G.S.cl, G.noS, rfl, d1, od, rfl, .inl ⟨cD m1, fz, fun D hD => ?_⟩⟩
      have hDd : D ≠ d1 := fun z => by rw [z, fz] at hD; cases hD
      obtain ⟨ex1, ed1, ea1, er1⟩ := R1
      obtain ⟨ex2, ed2, ea2, er2⟩ := R2
      refine dc_it walk_keys (fun i Hi => Same (upd H1 d1 (.frz od (.dK (cD m1)))) Hi ∧ Hi D = some (.dK (cD (((names m1).take i).map fun y => (y, num m1 y - num m2 y))))) ⟨Same.new hD, upd_same⟩ (fun _ _ _ z => z.1 _ _ fz) ?_ ?_
      · rintro i x Hi Hj hi ⟨s2, e2⟩ ⟨rfl, kk, v, hk, rfl⟩
        obtain ⟨y, n, rfl, _, gy, my⟩ := key_at hk
        have nw : y ∉ names (((names m1).take i).map fun y => (y, num m1 y - num m2 y)) := by rw [names_map]; exact not_before ndm gy
        refine ⟨rfl, ?_⟩
        refine yes_of ?_
        refine ⟨_, rfl, _, rfl, _, rfl, a, ex1, _, rfl, s2 _ _ ea1, a, m1, y, rfl, StaffR.same s2 ⟨ex1, ed1, ea1, er1⟩, _, rfl, _, rfl, b, ex2, _, rfl, s2 _ _ ea2, b, m2, y, rfl, StaffR.same s2 ⟨ex2, ed2, ea2, er2⟩, _, _, rfl, rfl, _, .inr y, rfl, e2, ?_, fun b o z => by rw [upd_ne (ne_of_none z hD)]; exact s2 b o z, ?_⟩
        · rw [cD_len, List.length_map, List.length_take, names_len, sizeLine_eq]
          omega
        · rw [putK_new nw, map_take_succ (f := fun y => num m1 y - num m2 y) gy, cD_snoc, upd_same]
      · rintro Hi ⟨s2, e2⟩
        have len : (cD m1).length = (names m1).length := by rw [cD_len, names_len]
        rw [len, List.take_length] at e2
        refine ⟨s2 _ _ fz, D, (names m1).map fun y => (y, num m1 y - num m2 y), rfl, by rw [upd_ne hDd]; exact e2, good_map ndm (by rw [names_len]; omega) f1.w (fun y hy => ?_), by rw [List.length_map, names_len]; omega, fun x r H' s' nx X fr nr => ?_⟩
        · have p2 := num_nn f2.c y
          have q1 := f1.u y
          have q := all y
          constructor <;> omega
        · have sB := s01.trans (lock_back (od := od) hm s2)
          refine k all x r H' (sB.trans s') (none_back sB nx) X fr fun y => ?_
          rw [nr y, num_map ndm]
          by_cases hy : y ∈ names m1
          · rw [if_pos hy]
          · rw [if_neg hy, hf0 y hy]
def spFit (CS : Addr) : Sp := fun vs H Q _ => ∃ a b m1 m2, vs = [.ref a, .ref b] ∧ StaffAt CS H a m1 ∧ StaffAt CS H b m2 ∧ Fit m1 ∧ Fit m2 ∧ ∀ H', Same H H' → Q (.bl ((names m1).all fun y => decide (num m1 y ≤ num m2 y))) H'
theorem scFit : FnScope NSb ["self", "other"] (defScope sFit) := ⟨rfl, rfl, rfl, by decide +kernel, rfl, by decide +kernel, by decide +kernel⟩
theorem ok_Fit (G : Pkg K mg CP CS pI sI aW aH aU aC aK fW fH fU fC fK fPI fSI) (M : Gm K CS gG aS kG pK fG fS fKi mg) (F : Fun K "fits_in" "Staff.fits_in" sFit f fd) : FnOk P w K mg base CX0 3 f fd ["self", "other"] (spFit CS) := by
  have GGe : FnOk P w K mg base CX0 1 gG fG ["self", "kind"] (spGR CS) := ok_getR G M.FG
  have bGe : Binds K fG ["self", "kind"] [] := M.FG.binds (ps := ["self", "kind"]) fun _ _ _ _ _ _ us hl => match us, hl with | [_, _], _ => rfl
  refine F.ok scFit (fun vs H Q E h => ?_) (fun cdv A outer s H vs Q E hr h => ?_)
  · obtain ⟨a, b, m1, m2, rfl, _⟩ := h
    rfl
  · obtain ⟨a, b, m1, m2, rfl, B1, B2, f1, f2, k⟩ := h
    refine ⟨_, pss_one (ps_ret (pe_callB (cr_all rfl) (by rfl) G.T.all (by decide +kernel) (pa_cons (pe_lock (pe_lc (own := [("kind", 2)]) (g := gName 2) (tt := tYes) rfl scFit.nd (pi_keys (pe_fld (pv 0) rfl)) (blkOk_by (N := NSb) (sc := defScope sFit) (by decide +kernel)) (fun _ _ _ _ _ => pg_name (i := 2) scFit.nd rfl (Or.inl rfl)) (fun _ _ _ _ _ => pts_nil)
      (fun _ _ _ _ _ => pe_cmpR op_le (pe_ixO M.hG M.iG M.jG (GGe.raw bGe .nil) hr pass0 (pv 0) (pv 2)) (pe_ixO M.hG M.iG M.jG (GGe.raw bGe .nil) hr pass0 (pv 1) (pv 2)) (nomark _)))) pa_nil))), ?_⟩
    obtain ⟨dx, d1, ha, hm⟩ := B1
    have B1 : StaffAt CS H a m1 := ⟨dx, d1, ha, hm⟩
    refine ⟨d1, .dK (cD m1), hm, trivial, fun od => ?_⟩
    have fz : (upd H d1 (.frz od (.dK (cD m1)))) d1 = some (.frz od (.dK (cD m1))) := upd_same
    have R1 := StaffR.lock (od := od) hm B1.r
    have R2 := StaffR.lock (od := od) hm B2.r
    have ha1 : (upd H d1 (.frz od (.dK (cD m1)))) a = some (.ins CS dx [("_numbers", .ref d1)]) := by rw [upd_ne (fun z => by rw [z, hm] at ha; cases ha)]; exact ha
    refine ⟨_, rfl, a, CS, dx, _, .ref d1, rfl, ha1, G.S.cl, G.noS, rfl, d1, od, rfl, .inl ⟨cD m1, fz, fun D hD => ?_⟩⟩
    have hDd : D ≠ d1 := fun z => by rw [z, fz] at hD; cases hD
    obtain ⟨ex1, ed1, ea1, er1⟩ := R1
    obtain ⟨ex2, ed2, ea2, er2⟩ := R2
    refine lc_it walk_keys (fun i Hi => Same (upd H d1 (.frz od (.dK (cD m1)))) Hi ∧ Hi D = some (.lst ((((names m1).take i).map fun y => decide (num m1 y ≤ num m2 y)).map V.bl))) ⟨Same.new hD, upd_same⟩ (fun _ _ _ z => z.1 _ _ fz) ?_ ?_
    · rintro i x Hi Hj hi ⟨s2, e2⟩ ⟨rfl, kk, v, hk, rfl⟩
      obtain ⟨y, n, rfl, _, gy, my⟩ := key_at hk
      refine ⟨rfl, ?_⟩
      refine yes_of ?_
      refine ⟨_, rfl, _, rfl, a, ex1, _, rfl, s2 _ _ ea1, a, m1, y, rfl, StaffR.same s2 ⟨ex1, ed1, ea1, er1⟩, _, rfl, _, rfl, b, ex2, _, rfl, s2 _ _ ea2, b, m2, y, rfl, StaffR.same s2 ⟨ex2, ed2, ea2, er2⟩, _, _, rfl, rfl, _, e2, ?_, fun b o z => by rw [upd_ne (ne_of_none z hD)]; exact s2 b o z, ?_⟩
      · have l1 := f1.l
        rw [List.length_map, List.length_map, List.length_take, names_len, sizeLine_eq]
        omega
      · rw [upd_same, take_snoc gy, List.map_append, List.map_append]
        rfl
    · rintro Hi ⟨s2, e2⟩
      have len : (cD m1).length = (names m1).length := by rw [cD_len, names_len]
      rw [len, List.take_length] at e2
      refine ⟨s2 _ _ fz, D, (names m1).map fun y => decide (num m1 y ≤ num m2 y), rfl, SqL.of (by rw [upd_ne hDd]; exact e2), ?_⟩
      have e3 : ((names m1).map fun y => decide (num m1 y ≤ num m2 y)).all id = (names m1).all fun y => decide (num m1 y ≤ num m2 y) := by
        rw [List.all_map]
        rfl
      rw [e3]
      exact k _ (lock_back (od := od) hm s2)
end
end Fs2
set_option Elab.async false
set_option linter.all false
set_option maxRecDepth 100000
set_option maxHeartbeats 8000000
namespace Fs2
open PySem PySem.Spec PyProof.Rows L2 Fh Fs
open PySem.W (Frag)
abbrev Lims : Type := List (Str × Option Int)
def oV : Option Int → V
  | none => .non
  | some c => .int c
def lD (ls : Lims) : List (Key × V) := ls.map fun q => (.inr q.1, oV q.2)
def okL (m : Num) (q : Str × Option Int) : Bool := match q.2 with
  | none => true
  | some c => decide (num m q.1 ≤ c)
section
variable {P : Program} {w : World} {K : Frag} {mg : Str → Option Value} {base : Heap} {CP CS pI sI aW aH aU aC aK CE aE : Addr} {fW fH fU fC fK fPI fSI : FuncData} {gG aS kG pK : Addr} {fG fS fKi : FuncData} {f : Addr} {fd : FuncData}
def spWin (CS : Addr) : Sp := fun vs H Q _ => ∃ a l m1 ls, vs = [.ref a, .ref l] ∧ StaffAt CS H a m1 ∧ H l = some (.dK (lD ls)) ∧ ls.length ≤ 20 ∧ ∀ H', Same H H' → Q (.bl (ls.all (okL m1))) H'
abbrev NWi : List Str := ["self", "limits", "kind", "most"]
theorem scWin : FnScope NWi ["self", "limits"] (defScope sWin) := ⟨rfl, rfl, rfl, by decide +kernel, rfl, by decide +kernel, by decide +kernel⟩
theorem ok_Win (G : Pkg K mg CP CS pI sI aW aH aU aC aK fW fH fU fC fK fPI fSI) (M : Gm K CS gG aS kG pK fG fS fKi mg) (F : Fun K "within" "Staff.within" sWin f fd) : FnOk P w K mg base CX0 3 f fd ["self", "limits"] (spWin CS) := by
  have GGe : FnOk P w K mg base CX0 1 gG fG ["self", "kind"] (spGR CS) := ok_getR G M.FG
  have bGe : Binds K fG ["self", "kind"] [] := M.FG.binds (ps := ["self", "kind"]) fun _ _ _ _ _ _ us hl => match us, hl with | [_, _], _ => rfl
  refine F.ok scWin (fun vs H Q E h => ?_) (fun cdv A outer s H vs Q E hr h => ?_)
  · obtain ⟨a, l, m1, ls, rfl, _⟩ := h
    rfl
  · obtain ⟨a, l, m1, ls, rfl, B1, hm, ll, k⟩ := h
    refine ⟨_, pss_one (ps_ret (pe_callB (cr_all rfl) (by rfl) G.T.all (by decide +kernel) (pa_cons (pe_lock (pe_lc (own := [("kind", 2), ("most", 3)]) (g := gTup K 2 (gCons (gName 2) (gCons (gName 3) gNil))) (tt := tYes) rfl scWin.nd (pi_items (pv 1)) (blkOk_by (N := NWi) (sc := defScope sWin) (by decide +kernel)) (fun _ _ _ _ _ => pg_tup rfl (pgs_cons (pg_name (i := 2) scWin.nd rfl (Or.inl rfl)) (pgs_cons (pg_name (i := 3) scWin.nd rfl (Or.inl rfl)) pgs_nil))) (fun _ _ _ _ _ => pts_nil)
      (fun _ _ _ _ _ => pe_or (pe_cmpR op_isN (pv 3) pe_non (nomark _)) (pe_one (pe_cmpR op_le (pe_ixO M.hG M.iG M.jG (GGe.raw bGe .nil) hr pass0 (pv 0) (pv 2)) (pv 3) (nomark _)))))) pa_nil))), ?_⟩
    refine ⟨l, .dK (lD ls), hm, trivial, fun od => ?_⟩
    have fz : (upd H l (.frz od (.dK (lD ls)))) l = some (.frz od (.dK (lD ls))) := upd_same
    have R1 := StaffR.lock (od := od) hm B1.r
    refine ⟨_, rfl, l, od, lD ls, rfl, fz, fun D hD => ?_⟩
    have hDd : D ≠ l := fun z => by rw [z, fz] at hD; cases hD
    obtain ⟨ex1, ed1, ea1, er1⟩ := R1
    refine lc_it walk_items (fun i Hi => Same (upd H l (.frz od (.dK (lD ls)))) Hi ∧ Hi D = some (.lst (((ls.take i).map (okL m1)).map V.bl))) ⟨Same.new hD, upd_same⟩ (fun _ _ _ z => z.1 _ _ fz) ?_ ?_
    · rintro i x Hi Hj hi ⟨s2, e2⟩ ⟨T, kx, vx, rfl, nT, rfl, hk, hv⟩
      obtain ⟨q, gq, rfl, rfl⟩ : ∃ q, ls[i]? = some q ∧ kx = .str q.1 ∧ vx = oV q.2 := by
        unfold lD at hk hv
        dsimp only at hk hv
        rw [List.getElem?_map] at hk hv
        cases e : ls[i]? with
        | none => rw [e] at hk; cases hk
        | some q => rw [e] at hk hv; exact ⟨q, rfl, (Option.some.inj hk).symm, (Option.some.inj hv).symm⟩
      have s3 : Same Hi (upd Hi T (.tup [.str q.1, oV q.2])) := Same.new nT
      have e3 := s3 _ _ e2
      have s23 := s2.trans s3
      have tt : (upd Hi T (.tup [.str q.1, oV q.2])) T = some (.tup [.str q.1, oV q.2]) := upd_same
      generalize upd Hi T (.tup [.str q.1, oV q.2]) = Hj at s23 e3 tt ⊢
      refine ⟨T, _, rfl, SqT.of tt, rfl, _, _, rfl, _, _, rfl, rfl, ?_⟩
      refine ⟨rfl, ?_⟩
      refine yes_of ?_
      have fin : ∀ b : Bool, okL m1 q = b → ∃ acc, Hj D = some (.lst acc) ∧ acc.length < sizeLine ∧ (Same (upd H l (.frz od (.dK (lD ls)))) (upd Hj D (.lst (acc ++ [V.bl b]))) ∧ (upd Hj D (.lst (acc ++ [V.bl b]))) D = some (.lst (((ls.take (i + 1)).map (okL m1)).map V.bl))) := fun b eb => by
        refine ⟨_, e3, ?_, fun b o z => by rw [upd_ne (ne_of_none z hD)]; exact s23 b o z, ?_⟩
        · rw [List.length_map, List.length_map, List.length_take, sizeLine_eq]
          omega
        · rw [upd_same, List.take_add_one, gq, Option.toList_some, List.map_append, List.map_append, List.map_cons, eb]
          rfl
      cases e : q.2 with
      | none =>
        refine ⟨_, rfl, rfl, true, by rfl, iteT ?_⟩
        exact fin true (by unfold okL; rw [e])
      | some c =>
        refine ⟨_, rfl, rfl, false, by rfl, iteF ?_⟩
        refine ⟨_, rfl, _, rfl, a, ex1, _, rfl, s23 _ _ ea1, a, m1, q.1, rfl, StaffR.same s23 ⟨ex1, ed1, ea1, er1⟩, _, rfl, _, _, rfl, rfl, ?_⟩
        exact fin _ (by unfold okL; rw [e])
    · rintro Hi ⟨s2, e2⟩
      have len : (lD ls).length = ls.length := List.length_map ..
      rw [len, List.take_length] at e2
      refine ⟨s2 _ _ fz, D, ls.map (okL m1), rfl, SqL.of (by rw [upd_ne hDd]; exact e2), ?_⟩
      have e3 : (ls.map (okL m1)).all id = ls.all (okL m1) := by
        rw [List.all_map]
        rfl
      rw [e3]
      exact k _ (lock_back (od := od) hm s2)
end
end Fs2
set_option Elab.async false
set_option linter.all false
set_option maxRecDepth 100000
set_option maxHeartbeats 4000000
namespace Fs2
open PySem PySem.Spec PyProof.Rows L2 Fh Fs
open PySem.W (Frag)
/-! ### the pen of this law -/
abbrev sPen : Stmt := top 18
abbrev sDraw : Stmt := top 19
abbrev sPick : Stmt := top 20
structure TxtP (mg : Str → Option Value) : Prop where
  list : mg "list" = none
  int : mg "int" = none
  len : mg "len" = none
section
variable {P : Program} {w : World} {K : Frag} {mg : Str → Option Value} {base : Heap}
theorem scPen : FnScope ["_law_script"] ["_law_script"] (defScope sPen) := ⟨rfl, rfl, rfl, by decide +kernel, rfl, by decide +kernel, by decide +kernel⟩
theorem ok_pen {f : Addr} {fd : FuncData} (F : Fun K "_law_pen" "_law_pen" sPen f fd) (T : TxtP mg) : FnOk P w K mg base CX0 1 f fd ["_law_script"] (spPen K) := by
  refine F.ok scPen (fun vs H Q E h => ?_) (fun cdv A outer s H vs Q E hr h => ?_)
  · obtain ⟨a, ns, rfl, _⟩ := h
    rfl
  · obtain ⟨a, ns, rfl, hS, hn, k⟩ := h
    refine ⟨_, pss_one (ps_ret (pe_disp (pps_cons pe_str (pe_callTy call_list_of (by rfl) T.list (by decide +kernel) (pa_cons (pe_slice sl_list (pv 0) po_none (po_some pe_int)) pa_nil))
      (pps_cons pe_str pe_int (pps_cons pe_str pe_int pps_nil))) (by rfl) (by rfl) (fun z => by cases z) (by decide))), ?_⟩
    intro p np
    obtain ⟨ms, em, lm⟩ := cut_ints ns none (some 63)
    refine ⟨.ref a, rfl, 63, rfl, a, ns.map V.int, rfl, (Same.new np).seq hS, fun q nq => ?_⟩
    have pq : p ≠ q := fun z => by
      rw [← z, upd_same] at nq
      exact nomatch nq
    have hq : H q = none := by
      rw [upd_ne (Ne.symm pq)] at nq
      exact nq
    refine ⟨q, _, rfl, Or.inl (SqL.of upd_same), fun c nc => ?_⟩
    have pc : p ≠ c := fun z => by
      rw [← z, upd_ne pq, upd_same] at nc
      exact nomatch nc
    have qc : q ≠ c := fun z => by
      rw [← z, upd_same] at nc
      exact nomatch nc
    have hc : H c = none := by
      rw [upd_ne (Ne.symm qc), upd_ne (Ne.symm pc)] at nc
      exact nc
    refine ⟨by rw [upd_ne pc, upd_ne pq, upd_same], penKV c 0 0, rfl, (show 3 ≤ 15 by decide), ?_⟩
    refine k p c _ (fun b u z => ?_) np ⟨pc, ms, 0, 0, upd_same, ?_, by omega, by omega, by omega⟩
    · rw [upd_ne (ne_of_none z np), upd_ne (ne_of_none z hc), upd_ne (ne_of_none z hq), upd_ne (ne_of_none z np)]
      exact z
    · rw [upd_ne (Ne.symm pc), upd_same, em]
theorem scDraw : FnScope ["_law_pen_here", "_law_size", "_law_digit", "_law_spot", "_law_cell", "_law_mixed"] ["_law_pen_here", "_law_size"] (defScope sDraw) := ⟨rfl, rfl, rfl, by decide +kernel, rfl, by decide +kernel, by decide +kernel⟩
theorem ok_draw {f : Addr} {fd : FuncData} (F : Fun K "_law_draw" "_law_draw" sDraw f fd) (T : TxtP mg) : FnOk P w K mg base CX0 1 f fd ["_law_pen_here", "_law_size"] spDraw := by
  refine F.ok scDraw (fun vs H Q E h => ?_) (fun cdv A outer s H vs Q E hr h => ?_)
  · obtain ⟨p, c, n, m, rfl, _⟩ := h
    rfl
  · obtain ⟨p, c, n, m, rfl, hP, hn, hm, hM, k⟩ := h
    obtain ⟨cs, sp, re, S, s0, s1⟩ := hP.open
    have hu := hu_of hr
    have hu64 := hr.units
    have nc := S.pc
    refine ⟨_, pss_cons (ps_if (pt_cmpR op_ge (pe_rest hu (pv 0)) (pv 1) (nomark _))
        (pss_cons (ps_set (i := 2) scDraw.nd rfl (Or.inl rfl) (pe_op op_modN (pe_callTy call_int1 (by rfl) T.int (by decide +kernel) (pa_cons (pe_rest hu (pv 0)) pa_nil)) (pv 1)))
        (pss_cons (ps_dput hu (pv 0) pe_str (pe_op op_fdivN (pe_rest hu (pv 0)) (pv 1)) rfl)
        (pss_one (ps_ret (pv 2))))) pss_nil)
      (pss_cons (ps_set (i := 3) scDraw.nd rfl (Or.inl rfl) (pe_spot hu (pv 0)))
      (pss_cons (ps_dput hu (pv 0) pe_str (pe_op op_add (pv 3) pe_int) rfl)
      (pss_cons (ps_set (i := 4) scDraw.nd rfl (Or.inl rfl) (pe_op op_add (pe_op op_mul pe_int (pv 3)) pe_int))
      (pss_cons (PS.imp (t' := tCellIf) (ps_if (pt_cmpR (op_neD hu64) (pe_cells hu (pv 0)) (pe_lst pa_nil) (nomark _))
        (pss_one (ps_set (i := 4) scDraw.nd rfl (Or.inl rfl) (pe_ix ix_list (pe_cells hu (pv 0)) (pe_op op_modN (pe_callTy call_int1 (by rfl) T.int (by decide +kernel) (pa_cons (pv 3) pa_nil)) (pe_callB call_len_seq (by rfl) T.len PySem.boot_len (pa_cons (pe_cells hu (pv 0)) pa_nil))) (fun _ _ => rfl)))) pss_nil) (fun D σ H2 ⟨p, c, cs, z, y, re, sz, m, dg, mx, es, S, z0, q⟩ => by
          subst es
          refine ⟨p, c, cs, sz, re, rfl, S, (Nat.zero_le _), fun q1 n1 => ?_⟩
          have S1 := S.same (Same.new (o := .lst []) n1)
          refine ⟨_, _, Dp.lst (SqL.of S1.hc) (dp_ints cs), Dp.lst (SqL.of upd_same) .nil, shaped_ints cs, by decide +kernel, _, rfl, ?_⟩
          cases cs with
          | nil => exact iteF (q y _ (Same.new n1))
          | cons c0 cr =>
            refine iteT ?_
            have pos : (0 : Int) < ((c0 :: cr : List Int).length : Int) := by
              rw [List.length_cons]
              omega
            have i0 : 0 ≤ z.fmod ((c0 :: cr : List Int).length : Int) := Int.fmod_nonneg_of_pos z pos
            have i1 : z.fmod ((c0 :: cr : List Int).length : Int) < ((c0 :: cr : List Int).length : Int) := Int.fmod_lt_of_pos z pos
            obtain ⟨j, ej⟩ := Int.eq_ofNat_of_zero_le i0
            have hj : j < (c0 :: cr : List Int).length := by omega
            refine ⟨p, c, c0 :: cr, sz, re, rfl, S1, _, rfl, Or.inl ⟨_, rfl, p, c, c0 :: cr, sz, re, rfl, S1, c, _, rfl, Or.inl (SqL.of S1.hc), _, _, rfl, rfl, ?_, ?_⟩⟩
            · rw [List.length_map]
              omega
            · refine ⟨c, _, _, .int ((c0 :: cr : List Int)[j]'hj), rfl, rfl, SqL.of S1.hc, ?_, q _ _ (Same.new n1)⟩
              rw [List.length_map, ej]
              exact atI_nat (int_map_get hj)))
      (pss_cons (ps_if (PW.pt (pw_and (pt_cmpR op_lt (pv 3) (pe_callB call_len_seq (by rfl) T.len PySem.boot_len (pa_cons (pe_cells hu (pv 0)) pa_nil)) (nomark _)) (pw_and1 (pt_cmpR op_ge (pv 4) (pe_op op_pow pe_int pe_int) (nomark _)))))
        (pss_cons (ps_dput hu (pv 0) pe_str (pe_op op_fdivN (pe_op op_sub (pv 4) (pe_op op_pow pe_int pe_int)) (pv 1)) rfl)
        (pss_one (ps_ret (pe_op op_modN (pe_callTy call_int1 (by rfl) T.int (by decide +kernel) (pa_cons (pe_op op_sub (pv 4) (pe_op op_pow pe_int pe_int)) pa_nil)) (pv 1))))) pss_nil)
      (pss_cons (ps_set (i := 5) scDraw.nd rfl (Or.inl rfl) (pe_op op_mul (pe_op op_modN (pe_callTy call_int1 (by rfl) T.int (by decide +kernel) (pa_cons (pv 4) pa_nil)) pe_int) pe_int))
      (pss_cons (ps_set (i := 5) scDraw.nd rfl (Or.inl rfl) (pe_op op_modN (pe_callTy call_int1 (by rfl) T.int (by decide +kernel) (pa_cons (pe_op op_add (pe_op op_add (pe_op op_add (pv 5) (pe_op op_mul (pe_op op_mul pe_int (pv 3)) (pv 3))) (pe_op op_mul pe_int (pv 3))) pe_int) pa_nil)) pe_int))
      (pss_cons (ps_set (i := 5) scDraw.nd rfl (Or.inl rfl) (pe_op op_modN (pe_callTy call_int1 (by rfl) T.int (by decide +kernel) (pa_cons (pe_op op_mul (pv 5) (pe_op op_add (pv 5) pe_int)) pa_nil)) pe_int))
      (pss_one (ps_ret (pe_op op_modN (pe_callTy call_int1 (by rfl) T.int (by decide +kernel) (pa_cons (pe_op op_fdivN (pe_op op_modN (pe_callTy call_int1 (by rfl) T.int (by decide +kernel) (pa_cons (pe_op op_add (pe_op op_mul (pv 5) (pv 5)) (pe_op op_mul pe_int (pv 5))) pa_nil)) pe_int) pe_int) pa_nil)) (pv 1)))))))))))), ?_⟩
    have modLo : ∀ z : Int, 0 ≤ z.fmod m := fun z => Int.fmod_nonneg_of_pos z (by omega)
    have modHi : ∀ z : Int, z.fmod m < m := fun z => Int.fmod_lt_of_pos z (by omega)
    have mm : m ≠ 0 := by omega
    have mq : m ≠ 0 ∧ m.natAbs < 1073741824 := ⟨mm, by omega⟩
    -- if pen['rest'] >= size
    refine ⟨p, c, cs, sp, re, rfl, S, _, rfl, _, _, rfl, rfl, _, rfl, ?_⟩
    refine ite2 (fun _ => ?_) (fun _ => ?_)
    · refine ⟨p, c, cs, sp, re, rfl, S, Or.inl ⟨_, rfl, _, rfl, _, _, rfl, rfl, mm, ?_⟩⟩
      refine ⟨p, c, cs, sp, re, rfl, S, _, rfl, _, _, rfl, rfl, mq, _, rfl, p, _, rfl, DPut.k (k := Sum.inr "rest") S.hp (by show 3 < sizeLine; decide), ?_⟩
      rw [put_rest]
      refine ⟨_, rfl, k _ _ (modLo _) (modHi _) (S.put.at_ s0 (by omega)) (But.refl p H).upd⟩
    -- spot = pen['spot']; pen['spot'] = spot + 1; cell = 67 * spot + 41
    refine ⟨p, c, cs, sp, re, rfl, S, ?_⟩
    refine ⟨_, rfl, _, _, rfl, rfl, _, rfl, p, _, rfl, DPut.k (k := Sum.inr "spot") S.hp (by show 3 < sizeLine; decide), ?_⟩
    rw [put_spot]
    have S1 : PenS (upd H p (.dK (penKV c (sp + 1) re))) p c cs (sp + 1) re := S.put
    have B1 : But p H (upd H p (.dK (penKV c (sp + 1) re))) := (But.refl p H).upd
    generalize upd H p (.dK (penKV c (sp + 1) re)) = H1 at S1 B1 ⊢
    refine ⟨_, rfl, _, _, rfl, rfl, Or.inl (by omega), _, _, rfl, rfl, ?_⟩
    refine ⟨p, c, cs, sp, _, re, sp + 1, _, _, _, rfl, S1, s0, fun cell H2 z2 => ?_⟩
    have S2 := S1.same z2
    have B2 : But p H H2 := B1.trans (But.of z2)
    -- if spot < len(cells) and cell >= 10 ** 18
    refine ⟨_, rfl, p, c, cs, sp + 1, re, rfl, S2, c, _, rfl, Or.inl (SqL.of S2.hc), _, _, rfl, rfl, _, rfl, ?_⟩
    refine ite2 (fun _ => ?_) (fun _ => ?_)
    · refine ⟨_, rfl, _, _, rfl, rfl, ⟨by decide, by decide, by decide⟩, _, _, rfl, rfl, _, rfl, ?_⟩
      refine ite2 (fun _ => ?_) (fun _ => ?_)
      · refine ⟨_, rfl, _, _, rfl, rfl, ⟨by decide, by decide, by decide⟩, _, _, rfl, rfl, _, rfl, _, _, rfl, rfl, mq, _, rfl, p, _, rfl, DPut.k (k := Sum.inr "rest") S2.hp (by show 3 < sizeLine; decide), ?_⟩
        rw [put_rest]
        refine ⟨_, rfl, _, _, rfl, rfl, ⟨by decide, by decide, by decide⟩, _, _, rfl, rfl, Or.inl ⟨_, rfl, _, rfl, _, _, rfl, rfl, mm, ?_⟩⟩
        exact k _ _ (modLo _) (modHi _) (S2.put.at_ (by omega) (by omega)) B2.upd
      · refine ⟨_, rfl, Or.inl ⟨_, rfl, _, _, rfl, rfl, (show (2147483353 : Int) ≠ 0 by decide), _, _, rfl, rfl, Or.inl ?_, ?_⟩⟩
        · exact fm_lo _ _ (by decide) (by decide)
        refine ⟨_, rfl, _, rfl, _, _, rfl, rfl, Or.inl ⟨by decide, by decide⟩, _, rfl, _, _, rfl, rfl, Or.inl ?_, _, _, rfl, rfl, _, rfl, _, _, rfl, rfl, Or.inl ⟨by decide, by decide⟩, _, _, rfl, rfl, _, _, rfl, rfl, Or.inl ⟨_, rfl, _, _, rfl, rfl, (show (2147483399 : Int) ≠ 0 by decide), ?_⟩⟩
        · omega
        refine ⟨_, rfl, _, rfl, _, _, rfl, rfl, _, _, rfl, rfl, Or.inl ?_, Or.inl ⟨_, rfl, _, _, rfl, rfl, (show (2147483423 : Int) ≠ 0 by decide), ?_⟩⟩
        · exact fm_lo _ _ (by decide) (by decide)
        refine ⟨_, rfl, _, rfl, _, _, rfl, rfl, Or.inl ?_, _, rfl, _, _, rfl, rfl, Or.inl ⟨by decide, by decide⟩, _, _, rfl, rfl, Or.inl ⟨_, rfl, _, _, rfl, rfl, (show (2147483477 : Int) ≠ 0 by decide), _, _, rfl, rfl, ⟨by decide, by decide⟩, Or.inl ⟨_, rfl, _, rfl, _, _, rfl, rfl, mm, ?_⟩⟩⟩
        · exact fm_lo _ _ (by decide) (by decide)
        exact k _ _ (modLo _) (modHi _) (S2.at_ (by omega) (by omega)) B2
    · refine iteF ?_
      refine ⟨_, rfl, Or.inl ⟨_, rfl, _, _, rfl, rfl, (show (2147483353 : Int) ≠ 0 by decide), _, _, rfl, rfl, Or.inl ?_, ?_⟩⟩
      · exact fm_lo _ _ (by decide) (by decide)
      refine ⟨_, rfl, _, rfl, _, _, rfl, rfl, Or.inl ⟨by decide, by decide⟩, _, rfl, _, _, rfl, rfl, Or.inl ?_, _, _, rfl, rfl, _, rfl, _, _, rfl, rfl, Or.inl ⟨by decide, by decide⟩, _, _, rfl, rfl, _, _, rfl, rfl, Or.inl ⟨_, rfl, _, _, rfl, rfl, (show (2147483399 : Int) ≠ 0 by decide), ?_⟩⟩
      · omega
      refine ⟨_, rfl, _, rfl, _, _, rfl, rfl, _, _, rfl, rfl, Or.inl ?_, Or.inl ⟨_, rfl, _, _, rfl, rfl, (show (2147483423 : Int) ≠ 0 by decide), ?_⟩⟩
      · exact fm_lo _ _ (by decide) (by decide)
      refine ⟨_, rfl, _, rfl, _, _, rfl, rfl, Or.inl ?_, _, rfl, _, _, rfl, rfl, Or.inl ⟨by decide, by decide⟩, _, _, rfl, rfl, Or.inl ⟨_, rfl, _, _, rfl, rfl, (show (2147483477 : Int) ≠ 0 by decide), _, _, rfl, rfl, ⟨by decide, by decide⟩, Or.inl ⟨_, rfl, _, rfl, _, _, rfl, rfl, mm, ?_⟩⟩⟩
      · exact fm_lo _ _ (by decide) (by decide)
      exact k _ _ (modLo _) (modHi _) (S2.at_ (by omega) (by omega)) B2
theorem scPick : FnScope ["_law_pen_here", "_law_items"] ["_law_pen_here", "_law_items"] (defScope sPick) := ⟨rfl, rfl, rfl, by decide +kernel, rfl, by decide +kernel, by decide +kernel⟩
theorem ok_pick {f fD : Addr} {fd fdD : FuncData} (F : Fun K "_law_pick" "_law_pick" sPick f fd) (FD : Fun K "_law_draw" "_law_draw" sDraw fD fdD) (T : TxtP mg) (gD : mg "_law_draw" = some (.ref fD)) : FnOk P w K mg base CX0 2 f fd ["_law_pen_here", "_law_items"] (spPick K) := by
  have GD : FnOk P w K mg base CX0 1 fD fdD ["_law_pen_here", "_law_size"] spDraw := ok_draw FD T
  have bD : Binds K fdD ["_law_pen_here", "_law_size"] [] := FD.binds (ps := ["_law_pen_here", "_law_size"]) fun _ _ _ _ _ _ us hl => match us, hl with | [_, _], _ => rfl
  refine F.ok scPick (fun vs H Q E h => ?_) (fun cdv A outer s H vs Q E hr h => ?_)
  · obtain ⟨p, c, n, l, xs, rfl, _⟩ := h
    rfl
  · obtain ⟨p, c, n, l, xs, rfl, hP, hn, hx, h1, h2, k⟩ := h
    refine ⟨_, pss_one (ps_ret (pe_ix ix_list (pv 1) (pe_call GD hr rfl gD FD.kp bD .nil pass0 (pa_cons (pv 0) (pa_cons (pe_callB call_len_seq (by rfl) T.len PySem.boot_len (pa_cons (pv 1) pa_nil)) pa_nil))) (fun _ _ => rfl))), ?_⟩
    refine ⟨_, rfl, _, rfl, _, rfl, l, xs, rfl, Or.inl (SqL.of hx), p, c, n, _, rfl, hP, hn, by omega, by omega, fun z H' z0 z1 P' B' => ?_⟩
    obtain ⟨j, ej⟩ := Int.eq_ofNat_of_zero_le z0
    have hj : j < xs.length := by omega
    have lp : l ≠ p := fun e => by
      obtain ⟨cs, sp, re, S, _⟩ := hP.open
      rw [e, S.hp] at hx
      exact nomatch hx
    have g : xs[j]? = some (xs[j]'hj) := List.getElem?_eq_getElem hj
    refine ⟨l, xs, _, _, rfl, rfl, SqL.of (B' l _ lp hx), (show atI xs z = some (xs[j]'hj) by rw [ej]; exact atI_nat g), k j _ H' g P' B'⟩
end

section
variable {P : Program} {w : World} {K : Frag} {mg : Str → Option Value} {base : Heap}
/-- a sign of a text is picked -/
def spPickS : Sp := fun vs H Q _ => ∃ (p c : Addr) (n : Nat) (z : Str), vs = [.ref p, .str z] ∧ PenAt H p c n ∧ n ≤ 1000000 ∧ 1 ≤ z.length ∧ z.length ≤ 1000 ∧
  ∀ (i : Nat) (x : Nat) (H' : Hp), z.cps.toList[i]? = some x → PenAt H' p c (n + 1) → But p H H' → Q (.str ⟨#[x]⟩) H'
theorem ok_pickS {f aD : Addr} {fd fD : FuncData} (F : Fun K "_law_pick" "_law_pick" sPick f fd) (FD : Fun K "_law_draw" "_law_draw" sDraw aD fD) (T : TxtP mg) (gD : mg "_law_draw" = some (.ref aD)) : FnOk P w K mg base CX0 2 f fd ["_law_pen_here", "_law_items"] spPickS := by
  have GD : FnOk P w K mg base CX0 1 aD fD ["_law_pen_here", "_law_size"] spDraw := ok_draw FD T
  have bD : Binds K fD ["_law_pen_here", "_law_size"] [] := FD.binds (ps := ["_law_pen_here", "_law_size"]) fun _ _ _ _ _ _ us hl => match us, hl with | [_, _], _ => rfl
  refine F.ok scPick (fun vs H Q E h => ?_) (fun cdv A outer s H vs Q E hr h => ?_)
  · obtain ⟨p, c, n, z, rfl, _⟩ := h
    rfl
  · obtain ⟨p, c, n, z, rfl, hP, hn, h1, h2, k⟩ := h
    refine ⟨_, pss_one (ps_ret (pe_ix ix_str (pv 1) (pe_call GD hr rfl gD FD.kp bD .nil pass0 (pa_cons (pv 0) (pa_cons (pe_callB call_len_str (by rfl) T.len PySem.boot_len (pa_cons (pv 1) pa_nil)) pa_nil))) (fun _ _ => rfl))), ?_⟩
    have lz : z.length ≤ sizeLine := by rw [sizeLine_eq]; omega
    refine ⟨_, rfl, _, rfl, _, rfl, z, rfl, lz, p, c, n, (z.length : Int), rfl, hP, hn, by omega, by omega, fun i H' i0 i1 hP' hb => ?_⟩
    have hi : i.toNat < z.cps.toList.length := by
      have : z.length = z.cps.toList.length := (Array.length_toList).symm
      omega
    have at1 : z.cps.toList[i.toNat]? = some (z.cps.toList[i.toNat]'hi) := List.getElem?_eq_getElem hi
    refine ⟨z, i, _, rfl, rfl, lz, ?_, k i.toNat _ H' at1 hP' hb⟩
    have := atI_nat at1
    rw [Int.toNat_of_nonneg i0] at this
    exact this
end
end Fs2
set_option Elab.async false
set_option linter.all false
set_option maxRecDepth 100000
set_option maxHeartbeats 4000000
namespace Fs2
open PySem PySem.Spec PyProof.Rows L2 Fh Fs
open PySem.W (Frag)
abbrev sWds : Stmt := top 21
abbrev NW : List Str := ["_law_pen_here", "_law_count", "_law_letters", "_law_k", "_law_stem", "_law_at", "_law_front", "_law_step", "_law_tail", "_law_found", "_law_word"]
section
variable {P : Program} {w : World} {K : Frag} {mg : Str → Option Value} {base : Heap}
def GoodW (x : Str) : Prop := Word x ∧ x ≠ zs
def spWords : Sp := fun vs H Q _ => ∃ (p c : Addr) (n : Nat) (m : Nat), vs = [.ref p, .int (m : Int)] ∧ PenAt H p c n ∧ n ≤ 900000 ∧ m ≤ 10 ∧
  ∀ (l : Addr) (xs : List Str) (H' : Hp), xs.length = m → (∀ x ∈ xs, GoodW x) → PenAt H' p c (n + 10) → But p H H' → H l = none → H' l = some (.lst (xs.map V.str)) → Q (.ref l) H'
theorem scWords : FnScope NW ["_law_pen_here", "_law_count"] (defScope sWds) := ⟨rfl, rfl, rfl, by decide +kernel, rfl, by decide +kernel, by decide +kernel⟩
theorem ok_words {f aK aD : Addr} {fd fK fD : FuncData} (F : Fun K "_law_words" "_law_words" sWds f fd) (FK : Fun K "_law_pick" "_law_pick" sPick aK fK) (FD : Fun K "_law_draw" "_law_draw" sDraw aD fD) (T : TxtP mg) (gr : mg "range" = none)
    (gK : mg "_law_pick" = some (.ref aK)) (gD : mg "_law_draw" = some (.ref aD)) : FnOk P w K mg base CX0 3 f fd ["_law_pen_here", "_law_count"] spWords := by
  have GD : FnOk P w K mg base CX0 1 aD fD ["_law_pen_here", "_law_size"] spDraw := ok_draw FD T
  have GK : FnOk P w K mg base CX0 2 aK fK ["_law_pen_here", "_law_items"] (spPick K) := ok_pick FK FD T gD
  have GS : FnOk P w K mg base CX0 2 aK fK ["_law_pen_here", "_law_items"] spPickS := ok_pickS FK FD T gD
  have bD : Binds K fD ["_law_pen_here", "_law_size"] [] := FD.binds (ps := ["_law_pen_here", "_law_size"]) fun _ _ _ _ _ _ us hl => match us, hl with | [_, _], _ => rfl
  have bK : Binds K fK ["_law_pen_here", "_law_items"] [] := FK.binds (ps := ["_law_pen_here", "_law_items"]) fun _ _ _ _ _ _ us hl => match us, hl with | [_, _], _ => rfl
  refine F.ok scWords (fun vs H Q E h => ?_) (fun cdv A outer s H vs Q E hr h => ?_)
  · obtain ⟨p, c, n, m, rfl, _⟩ := h
    rfl
  · obtain ⟨p, c, n, m, rfl, hP, hn, hm, k⟩ := h
    have hu := hu_of hr
    have hr1 : Room 1 _ := hr.mono (by decide)
    refine ⟨_, pss_cons (ps_set (i := 2) scWords.nd rfl (Or.inr rfl) pe_str)
      (pss_cons (ps_set (i := 4) scWords.nd rfl (Or.inl rfl) (pe_join pe_str
        (pe_lc (own := [("_law_k", 3)]) (g := gName 3) (tt := tYes) rfl scWords.nd (pi_range1 rfl gr (pa_cons (pe_call GD hr1 rfl gD FD.kp bD .nil pass0 (pa_cons (pv 0) (pa_cons pe_int pa_nil))) pa_nil)) (blkOk_by (N := NW) (sc := defScope sWds) (by decide +kernel)) (fun _ _ _ _ _ => pg_name (i := 3) scWords.nd rfl (Or.inl rfl)) (fun _ _ _ _ _ => pts_nil)
          (fun _ _ _ _ _ => pe_call GS hr rfl gK FK.kp bK .nil pass0 (pa_cons (pv 0) (pa_cons (pv 2) pa_nil))))))
      (pss_cons (ps_par (i := 5) (j := 6) (by rfl) scWords.nd rfl rfl (by decide) rfl rfl (pa_cons (pe_call GD hr1 rfl gD FD.kp bD .nil pass0 (pa_cons (pv 0) (pa_cons (pe_op op_add (pe_callB call_len_str (by rfl) T.len PySem.boot_len (pa_cons (pv 4) pa_nil)) pe_int) pa_nil))) (pa_cons (pe_call GD hr1 rfl gD FD.kp bD .nil pass0 (pa_cons (pv 0) (pa_cons pe_int pa_nil))) pa_nil)) (by rfl))
      (pss_cons (ps_par (i := 7) (j := 8) (by rfl) scWords.nd rfl rfl (by decide) rfl rfl (pa_cons (pe_call GK hr rfl gK FK.kp bK .nil pass0 (pa_cons (pv 0) (pa_cons (pe_lst (pa_cons pe_int (pa_cons pe_int (pa_cons pe_int (pa_cons pe_int (pa_cons pe_int (pa_cons pe_int (pa_cons pe_int (pa_cons pe_int pa_nil))))))))) pa_nil))) (pa_cons (pe_call GK hr rfl gK FK.kp bK .nil pass0 (pa_cons (pv 0) (pa_cons (pe_lst (pa_cons pe_str (pa_cons pe_str (pa_cons pe_str (pa_cons pe_str pa_nil))))) pa_nil))) pa_nil)) (by rfl))
      (pss_cons (ps_set (i := 9) scWords.nd rfl (Or.inl rfl) (pe_lst pa_nil))
      (pss_cons (ps_for PassesOwn.never rfl (pi_range1 rfl gr (pa_cons (pv 1) pa_nil)) (pg_name (i := 3) scWords.nd rfl (Or.inl rfl))
        (pss_cons (ps_set (i := 10) scWords.nd rfl (Or.inl rfl) (pe_op op_add_str (pe_op op_add_str (pe_slice sl_str (pv 4) po_none (po_some (pv 5))) (pe_ix ix_str (pv 2) (pe_op op_mod (pe_callTy call_int1 (by rfl) T.int (by decide +kernel) (pa_cons (pe_op op_add (pv 6) (pe_op op_mul (pv 7) (pv 3))) pa_nil)) pe_int) (fun _ _ => rfl))) (pe_slice sl_str (pv 4) (po_some (pv 5)) po_none)))
        (pss_one (ps_expr (pe_bm PySem.F.plainAttrs_list PySem.F.slot_list_append PySem.F.type_list_append mt_append (pv 9) (pa_cons (pe_ifExp (pt_cmpR op_eq (pe_op op_mod (pe_callTy call_int1 (by rfl) T.int (by decide +kernel) (pa_cons (pv 3) pa_nil)) pe_int) pe_int (nomark _)) (pe_op op_add_str (pv 10) (pv 8)) (pv 10)) pa_nil))))))
      (pss_one (ps_ret (pv 9)))))))), ?_⟩
    refine ⟨⟨_, rfl⟩, _, rfl, p, c, n, 6, rfl, hP, by omega, by decide, by decide, fun q H1 q0 q1 P1 b1 => ⟨q, rfl, by omega, by omega, fun D hD => ?_⟩⟩
    obtain ⟨Dp, Dc⟩ := pen_apart P1 (Same.refl _) hD
    have qn : q.toNat ≤ 5 := by omega
    refine lc_it walk_range (fun i Hh => ∃ ys : List Str, ys.length = i ∧ (∀ y ∈ ys, Low y ∧ y.length = 1) ∧ Hh D = some (.lst (ys.map V.str)) ∧ PenAt Hh p c (n + 1 + i) ∧ But p H1 Hh) ⟨[], rfl, (fun _ z => nomatch z), upd_same, pen_off P1 Dp Dc, But.of (Same.new hD)⟩ (fun _ _ _ _ => trivial) ?_ ?_
    · rintro i x H2 H3 hi ⟨ys, l2, g2, d2, P2, b2⟩ ⟨rfl, rfl⟩
      refine ⟨rfl, ?_⟩
      refine yes_of ?_
      refine ⟨_, rfl, _, rfl, p, c, n + 1 + i, _, rfl, P2, by omega, by decide +kernel, by decide +kernel, fun j ch H4 hj P4 b4 => ?_⟩
      have d4 := b4 D _ Dp d2
      refine ⟨ys.map V.str, d4, by rw [List.length_map, sizeLine_eq]; omega, ys ++ [⟨#[ch]⟩], by rw [List.length_append, l2]; rfl, fun y hy => ?_, by rw [List.map_append]; exact upd_same, pen_off P4 Dp Dc, ?_⟩
      · rcases List.mem_append.mp hy with z | z
        · exact g2 y z
        · rw [List.mem_singleton.mp z]
          exact ⟨Low.one (List.mem_of_getElem? hj), rfl⟩
      · intro b o nb z
        have nD : b ≠ D := fun e => by rw [e, hD] at z; cases z
        rw [upd_ne nD]
        exact b4 b o nb (b2 b o nb z)
    · rintro H2 ⟨ys, l2, g2, d2, P2, b2⟩
      obtain ⟨low, len, sum⟩ := join_low g2
      refine ⟨_, D, ys, rfl, rfl, .inl (SqL.of d2), by rw [sum]; show ys.length + ys.length * 0 ≤ _; omega, ?_⟩
      generalize Txt.join (Str.ofString "") ys = stem at low len ⊢
      have ls : stem.length ≤ 5 := by omega
      have lz : stem.length ≤ sizeLine := by rw [sizeLine_eq]; omega
      have P2' : PenAt H2 p c (n + 6) := P2.same (Same.refl _) (by omega)
      refine ⟨_, rfl, _, rfl, stem, rfl, lz, _, _, rfl, rfl, p, c, n + 6, (stem.length : Int) + 1, rfl, P2', by omega, by omega, by omega, fun at_ H3 a0 a1 P3 b3 => ?_⟩
      refine ⟨_, rfl, p, c, n + 6 + 1, 26, rfl, P3, by omega, by decide, by decide, fun fr H4 f0 f1 P4 b4 => ?_⟩
      refine ⟨_, _, rfl, ?_⟩
      refine ⟨_, rfl, (show 8 ≤ sizeLine by decide), fun l1 n1 => ?_⟩
      refine ⟨p, c, n + 8, l1, _, rfl, P4.same (Same.new n1) (Nat.le_refl _), by omega, upd_same, by decide, by decide, fun i1 x1 H5 e1 P5 b5 => ?_⟩
      obtain ⟨st, rfl, st0, st1⟩ : ∃ v : Int, x1 = .int v ∧ 0 ≤ v ∧ v ≤ 17 := by
        have hm1 := List.mem_of_getElem? e1
        simp only [List.mem_cons, List.not_mem_nil, or_false] at hm1
        rcases hm1 with z | z | z | z | z | z | z | z <;> exact ⟨_, z, by decide, by decide⟩
      refine ⟨_, rfl, (show 4 ≤ sizeLine by decide), fun lt nt => ?_⟩
      refine ⟨p, c, n + 9, lt, _, rfl, P5.same (Same.new nt) (Nat.le_refl _), by omega, upd_same, by decide, by decide, fun i2 x2 H6 e2 P6 b6 => ?_⟩
      obtain ⟨tl, rfl, tlen, tlow, tw⟩ : ∃ t : Str, x2 = .str t ∧ t.length ≤ 2 ∧ Low t ∧ (t.length = 0 ∨ 119 ∈ t.cps.toList) := by
        have hm1 := List.mem_of_getElem? e2
        simp only [List.mem_cons, List.not_mem_nil, or_false] at hm1
        rcases hm1 with z | z | z | z
        · exact ⟨_, z, by decide +kernel, (fun c hc => by exact absurd hc (by decide +kernel +revert)), .inl (by decide +kernel)⟩
        · exact ⟨_, z, by decide +kernel, (fun c hc => by exact absurd hc (by decide +kernel +revert)), .inl (by decide +kernel)⟩
        · exact ⟨_, z, by decide +kernel, (by unfold Low; decide +kernel), .inr (by decide +kernel)⟩
        · exact ⟨_, z, by decide +kernel, (by unfold Low; decide +kernel), .inr (by decide +kernel)⟩
      refine ⟨_, _, rfl, (show 0 ≤ sizeLine by decide), fun L nL => ?_⟩
      refine ⟨_, rfl, (m : Int), rfl, by omega, by omega, for_range (lo := 0) (n := m) (fun i σ Hh => ∃ z w xs, σ = [some (V.ref p), some (.int (m : Int)), some (.str (Str.ofString "abcdefghijklmnopqrstuvwxyz")), z, some (.str stem), some (.int at_), some (.int fr), some (.int st), some (.str tl), some (.ref L), w] ∧
        xs.length = i ∧ (∀ x ∈ xs, GoodW x) ∧ Hh L = some (.lst (xs.map V.str)) ∧ ∀ b o, b ≠ L → H6 b = some o → Hh b = some o) ⟨none, none, [], rfl, rfl, (fun _ z => nomatch z), upd_same, fun b o nb z => by rw [upd_ne nb]; exact z⟩ ?_ ?_⟩
      · rintro i σ H7 hi ⟨z, w1, xs, rfl, lx, gx, dx, keep⟩
        obtain ⟨ch, hch⟩ : ∃ ch, atI (Str.ofString "abcdefghijklmnopqrstuvwxyz").cps.toList ((fr + st * (0 + (i : Int))) % 26) = some ch := by
          have b0 : 0 ≤ (fr + st * (0 + (i : Int))) % 26 := Int.emod_nonneg _ (by decide)
          have b1 : (fr + st * (0 + (i : Int))) % 26 < 26 := Int.emod_lt_of_pos _ (by decide)
          have lz26 : (Str.ofString "abcdefghijklmnopqrstuvwxyz").cps.toList.length = 26 := by decide +kernel
          have hl : ((fr + st * (0 + (i : Int))) % 26).toNat < (Str.ofString "abcdefghijklmnopqrstuvwxyz").cps.toList.length := by rw [lz26]; omega
          have g := atI_nat (List.getElem?_eq_getElem hl)
          rw [Int.toNat_of_nonneg b0] at g
          exact ⟨_, g⟩
        have chl : ch ∈ abc := by
          obtain ⟨j, _, h2, _⟩ := atI_get hch
          exact List.mem_of_getElem? h2
        obtain ⟨at2, rfl⟩ : ∃ k : Nat, at_ = (k : Int) := ⟨at_.toNat, (Int.toNat_of_nonneg a0).symm⟩
        have la : at2 ≤ stem.length := by omega
        have cp := cut_parts la
        have one : (⟨#[ch]⟩ : Str).length = 1 := rfl
        refine ⟨_, rfl, _, rfl, _, rfl, stem, rfl, lz, ?_⟩
        refine ⟨_, rfl, _, rfl, _, rfl, _, rfl, st, _, rfl, rfl, .inl ⟨by omega, by omega⟩, fr, _, rfl, rfl, .inl ⟨_, rfl, _, _, rfl, rfl, (show (0 : Int) < 26 by decide), ?_⟩⟩
        refine ⟨_, _, ch, rfl, rfl, by decide +kernel, hch, ?_⟩
        refine ⟨_, _, rfl, rfl, by rw [one, sizeLine_eq]; omega, ?_⟩
        refine ⟨_, rfl, _, rfl, _, rfl, stem, rfl, lz, ?_⟩
        refine ⟨_, _, rfl, rfl, by rw [app_len, one, sizeLine_eq]; omega, ?_⟩
        have bl : (cutS stem none (some (at2 : Int)) ++ (⟨#[ch]⟩ : Str) ++ cutS stem (some (at2 : Int)) none).length = stem.length + 1 := by rw [app_len, app_len, one]; omega
        have blow : Low (cutS stem none (some (at2 : Int)) ++ (⟨#[ch]⟩ : Str) ++ cutS stem (some (at2 : Int)) none) := ((low.cut _ _).app (Low.one chl)).app (low.cut _ _)
        generalize cutS stem none (some (at2 : Int)) ++ (⟨#[ch]⟩ : Str) ++ cutS stem (some (at2 : Int)) none = bw at bl blow ⊢
        have push : ∀ x : Str, GoodW x → (xs ++ [x]).length = i + 1 ∧ (∀ y ∈ xs ++ [x], GoodW y) ∧ (upd H7 L (.lst (xs.map V.str ++ [V.str x]))) L = some (.lst ((xs ++ [x]).map V.str)) ∧ ∀ b o, b ≠ L → H6 b = some o → (upd H7 L (.lst (xs.map V.str ++ [V.str x]))) b = some o := by
          intro x hx
          refine ⟨by rw [List.length_append, lx]; rfl, fun y hy => ?_, by rw [List.map_append]; exact upd_same, fun b o nb y => by rw [upd_ne nb]; exact keep b o nb y⟩
          rcases List.mem_append.mp hy with u | u
          · exact gx y u
          · rw [List.mem_singleton.mp u]
            exact hx
        have room : (xs.map V.str).length < sizeLine := by rw [List.length_map, lx, sizeLine_eq]; omega
        refine ⟨_, rfl, .inl ⟨rfl, _, SqL.of dx⟩, _, rfl, .inl ⟨_, rfl, _, _, rfl, rfl, (show (0 : Int) < 3 by decide), rfl, _, rfl, ite2 (fun _ => ?_) (fun _ => ?_)⟩⟩
        · have g : GoodW (bw ++ tl) := by
            refine ⟨⟨by rw [app_len]; omega, by rw [app_len]; omega, blow.app tlow⟩, ?_⟩
            rcases tw with t0 | t1
            · exact ne_zs_len (by rw [app_len]; omega)
            · exact ne_zs_w t1
          exact ⟨_, rfl, _, rfl, _, _, rfl, rfl, by rw [sizeLine_eq]; omega, L, _, _, rfl, rfl, dx, room, _, _, xs ++ [bw ++ tl], rfl, push _ g⟩
        · have g : GoodW bw := ⟨⟨by omega, by omega, blow⟩, ne_zs_len (by omega)⟩
          exact ⟨_, rfl, L, _, _, rfl, rfl, dx, room, _, _, xs ++ [bw], rfl, push _ g⟩
      · rintro σ H7 ⟨z, w1, xs, rfl, lx, gx, dx, keep⟩
        refine ⟨_, rfl, ?_⟩
        have nLp : L ≠ p := (pen_apart P6 (Same.refl _) nL).1
        have nLc : L ≠ c := (pen_apart P6 (Same.refl _) nL).2
        have all : But p H H6 := (((((b1.trans b2).trans b3).trans b4).trans (But.of (Same.new n1))).trans b5).trans ((But.of (Same.new nt)).trans b6)
        refine k L xs H7 lx gx ?_ (fun b o nb y => ?_) (but_none all nL nLp) dx
        · obtain ⟨cs, s5, r5, S, s0, s1⟩ := P6.open
          exact PenS.at_ ⟨S.pc, keep _ _ (Ne.symm nLp) S.hp, keep _ _ (Ne.symm nLc) S.hc, S.hl⟩ s0 s1
        · have y6 := all b o nb y
          exact keep b o (fun e => by rw [e, nL] at y6; cases y6) y6
end
end Fs2
set_option Elab.async false
set_option linter.all false
set_option maxRecDepth 100000
set_option maxHeartbeats 8000000
namespace Fs2
open PySem PySem.Spec PyProof.Rows L2 Fh Fs
open PySem.W (Frag)
abbrev sStaff : Stmt := top 22
abbrev sLess : Stmt := top 23
abbrev sPlain : Stmt := top 24
abbrev sWithin : Stmt := top 25
structure TxtQ (mg : Str → Option Value) : Prop where
  range : mg "range" = none
  set : mg "set" = none
  repr : mg "repr" = none
  oe : mg "OverflowError" = none
theorem fit_can {m : Num} (h : Fit m) : Can m := h.c
section
variable {P : Program} {w : World} {K : Frag} {mg : Str → Option Value} {base : Heap}
def spPlain : Sp := fun vs H Q _ => ∃ e m, vs = [.ref e] ∧ H e = some (.dK (cD m)) ∧ (names m).Nodup ∧ m.length ≤ 20 ∧
  ∀ p r H', H p = none → Same H H' → H' p = some (.dK (cD r)) → Can r → (∀ y, num r y = if 0 < num m y then num m y else 0) → r.length ≤ m.length → (∀ y ∈ names r, y ∈ names m) → Q (.ref p) H'
abbrev NPl : List Str := ["_law_numbers", "_law_word"]
theorem scPlain : FnScope NPl ["_law_numbers"] (defScope sPlain) := ⟨rfl, rfl, rfl, by decide +kernel, rfl, by decide +kernel, by decide +kernel⟩
theorem pick_numX {m : Num} {ys : List Str} (nd : (names m).Nodup) (py : ys.Perm (names m)) (sy : sortedS ys = true) (y : Str) : num (pick m ys) y = if 0 < num m y then num m y else 0 := by
  have c := pick_can nd py sy
  have pn : ∀ q ∈ pick m ys, m.lookup q.1 = some q.2 ∧ 0 < q.2 := pick_mem
  by_cases h : y ∈ names (pick m ys)
  · obtain ⟨n, e, hm⟩ := lookup_some h
    have e2 := pn _ hm
    have e3 : num m y = n := by unfold num; rw [e2.1]; rfl
    rw [e3, if_pos e2.2]
    unfold num
    rw [e]
    rfl
  · rw [num_none h]
    by_cases z : 0 < num m y
    · exfalso
      have hy : y ∈ names m := by
        rcases Classical.em (y ∈ names m) with q | q
        · exact q
        · rw [num_none q] at z; exact absurd z (by decide)
      obtain ⟨n, e, _⟩ := lookup_some hy
      have e3 : num m y = n := by unfold num; rw [e]; rfl
      rw [e3] at z
      refine h ?_
      unfold names pick
      refine List.mem_map.mpr ⟨(y, n), List.mem_filterMap.mpr ⟨y, py.mem_iff.mpr hy, ?_⟩, rfl⟩
      rw [e]
      show (if 0 < n then some (y, n) else none) = some (y, n)
      rw [if_pos z]
    · rw [if_neg z]
theorem ok_plain {f : Addr} {fd : FuncData} (F : Fun K "_law_plain" "_law_plain" sPlain f fd) (T : TxtS mg) (TQ : TxtQ mg) : FnOk P w K mg base CX0 1 f fd ["_law_numbers"] spPlain := by
  refine F.ok scPlain (fun vs H Q E h => ?_) (fun cdv A outer s H vs Q E hr h => ?_)
  · obtain ⟨e, m, rfl, _⟩ := h
    rfl
  · obtain ⟨kd, m, rfl, hkd, nd, lm, k⟩ := h
    have hu1 := hu_of hr
    refine ⟨_, pss_one (ps_ret (pe_callTy (call_dictP rfl) (by rfl) T.dict (by decide +kernel) (pa_cons (pe_lc (own := [("_law_word", 1)]) (g := gName 1) rfl scPlain.nd (pi_list (pe_callB (cr_sortedTx rfl) (by rfl) T.sorted (by decide +kernel) (pa_cons (pe_callTy cr_setD (by rfl) TQ.set (by decide +kernel) (pa_cons (pv 0) pa_nil)) pa_nil))) (blkOk_by (N := NPl) (sc := defScope sPlain) (by decide +kernel)) (fun _ _ _ _ _ => pg_name (i := 1) scPlain.nd rfl (Or.inl rfl))
      (fun _ _ _ _ _ => pts_one (pt_cmpR op_gt (pe_dget hu1 (pv 0) (pv 1) (fun _ _ => rfl)) pe_int (nomark _))) (fun _ _ _ _ _ => pe_tup (pa_cons (pv 1) (pa_cons (pe_dget hu1 (pv 0) (pv 1) (fun _ _ => rfl)) pa_nil)))) pa_nil))), ?_⟩
    refine ⟨_, rfl, kd, cD m, names m, rfl, hkd, cD_keys m, by rw [names_len]; omega, fun S nS => ⟨S, names m, rfl, upd_same, by rw [names_len]; omega, fun ys2 L py2 sy2 nL => ?_⟩⟩
    refine ⟨L, rfl, ⟨_, SqL.of upd_same⟩, fun E2 nE2 => ?_⟩
    have sm : Same H (upd (upd H S (SetS P w S (names m))) L (.lst (ys2.map V.str))) := (Same.new nS).trans (Same.new nL)
    have nE10 : H E2 = none := none_back sm nE2
    have LE : L ≠ E2 := Ne.symm (ne_new upd_same nE2)
    have ly : ys2.length = m.length := by rw [py2.length_eq, names_len]
    refine lc_list (K := K) (a := L) (xs := ys2.map V.str) (fun j Hh => ∃ ps, Prs Hh E2 E2 ps (pick m (ys2.take j)) ∧ Hh E2 = some (.lst (ps.map V.ref)) ∧ Same H Hh ∧ Hh L = some (.lst (ys2.map V.str))) ⟨[], Prs.nil, upd_same, sm.trans (Same.new nE2), by rw [upd_ne LE]; exact upd_same⟩ (fun j Hh hj ⟨ps, _, _, _, b⟩ => SqL.of b) ?_ ?_
    · rintro j x Hh hx ⟨ps, pr, dE, s5, hL⟩
      obtain ⟨y, rfl, gy, my⟩ := str_map_get hx
      obtain ⟨v, ev, _⟩ := lookup_some (m := m) (y := y) (py2.mem_iff.mp my)
      have gt : DGet Hh kd (.str y) (some (.int v)) := .inl ⟨cD m, .inr y, .inl (s5 _ _ hkd), rfl, by rw [cD_val, ev]; rfl⟩
      refine ⟨rfl, ?_⟩
      refine ⟨_, rfl, _, rfl, kd, .int v, rfl, gt, v, 0, rfl, rfl, _, rfl, ite2 (fun pos => ?_) (fun neg => ?_)⟩
      · refine ⟨_, rfl, _, rfl, _, rfl, kd, .int v, rfl, gt, (show 2 ≤ sizeLine by decide), fun T nT => ?_⟩
        have TE : T ≠ E2 := ne_new dE nT
        refine ⟨ps.map V.ref, by rw [upd_ne (Ne.symm TE)]; exact dE, ?_, ps ++ [T], ?_, by rw [List.map_append]; exact upd_same, fun b o z => ?_, by rw [upd_ne LE, upd_ne (Ne.symm (ne_new hL nT))]; exact hL⟩
        · have e1 := pr.len
          have e2 := pick_len m (ys2.take j)
          have e3 : (ys2.take j).length ≤ ys2.length := by rw [List.length_take]; omega
          rw [List.length_map, sizeLine_eq]
          omega
        · rw [take_snoc gy, pick_snoc _ _ _ _ ev, if_pos (of_decide_eq_true pos)]
          exact pr.snoc nT TE TE
        · rw [upd_ne (ne_of_none z nE10), upd_ne (ne_of_none (s5 _ _ z) nT)]
          exact s5 _ _ z
      · refine ⟨ps, ?_, dE, s5, hL⟩
        rw [take_snoc gy, pick_snoc _ _ _ _ ev, if_neg (fun z => neg (decide_eq_true z))]
        exact pr
    rintro Hh ⟨ps, pr, dE, s5, hL⟩
    rw [List.length_map, List.take_of_length_le (Nat.le_refl _)] at pr
    refine ⟨E2, ps, cD (pick m ys2), rfl, SqL.of dE, pr.sqt, fun du ndu => ?_⟩
    have ndy : ys2.Nodup := py2.nodup_iff.mpr nd
    rw [show mergeK [] (cD (pick m ys2)) = cD (pick m ys2) from merge_new (pick m ys2) [] (pick_nodup ndy)]
    have ln := pick_len m ys2
    exact k du (pick m ys2) _ (none_back s5 ndu) (s5.trans (Same.new ndu)) upd_same (pick_can nd py2 sy2) (pick_numX nd py2 sy2) (by omega) (fun y hy => py2.mem_iff.mp (pick_names _ _ y hy))
def spWith (K : Frag) : Sp := fun vs H Q _ => ∃ e l m ls, vs = [.ref e, .ref l] ∧ H e = some (.dK (cD m)) ∧ H l = some (.dK (lD ls)) ∧ (ls.map (·.1)).Nodup ∧ ls.length ≤ 20 ∧ e ≠ l ∧ ∀ H', Same H H' → Q (.bl (ls.all (okL m))) H'
abbrev NWt : List Str := ["_law_mine", "_law_caps", "_law_word"]
theorem scWith : FnScope NWt ["_law_mine", "_law_caps"] (defScope sWithin) := ⟨rfl, rfl, rfl, by decide +kernel, rfl, by decide +kernel, by decide +kernel⟩
theorem lD_val : ∀ {ls : Lims} (nd : (ls.map (·.1)).Nodup) {i : Nat} {q : Str × Option Int} (h : ls[i]? = some q), valV (lD ls) (.inr q.1) = some (oV q.2)
  | [], _, i, q, h => by simp at h
  | r :: ls, nd, 0, q, h => by
    have e : r = q := by simpa using h
    subst e
    show ((List.find? (fun kv => decide (kv.1 = Sum.inr r.1)) ((Sum.inr r.1, oV r.2) :: lD ls)).map (·.2)) = _
    rw [List.find?_cons_of_pos (by simp)]
    rfl
  | r :: ls, nd, i + 1, q, h => by
    have h2 : ls[i]? = some q := by simpa using h
    have nd2 : r.1 ∉ ls.map (·.1) ∧ (ls.map (·.1)).Nodup := List.nodup_cons.mp nd
    have ne : ¬ ((Sum.inr r.1 : Key) = Sum.inr q.1) := fun z => nd2.1 (by rw [Sum.inr.inj z]; exact List.mem_map_of_mem (List.mem_of_getElem? h2))
    show ((List.find? (fun kv => decide (kv.1 = Sum.inr q.1)) ((Sum.inr r.1, oV r.2) :: lD ls)).map (·.2)) = _
    rw [List.find?_cons_of_neg (by simpa using ne)]
    exact lD_val nd2.2 h2
theorem ok_within {f : Addr} {fd : FuncData} (F : Fun K "_law_within" "_law_within" sWithin f fd) : FnOk P w K mg base CX0 1 f fd ["_law_mine", "_law_caps"] (spWith K) := by
  refine F.ok scWith (fun vs H Q E h => ?_) (fun cdv A outer s H vs Q E hr h => ?_)
  · obtain ⟨e, l, m, ls, rfl, _⟩ := h
    rfl
  · obtain ⟨e, l, m, ls, rfl, he, hl, nd, ll, ne, k⟩ := h
    have hu1 := hu_of hr
    have hu0 : _ < cLine := Nat.lt_of_le_of_lt (Nat.le_add_right _ 1) hu1
    refine ⟨_, pss_one (ps_ret (pe_cmpR (op_eqE hu0) (pe_lock (pe_lc (own := [("_law_word", 2)]) (g := gName 2) rfl scWith.nd (pi_keys (pv 1)) (blkOk_by (N := NWt) (sc := defScope sWithin) (by decide +kernel)) (fun _ _ _ _ _ => pg_name (i := 2) scWith.nd rfl (Or.inl rfl))
      (fun _ _ _ _ _ => pts_one (PW.pt (pw_and (pt_cmpR op_notN (pe_dget hu1 (pv 1) (pv 2) (fun _ _ => rfl)) pe_non (nomark _)) (pw_and1 (pt_cmpR op_gt (pe_dget2 hu1 (pv 0) (pv 2) pe_int ⟨rfl, rfl, rfl, rfl⟩) (pe_dget hu1 (pv 1) (pv 2) (fun _ _ => rfl)) (nomark _)))))) (fun _ _ _ _ _ => pv 2))) (pe_lst pa_nil) (nomark _))), ?_⟩
    refine ⟨l, .dK (lD ls), hl, trivial, fun od => ?_⟩
    have fz : (upd H l (.frz od (.dK (lD ls)))) l = some (.frz od (.dK (lD ls))) := upd_same
    have he1 : (upd H l (.frz od (.dK (lD ls)))) e = some (.dK (cD m)) := by rw [upd_ne ne]; exact he
    refine ⟨_, rfl, l, od, rfl, .inl ⟨lD ls, fz, fun D hD => ?_⟩⟩
    have hDd : D ≠ l := fun z => by rw [z, fz] at hD; cases hD
    refine lc_it walk_keys (fun i Hi => Same (upd H l (.frz od (.dK (lD ls)))) Hi ∧ ∃ bs : List V, Hi D = some (.lst bs) ∧ bs.length ≤ i ∧ bs.isEmpty = (ls.take i).all (okL m)) ⟨Same.new hD, [], upd_same, Nat.le_refl _, rfl⟩ (fun _ _ _ z => z.1 _ _ fz) ?_ ?_
    · rintro i x Hi Hj hi ⟨s2, bs, e2, lb, eb⟩ ⟨rfl, kk, v, hk, rfl⟩
      obtain ⟨q, gq, rfl, rfl⟩ : ∃ q, ls[i]? = some q ∧ kk = .inr q.1 ∧ v = oV q.2 := by
        unfold lD at hk
        rw [List.getElem?_map] at hk
        cases e : ls[i]? with
        | none => rw [e] at hk; cases hk
        | some q => rw [e] at hk; injection Option.some.inj hk with h1 h2; exact ⟨q, rfl, h1.symm, h2.symm⟩
      have li : i < ls.length := (List.getElem?_eq_some_iff.mp gq).1
      have gl : DGet Hj l (.str q.1) (some (oV q.2)) := .inl ⟨lD ls, .inr q.1, .inr ⟨od, s2 _ _ fz⟩, rfl, (lD_val nd gq).symm⟩
      have tk : (ls.take (i + 1)).all (okL m) = ((ls.take i).all (okL m) && okL m q) := by
        rw [List.take_add_one, gq, Option.toList_some, List.all_append, List.all_cons, List.all_nil, Bool.and_true]
      have skip : okL m q = true → Same (upd H l (.frz od (.dK (lD ls)))) Hj ∧ ∃ bs : List V, Hj D = some (.lst bs) ∧ bs.length ≤ i + 1 ∧ bs.isEmpty = (ls.take (i + 1)).all (okL m) := fun e => ⟨s2, bs, e2, Nat.le_succ_of_le lb, by rw [tk, e, Bool.and_true]; exact eb⟩
      refine ⟨rfl, ?_⟩
      refine ⟨_, rfl, _, rfl, l, _, rfl, gl, rfl, ?_⟩
      cases eq : q.2 with
      | none => exact ⟨false, rfl, iteF (iteF (skip (by unfold okL; rw [eq])))⟩
      | some c =>
        refine ⟨true, rfl, iteT ?_⟩
        rw [eq] at gl
        have gm : DGet Hj e (.str q.1) ((m.lookup q.1).map V.int) := .inl ⟨cD m, .inr q.1, .inl (s2 _ _ he1), rfl, (cD_val m q.1).symm⟩
        refine ⟨_, rfl, e, rfl, .inl ⟨_, .inl (s2 _ _ he1)⟩, _, rfl, _, gm, _, rfl, _, rfl, l, _, rfl, gl, num m q.1, c, ?_, rfl, decide (num m q.1 > c), rfl, ?_⟩
        · unfold num
          cases m.lookup q.1 <;> rfl
        · have ok : okL m q = decide (num m q.1 ≤ c) := by unfold okL; rw [eq]
          by_cases h : num m q.1 > c
          · rw [decide_eq_true h]
            refine iteT ⟨_, rfl, bs, e2, by rw [sizeLine_eq]; omega, fun b o z => by rw [upd_ne (ne_of_none z hD)]; exact s2 b o z, bs ++ [.str q.1], upd_same, by rw [List.length_append, List.length_singleton]; omega, ?_⟩
            rw [tk, ok, decide_eq_false (by omega), Bool.and_false]
            simp
          · rw [decide_eq_false h]
            exact iteF (skip (by rw [ok]; exact decide_eq_true (by omega)))
    · rintro Hi ⟨s2, bs, e2, lb, eb⟩
      have len : (lD ls).length = ls.length := List.length_map ..
      rw [len, List.take_length] at eb
      refine ⟨s2 _ _ fz, Nat.zero_le _, fun Z nZ => ⟨D, Z, bs, rfl, rfl, SqL.of (Same.new nZ _ _ (by rw [upd_ne hDd]; exact e2)), SqL.of upd_same, ?_⟩⟩
      rw [eb]
      exact k _ ((lock_back (od := od) hl s2).trans (Same.new nZ))
end
end Fs2
set_option Elab.async false
set_option linter.all false
set_option maxRecDepth 100000
set_option maxHeartbeats 8000000
namespace Fs2
open PySem PySem.Spec PyProof.Rows L2 Fh Fs
open PySem.W (Frag)
/-- what else the class tells: its methods and operators -/
structure Ops (K : Frag) (mg : Str → Option Value) (CS CE aE gN gSub gAdd gOr gAnd gE gO pO gFit gWin : Addr) (mc : Value) (fN fSub fAdd fOr fAnd fE fO fFit fWin : FuncData) : Prop where
  EF : PySem.ErrF.ErrFxt K mg CE aE
  EC : ErrC K CE
  ov : PySem.W.kitOne K (.ref CE) (.type "OverflowError") = some true
  sf : PySem.W.selfFirst K CS = true
  mN : Meth K CS "numbers" gN
  FN : Fun K "numbers" "Staff.numbers" sStN gN fN
  hSub : PySem.W.findIn K (.ref CS) "__sub__" = some (some (.ref gSub))
  jSub : PySem.W.isFn K (.ref gSub) = true
  FSub : Fun K "__sub__" "Staff.__sub__" sSub gSub fSub
  hAdd : PySem.W.findIn K (.ref CS) "__add__" = some (some (.ref gAdd))
  jAdd : PySem.W.isFn K (.ref gAdd) = true
  FAdd : Fun K "__add__" "Staff.__add__" sAdd gAdd fAdd
  hOr : PySem.W.findIn K (.ref CS) "__or__" = some (some (.ref gOr))
  jOr : PySem.W.isFn K (.ref gOr) = true
  FOr : Fun K "__or__" "Staff.__or__" sOr gOr fOr
  hAnd : PySem.W.findIn K (.ref CS) "__and__" = some (some (.ref gAnd))
  jAnd : PySem.W.isFn K (.ref gAnd) = true
  FAnd : Fun K "__and__" "Staff.__and__" sAnd gAnd fAnd
  hE : PySem.W.findIn K (.ref CS) "__eq__" = some (some (.ref gE))
  jE : PySem.W.isFn K (.ref gE) = true
  FE : Fun K "__eq__" "Staff.__eq__" sStE gE fE
  hNe : PySem.W.findIn K (.ref CS) "__ne__" = some (some (.builtin "object.__ne__"))
  hob : PySem.W.subIn K (.ref CS) (.type "object") = some true
  cr : ClX.CRead K CS mc
  cm : ClX.CMet K CS mc "of" pO gO
  FO : Fun K "of" "Staff.of" sStOf gO fO
  mFit : Meth K CS "fits_in" gFit
  FFit : Fun K "fits_in" "Staff.fits_in" sFit gFit fFit
  mWin : Meth K CS "within" gWin
  FWin : Fun K "within" "Staff.within" sWin gWin fWin
section
variable {P : Program} {w : World} {K : Frag} {mg : Str → Option Value} {base : Heap}
def BQ : Int := 10 ^ 30 / 4
def spStaff : Sp := fun vs H Q _ => ∃ (p c : Addr) (n : Nat) (l : Addr) (ws : List Str), vs = [.ref p, .ref l] ∧ PenAt H p c n ∧ n ≤ 900000 ∧ H l = some (.lst (ws.map V.str)) ∧ ws.length ≤ 6 ∧ (∀ y ∈ ws, Word y) ∧
  ∀ (e : Addr) (m : Num) (H' : Hp), H e = none → H' e = some (.dK (cD m)) → (names m).Nodup → (∀ y ∈ names m, y ∈ ws) → (∀ q ∈ m, 0 ≤ q.2 ∧ q.2 ≤ BQ) → m.length ≤ ws.length → PenAt H' p c (n + 12) → But p H H' → Q (.ref e) H'
abbrev NSf : List Str := ["_law_pen_here", "_law_words_here", "_law_word"]
theorem scStaff : FnScope NSf ["_law_pen_here", "_law_words_here"] (defScope sStaff) := ⟨rfl, rfl, rfl, by decide +kernel, rfl, by decide +kernel, by decide +kernel⟩
theorem ok_staffL {f aQ aD : Addr} {fd fQ fD : FuncData} (F : Fun K "_law_staff" "_law_staff" sStaff f fd) (FQ : Fun K "_law_pick" "_law_pick" sPick aQ fQ) (FD : Fun K "_law_draw" "_law_draw" sDraw aD fD) (T : TxtP mg) (TS : TxtS mg)
    (gQ : mg "_law_pick" = some (.ref aQ)) (gD : mg "_law_draw" = some (.ref aD)) : FnOk P w K mg base CX0 3 f fd ["_law_pen_here", "_law_words_here"] spStaff := by
  have GD : FnOk P w K mg base CX0 1 aD fD ["_law_pen_here", "_law_size"] spDraw := ok_draw FD T
  have GQ : FnOk P w K mg base CX0 2 aQ fQ ["_law_pen_here", "_law_items"] (spPick K) := ok_pick FQ FD T gD
  have bD : Binds K fD ["_law_pen_here", "_law_size"] [] := FD.binds (ps := ["_law_pen_here", "_law_size"]) fun _ _ _ _ _ _ us hl => match us, hl with | [_, _], _ => rfl
  have bQ : Binds K fQ ["_law_pen_here", "_law_items"] [] := FQ.binds (ps := ["_law_pen_here", "_law_items"]) fun _ _ _ _ _ _ us hl => match us, hl with | [_, _], _ => rfl
  refine F.ok scStaff (fun vs H Q E h => ?_) (fun cdv A outer s H vs Q E hr h => ?_)
  · obtain ⟨p, c, n, l, ws, rfl, _⟩ := h
    rfl
  · obtain ⟨p, c, n, l, ws, rfl, hP, hn, hl, lw, ww, k⟩ := h
    have hr1 : Room 1 _ := hr.mono (by decide)
    refine ⟨_, pss_one (ps_ret (pe_callTy (call_dictP rfl) (by rfl) TS.dict (by decide +kernel) (pa_cons (pe_lc (own := [("_law_word", 2)]) (g := gName 2) rfl scStaff.nd (pi_list (pv 1)) (blkOk_by (N := NSf) (sc := defScope sStaff) (by decide +kernel)) (fun _ _ _ _ _ => pg_name (i := 2) scStaff.nd rfl (Or.inl rfl))
      (fun _ _ _ _ _ => pts_one (pt_cmpR op_gt (pe_call GD hr1 rfl gD FD.kp bD .nil pass0 (pa_cons (pv 0) (pa_cons pe_int pa_nil))) pe_int (nomark _)))
      (fun _ _ _ _ _ => pe_tup (pa_cons (pv 2) (pa_cons (pe_call GQ hr rfl gQ FQ.kp bQ .nil pass0 (pa_cons (pv 0) (pa_cons (pe_lst (pa_cons pe_int (pa_cons pe_int (pa_cons pe_int (pa_cons pe_int (pa_cons pe_int (pa_cons (pe_op op_fdiv (pe_op op_pow pe_int pe_int) pe_int) pa_nil))))))) pa_nil))) pa_nil)))) pa_nil))), ?_⟩
    have lp : l ≠ p := fun e => by
      obtain ⟨cs, sp, re, S, _⟩ := hP.open
      rw [e, S.hp] at hl
      cases hl
    refine ⟨_, rfl, l, rfl, ⟨_, SqL.of hl⟩, fun E nE => ?_⟩
    have Ep : E ≠ p := (pen_apart hP (Same.refl _) nE).1
    have Ec : E ≠ c := (pen_apart hP (Same.refl _) nE).2
    refine lc_list (K := K) (a := l) (xs := ws.map V.str) (fun j Hh => ∃ ps nm, (∀ y ∈ names nm, y ∈ ws) ∧ (∀ q ∈ nm, 0 ≤ q.2 ∧ q.2 ≤ BQ) ∧ nm.length ≤ j ∧ Prs Hh p E ps nm ∧ Hh E = some (.lst (ps.map V.ref)) ∧ PenAt Hh p c (n + 2 * j) ∧ But p H Hh)
      ⟨[], [], (fun _ z => nomatch z), (fun _ z => nomatch z), Nat.le_refl _, Prs.nil, upd_same, pen_off hP Ep Ec, But.of (Same.new nE)⟩ (fun j Hh hj ⟨ps, nm, _, _, _, _, _, _, b⟩ => SqL.of (b l _ lp hl)) ?_ ?_
    · rintro j x Hh hx ⟨ps, nm, en, vl, ln, pr, dE, Pn, b5⟩
      obtain ⟨y, rfl, gy, my⟩ := str_map_get hx
      have jl : j < ws.length := (List.getElem?_eq_some_iff.mp gy).1
      refine ⟨rfl, ?_⟩
      refine ⟨_, rfl, p, c, n + 2 * j, 3, rfl, Pn, by omega, by decide, by decide, fun i H6 i0 i1 P6 b6 => ?_⟩
      have pr6 := pr.but b6
      have dE6 := b6 E _ Ep dE
      have b06 := b5.trans b6
      refine ⟨i, 0, rfl, rfl, decide (i > 0), rfl, ?_⟩
      by_cases h0 : i > 0
      · rw [decide_eq_true h0]
        refine iteT ⟨_, rfl, _, rfl, 10, 30, rfl, rfl, ⟨by decide, by decide, by decide⟩, _, 4, rfl, rfl, ⟨by decide, by decide⟩, (show 6 ≤ sizeLine by decide), fun L nL => ?_⟩
        have Lp := (pen_apart P6 (Same.refl _) nL).1
        have Lc := (pen_apart P6 (Same.refl _) nL).2
        refine ⟨p, c, n + 2 * j + 1, L, _, rfl, pen_off P6 Lp Lc, by omega, upd_same, by show 1 ≤ 6; decide, by show 6 ≤ 1000; decide, fun i2 x2 H7 gx P7 b7 => ?_⟩
        obtain ⟨v, rfl, v0, v1⟩ : ∃ v : Int, x2 = .int v ∧ 0 ≤ v ∧ v ≤ BQ := by
          have hm := List.mem_of_getElem? gx
          simp only [List.mem_cons, List.not_mem_nil, or_false] at hm
          rcases hm with z | z | z | z | z | z
          · exact ⟨_, z, by decide, by decide⟩
          · exact ⟨_, z, by decide, by decide⟩
          · exact ⟨_, z, by decide, by decide⟩
          · exact ⟨_, z, by decide, by decide⟩
          · exact ⟨_, z, by decide, by decide⟩
          · exact ⟨_, z, by decide, by decide⟩
        have b67 : But p H6 H7 := (But.of (Same.new nL)).trans b7
        have pr7 := pr6.but b67
        have dE7 := b67 E _ Ep dE6
        refine ⟨(show 2 ≤ sizeLine by decide), fun T nT => ?_⟩
        have Tp := (pen_apart P7 (Same.refl _) nT).1
        have Tc := (pen_apart P7 (Same.refl _) nT).2
        have TE : T ≠ E := ne_new dE7 nT
        refine ⟨ps.map V.ref, by rw [upd_ne (Ne.symm TE)]; exact dE7, ?_, ps ++ [T], nm ++ [(y, v)], ?_, fun z hz => ?_, by rw [List.length_append, List.length_singleton]; omega, pr7.snoc nT Tp TE, by rw [List.map_append]; exact upd_same, (pen_off (pen_off P7 Tp Tc) Ep Ec).same (Same.refl _) (by omega), fun b o nb z => ?_⟩
        · have e1 := pr.len
          rw [List.length_map, sizeLine_eq]
          omega
        · intro z hz
          unfold names at hz en
          rw [List.map_append, List.mem_append] at hz
          rcases hz with q | q
          · exact en z q
          · rw [List.map_cons, List.map_nil, List.mem_singleton] at q
            rw [q]; exact my
        · rcases List.mem_append.mp hz with z2 | z2
          · exact vl z z2
          · rw [List.mem_singleton.mp z2]
            exact ⟨v0, v1⟩
        · have z7 := b67 b o nb (b06 b o nb z)
          rw [upd_ne (fun e => by rw [e, nE] at z; cases z), upd_ne (Ne.symm (ne_new z7 nT))]
          exact z7
      · rw [decide_eq_false h0]
        exact iteF ⟨ps, nm, en, vl, by omega, pr6, dE6, P6.same (Same.refl _) (by omega), b06⟩
    rintro Hh ⟨ps, nm, en, vl, ln, pr, dE, Pn, b5⟩
    rw [List.length_map] at ln Pn
    refine ⟨E, ps, cD nm, rfl, SqL.of dE, pr.sqt, fun g ng => ?_⟩
    obtain ⟨m, em, nd, vm, lm⟩ := merge_num nm [] List.nodup_nil
    rw [show mergeK [] (cD nm) = cD m from em]
    have gp := (pen_apart Pn (Same.refl _) ng).1
    have gc := (pen_apart Pn (Same.refl _) ng).2
    have sub : ∀ q ∈ m, q ∈ nm := fun q hq => (vm q hq).elim (fun z => nomatch z) id
    refine k g m _ (but_none b5 ng gp) upd_same nd (fun y hy => ?_) (fun q hq => vl q (sub q hq)) ?_ ((pen_off Pn gp gc).same (Same.refl _) (by omega)) (b5.trans (But.of (Same.new ng)))
    · obtain ⟨q, hq, e⟩ := List.mem_map.mp hy
      rw [← e]
      exact en _ (List.mem_map_of_mem (sub q hq))
    · have e3 : m.length ≤ 0 + nm.length := lm
      omega
def spLess (CS : Addr) : Sp := fun vs H Q _ => ∃ a b m1 m2, vs = [.ref a, .ref b] ∧ StaffAt CS H a m1 ∧ StaffAt CS H b m2 ∧ Fit m1 ∧ Fit m2 ∧ m1.length + m2.length ≤ 12 ∧
  ((∀ y, num m2 y ≤ num m1 y) → ∀ t r H', Same H H' → H' t = some (.dK (cD r)) → Fit r → (∀ y, num r y = num m1 y - num m2 y) → Q (.ref t) H') ∧
  (∀ (i : Nat) k t H', (names m2)[i]? = some k → num m1 k < num m2 k → (∀ z ∈ (names m2).take i, num m2 z ≤ num m1 z) → Same H H' → H' t = some (.tup [.str k, .bl true]) → Q (.ref t) H')
abbrev NLs : List Str := ["_law_one", "_law_second", "e"]
theorem scLess : FnScope NLs ["_law_one", "_law_second"] (defScope sLess) := ⟨rfl, rfl, rfl, by decide +kernel, rfl, by decide +kernel, by decide +kernel⟩
variable {CP CS pI sI aW aH aU aC aK CE aE : Addr} {fW fH fU fC fK fPI fSI : FuncData} {gG aS kG pK : Addr} {fG fS fKi : FuncData} {f : Addr} {fd : FuncData} {gN gSub gAdd gOr gAnd gE gO pO gFit gWin : Addr} {mc : Value} {fN fSub fAdd fOr fAnd fE fO fFit fWin : FuncData}
theorem ok_less (G : Pkg K mg CP CS pI sI aW aH aU aC aK fW fH fU fC fK fPI fSI) (M : Gm K CS gG aS kG pK fG fS fKi mg) (O : Ops K mg CS CE aE gN gSub gAdd gOr gAnd gE gO pO gFit gWin mc fN fSub fAdd fOr fAnd fE fO fFit fWin) (TQ : TxtQ mg) (F : Fun K "_law_less" "_law_less" sLess f fd) :
    FnOk P w K mg base CX0 8 f fd ["_law_one", "_law_second"] (spLess CS) := by
  have GSub : FnOk P w K mg base (L2.CX P w) 6 gSub fSub ["self", "other"] (spSub CS CE) := ok_Sub G M O.EF O.FSub
  have GNs : FnOk P w K mg base CX0 1 gN fN ["self"] (spN CS) := ok_numbers G O.FN
  have bSub : Binds K fSub ["self", "other"] [] := O.FSub.binds (ps := ["self", "other"]) fun _ _ _ _ _ _ us hl => match us, hl with | [_, _], _ => rfl
  have bNs : Binds K fN ["self"] [] := O.FN.binds (ps := ["self"]) fun _ _ _ _ _ _ us hl => match us, hl with | [_], _ => rfl
  refine F.ok scLess (fun vs H Q E h => ?_) (fun cdv A outer s H vs Q E hr h => ?_)
  · obtain ⟨a, b, m1, m2, rfl, _⟩ := h
    rfl
  · obtain ⟨a, b, m1, m2, rfl, A1, A2, f1, f2, ll, k, kE⟩ := h
    have hr1 : Room 1 _ := hr.mono (by decide)
    have hr6 : Room 6 _ := hr.mono (by decide)
    refine ⟨_, pss_one (ps_try_as (i := 2) (Wout := fun _ _ _ _ => False) rfl rfl scLess.nd rfl rfl ⟨rfl, by decide, Or.inl O.EF.gC⟩ takes0
      (fun W pn xe tk _ => pss_one (ps_ret (pe_meth0 (pe_op (op_binO (op := .Sub) (E := fun cls d H' => ∀ σ : L2.St, σ.length = 3 → W cls d σ H') O.sf O.hSub O.jSub (GSub.raw bSub .nil) hr6 (fun pins σ H s e s' I c => tk e s' (XE.of_call I (fun cls d H' h => h σ I.len) c))) (pv 0) (pv 1)) G.S.cl O.mN GNs hr1 bNs .nil pass0)))
      (fun a oe cls d pn hz hf => pss_one (ps_ret (pe_tup (pa_cons (pe_errFField O.EF hz hf (pv 2)) (pa_cons (pe_callB (call_isEF O.EF O.EC hz hf) (by rfl) G.T.isinstance (by decide +kernel) (pa_cons (pv 2) (pa_cons (pe_bltn (v := .ty "OverflowError") (by rfl) TQ.oe (by decide +kernel) rfl (by decide) (by decide)) pa_nil))) pa_nil)))))), ?_⟩
    obtain ⟨dx, d1, ha, hd1⟩ := A1
    obtain ⟨dy, d2, hb, hd2⟩ := A2
    refine ⟨_, rfl, _, rfl, a, dx, _, b, dy, _, rfl, rfl, ha, hb, a, b, m1, m2, rfl, ⟨dx, d1, ha, hd1⟩, ⟨dy, d2, hb, hd2⟩, f1, f2, ll, fun all x r H1 s1 nx X fr nr => ?_, fun i kk dd H1 gk lt lo s1 hd σ hl => ⟨true, O.EF.te, fun _ a0 _ => ?_, fun q => Bool.noConfusion q⟩⟩
    · obtain ⟨dz, dr, hx, hdr⟩ := X
      exact ⟨x, dz, _, rfl, hx, rfl, x, r, rfl, ⟨dz, dr, hx, hdr⟩, fun t nt => k all t r _ (s1.trans (Same.new nt)) upd_same fr nr⟩
    · have e3 : (σ.set 2 (some (V.ref a0)))[2]? = some (some (V.ref a0)) := List.getElem?_set_self (by omega)
      refine ⟨_, e3, rfl, rfl, dd, _, rfl, hd, _, e3, dd, _, _, _, true, rfl, rfl, rfl, hd, .ty _, O.ov, (show 2 ≤ sizeLine by decide), fun t nt => ?_⟩
      exact kE i kk t _ gk lt lo (s1.trans (Same.new nt)) upd_same
end
end Fs2
set_option Elab.async false
set_option linter.all false
set_option maxRecDepth 100000
set_option maxHeartbeats 4000000
/-! FuE: o.m(k = v) over the layer -/
namespace Fs
open PySem PySem.Spec PyProof.Rows L2 Fh
open PySem.W (Frag)
section
variable {X : Cx} {CX : CXT} {k n : Nat} {f C : Addr} {fd : FuncData} {ps ks : List Str} {sp : Sp} {E : XK} {m : Str} {pos apos : Pos} {o : Expr} {kws : List Keyword} {ta : TE} {tk : TA}
def tMethKw (C : Addr) (m : Str) (n : Nat) (sp : Sp) (E : XK) (ta : TE) (tk : TA) : TE := fun σ H Q => ta σ H fun x H1 => ∃ a dx fs, x = .ref a ∧ H1 a = some (.ins C dx fs) ∧ fs.lookup m = none ∧ tk σ H1 fun zs H2 => zs.length = n ∧ sp (.ref a :: zs) H2 Q E
theorem pe_methK {pl : Sem Bool} (he : PE X o ta) (c : Cls X.K C) (hm : Meth X.K C m f) (F : FnKw X.prog X.w X.K X.mg X.base CX k f ks sp) (hr : Room k X.A) (hx : Passes CX X E) (hkw : PK X kws tk)
    (hall : (backToKw pos (keywordEach kws X.env)).all (·.1.isSome) = true := by rfl) (hks : (backToKw pos (keywordEach kws X.env)).filterMap (·.1) = ks := by rfl)
    (hpl : ((backTo pos (starEach [] X.env)).any (·.1) || (backToKw pos (keywordEach kws X.env)).any (·.1.isNone)) = false := by rfl)
    (ht : eval (.Call (.Attribute o m apos) [] kws pos) X.env = (do
      let ov ← eval o X.env
      standAt apos.atName
      let (f, first) ← holding [ov] (getMethod ov m pl)
      callWith pos f first (backTo pos (starEach [] X.env)) (backToKw pos (keywordEach kws X.env))) := by rfl) :
    PE X (.Call (.Attribute o m apos) [] kws pos) (tMethKw C m ks.length sp E ta tk) := by
  refine ⟨fun pins s σ H Q I h => ?_⟩
  refine PySem.W.methodCall_KW (pl := pl) (thn (he.run pins s σ H _ I h) fun u s1 ⟨x, H1, I1, rx, a, dx, fs, ex, ea, l, q⟩ => ?_) ht
  subst ex
  obtain rfl : u = Value.ref a := rx
  refine getmeth_ok I1 ea c hm l ?_
  refine PySem.W.callWith_KW0 (first := [.ref a]) (h₀ := X.base) I.ok.mod.kin hm.kp hall ?_ hpl
  refine thn (hkw.run pos pins s1 σ _ _ I1 q) fun ws s2 ⟨zs, H2, I2, rz, l2, q2⟩ => ⟨I2.kIn, ?_⟩
  rw [hks]
  exact wpAny_call (run_fnKw (us := [.ref a]) (vs := [.ref a]) F hr hx I2 (.cons rfl .nil) rz l2 q2)
end
end Fs
set_option Elab.async false
set_option linter.all false
set_option maxRecDepth 100000
set_option maxHeartbeats 8000000
namespace Fs2
open PySem PySem.Spec PyProof.Rows L2 Fh Fs
open PySem.W (Frag)
abbrev sLaw : Stmt := top 26
abbrev NL : List Str := ["_law_script", "_law_pen_here", "_law_lap", "_law_words_here", "_law_mine", "_law_yours", "_law_one", "_law_second", "_law_pairs", "_law_told", "_law_due", "_law_few", "_law_left", "_law_caps", "_law_word", "_law_a", "_law_b"]
/-- the law's defs -/
structure Defs (K : Frag) (mg : Str → Option Value) (aP aD aQ aWd aSf aLs aPl aWt : Addr) (fP fD fQ fWd fSf fLs fPl fWt : FuncData) : Prop where
  dP : Fun K "_law_pen" "_law_pen" sPen aP fP
  dD : Fun K "_law_draw" "_law_draw" sDraw aD fD
  dQ : Fun K "_law_pick" "_law_pick" sPick aQ fQ
  dWd : Fun K "_law_words" "_law_words" sWds aWd fWd
  dSf : Fun K "_law_staff" "_law_staff" sStaff aSf fSf
  dLs : Fun K "_law_less" "_law_less" sLess aLs fLs
  dPl : Fun K "_law_plain" "_law_plain" sPlain aPl fPl
  dWt : Fun K "_law_within" "_law_within" sWithin aWt fWt
  gP : mg "_law_pen" = some (.ref aP)
  gD : mg "_law_draw" = some (.ref aD)
  gQ : mg "_law_pick" = some (.ref aQ)
  gWd : mg "_law_words" = some (.ref aWd)
  gSf : mg "_law_staff" = some (.ref aSf)
  gLs : mg "_law_less" = some (.ref aLs)
  gPl : mg "_law_plain" = some (.ref aPl)
  gWt : mg "_law_within" = some (.ref aWt)
def Md (d : PyData) : Prop := d.showable = true ∧ d.leavesShort 40 = true ∧ d.weight ≤ 2000 ∧ d.depth ≤ 10
theorem fit_lite {m : Num} (h : Fit m) : Lite m := by
  refine ⟨by have := h.l; omega, fun q hq => ?_⟩
  have hn : q.1 ∈ names m := List.mem_map_of_mem hq
  obtain ⟨w1, w2, w3⟩ := h.w _ hn
  have p := h.c.pos q hq
  have e : num m q.1 = q.2 := by unfold num; rw [lookup_of h.c.nd q hq]; rfl
  have u := h.u q.1
  rw [e] at u
  have abcs : ∀ c ∈ (Str.ofString "abcdefghijklmnopqrstuvwxyz").cps.toList, c < 16 ^ 8 := by decide +kernel
  exact ⟨w2, fun c hc => abcs c (w3 c hc), by omega⟩
theorem md_num {m : Num} (h : Lite m) (l : m.length ≤ 12) : Md (numD m) := by
  have w := kv_weight h
  refine ⟨?_, ?_, ?_, ?_⟩
  · simp only [numD, PyData.showable]; exact kv_showable h
  · simp only [numD, PyData.leavesShort]; exact kv_short h
  · simp only [numD, PyData.weight]; omega
  · simp only [numD, PyData.depth, kv_depth]; omega
theorem md_bool (b : Bool) : Md (.bool b) := by cases b <;> exact ⟨rfl, by decide +kernel, by decide +kernel, by decide +kernel⟩
theorem md_few {k : Str} (w : Word k) : Md (.tuple [.str k, .bool true]) := by
  have abcs : ∀ c ∈ (Str.ofString "abcdefghijklmnopqrstuvwxyz").cps.toList, c < 16 ^ 8 := by decide +kernel
  have wb : PyData.weight (.bool true) ≤ 8 := by decide +kernel
  have sb : PyData.leavesShort 40 (.bool true) = true := by decide +kernel
  refine ⟨?_, ?_, ?_, ?_⟩
  · simp only [PyData.showable, PyData.showableAll, Bool.and_true]
  · simp only [PyData.leavesShort, PyData.leavesShortAll, Bool.and_true]
    exact List.all_eq_true.mpr fun c hc => decide_eq_true (abcs c (w.2.2 c hc))
  · have w1 : PyData.weight (.str k) ≤ 8 := w.2.1
    have e : PyData.weight (.tuple [.str k, .bool true]) = PyData.weight (.str k) + 1 + (PyData.weight (.bool true) + 1 + 0) := by simp only [PyData.weight, PyData.weightAll]
    generalize PyData.weight (.bool true) = B at *
    generalize PyData.weight (.str k) = A at *
    omega
  · simp only [PyData.depth, PyData.depthAll]
    decide
theorem md_rp4 {a b c d : PyData} (ha : Md a) (hb : Md b) (hc : Md c) (hd : Md d) : Rp (.list [a, b, c, d]) := by
  obtain ⟨a1, a2, a3, a4⟩ := ha
  obtain ⟨b1, b2, b3, b4⟩ := hb
  obtain ⟨c1, c2, c3, c4⟩ := hc
  obtain ⟨d1, d2, d3, d4⟩ := hd
  refine rp_of ?_ ?_ ?_ ?_
  · simp only [PyData.showable, PyData.showableAll, a1, b1, c1, d1, Bool.and_true]
  · simp only [PyData.depth, PyData.depthAll]; omega
  · simp only [PyData.leavesShort, PyData.leavesShortAll, a2, b2, c2, d2, Bool.and_true]
  · simp only [PyData.weight, PyData.weightAll]; omega
theorem md_rp2 {a b : PyData} (ha : Md a) (hb : Md b) : Rp (.list [a, b]) := by
  obtain ⟨a1, a2, a3, a4⟩ := ha
  obtain ⟨b1, b2, b3, b4⟩ := hb
  refine rp_of ?_ ?_ ?_ ?_
  · simp only [PyData.showable, PyData.showableAll, a1, b1, Bool.and_true]
  · simp only [PyData.depth, PyData.depthAll]; omega
  · simp only [PyData.leavesShort, PyData.leavesShortAll, a2, b2, Bool.and_true]
  · simp only [PyData.weight, PyData.weightAll]; omega
theorem md_rp1 {a : PyData} (ha : Md a) : Rp a := by
  obtain ⟨a1, a2, a3, a4⟩ := ha
  exact rp_of a1 (by omega) a2 (by omega)
theorem sorted_pw {l : List Str} (h : sortedS l = true) : l.Pairwise fun a b => a.cps.toList ≤ b.cps.toList := by
  cases l with
  | nil => exact .nil
  | cons x r => exact rising_pairs r x h
theorem str_anti {a b : Str} (u : a.cps.toList ≤ b.cps.toList) (v : b.cps.toList ≤ a.cps.toList) : a = b := by
  have e2 : a.cps = b.cps := Array.toList_inj.mp (List.le_antisymm u v)
  cases a
  cases b
  cases e2
  rfl
theorem pw_get {l : List Str} (h : sortedS l = true) {i j : Nat} {a b : Str} (ij : i ≤ j) (ha : l[i]? = some a) (hb : l[j]? = some b) : a.cps.toList ≤ b.cps.toList := by
  rcases Nat.lt_or_ge i j with z | z
  · obtain ⟨hi, ea⟩ := List.getElem?_eq_some_iff.mp ha
    obtain ⟨hj, eb⟩ := List.getElem?_eq_some_iff.mp hb
    have p := List.pairwise_iff_getElem.mp (sorted_pw h) i j hi hj z
    rw [ea, eb] at p
    exact p
  · have e : i = j := Nat.le_antisymm ij z
    rw [e, hb] at ha
    rw [Option.some.inj ha]
    exact List.le_refl _
/-- the first of a row is the least of its set -/
theorem first_eq {ns zs : List Str} (sn : sortedS ns = true) (sz : sortedS zs = true) {P : Str → Prop} (hz : ∀ y, y ∈ zs ↔ y ∈ ns ∧ P y) {i : Nat} {k k0 : Str} (gk : ns[i]? = some k) (pk : P k) (lo : ∀ z ∈ ns.take i, ¬ P z) (h0 : zs[0]? = some k0) : k = k0 := by
  have m0 := List.mem_of_getElem? h0
  obtain ⟨n0, p0⟩ := (hz k0).mp m0
  obtain ⟨i0, g0⟩ := List.getElem?_of_mem n0
  have ii : i ≤ i0 := by
    rcases Nat.lt_or_ge i0 i with z | z
    · exfalso
      refine lo k0 ?_ p0
      have t : (ns.take i)[i0]? = some k0 := by rw [List.getElem?_take_of_lt z]; exact g0
      exact List.mem_of_getElem? t
    · exact z
  obtain ⟨j, gj⟩ := List.getElem?_of_mem ((hz k).mpr ⟨List.mem_of_getElem? gk, pk⟩)
  exact str_anti (pw_get sn ii gk g0) (pw_get sz (Nat.zero_le j) h0 gj)
/-- the pairs of a law: words with two numbers -/
def Trip (H : Hp) (L : Addr) (ws : List Str) (f g : Str → Int) : Prop := ∃ ts : List Addr, H L = some (.lst (ts.map V.ref)) ∧ Paired (fun t y => H t = some (.tup [.str y, .int (f y), .int (g y)])) ts ws
theorem Trip.same {H H' : Hp} {L : Addr} {ws : List Str} {f g : Str → Int} (s : Same H H') (h : Trip H L ws f g) : Trip H' L ws f g := by
  obtain ⟨ts, h1, h2⟩ := h
  exact ⟨ts, s _ _ h1, Paired.mono (fun _ _ z => s _ _ z) h2⟩
theorem paired_get {R : Addr → Str → Prop} : ∀ {ts : List Addr} {ws : List Str}, Paired R ts ws → ∀ {i : Nat} {t : Addr}, ts[i]? = some t → ∃ y, ws[i]? = some y ∧ R t y
  | _, _, .nil, i, t, h => by simp at h
  | _, _, .cons a r, 0, t, h => by
    simp at h
    subst h
    exact ⟨_, rfl, a⟩
  | _, _, .cons a r, i + 1, t, h => by
    obtain ⟨y, e, z⟩ := paired_get r (i := i) (t := t) (by simpa using h)
    exact ⟨y, by simpa using e, z⟩
theorem paired_snoc {R : Addr → Str → Prop} {t : Addr} {y : Str} (z : R t y) : ∀ {ts : List Addr} {ws : List Str}, Paired R ts ws → Paired R (ts ++ [t]) (ws ++ [y])
  | _, _, .nil => .cons z .nil
  | _, _, .cons a r => .cons a (paired_snoc z r)
theorem paired_len {R : Addr → Str → Prop} : ∀ {ts : List Addr} {ws : List Str}, Paired R ts ws → ts.length = ws.length
  | _, _, .nil => rfl
  | _, _, .cons a r => congrArg (· + 1) (paired_len r)
theorem merge_fun (h : Str → Int) : ∀ (ws : List Str) (m0 : Num), (names m0).Nodup → (∀ q ∈ m0, q.2 = h q.1) →
    ∃ m, mergeK (cD m0) (cD (ws.map fun y => (y, h y))) = cD m ∧ (names m).Nodup ∧ (∀ q ∈ m, q.2 = h q.1) ∧ (∀ y, y ∈ names m ↔ y ∈ names m0 ∨ y ∈ ws) ∧ m.length ≤ m0.length + ws.length
  | [], m0, nd, v => ⟨m0, rfl, nd, v, fun y => ⟨.inl, fun z => z.elim id fun q => nomatch q⟩, Nat.le_refl _⟩
  | y :: ws, m0, nd, v => by
    by_cases hy : y ∈ names m0
    · obtain ⟨m1, e1, n1, i1⟩ := putK_old (n := h y) hy
      have v1 : ∀ q ∈ m1, q.2 = h q.1 := fun q hq => by
        rcases i1 q hq with z | z
        · exact v q z
        · rw [z]
      have l1 : m1.length = m0.length := by rw [← names_len m1, ← names_len m0, n1]
      obtain ⟨m, e2, n2, v2, i2, l2⟩ := merge_fun h ws m1 (by rw [n1]; exact nd) v1
      refine ⟨m, ?_, n2, v2, fun z => ?_, by rw [List.length_cons]; omega⟩
      · show mergeK (putK (cD m0) (.inr y) (.int (h y))) (cD (ws.map fun y => (y, h y))) = cD m
        rw [e1]
        exact e2
      · rw [i2 z, n1, List.mem_cons]
        constructor
        · rintro (q | q)
          · exact .inl q
          · exact .inr (.inr q)
        · rintro (q | q | q)
          · exact .inl q
          · rw [q]; exact .inl hy
          · exact .inr q
    · have nm : names (m0 ++ [(y, h y)]) = names m0 ++ [y] := by unfold names; rw [List.map_append]; rfl
      have nd1 : (names (m0 ++ [(y, h y)])).Nodup := by
        rw [nm]
        exact List.nodup_append.mpr ⟨nd, List.nodup_cons.mpr ⟨List.not_mem_nil, List.nodup_nil⟩, fun a ha b hb e => hy (by rw [← List.mem_singleton.mp hb, ← e]; exact ha)⟩
      obtain ⟨m, e2, n2, v2, i2, l2⟩ := merge_fun h ws (m0 ++ [(y, h y)]) nd1 (fun q hq => by
        rcases List.mem_append.mp hq with z | z
        · exact v q z
        · rw [List.mem_singleton.mp z])
      refine ⟨m, ?_, n2, v2, fun z => ?_, by rw [List.length_cons]; rw [List.length_append, List.length_singleton] at l2; omega⟩
      · show mergeK (putK (cD m0) (.inr y) (.int (h y))) (cD (ws.map fun y => (y, h y))) = cD m
        rw [putK_new hy, ← cD_snoc]
        exact e2
      · rw [i2 z, nm, List.mem_append, List.mem_singleton, List.mem_cons, or_assoc]
theorem num_fun {m : Num} {h : Str → Int} {ws : List Str} (nd : (names m).Nodup) (v : ∀ q ∈ m, q.2 = h q.1) (i : ∀ y, y ∈ names m ↔ y ∈ ws) (y : Str) : num m y = if y ∈ ws then h y else 0 := by
  by_cases hy : y ∈ ws
  · rw [if_pos hy]
    obtain ⟨n, e, hm⟩ := lookup_some ((i y).mpr hy)
    unfold num
    rw [e]
    exact v _ hm
  · rw [if_neg hy, num_none (fun z => hy ((i y).mp z))]
/-- what one - second tells -/
def LessD (c1 c2 : Num) (d : PyData) : Prop := ((∀ y, num c2 y ≤ num c1 y) ∧ ∃ r, d = numD r ∧ Fit r ∧ ∀ y, num r y = num c1 y - num c2 y) ∨
  ∃ (i : Nat) (k : Str), d = .tuple [.str k, .bool true] ∧ (names c2)[i]? = some k ∧ num c1 k < num c2 k ∧ ∀ z ∈ (names c2).take i, num c2 z ≤ num c1 z
theorem getD_int (o : Option Int) : (o.map V.int).getD (V.int 0) = V.int (o.getD 0) := by cases o <;> rfl
theorem less_cut {c1 c2 : Num} {H : Hp} {Goal : Prop} (G : Addr → Hp → Prop) (h : (∀ (d : PyData) (t : Addr) (H' : Hp), LessD c1 c2 d → Same H H' → DA (fun _ => False) H' (.ref t) d → G t H') → Goal)
    (r : ∀ (d : PyData) (t : Addr) (H' : Hp), LessD c1 c2 d → Same H H' → DA (fun _ => False) H' (.ref t) d → G t H') : Goal := h r
theorem ref_map_get {ts : List Addr} {i : Nat} {x : V} (h : (ts.map V.ref)[i]? = some x) : ∃ t, x = .ref t ∧ ts[i]? = some t := by
  rw [List.getElem?_map] at h
  cases e : ts[i]? with
  | none => rw [e] at h; cases h
  | some t => rw [e] at h; exact ⟨t, (Option.some.inj h).symm, rfl⟩
theorem take_snocN {l : Num} {i : Nat} {x : Str × Int} (h : l[i]? = some x) : l.take (i + 1) = l.take i ++ [x] := by
  rw [List.take_add_one, h]
  rfl
theorem due_num {m r : Num} {h : Str → Int} {ws : List Str} (nd : (names m).Nodup) (v : ∀ q ∈ m, q.2 = h q.1) (i : ∀ y, y ∈ names m ↔ y ∈ names ([] : Num) ∨ y ∈ ws) (n : ∀ y, num r y = if 0 < num m y then num m y else 0) (y : Str) :
    num r y = if y ∈ ws then (if 0 < h y then h y else 0) else 0 := by
  rw [n y, num_fun nd v (fun z => (i z).trans ⟨fun o => o.elim (fun q => nomatch q) id, .inr⟩) y]
  by_cases hy : y ∈ ws
  · rw [if_pos hy, if_pos hy]
  · rw [if_neg hy, if_neg hy]
    rfl
theorem due_eq {r r1 : Num} {h : Str → Int} {ws : List Str} (cr : Can r) (c1 : Can r1) (n : ∀ y, num r y = if y ∈ ws then (if 0 < h y then h y else 0) else 0) (e : ∀ y, num r1 y = h y) (z : ∀ y, y ∉ ws → h y = 0) : r = r1 :=
  can_ext cr c1 fun y => by
    have nn := num_nn c1 y
    rw [e y] at nn
    rw [n y, e y]
    by_cases hy : y ∈ ws
    · rw [if_pos hy]
      split
      · rfl
      · omega
    · rw [if_neg hy, z y hy]
theorem due_cut {dl : PyData} {H : Hp} {due : Addr} {Goal : Prop} (G : Addr → Hp → Prop) (h : (∀ (t : Addr) (H' : Hp), Same H H' → DA (fun a => a = due) H' (.ref t) dl → G t H') → Goal)
    (r : ∀ (t : Addr) (H' : Hp), Same H H' → DA (fun a => a = due) H' (.ref t) dl → G t H') : Goal := h r
theorem filter_yes {y : Str} {P : Str → Bool} (h : P y = true) : [y].filter P = [y] := by rw [List.filter_cons, if_pos h]; rfl
theorem filter_no {y : Str} {P : Str → Bool} (h : ¬ P y = true) : [y].filter P = [] := by rw [List.filter_cons, if_neg h]; rfl
theorem few_nil {c1 c2 m1 m2 wd : Num} {ws : List Str} {d : PyData} (h : LessD c1 c2 d) (v1 : ∀ y, num c1 y = num m1 y) (v2 : ∀ y, num c2 y = num m2 y) (k1 : ∀ y, y ∉ ws → num m1 y = 0) (k2 : ∀ y, y ∉ ws → num m2 y = 0)
    (cr : Can wd) (n : ∀ y, num wd y = if y ∈ ws then (if 0 < num m1 y - num m2 y then num m1 y - num m2 y else 0) else 0) (hz : ∀ y, y ∈ ([] : List Str) ↔ y ∈ ws ∧ num m1 y < num m2 y) : d = numD wd := by
  rcases h with ⟨all, r, rfl, fr, nr⟩ | ⟨i, k, rfl, gk, lt, lo⟩
  · rw [due_eq (h := fun y => num m1 y - num m2 y) cr fr.c n (fun y => by rw [nr y, v1 y, v2 y]) (fun y hy => by rw [k1 y hy, k2 y hy]; rfl)]
  · exfalso
    rw [v1 k, v2 k] at lt
    by_cases hk : k ∈ ws
    · exact nomatch (hz k).mpr ⟨hk, lt⟩
    · rw [k1 k hk, k2 k hk] at lt
      exact Int.lt_irrefl _ lt
theorem few_cons {c1 c2 m1 m2 : Num} {ws zr : List Str} {k0 : Str} {d : PyData} (h : LessD c1 c2 d) (v1 : ∀ y, num c1 y = num m1 y) (v2 : ∀ y, num c2 y = num m2 y) (k1 : ∀ y, y ∉ ws → num m1 y = 0) (k2 : ∀ y, y ∉ ws → num m2 y = 0)
    (cc : Can c2) (nn : ∀ y, 0 ≤ num m1 y) (sz : sortedS (k0 :: zr) = true) (hz : ∀ y, y ∈ k0 :: zr ↔ y ∈ ws ∧ num m1 y < num m2 y) : d = .tuple [.str k0, .bool true] := by
  have h0 := (hz k0).mp List.mem_cons_self
  rcases h with ⟨all, r, rfl, fr, nr⟩ | ⟨i, k, rfl, gk, lt, lo⟩
  · exfalso
    have a := all k0
    rw [v1 k0, v2 k0] at a
    exact absurd h0.2 (Int.not_lt.mpr a)
  · have e := first_eq (ns := names c2) (zs := k0 :: zr) cc.s sz (P := fun y => num m1 y < num m2 y) (fun y => by
      rw [hz y]
      constructor
      · rintro ⟨a, b⟩
        refine ⟨?_, b⟩
        by_cases q : y ∈ names c2
        · exact q
        · have z := num_none q
          rw [v2 y] at z
          have := nn y
          rw [z] at b
          omega
      · rintro ⟨a, b⟩
        refine ⟨?_, b⟩
        by_cases q : y ∈ ws
        · exact q
        · rw [k1 y q, k2 y q] at b
          exact absurd b (Int.lt_irrefl _)) gk (by rw [← v1 k, ← v2 k]; exact lt) (fun z hz' => by
      have := lo z hz'
      rw [v1 z, v2 z] at this
      exact Int.not_lt.mpr this) (k0 := k0) rfl
    rw [e]
theorem at_head {k : Str} {r : List Str} : atI ((k :: r).map V.str) 0 = some (.str k) := atI_nat (j := 0) rfl
theorem fit_eq {c1 c2 m1 m2 : Num} {ws l : List Str} (v1 : ∀ y, num c1 y = num m1 y) (v2 : ∀ y, num c2 y = num m2 y) (k1 : ∀ y, y ∉ ws → num m1 y = 0) (nn : ∀ y, 0 ≤ num m2 y) (hz : ∀ y, y ∈ l ↔ y ∈ ws ∧ num m2 y < num m1 y) :
    ((names c1).all fun y => decide (num c1 y ≤ num c2 y)) = (l.map V.str).isEmpty := by
  cases l with
  | nil =>
    refine List.all_eq_true.mpr fun y _ => decide_eq_true ?_
    rw [v1 y, v2 y]
    by_cases hy : y ∈ ws
    · exact Int.not_lt.mp fun z => nomatch (hz y).mpr ⟨hy, z⟩
    · rw [k1 y hy]
      exact nn y
  | cons k r =>
    obtain ⟨_, b⟩ := (hz k).mp List.mem_cons_self
    refine Bool.eq_false_iff.mpr fun z => ?_
    have hk : k ∈ names c1 := by
      by_cases q : k ∈ names c1
      · exact q
      · have e := num_none q
        rw [v1 k] at e
        have := nn k
        omega
    have t := of_decide_eq_true (List.all_eq_true.mp z k hk)
    rw [v1 k, v2 k] at t
    exact absurd b (Int.not_lt.mpr t)
/-- a staff beside the pen -/
def StaffB (p CS : Addr) (H : Hp) (a : Addr) (m : Num) : Prop := ∃ dx d, a ≠ p ∧ d ≠ p ∧ H a = some (.ins CS dx [("_numbers", .ref d)]) ∧ H d = some (.dK (cD m))
theorem StaffB.but {p CS : Addr} {H H' : Hp} {a : Addr} {m : Num} (b : But p H H') (h : StaffB p CS H a m) : StaffB p CS H' a m := by
  obtain ⟨dx, d, h1, h2, h3, h4⟩ := h
  exact ⟨dx, d, h1, h2, b _ _ h1 h3, b _ _ h2 h4⟩
theorem StaffB.same {p CS : Addr} {H H' : Hp} {a : Addr} {m : Num} (h : StaffB p CS H a m) (s : Same H H') : StaffB p CS H' a m := h.but (But.of s)
theorem StaffB.a {p CS : Addr} {H : Hp} {a : Addr} {m : Num} (h : StaffB p CS H a m) : StaffAt CS H a m := by
  obtain ⟨dx, d, h1, h2, h3, h4⟩ := h
  exact ⟨dx, d, h3, h4⟩
theorem putL (m : Lims) (y : Str) (o : Option Int) (nd : (m.map (·.1)).Nodup) : ∃ m2, putK (lD m) (.inr y) (oV o) = lD m2 ∧ (m2.map (·.1)).Nodup ∧ m2.length ≤ m.length + 1 := by
  cases e : (lD m).any fun kv => decide (kv.1 = Sum.inr y) with
  | true =>
    refine ⟨m.map fun q => if q.1 = y then (q.1, o) else q, ?_, ?_, ?_⟩
    · unfold putK
      rw [e, if_pos rfl]
      unfold lD
      rw [List.map_map, List.map_map]
      refine List.map_congr_left fun q _ => ?_
      show (if (Sum.inr q.1 : Key) = Sum.inr y then ((Sum.inr q.1 : Key), oV o) else (Sum.inr q.1, oV q.2)) = ((Sum.inr (if q.1 = y then (q.1, o) else q).1 : Key), oV (if q.1 = y then (q.1, o) else q).2)
      by_cases z : q.1 = y
      · rw [if_pos (congrArg Sum.inr z), if_pos z]
      · rw [if_neg (fun w => z (Sum.inr.inj w)), if_neg z]
    · have t : (m.map fun q => if q.1 = y then (q.1, o) else q).map (·.1) = m.map (·.1) := by
        rw [List.map_map]
        refine List.map_congr_left fun q _ => ?_
        show (if q.1 = y then (q.1, o) else q).1 = q.1
        split <;> rfl
      rw [t]
      exact nd
    · rw [List.length_map]
      omega
  | false =>
    refine ⟨m ++ [(y, o)], ?_, ?_, ?_⟩
    · unfold putK
      rw [e]
      unfold lD
      rw [List.map_append]
      rfl
    · rw [List.map_append]
      refine List.nodup_append.mpr ⟨nd, by simp, fun a ha b hb ee => ?_⟩
      have hb2 : b = y := by simpa using hb
      obtain ⟨q, hq, eq⟩ := List.mem_map.mp ha
      have t : ((lD m).any fun kv => decide (kv.1 = Sum.inr y)) = true := List.any_eq_true.mpr ⟨(.inr q.1, oV q.2), List.mem_map_of_mem (f := fun q : Str × Option Int => ((Sum.inr q.1 : Key), oV q.2)) hq, decide_eq_true (congrArg Sum.inr (by rw [show q.1 = a from eq, ee, hb2]))⟩
      rw [e] at t
      cases t
    · rw [List.length_append, List.length_singleton]
      exact Nat.le_refl _
theorem merge_lims : ∀ (l m0 : Lims), (m0.map (·.1)).Nodup → ∃ m, mergeK (lD m0) (lD l) = lD m ∧ (m.map (·.1)).Nodup ∧ m.length ≤ m0.length + l.length
  | [], m0, nd => ⟨m0, rfl, nd, Nat.le_refl _⟩
  | q :: l, m0, nd => by
    obtain ⟨m1, e1, n1, l1⟩ := putL m0 q.1 q.2 nd
    obtain ⟨m, e2, n2, l2⟩ := merge_lims l m1 n1
    refine ⟨m, ?_, n2, by rw [List.length_cons]; omega⟩
    show mergeK (putK (lD m0) (.inr q.1) (oV q.2)) (lD l) = lD m
    rw [e1]
    exact e2
theorem lD_snoc (m : Lims) (y : Str) (o : Option Int) : lD (m ++ [(y, o)]) = lD m ++ [(.inr y, oV o)] := by
  unfold lD
  rw [List.map_append]
  rfl
def PrsL (H : Hp) (p E : Addr) (ps : List Addr) (l : Lims) : Prop := Paired (fun q (kv : Key × V) => H q = some (.tup [kV kv.1, kv.2]) ∧ q ≠ p ∧ q ≠ E) ps (lD l)
theorem PrsL.but {H H' : Hp} {p E : Addr} {ps : List Addr} {l : Lims} (h : PrsL H p E ps l) (b : But p H H') : PrsL H' p E ps l := Paired.mono (fun q kv z => ⟨b _ _ z.2.1 z.1, z.2⟩) h
theorem PrsL.snoc {H : Hp} {p E T : Addr} {ps : List Addr} {l : Lims} {y : Str} {n : Option Int} {o : HO} (h : PrsL H p E ps l) (nT : H T = none) (Tp : T ≠ p) (TE : T ≠ E) :
    PrsL (upd (upd H T (.tup [.str y, oV n])) E o) p E (ps ++ [T]) (l ++ [(y, n)]) := by
  unfold PrsL
  rw [lD_snoc]
  have h2 : Paired (fun q (kv : Key × V) => (upd (upd H T (.tup [.str y, oV n])) E o) q = some (.tup [kV kv.1, kv.2]) ∧ q ≠ p ∧ q ≠ E) ps (lD l) := Paired.mono (fun q kv z => ⟨by
    rw [upd_ne z.2.2, upd_ne (ne_of_none z.1 nT)]
    exact z.1, z.2⟩) h
  refine Paired.snoc h2 ⟨?_, Tp, TE⟩
  rw [upd_ne TE, upd_same]
  rfl
theorem PrsL.sqt {K : Frag} {H : Hp} {p E : Addr} {ps : List Addr} {l : Lims} (h : PrsL H p E ps l) : Paired (fun q (kv : Key × V) => SqT K H q [kV kv.1, kv.2]) ps (lD l) := Paired.mono (fun q kv z => SqT.of z.1) h
theorem PrsL.len {H : Hp} {p E : Addr} {ps : List Addr} {l : Lims} (h : PrsL H p E ps l) : ps.length = l.length := by
  have e := Paired.length h
  unfold lD at e
  rw [List.length_map] at e
  exact e
theorem five_oV {k : Nat} {x : V} (h : ([.non, .int 0, .int 1, .int 2, .int 3] : List V)[k]? = some x) : ∃ o : Option Int, x = oV o := by
  match k, h with
  | 0, h => exact ⟨none, (Option.some.inj h).symm⟩
  | 1, h => exact ⟨some 0, (Option.some.inj h).symm⟩
  | 2, h => exact ⟨some 1, (Option.some.inj h).symm⟩
  | 3, h => exact ⟨some 2, (Option.some.inj h).symm⟩
  | 4, h => exact ⟨some 3, (Option.some.inj h).symm⟩
  | k + 5, h => simp at h
theorem okL_eq {c m : Num} (v : ∀ y, num c y = num m y) (ls : Lims) : ls.all (okL c) = ls.all (okL m) := by
  have e : okL c = okL m := by
    funext q
    unfold okL
    cases q.2 with
    | none => rfl
    | some k => rw [v q.1]
  rw [e]
section
variable {P : Program} {w : World} {K : Frag} {mg : Str → Option Value} {base : Heap}
variable {CP CS pI sI aW aH aU aC aK CE aE : Addr} {fW fH fU fC fK fPI fSI : FuncData} {gG aS kG pK : Addr} {fG fS fKi : FuncData} {f : Addr} {fd : FuncData} {gN gSub gAdd gOr gAnd gE gO pO gFit gWin : Addr} {mc : Value} {fN fSub fAdd fOr fAnd fE fO fFit fWin : FuncData} {oP oD oQ oWd oSf oLs oPl oWt : Addr} {eP eD eQ eWd eSf eLs ePl eWt : FuncData}
def spLaw (K : Frag) : Sp := fun vs H Q _ => ∃ (a : Addr) (ns : List Int), vs = [.ref a] ∧ SqL K H a (ns.map V.int) ∧ ns.length ≤ 63 ∧ ∀ H', Q (.bl true) H'
theorem scLaw : FnScope NL ["_law_script"] (defScope sLaw) := ⟨rfl, rfl, rfl, by decide +kernel, rfl, by decide +kernel, by decide +kernel⟩
theorem ok_law (F : Fun K "law" "law" sLaw f fd) (G : Pkg K mg CP CS pI sI aW aH aU aC aK fW fH fU fC fK fPI fSI) (M : Gm K CS gG aS kG pK fG fS fKi mg) (O : Ops K mg CS CE aE gN gSub gAdd gOr gAnd gE gO pO gFit gWin mc fN fSub fAdd fOr fAnd fE fO fFit fWin)
    (Z : Defs K mg oP oD oQ oWd oSf oLs oPl oWt eP eD eQ eWd eSf eLs ePl eWt) (TP : TxtP mg) (TQ : TxtQ mg) (TM : TxtM mg) : FnG P w K mg base CX0 10 f fd ["_law_script"] (spLaw K) := by
  have TS := G.T
  have GP : FnOk P w K mg base CX0 1 oP eP ["_law_script"] (spPen K) := ok_pen Z.dP TP
  have GD : FnOk P w K mg base CX0 1 oD eD ["_law_pen_here", "_law_size"] spDraw := ok_draw Z.dD TP
  have GQ : FnOk P w K mg base CX0 2 oQ eQ ["_law_pen_here", "_law_items"] (spPick K) := ok_pick Z.dQ Z.dD TP Z.gD
  have GWd : FnOk P w K mg base CX0 3 oWd eWd ["_law_pen_here", "_law_count"] spWords := ok_words Z.dWd Z.dQ Z.dD TP TQ.range Z.gQ Z.gD
  have GSf : FnOk P w K mg base CX0 3 oSf eSf ["_law_pen_here", "_law_words_here"] spStaff := ok_staffL Z.dSf Z.dQ Z.dD TP TS Z.gQ Z.gD
  have GLs : FnOk P w K mg base CX0 8 oLs eLs ["_law_one", "_law_second"] (spLess CS) := ok_less G M O TQ Z.dLs
  have GPl : FnOk P w K mg base CX0 1 oPl ePl ["_law_numbers"] spPlain := ok_plain Z.dPl TS TQ
  have GWt : FnOk P w K mg base CX0 1 oWt eWt ["_law_mine", "_law_caps"] (spWith K) := ok_within Z.dWt
  have GOf : FnOk P w K mg base CX0 5 gO fO ["cls", "numbers"] (spOf CS) := ok_of G O.FO
  have GNs : FnOk P w K mg base CX0 1 gN fN ["self"] (spN CS) := ok_numbers G O.FN
  have GSub : FnOk P w K mg base (L2.CX P w) 6 gSub fSub ["self", "other"] (spSub CS CE) := ok_Sub G M O.EF O.FSub
  have GAdd : FnOk P w K mg base CX0 6 gAdd fAdd ["self", "other"] (spAdd CS) := ok_Add G M TM O.FAdd
  have GOr : FnOk P w K mg base CX0 6 gOr fOr ["self", "other"] (spOr CS) := ok_Or G M TM O.FOr
  have GAnd : FnOk P w K mg base CX0 6 gAnd fAnd ["self", "other"] (spAnd CS) := ok_And G M TM O.FAnd
  have GEq : FnOk P w K mg base CX0 1 gE fE ["self", "other"] (spE CS) := ok_eq G O.FE
  have GFit : FnOk P w K mg base CX0 3 gFit fFit ["self", "other"] (spFit CS) := ok_Fit G M O.FFit
  have GWin : FnOk P w K mg base CX0 3 gWin fWin ["self", "limits"] (spWin CS) := ok_Win G M O.FWin
  have bP : Binds K eP ["_law_script"] [] := Z.dP.binds (ps := ["_law_script"]) fun _ _ _ _ _ _ us hl => match us, hl with | [_], _ => rfl
  have bD : Binds K eD ["_law_pen_here", "_law_size"] [] := Z.dD.binds (ps := ["_law_pen_here", "_law_size"]) fun _ _ _ _ _ _ us hl => match us, hl with | [_, _], _ => rfl
  have bQ : Binds K eQ ["_law_pen_here", "_law_items"] [] := Z.dQ.binds (ps := ["_law_pen_here", "_law_items"]) fun _ _ _ _ _ _ us hl => match us, hl with | [_, _], _ => rfl
  have bWd : Binds K eWd ["_law_pen_here", "_law_count"] [] := Z.dWd.binds (ps := ["_law_pen_here", "_law_count"]) fun _ _ _ _ _ _ us hl => match us, hl with | [_, _], _ => rfl
  have bSf : Binds K eSf ["_law_pen_here", "_law_words_here"] [] := Z.dSf.binds (ps := ["_law_pen_here", "_law_words_here"]) fun _ _ _ _ _ _ us hl => match us, hl with | [_, _], _ => rfl
  have bLs : Binds K eLs ["_law_one", "_law_second"] [] := Z.dLs.binds (ps := ["_law_one", "_law_second"]) fun _ _ _ _ _ _ us hl => match us, hl with | [_, _], _ => rfl
  have bPl : Binds K ePl ["_law_numbers"] [] := Z.dPl.binds (ps := ["_law_numbers"]) fun _ _ _ _ _ _ us hl => match us, hl with | [_], _ => rfl
  have bWt : Binds K eWt ["_law_mine", "_law_caps"] [] := Z.dWt.binds (ps := ["_law_mine", "_law_caps"]) fun _ _ _ _ _ _ us hl => match us, hl with | [_, _], _ => rfl
  have bOf : Binds K fO ["cls", "numbers"] [] := O.FO.binds (ps := ["cls", "numbers"]) fun _ _ _ _ _ _ us hl => match us, hl with | [_, _], _ => rfl
  have bNs : Binds K fN ["self"] [] := O.FN.binds (ps := ["self"]) fun _ _ _ _ _ _ us hl => match us, hl with | [_], _ => rfl
  have bSub : Binds K fSub ["self", "other"] [] := O.FSub.binds (ps := ["self", "other"]) fun _ _ _ _ _ _ us hl => match us, hl with | [_, _], _ => rfl
  have bAdd : Binds K fAdd ["self", "other"] [] := O.FAdd.binds (ps := ["self", "other"]) fun _ _ _ _ _ _ us hl => match us, hl with | [_, _], _ => rfl
  have bOr : Binds K fOr ["self", "other"] [] := O.FOr.binds (ps := ["self", "other"]) fun _ _ _ _ _ _ us hl => match us, hl with | [_, _], _ => rfl
  have bAnd : Binds K fAnd ["self", "other"] [] := O.FAnd.binds (ps := ["self", "other"]) fun _ _ _ _ _ _ us hl => match us, hl with | [_, _], _ => rfl
  have bEq : Binds K fE ["self", "other"] [] := O.FE.binds (ps := ["self", "other"]) fun _ _ _ _ _ _ us hl => match us, hl with | [_, _], _ => rfl
  have bFit : Binds K fFit ["self", "other"] [] := O.FFit.binds (ps := ["self", "other"]) fun _ _ _ _ _ _ us hl => match us, hl with | [_, _], _ => rfl
  have bWin : Binds K fWin ["self", "limits"] [] := O.FWin.binds (ps := ["self", "limits"]) fun _ _ _ _ _ _ us hl => match us, hl with | [_, _], _ => rfl
  have KFit : FnKw P w K mg base CX0 3 gFit ["other"] (spFit CS) := FnKw.of_fn (n := 1) GFit (by
    refine ⟨fun s us ws _ l1 l2 => ?_, fun r z => r.append z⟩
    obtain ⟨oc, od, kV, doc, pm, an, cdv, ct, osl, e, _, _⟩ := O.FFit.ex
    rw [e]
    match us, ws, l1, l2 with
    | [x], [y], _, _ => exact .of_eq rfl) rfl
  have KWin : FnKw P w K mg base CX0 3 gWin ["limits"] (spWin CS) := FnKw.of_fn (n := 1) GWin (by
    refine ⟨fun s us ws _ l1 l2 => ?_, fun r z => r.append z⟩
    obtain ⟨oc, od, kV, doc, pm, an, cdv, ct, osl, e, _, _⟩ := O.FWin.ex
    rw [e]
    match us, ws, l1, l2 with
    | [x], [y], _, _ => exact .of_eq rfl) rfl
  refine FunG_ok F scLaw (fun vs H Q E h => ?_) (fun cdv Ar outer s H vs Q E hG hr h => ?_)
  · obtain ⟨a, ns, rfl, _⟩ := h
    rfl
  · obtain ⟨sc, ns, rfl, hS, hn, k⟩ := h
    have hu := hr.units
    have hu1 := hu_of hr
    have hu0 : _ < cLine := Nat.lt_of_le_of_lt (Nat.le_add_right _ 1) hu1
    have gd : (Ar.deeper (envOfC "law" (defScope sLaw) s.heap.objs.size f cdv)).guards = some [] := (guards_deeper _ _).trans hG
    have hr1 : Room 1 _ := hr.mono (by decide)
    have hr2 : Room 2 _ := hr.mono (by decide)
    have hr3 : Room 3 _ := hr.mono (by decide)
    have hr5 : Room 5 _ := hr.mono (by decide)
    have hr6 : Room 6 _ := hr.mono (by decide)
    have hr : Room 8 _ := hr.mono (by decide)
    refine ⟨_, PSs.nox (pss_cons (ps_set (i := 1) scLaw.nd rfl (Or.inr rfl) (pe_call GP hr1 rfl Z.gP Z.dP.kp bP .nil pass0 (pa_cons (pv 0) pa_nil)))
      (pss_cons (ps_for PassesOwn.never rfl (pi_range1 rfl TQ.range (pa_cons (pe_op op_add pe_int (pe_callB (call_min2 rfl) (by rfl) TM.min (by decide +kernel) (pa_cons pe_int (pa_cons (pe_callB call_len_seq (by rfl) TP.len PySem.boot_len (pa_cons (pv 0) pa_nil)) pa_nil)))) pa_nil)) (pg_name (i := 2) scLaw.nd rfl (Or.inl rfl))
      (pss_cons (ps_set (i := 3) scLaw.nd rfl (Or.inl rfl) (pe_call GWd hr3 rfl Z.gWd Z.dWd.kp bWd .nil pass0 (pa_cons (pv 1) (pa_cons pe_int pa_nil))))
      (pss_cons (ps_asg (pe_tup (pa_cons (pe_call GSf hr3 rfl Z.gSf Z.dSf.kp bSf .nil pass0 (pa_cons (pv 1) (pa_cons (pv 3) pa_nil))) (pa_cons (pe_call GSf hr3 rfl Z.gSf Z.dSf.kp bSf .nil pass0 (pa_cons (pv 1) (pa_cons (pv 3) pa_nil))) pa_nil))) (pg_tup rfl (pgs_cons (pg_name (i := 4) scLaw.nd rfl (Or.inr rfl)) (pgs_cons (pg_name (i := 5) scLaw.nd rfl (Or.inr rfl)) pgs_nil))))
      (pss_cons (ps_par (i := 6) (j := 7) (by rfl) scLaw.nd rfl rfl (by decide) rfl rfl (pa_cons (ClX.pe_cmeth (pe_glob (v := .ref CS) (by rfl) G.S.gC rfl) O.cr O.cm (GOf.raw bOf .nil) hr5 pass0 (pa_cons (pv 4) pa_nil)) (pa_cons (ClX.pe_cmeth (pe_glob (v := .ref CS) (by rfl) G.S.gC rfl) O.cr O.cm (GOf.raw bOf .nil) hr5 pass0 (pa_cons (pv 5) pa_nil)) pa_nil)) (by rfl))
      (pss_cons (ps_setLc (i := 8) (own := [("_law_word", 14)]) (g := gName 14) (tt := tYes) rfl scLaw.nd rfl rfl (sw_true rfl rfl rfl (by decide +kernel)) (pi_list (pv 3)) (blkOk_by (N := NL) (sc := defScope sLaw) (by decide +kernel)) (fun _ _ _ _ _ => (pg_name (i := 14) scLaw.nd rfl (Or.inl rfl))) (fun _ _ _ _ _ => pts_nil) (fun _ _ _ _ _ => (pe_tup (pa_cons (pv 14) (pa_cons (pe_dget2 hu1 (pv 4) (pv 14) pe_int ⟨rfl, rfl, rfl, rfl⟩) (pa_cons (pe_dget2 hu1 (pv 5) (pv 14) pe_int ⟨rfl, rfl, rfl, rfl⟩) pa_nil))))))
      (pss_cons (ps_set (i := 9) scLaw.nd rfl (Or.inl rfl) (pe_lstS (pa_cons (pe_meth0 (pe_op (op_binO (op := .Add) O.sf O.hAdd O.jAdd (GAdd.raw bAdd .nil) hr6 pass0) (pv 6) (pv 7)) G.S.cl O.mN GNs hr1 bNs .nil pass0) (pa_cons (pe_meth0 (pe_op (op_binO (op := .BitOr) O.sf O.hOr O.jOr (GOr.raw bOr .nil) hr6 pass0) (pv 6) (pv 7)) G.S.cl O.mN GNs hr1 bNs .nil pass0) (pa_cons (pe_meth0 (pe_op (op_binO (op := .BitAnd) O.sf O.hAnd O.jAnd (GAnd.raw bAnd .nil) hr6 pass0) (pv 6) (pv 7)) G.S.cl O.mN GNs hr1 bNs .nil pass0) (pa_cons (pe_call GLs hr rfl Z.gLs Z.dLs.kp bLs .nil pass0 (pa_cons (pv 6) (pa_cons (pv 7) pa_nil))) pa_nil))))))
      (pss_cons (ps_set (i := 10) scLaw.nd rfl (Or.inl rfl) (pe_lstS (pa_cons (pe_call GPl hr1 rfl Z.gPl Z.dPl.kp bPl .nil pass0 (pa_cons (pe_callTy (call_dictP rfl) (by rfl) TS.dict (by decide +kernel) (pa_cons (pe_lc (own := [("_law_word", 14), ("_law_a", 15), ("_law_b", 16)]) (g := gTup K 3 (gCons (gName 14) (gCons (gName 15) (gCons (gName 16) gNil)))) (tt := tYes) rfl scLaw.nd (pi_list (pv 8)) (blkOk_by (N := NL) (sc := defScope sLaw) (by decide +kernel)) (fun _ _ _ _ _ => pg_tup rfl (pgs_cons (pg_name (i := 14) scLaw.nd rfl (Or.inl rfl)) (pgs_cons (pg_name (i := 15) scLaw.nd rfl (Or.inl rfl)) (pgs_cons (pg_name (i := 16) scLaw.nd rfl (Or.inl rfl)) pgs_nil)))) (fun _ _ _ _ _ => pts_nil) (fun _ _ _ _ _ => (pe_tup (pa_cons (pv 14) (pa_cons (pe_op op_add (pv 15) (pv 16)) pa_nil))))) pa_nil)) pa_nil)) pa_nil)))
      (pss_cons (ps_expr (pe_bm PySem.F.plainAttrs_list PySem.F.slot_list_append PySem.F.type_list_append mt_append (pv 10) (pa_cons (pe_call GPl hr1 rfl Z.gPl Z.dPl.kp bPl .nil pass0 (pa_cons (pe_callTy (call_dictP rfl) (by rfl) TS.dict (by decide +kernel) (pa_cons (pe_lc (own := [("_law_word", 14), ("_law_a", 15), ("_law_b", 16)]) (g := gTup K 3 (gCons (gName 14) (gCons (gName 15) (gCons (gName 16) gNil)))) (tt := tYes) rfl scLaw.nd (pi_list (pv 8)) (blkOk_by (N := NL) (sc := defScope sLaw) (by decide +kernel)) (fun _ _ _ _ _ => pg_tup rfl (pgs_cons (pg_name (i := 14) scLaw.nd rfl (Or.inl rfl)) (pgs_cons (pg_name (i := 15) scLaw.nd rfl (Or.inl rfl)) (pgs_cons (pg_name (i := 16) scLaw.nd rfl (Or.inl rfl)) pgs_nil)))) (fun _ _ _ _ _ => pts_nil) (fun _ _ _ _ _ => (pe_tup (pa_cons (pv 14) (pa_cons (pe_callB (call_max2 rfl) (by rfl) TM.max boot_max (pa_cons (pe_callTy call_int1 (by rfl) TS.int (by decide +kernel) (pa_cons (pv 15) pa_nil)) (pa_cons (pe_callTy call_int1 (by rfl) TS.int (by decide +kernel) (pa_cons (pv 16) pa_nil)) pa_nil))) pa_nil))))) pa_nil)) pa_nil)) pa_nil)))
      (pss_cons (ps_expr (pe_bm PySem.F.plainAttrs_list PySem.F.slot_list_append PySem.F.type_list_append mt_append (pv 10) (pa_cons (pe_call GPl hr1 rfl Z.gPl Z.dPl.kp bPl .nil pass0 (pa_cons (pe_callTy (call_dictP rfl) (by rfl) TS.dict (by decide +kernel) (pa_cons (pe_lc (own := [("_law_word", 14), ("_law_a", 15), ("_law_b", 16)]) (g := gTup K 3 (gCons (gName 14) (gCons (gName 15) (gCons (gName 16) gNil)))) (tt := tYes) rfl scLaw.nd (pi_list (pv 8)) (blkOk_by (N := NL) (sc := defScope sLaw) (by decide +kernel)) (fun _ _ _ _ _ => pg_tup rfl (pgs_cons (pg_name (i := 14) scLaw.nd rfl (Or.inl rfl)) (pgs_cons (pg_name (i := 15) scLaw.nd rfl (Or.inl rfl)) (pgs_cons (pg_name (i := 16) scLaw.nd rfl (Or.inl rfl)) pgs_nil)))) (fun _ _ _ _ _ => pts_nil) (fun _ _ _ _ _ => (pe_tup (pa_cons (pv 14) (pa_cons (pe_callB (call_min2 rfl) (by rfl) TM.min boot_min (pa_cons (pe_callTy call_int1 (by rfl) TS.int (by decide +kernel) (pa_cons (pv 15) pa_nil)) (pa_cons (pe_callTy call_int1 (by rfl) TS.int (by decide +kernel) (pa_cons (pv 16) pa_nil)) pa_nil))) pa_nil))))) pa_nil)) pa_nil)) pa_nil)))
      (pss_cons (ps_set (i := 11) scLaw.nd rfl (Or.inl rfl) (pe_callB cr_sortedSeq (by rfl) TS.sorted (by decide +kernel) (pa_cons (pe_lc (own := [("_law_word", 14), ("_law_a", 15), ("_law_b", 16)]) (g := gTup K 3 (gCons (gName 14) (gCons (gName 15) (gCons (gName 16) gNil))))  rfl scLaw.nd (pi_list (pv 8)) (blkOk_by (N := NL) (sc := defScope sLaw) (by decide +kernel)) (fun _ _ _ _ _ => pg_tup rfl (pgs_cons (pg_name (i := 14) scLaw.nd rfl (Or.inl rfl)) (pgs_cons (pg_name (i := 15) scLaw.nd rfl (Or.inl rfl)) (pgs_cons (pg_name (i := 16) scLaw.nd rfl (Or.inl rfl)) pgs_nil)))) (fun _ _ _ _ _ => pts_one (pt_cmpR op_lt (pv 15) (pv 16) (nomark _))) (fun _ _ _ _ _ => (pv 14))) pa_nil)))
      (pss_cons (ps_set (i := 12) scLaw.nd rfl (Or.inl rfl) (pe_call GPl hr1 rfl Z.gPl Z.dPl.kp bPl .nil pass0 (pa_cons (pe_callTy (call_dictP rfl) (by rfl) TS.dict (by decide +kernel) (pa_cons (pe_lc (own := [("_law_word", 14), ("_law_a", 15), ("_law_b", 16)]) (g := gTup K 3 (gCons (gName 14) (gCons (gName 15) (gCons (gName 16) gNil)))) (tt := tYes) rfl scLaw.nd (pi_list (pv 8)) (blkOk_by (N := NL) (sc := defScope sLaw) (by decide +kernel)) (fun _ _ _ _ _ => pg_tup rfl (pgs_cons (pg_name (i := 14) scLaw.nd rfl (Or.inl rfl)) (pgs_cons (pg_name (i := 15) scLaw.nd rfl (Or.inl rfl)) (pgs_cons (pg_name (i := 16) scLaw.nd rfl (Or.inl rfl)) pgs_nil)))) (fun _ _ _ _ _ => pts_nil) (fun _ _ _ _ _ => (pe_tup (pa_cons (pv 14) (pa_cons (pe_op op_sub (pv 15) (pv 16)) pa_nil))))) pa_nil)) pa_nil)))
      (pss_cons (ps_expr (pe_bm PySem.F.plainAttrs_list PySem.F.slot_list_append PySem.F.type_list_append mt_append (pv 10) (pa_cons (pe_ifExp (pt_cmpR (op_neE hu0) (pv 11) (pe_lst pa_nil) (nomark _)) (pe_tup (pa_cons (pe_ix ix_list (pv 11) pe_int (fun _ _ => rfl)) (pa_cons pe_bl pa_nil))) (pv 12)) pa_nil)))
      (pss_cons (ps_if (pt_cmpR op_ne (pe_callB (call_repr gd hu) (by rfl) TQ.repr (by decide +kernel) (pa_cons (pv 9) pa_nil)) (pe_callB (call_repr gd hu) (by rfl) TQ.repr (by decide +kernel) (pa_cons (pv 10) pa_nil)) (nomark _)) (pss_one (ps_ret pe_bl)) pss_nil)
      (pss_cons (ps_if (pt_cmpR op_ne (pe_callB (call_repr gd hu) (by rfl) TQ.repr (by decide +kernel) (pa_cons (pe_lstS (pa_cons (pe_meth (pv 6) G.S.cl O.mFit GFit hr3 bFit .nil pass0 (pa_cons (pv 7) pa_nil)) (pa_cons (pe_methK (ks := ["other"]) (pv 7) G.S.cl O.mFit KFit hr3 pass0 (pk_cons (pv 6) pk_nil)) pa_nil))) pa_nil)) (pe_callB (call_repr gd hu) (by rfl) TQ.repr (by decide +kernel) (pa_cons (pe_lstS (pa_cons (pe_cmpR (op_eqE hu0) (pe_lc (own := [("_law_word", 14), ("_law_a", 15), ("_law_b", 16)]) (g := gTup K 3 (gCons (gName 14) (gCons (gName 15) (gCons (gName 16) gNil))))  rfl scLaw.nd (pi_list (pv 8)) (blkOk_by (N := NL) (sc := defScope sLaw) (by decide +kernel)) (fun _ _ _ _ _ => pg_tup rfl (pgs_cons (pg_name (i := 14) scLaw.nd rfl (Or.inl rfl)) (pgs_cons (pg_name (i := 15) scLaw.nd rfl (Or.inl rfl)) (pgs_cons (pg_name (i := 16) scLaw.nd rfl (Or.inl rfl)) pgs_nil)))) (fun _ _ _ _ _ => pts_one (pt_cmpR op_gt (pv 15) (pv 16) (nomark _))) (fun _ _ _ _ _ => (pv 14))) (pe_lst pa_nil) (nomark _)) (pa_cons (pe_cmpR (op_eqE hu0) (pv 11) (pe_lst pa_nil) (nomark _)) pa_nil))) pa_nil)) (nomark _)) (pss_one (ps_ret pe_bl)) pss_nil)
      (pss_cons (ps_set (i := 13) scLaw.nd rfl (Or.inl rfl) (pe_callTy (call_dictP rfl) (by rfl) TS.dict (by decide +kernel) (pa_cons (pe_lc (own := [("_law_word", 14)]) (g := gName 14)  rfl scLaw.nd  (pi_list (pv 3)) (blkOk_by (N := NL) (sc := defScope sLaw) (by decide +kernel)) (fun _ _ _ _ _ => (pg_name (i := 14) scLaw.nd rfl (Or.inl rfl))) (fun _ _ _ _ _ => pts_one (pt_cmpR op_gt (pe_call GD hr1 rfl Z.gD Z.dD.kp bD .nil pass0 (pa_cons (pv 1) (pa_cons pe_int pa_nil))) pe_int (nomark _))) (fun _ _ _ _ _ => (pe_tup (pa_cons (pv 14) (pa_cons (pe_call GQ hr2 rfl Z.gQ Z.dQ.kp bQ .nil pass0 (pa_cons (pv 1) (pa_cons (pe_lst (pa_cons pe_non (pa_cons pe_int (pa_cons pe_int (pa_cons pe_int (pa_cons pe_int pa_nil)))))) pa_nil))) pa_nil))))) pa_nil)))
      (pss_cons (ps_if (pt_cmpR op_ne (pe_callB (call_repr gd hu) (by rfl) TQ.repr (by decide +kernel) (pa_cons (pe_methK (ks := ["limits"]) (pv 6) G.S.cl O.mWin KWin hr3 pass0 (pk_cons (pv 13) pk_nil)) pa_nil)) (pe_callB (call_repr gd hu) (by rfl) TQ.repr (by decide +kernel) (pa_cons (pe_call GWt hr1 rfl Z.gWt Z.dWt.kp bWt .nil pass0 (pa_cons (pv 4) (pa_cons (pv 13) pa_nil))) pa_nil)) (nomark _)) (pss_one (ps_ret pe_bl)) pss_nil)
      (pss_cons (ps_if (PW.pt (pw_or (pt_cmpR (op_neO O.hE O.jE O.hNe O.hob (GEq.raw bEq .nil) hr2 pass0) (pe_op (op_binO (op := .Sub) (E := E0) O.sf O.hSub O.jSub (GSub.raw bSub .nil) hr6 passL) (pe_op (op_binO (op := .Add) O.sf O.hAdd O.jAdd (GAdd.raw bAdd .nil) hr6 pass0) (pv 6) (pv 7)) (pv 7)) (pv 6) (nomark _)) (pw_or (pt_cmpR (op_neO O.hE O.jE O.hNe O.hob (GEq.raw bEq .nil) hr2 pass0) (pe_op (op_binO (op := .Add) O.sf O.hAdd O.jAdd (GAdd.raw bAdd .nil) hr6 pass0) (pv 6) (pv 7)) (pe_op (op_binO (op := .Add) O.sf O.hAdd O.jAdd (GAdd.raw bAdd .nil) hr6 pass0) (pv 7) (pv 6)) (nomark _)) (pw_or1 (pt_not (pt_val (pe_meth (pv 6) G.S.cl O.mFit GFit hr3 bFit .nil pass0 (pa_cons (pe_op (op_binO (op := .Add) O.sf O.hAdd O.jAdd (GAdd.raw bAdd .nil) hr6 pass0) (pv 6) (pv 7)) pa_nil)))))))) (pss_one (ps_ret pe_bl)) pss_nil)
      (pss_one (ps_if (pt_cmpR op_ne (pe_callB (call_repr gd hu) (by rfl) TQ.repr (by decide +kernel) (pa_cons (pe_lstS (pa_cons (pe_meth0 (pv 6) G.S.cl O.mN GNs hr1 bNs .nil pass0) (pa_cons (pe_meth0 (pv 7) G.S.cl O.mN GNs hr1 bNs .nil pass0) pa_nil))) pa_nil)) (pe_callB (call_repr gd hu) (by rfl) TQ.repr (by decide +kernel) (pa_cons (pe_lstS (pa_cons (pe_call GPl hr1 rfl Z.gPl Z.dPl.kp bPl .nil pass0 (pa_cons (pv 4) pa_nil)) (pa_cons (pe_call GPl hr1 rfl Z.gPl Z.dPl.kp bPl .nil pass0 (pa_cons (pv 5) pa_nil)) pa_nil))) pa_nil)) (nomark _)) (pss_one (ps_ret pe_bl)) pss_nil)))))))))))))))))))
      (pss_one (ps_ret pe_bl)))), ?_⟩
    refine ⟨_, rfl, sc, ns, rfl, hS, hn, fun p c H1 s1 np hP => ?_⟩
    obtain ⟨MM, hM, hM2⟩ : ∃ N : Nat, (8 + (if ((ns.map V.int).length : Int) < 8 then ((ns.map V.int).length : Int) else 8) : Int) = (N : Int) ∧ N ≤ 16 := by
      refine ⟨(8 + (if ((ns.map V.int).length : Int) < 8 then ((ns.map V.int).length : Int) else 8) : Int).toNat, ?_, ?_⟩
      · split <;> omega
      · split <;> omega
    refine ⟨_, rfl, sc, _, rfl, Or.inl (s1.seq hS), 8, _, rfl, 8, _, rfl, rfl, (MM : Int), congrArg (fun z => [V.int z]) hM, by omega, by omega, for_range (lo := 0) (n := MM)
      (fun i σ H2 => ∃ l x3 x4 x5 x6 x7 x8 x9 x10 x11 x12 x13 x14 x15 x16, σ = [some (V.ref sc), some (.ref p), l, x3, x4, x5, x6, x7, x8, x9, x10, x11, x12, x13, x14, x15, x16] ∧ PenAt H2 p c (1000 * i)) ⟨none, none, none, none, none, none, none, none, none, none, none, none, none, none, none, rfl, hP⟩ ?_ ?_⟩
    · rintro i σ H2 hi ⟨l0, y3, y4, y5, y6, y7, y8, y9, y10, y11, y12, y13, y14, y15, y16, rfl, hP2⟩
      -- words
      refine ⟨_, rfl, p, c, 1000 * i, 4, rfl, hP2, by omega, by decide, fun l ws H3 lx gx P3 B3 nl hl => ?_⟩
      have lp : l ≠ p := (pen_apart hP2 (Same.refl _) nl).1
      have ww : ∀ x ∈ ws, Word x := fun x hx => (gx x hx).1
      clear gx nl B3 hP2
      -- mine, yours
      refine ⟨_, rfl, _, rfl, p, c, 1000 * i + 10, l, ws, rfl, P3, by omega, hl, by omega, ww, fun e1 m1 H4 ne1 he1 nd1 in1 bd1 le1 P4 B4 => ?_⟩
      refine ⟨_, rfl, _, rfl, p, c, 1000 * i + 10 + 12, l, ws, rfl, P4, by omega, B4 _ _ lp hl, by omega, ww, fun e2 m2 H5 ne2 he2 nd2 in2 bd2 le2 P5 B5 => ?_⟩
      have e1p : e1 ≠ p := (pen_apart P3 (Same.refl _) ne1).1
      have e2p : e2 ≠ p := (pen_apart P4 (Same.refl _) ne2).1
      have he1 := B5 _ _ e1p he1
      have hl5 := B5 _ _ lp (B4 _ _ lp hl)
      refine ⟨(show 2 ≤ sizeLine by decide), fun T nT => ?_⟩
      have s6 := Same.new (o := .tup [.ref e1, .ref e2]) nT
      have hT : (upd H5 T (.tup [.ref e1, .ref e2])) T = some (.tup [.ref e1, .ref e2]) := upd_same
      have he1 := s6 _ _ he1
      have he2 := s6 _ _ he2
      have hl6 := s6 _ _ hl5
      have P6 := P5.same s6 (Nat.le_refl _)
      generalize upd H5 T (.tup [.ref e1, .ref e2]) = H6 at hT he1 he2 hl6 P6 ⊢
      clear s6 nT P5 B5 P4 B4 hl5 hl ne1 ne2 P3
      refine ⟨T, _, rfl, SqT.of hT, rfl, _, _, rfl, _, _, rfl, rfl, ?_⟩
      -- one, second
      have bq : BQ ≤ 10 ^ 30 := by decide
      have g1 : Good m1 := ⟨nd1, by omega, fun q hq => ⟨ww _ (in1 _ (List.mem_map_of_mem hq)), (bd1 q hq).1, Int.le_trans (bd1 q hq).2 bq⟩⟩
      have g2 : Good m2 := ⟨nd2, by omega, fun q hq => ⟨ww _ (in2 _ (List.mem_map_of_mem hq)), (bd2 q hq).1, Int.le_trans (bd2 q hq).2 bq⟩⟩
      refine ⟨rfl, _, rfl, e1, m1, rfl, he1, g1, fun ys1 a da dx H7 py1 sy1 s7 na nda hA hDa => ?_⟩
      refine ⟨rfl, _, rfl, e2, m2, rfl, s7 _ _ he2, g2, fun ys2 b db dy H8 py2 sy2 s8 nb ndb hB hDb => ?_⟩
      have c1 : Fit (pick m1 ys1) := fit_pick g1 (by omega) py1 sy1
      have c2 : Fit (pick m2 ys2) := fit_pick g2 (by omega) py2 sy2
      have v1 : ∀ y, num (pick m1 ys1) y = num m1 y := fun y => pick_lookup (fun z hz => py1.mem_iff.mpr hz) (fun q hq => (g1.2.2 q hq).2.1)
      have v2 : ∀ y, num (pick m2 ys2) y = num m2 y := fun y => pick_lookup (fun z hz => py2.mem_iff.mpr hz) (fun q hq => (g2.2.2 q hq).2.1)
      have l1 : (pick m1 ys1).length ≤ 6 := by
        have := pick_len m1 ys1
        have := py1.length_eq
        rw [names_len] at this
        omega
      have l2 : (pick m2 ys2).length ≤ 6 := by
        have := pick_len m2 ys2
        have := py2.length_eq
        rw [names_len] at this
        omega
      have A1 : StaffAt CS H8 a (pick m1 ys1) := StaffAt.same s8 ⟨dx, da, hA, hDa⟩
      have A2 : StaffAt CS H8 b (pick m2 ys2) := ⟨dy, db, hB, hDb⟩
      have B1 : StaffB p CS H8 a (pick m1 ys1) := ⟨dx, da, (pen_apart P6 (Same.refl _) na).1, (pen_apart P6 (Same.refl _) nda).1, s8 _ _ hA, s8 _ _ hDa⟩
      have B2 : StaffB p CS H8 b (pick m2 ys2) := ⟨dy, db, (pen_apart P6 s7 nb).1, (pen_apart P6 s7 ndb).1, hB, hDb⟩
      have he1 := (s7.trans s8) _ _ he1
      have he2 := (s7.trans s8) _ _ he2
      have hl := (s7.trans s8) _ _ hl6
      have P := P6.same (s7.trans s8) (Nat.le_refl _)
      have top1 : ∀ y, num m1 y ≤ BQ := fun y => by
        unfold num
        cases e : m1.lookup y with
        | none => decide
        | some v => exact (bd1 _ (lookup_mem e)).2
      have top2 : ∀ y, num m2 y ≤ BQ := fun y => by
        unfold num
        cases e : m2.lookup y with
        | none => decide
        | some v => exact (bd2 _ (lookup_mem e)).2
      have low1 : ∀ y, 0 ≤ num m1 y := fun y => by rw [← v1 y]; exact num_nn c1.c y
      have low2 : ∀ y, 0 ≤ num m2 y := fun y => by rw [← v2 y]; exact num_nn c2.c y
      have out1 : ∀ y, y ∉ ws → num m1 y = 0 := fun y hy => num_none (fun z => hy (in1 y z))
      have out2 : ∀ y, y ∉ ws → num m2 y = 0 := fun y hy => num_none (fun z => hy (in2 y z))
      have lw : ws.length ≤ 4 := by omega
      generalize hc1 : pick m1 ys1 = c1' at c1 v1 l1 A1 B1
      generalize hc2 : pick m2 ys2 = c2' at c2 v2 l2 A2 B2
      clear hA hDa hB hDb py1 py2 sy1 sy2 na nda nb ndb hc1 hc2 s7 s8 hl6 P6
      -- pairs
      refine ⟨_, _, rfl, .ref l, rfl, l, rfl, ⟨_, SqL.of hl⟩, fun L nL => ?_⟩
      refine lc_list (K := K) (a := l) (xs := ws.map V.str) (fun j Hh => Same H8 Hh ∧ Trip Hh L (ws.take j) (num m1) (num m2)) ⟨Same.new nL, [], upd_same, .nil⟩ (fun j Hh hj z => SqL.of (z.1 _ _ hl)) ?_ ?_
      · rintro j x Hh hx ⟨s9, ts, dL, pr⟩
        obtain ⟨y, rfl, gy, my⟩ := str_map_get hx
        refine ⟨rfl, ?_⟩
        refine yes_of ?_
        refine ⟨_, rfl, .ref e1, rfl, e1, rfl, .inl ⟨_, .inl (s9 _ _ he1)⟩, _, rfl, (m1.lookup y).map V.int, .inl ⟨cD m1, .inr y, .inl (s9 _ _ he1), rfl, (cD_val m1 y).symm⟩, ?_⟩
        refine ⟨.ref e2, rfl, e2, rfl, .inl ⟨_, .inl (s9 _ _ he2)⟩, _, rfl, (m2.lookup y).map V.int, .inl ⟨cD m2, .inr y, .inl (s9 _ _ he2), rfl, (cD_val m2 y).symm⟩, (show 3 ≤ sizeLine by decide), fun T nT => ?_⟩
        rw [getD_int, getD_int]
        have TL : T ≠ L := ne_new dL nT
        refine ⟨ts.map V.ref, by rw [upd_ne (Ne.symm TL)]; exact dL, ?_, fun b o z => ?_, ts ++ [T], by rw [List.map_append]; exact upd_same, ?_⟩
        · have := paired_len pr
          rw [List.length_take] at this
          rw [List.length_map, sizeLine_eq]
          omega
        · rw [upd_ne (ne_of_none z nL), upd_ne (ne_of_none (s9 _ _ z) nT)]
          exact s9 b o z
        · rw [take_snoc gy]
          refine paired_snoc (by rw [upd_ne TL]; exact upd_same) (Paired.mono (fun t y z => ?_) pr)
          have tL : t ≠ L := fun e => by rw [e, dL] at z; cases z
          rw [upd_ne tL, upd_ne (Ne.symm (ne_new z nT))]
          exact z
      rintro H9 ⟨s9, tr⟩
      rw [List.length_map, List.take_of_length_le (Nat.le_refl _)] at tr
      have he1 := s9 _ _ he1
      have he2 := s9 _ _ he2
      have hl := s9 _ _ hl
      have A1 := A1.same s9
      have B1 := B1.same s9
      have B2 := B2.same s9
      have A2 := A2.same s9
      have P := P.same s9 (Nat.le_refl _)
      have hS := hS
      clear nL s9
      -- told
      have ll : c1'.length + c2'.length ≤ 12 := by omega
      have sum30 : ∀ y, num c1' y + num c2' y ≤ 10 ^ 30 := fun y => by
        rw [v1 y, v2 y]
        have t1 := top1 y
        have t2 := top2 y
        have bb : BQ + BQ ≤ 10 ^ 30 := by decide
        omega
      have A1' := A1
      have A2' := A2
      obtain ⟨dx, da, hA, _⟩ := A1'
      obtain ⟨dy, db, hB, _⟩ := A2'
      refine ⟨_, rfl, _, rfl, a, dx, _, b, dy, _, rfl, rfl, hA, hB, a, b, c1', c2', rfl, A1, A2, c1, c2, ll, sum30, fun x1 r1 H10 s10 nx1 X1 fr1 nr1 => ?_⟩
      obtain ⟨dz, dr, hx, hdr⟩ := X1
      refine ⟨x1, dz, _, rfl, hx, rfl, x1, r1, rfl, ⟨dz, dr, hx, hdr⟩, fun t1 nt1 => ?_⟩
      have u1 : Same H9 (upd H10 t1 (.dK (cD r1))) := s10.trans (Same.new nt1)
      have ht1 : (upd H10 t1 (.dK (cD r1))) t1 = some (.dK (cD r1)) := upd_same
      generalize upd H10 t1 (.dK (cD r1)) = H11 at u1 ht1 ⊢
      clear hx hdr nx1 s10 nt1
      refine ⟨_, rfl, _, rfl, a, dx, _, b, dy, _, rfl, rfl, u1 _ _ hA, u1 _ _ hB, a, b, c1', c2', rfl, A1.same u1, A2.same u1, c1, c2, ll, fun x2 r2 H12 s12 nx2 X2 fr2 nr2 => ?_⟩
      obtain ⟨dz, dr, hx, hdr⟩ := X2
      refine ⟨x2, dz, _, rfl, hx, rfl, x2, r2, rfl, ⟨dz, dr, hx, hdr⟩, fun t2 nt2 => ?_⟩
      have u2 : Same H11 (upd H12 t2 (.dK (cD r2))) := s12.trans (Same.new nt2)
      have ht2 : (upd H12 t2 (.dK (cD r2))) t2 = some (.dK (cD r2)) := upd_same
      generalize upd H12 t2 (.dK (cD r2)) = H13 at u2 ht2 ⊢
      clear hx hdr nx2 s12 nt2
      have u2' := u1.trans u2
      refine ⟨_, rfl, _, rfl, a, dx, _, b, dy, _, rfl, rfl, u2' _ _ hA, u2' _ _ hB, a, b, c1', c2', rfl, A1.same u2', A2.same u2', c1, c2, ll, fun x3 r3 H14 s14 nx3 X3 fr3 nr3 => ?_⟩
      obtain ⟨dz, dr, hx, hdr⟩ := X3
      refine ⟨x3, dz, _, rfl, hx, rfl, x3, r3, rfl, ⟨dz, dr, hx, hdr⟩, fun t3 nt3 => ?_⟩
      have u3 : Same H13 (upd H14 t3 (.dK (cD r3))) := s14.trans (Same.new nt3)
      have ht3 : (upd H14 t3 (.dK (cD r3))) t3 = some (.dK (cD r3)) := upd_same
      generalize upd H14 t3 (.dK (cD r3)) = H15 at u3 ht3 ⊢
      clear hx hdr nx3 s14 nt3
      have u3' := u2'.trans u3
      refine less_cut (c1 := c1') (c2 := c2') (H := H15) ?G ?imp ?rest
      case imp =>
        intro r
        refine ⟨_, rfl, _, rfl, a, b, c1', c2', rfl, A1.same u3', A2.same u3', c1, c2, ll, ?c1, ?c2⟩
        case c1 =>
          intro all t r' H' s ht fr nr
          exact r _ t H' (.inl ⟨all, r', rfl, fr, nr⟩) s (da_num ht fun z => z)
        case c2 =>
          intro i kk t H' gk lt lo s ht
          exact r _ t H' (.inr ⟨i, kk, rfl, gk, lt, lo⟩) s (.tup ht (fun z => z) (.cons (.str _) (.cons (.bl _) .nil)))
      intro dl t4 H16 hless s16 da4
      refine ⟨(show 4 ≤ sizeLine by decide), fun told ntold far => ?_⟩
      have u4 : Same H9 (upd H16 told (.lst [.ref t1, .ref t2, .ref t3, .ref t4])) := (u3'.trans s16).trans (Same.new ntold)
      have datold : DA (fun _ => False) (upd H16 told (.lst [.ref t1, .ref t2, .ref t3, .ref t4])) (.ref told) (.list [numD r1, numD r2, numD r3, dl]) :=
        .lst upd_same far (fun z => z) (.cons (da_num (Same.new ntold _ _ (s16 _ _ (u3 _ _ (u2 _ _ ht1)))) (fun z => z)) (.cons (da_num (Same.new ntold _ _ (s16 _ _ (u3 _ _ ht2))) (fun z => z)) (.cons (da_num (Same.new ntold _ _ (s16 _ _ ht3)) (fun z => z)) (.cons (da4.same (Same.new ntold)) .nil))))
      generalize upd H16 told (.lst [.ref t1, .ref t2, .ref t3, .ref t4]) = H17 at u4 datold ⊢
      have he1 := u4 _ _ he1
      have he2 := u4 _ _ he2
      have hl := u4 _ _ hl
      have tr := tr.same u4
      have A1 := A1.same u4
      have B1 := B1.same u4
      have B2 := B2.same u4
      have A2 := A2.same u4
      have P := P.same u4 (Nat.le_refl _)
      clear u1 u2 u2' u3 u3' u4 da4 s16 ntold far ht1 ht2 ht3 hA hB
      -- due: one + second
      have trx := tr
      have Px := P
      obtain ⟨ts, hL, prT⟩ := trx
      refine ⟨.ref L, rfl, L, rfl, ⟨_, SqL.of hL⟩, fun E nE => ?_⟩
      refine lc_list (K := K) (a := L) (xs := ts.map V.ref) (fun j Hh => Same H17 Hh ∧ ∃ ps, Prs Hh p E ps ((ws.map fun y => (y, (fun y => num m1 y + num m2 y) y)).take j) ∧ Hh E = some (.lst (ps.map V.ref))) ⟨Same.new nE, [], Prs.nil, upd_same⟩ (fun j Hh hj z => SqL.of (z.1 _ _ hL)) ?_ ?_
      · rintro j x Hh hx ⟨s9, ps, pr, dE⟩
        obtain ⟨t, rfl, gt⟩ := ref_map_get hx
        obtain ⟨y, gy, ht⟩ := paired_get prT gt
        try dsimp only [wipe, List.set]
        refine ⟨t, _, rfl, SqT.of (s9 _ _ ht), rfl, _, _, rfl, _, _, rfl, _, _, rfl, rfl, ?_⟩
        try dsimp only [wipe, List.set]
        refine ⟨rfl, ?_⟩
        refine yes_of ?_
        refine ⟨_, rfl, _, rfl, _, rfl, _, _, rfl, rfl, (show 2 ≤ sizeLine by decide), fun T nT => ?_⟩
        have TE : T ≠ E := ne_new dE nT
        have Tp : T ≠ p := (pen_apart Px s9 nT).1
        refine ⟨ps.map V.ref, by rw [upd_ne (Ne.symm TE)]; exact dE, ?_, fun b o z => ?_, ps ++ [T], ?_, by rw [List.map_append]; exact upd_same⟩
        · have := pr.len
          rw [List.length_take, List.length_map] at this
          rw [List.length_map, sizeLine_eq]
          omega
        · rw [upd_ne (ne_of_none z nE), upd_ne (ne_of_none (s9 _ _ z) nT)]
          exact s9 b o z
        · rw [take_snocN (x := (y, (fun y => num m1 y + num m2 y) y)) (by rw [List.getElem?_map, gy]; rfl)]
          exact pr.snoc nT Tp TE
      rintro Hda ⟨s9, ps, pr, dE⟩
      have tsl : ts.length = ws.length := paired_len prT
      rw [List.length_map, List.take_of_length_le (by rw [List.length_map]; omega)] at pr
      refine ⟨E, ps, cD (ws.map fun y => (y, (fun y => num m1 y + num m2 y) y)), rfl, SqL.of dE, pr.sqt, fun g ng => ?_⟩
      obtain ⟨mm, em, ndm, vm, im, lm⟩ := merge_fun (fun y => num m1 y + num m2 y) ws [] List.nodup_nil (fun _ z => nomatch z)
      rw [List.length_nil] at lm
      refine ⟨g, mm, rfl, upd_same.trans (congrArg (fun z => some (HO.dK z)) em), ndm, by omega, fun qa wa Ga nq sq hqa cr nr lr ir => ?_⟩
      have fna := due_num (h := (fun y => num m1 y + num m2 y)) ndm vm im nr
      have sGa : Same H17 Ga := (s9.trans (Same.new ng)).trans sq
      have lra : wa.length ≤ 4 := by omega
      have cra := cr
      have fqa : ∀ z o, H17 z = some o → qa ≠ z := fun z o h => ne_new ((s9.trans (Same.new ng)) _ _ h) nq
      clear s9 pr dE nE ng em ndm vm im lm nr lr ir sq cr prT hL tsl nq Px
      have he1 := sGa _ _ he1
      have he2 := sGa _ _ he2
      have hl := sGa _ _ hl
      have A1 := A1.same sGa
      have B1 := B1.same sGa
      have B2 := B2.same sGa
      have A2 := A2.same sGa
      have P := P.same sGa (Nat.le_refl _)
      have datold := datold.same sGa
      have tr := tr.same sGa
      refine ⟨(show 1 ≤ sizeLine by decide), fun due ndue fardue => ?_⟩
      have s18 : Same Ga (upd Ga due (.lst [.ref qa])) := Same.new ndue
      have hdue : (upd Ga due (.lst [.ref qa])) due = some (.lst [.ref qa]) := upd_same
      have duep : due ≠ p := (pen_apart P (Same.refl _) ndue).1
      have duec : due ≠ c := (pen_apart P (Same.refl _) ndue).2
      generalize upd Ga due (.lst [.ref qa]) = H18 at s18 hdue ⊢
      -- due.append
      dsimp only [List.set]
      have trx := tr.same s18
      have Px := P.same s18 (Nat.le_refl _)
      obtain ⟨ts, hL, prT⟩ := trx
      refine ⟨.ref due, rfl, .inl ⟨rfl, _, SqL.of hdue⟩, .ref L, rfl, L, rfl, ⟨_, SqL.of hL⟩, fun E nE => ?_⟩
      refine lc_list (K := K) (a := L) (xs := ts.map V.ref) (fun j Hh => Same H18 Hh ∧ ∃ ps, Prs Hh p E ps ((ws.map fun y => (y, (fun y => if num m2 y > num m1 y then num m2 y else num m1 y) y)).take j) ∧ Hh E = some (.lst (ps.map V.ref))) ⟨Same.new nE, [], Prs.nil, upd_same⟩ (fun j Hh hj z => SqL.of (z.1 _ _ hL)) ?_ ?_
      · rintro j x Hh hx ⟨s9, ps, pr, dE⟩
        obtain ⟨t, rfl, gt⟩ := ref_map_get hx
        obtain ⟨y, gy, ht⟩ := paired_get prT gt
        try dsimp only [wipe, List.set]
        refine ⟨t, _, rfl, SqT.of (s9 _ _ ht), rfl, _, _, rfl, _, _, rfl, _, _, rfl, rfl, ?_⟩
        try dsimp only [wipe, List.set]
        refine ⟨rfl, ?_⟩
        refine yes_of ?_
        refine ⟨_, rfl, _, rfl, .inl ⟨_, rfl, _, rfl, .inl ⟨_, rfl, _, _, rfl, (show 2 ≤ sizeLine by decide), fun T nT => ?_⟩⟩⟩
        have TE : T ≠ E := ne_new dE nT
        have Tp : T ≠ p := (pen_apart Px s9 nT).1
        refine ⟨ps.map V.ref, by rw [upd_ne (Ne.symm TE)]; exact dE, ?_, fun b o z => ?_, ps ++ [T], ?_, by rw [List.map_append]; exact upd_same⟩
        · have := pr.len
          rw [List.length_take, List.length_map] at this
          rw [List.length_map, sizeLine_eq]
          omega
        · rw [upd_ne (ne_of_none z nE), upd_ne (ne_of_none (s9 _ _ z) nT)]
          exact s9 b o z
        · rw [take_snocN (x := (y, (fun y => if num m2 y > num m1 y then num m2 y else num m1 y) y)) (by rw [List.getElem?_map, gy]; rfl)]
          exact pr.snoc nT Tp TE
      rintro Hdb ⟨s9, ps, pr, dE⟩
      have tsl : ts.length = ws.length := paired_len prT
      rw [List.length_map, List.take_of_length_le (by rw [List.length_map]; omega)] at pr
      refine ⟨E, ps, cD (ws.map fun y => (y, (fun y => if num m2 y > num m1 y then num m2 y else num m1 y) y)), rfl, SqL.of dE, pr.sqt, fun g ng => ?_⟩
      obtain ⟨mm, em, ndm, vm, im, lm⟩ := merge_fun (fun y => if num m2 y > num m1 y then num m2 y else num m1 y) ws [] List.nodup_nil (fun _ z => nomatch z)
      rw [List.length_nil] at lm
      refine ⟨g, mm, rfl, upd_same.trans (congrArg (fun z => some (HO.dK z)) em), ndm, by omega, fun qb wb Gb nq sq hqb cr nr lr ir => ?_⟩
      have fnb := due_num (h := (fun y => if num m2 y > num m1 y then num m2 y else num m1 y)) ndm vm im nr
      have sGb : Same H18 Gb := (s9.trans (Same.new ng)).trans sq
      have lrb : wb.length ≤ 4 := by omega
      have crb := cr
      have fqb : ∀ z o, H18 z = some o → qb ≠ z := fun z o h => ne_new ((s9.trans (Same.new ng)) _ _ h) nq
      clear s9 pr dE nE ng em ndm vm im lm nr lr ir sq cr prT hL tsl nq Px
      refine ⟨due, _, _, rfl, rfl, sGb _ _ hdue, (show 1 < sizeLine by decide), ?_⟩
      have qbd : qb ≠ due := fqb due _ hdue
      have s19 : Same Ga (upd Gb due (.lst ([.ref qa] ++ [.ref qb]))) := fun b o z => by
        rw [upd_ne (ne_of_none z ndue)]
        exact sGb _ _ (s18 _ _ z)
      have hdue : (upd Gb due (.lst ([.ref qa] ++ [.ref qb]))) due = some (.lst [.ref qa, .ref qb]) := upd_same
      have hqb : (upd Gb due (.lst ([.ref qa] ++ [.ref qb]))) qb = some (.dK (cD wb)) := (upd_ne qbd).trans hqb
      generalize upd Gb due (.lst ([.ref qa] ++ [.ref qb])) = H19 at s19 hdue hqb  ⊢
      clear sGb fqb
      -- due.append
      dsimp only [List.set]
      have trx := tr.same s19
      have Px := P.same s19 (Nat.le_refl _)
      obtain ⟨ts, hL, prT⟩ := trx
      refine ⟨.ref due, rfl, .inl ⟨rfl, _, SqL.of hdue⟩, .ref L, rfl, L, rfl, ⟨_, SqL.of hL⟩, fun E nE => ?_⟩
      refine lc_list (K := K) (a := L) (xs := ts.map V.ref) (fun j Hh => Same H19 Hh ∧ ∃ ps, Prs Hh p E ps ((ws.map fun y => (y, (fun y => if num m2 y < num m1 y then num m2 y else num m1 y) y)).take j) ∧ Hh E = some (.lst (ps.map V.ref))) ⟨Same.new nE, [], Prs.nil, upd_same⟩ (fun j Hh hj z => SqL.of (z.1 _ _ hL)) ?_ ?_
      · rintro j x Hh hx ⟨s9, ps, pr, dE⟩
        obtain ⟨t, rfl, gt⟩ := ref_map_get hx
        obtain ⟨y, gy, ht⟩ := paired_get prT gt
        try dsimp only [wipe, List.set]
        refine ⟨t, _, rfl, SqT.of (s9 _ _ ht), rfl, _, _, rfl, _, _, rfl, _, _, rfl, rfl, ?_⟩
        try dsimp only [wipe, List.set]
        refine ⟨rfl, ?_⟩
        refine yes_of ?_
        refine ⟨_, rfl, _, rfl, .inl ⟨_, rfl, _, rfl, .inl ⟨_, rfl, _, _, rfl, (show 2 ≤ sizeLine by decide), fun T nT => ?_⟩⟩⟩
        have TE : T ≠ E := ne_new dE nT
        have Tp : T ≠ p := (pen_apart Px s9 nT).1
        refine ⟨ps.map V.ref, by rw [upd_ne (Ne.symm TE)]; exact dE, ?_, fun b o z => ?_, ps ++ [T], ?_, by rw [List.map_append]; exact upd_same⟩
        · have := pr.len
          rw [List.length_take, List.length_map] at this
          rw [List.length_map, sizeLine_eq]
          omega
        · rw [upd_ne (ne_of_none z nE), upd_ne (ne_of_none (s9 _ _ z) nT)]
          exact s9 b o z
        · rw [take_snocN (x := (y, (fun y => if num m2 y < num m1 y then num m2 y else num m1 y) y)) (by rw [List.getElem?_map, gy]; rfl)]
          exact pr.snoc nT Tp TE
      rintro Hdc ⟨s9, ps, pr, dE⟩
      have tsl : ts.length = ws.length := paired_len prT
      rw [List.length_map, List.take_of_length_le (by rw [List.length_map]; omega)] at pr
      refine ⟨E, ps, cD (ws.map fun y => (y, (fun y => if num m2 y < num m1 y then num m2 y else num m1 y) y)), rfl, SqL.of dE, pr.sqt, fun g ng => ?_⟩
      obtain ⟨mm, em, ndm, vm, im, lm⟩ := merge_fun (fun y => if num m2 y < num m1 y then num m2 y else num m1 y) ws [] List.nodup_nil (fun _ z => nomatch z)
      rw [List.length_nil] at lm
      refine ⟨g, mm, rfl, upd_same.trans (congrArg (fun z => some (HO.dK z)) em), ndm, by omega, fun qc wc Gc nq sq hqc cr nr lr ir => ?_⟩
      have fnc := due_num (h := (fun y => if num m2 y < num m1 y then num m2 y else num m1 y)) ndm vm im nr
      have sGc : Same H19 Gc := (s9.trans (Same.new ng)).trans sq
      have lrc : wc.length ≤ 4 := by omega
      have crc := cr
      have fqc : ∀ z o, H19 z = some o → qc ≠ z := fun z o h => ne_new ((s9.trans (Same.new ng)) _ _ h) nq
      clear s9 pr dE nE ng em ndm vm im lm nr lr ir sq cr prT hL tsl nq Px
      refine ⟨due, _, _, rfl, rfl, sGc _ _ hdue, (show 2 < sizeLine by decide), ?_⟩
      have qcd : qc ≠ due := fqc due _ hdue
      have s20 : Same Ga (upd Gc due (.lst ([.ref qa, .ref qb] ++ [.ref qc]))) := fun b o z => by
        rw [upd_ne (ne_of_none z ndue)]
        exact sGc _ _ (s19 _ _ z)
      have hdue : (upd Gc due (.lst ([.ref qa, .ref qb] ++ [.ref qc]))) due = some (.lst [.ref qa, .ref qb, .ref qc]) := upd_same
      have hqc : (upd Gc due (.lst ([.ref qa, .ref qb] ++ [.ref qc]))) qc = some (.dK (cD wc)) := (upd_ne qcd).trans hqc
      have hqb : (upd Gc due (.lst ([.ref qa, .ref qb] ++ [.ref qc]))) qb = some (.dK (cD wb)) := (upd_ne qbd).trans (sGc _ _ hqb)
      generalize upd Gc due (.lst ([.ref qa, .ref qb] ++ [.ref qc])) = H20 at s20 hdue hqc hqb ⊢
      clear sGc fqc
      -- few
      try dsimp only [List.set]
      have trx := tr.same s20
      obtain ⟨ts, hL, prT⟩ := trx
      have tsl : ts.length = ws.length := paired_len prT
      refine ⟨.ref L, rfl, L, rfl, ⟨_, SqL.of hL⟩, fun E nE => ?_⟩
      refine lc_list (K := K) (a := L) (xs := ts.map V.ref) (fun j Hh => Same H20 Hh ∧ Hh E = some (.lst (((ws.take j).filter fun y => decide (num m1 y < num m2 y)).map V.str))) ⟨Same.new nE, upd_same⟩ (fun j Hh hj z => SqL.of (z.1 _ _ hL)) ?_ ?_
      · rintro j x Hh hx ⟨s9, dE⟩
        obtain ⟨t, rfl, gt⟩ := ref_map_get hx
        obtain ⟨y, gy, ht⟩ := paired_get prT gt
        try dsimp only [wipe, List.set]
        refine ⟨t, _, rfl, SqT.of (s9 _ _ ht), rfl, _, _, rfl, _, _, rfl, _, _, rfl, rfl, ?_⟩
        try dsimp only [wipe, List.set]
        refine ⟨rfl, ?_⟩
        refine ⟨_, rfl, _, rfl, _, _, rfl, rfl, _, rfl, ite2 (fun pos => ?_) (fun neg => ?_)⟩
        · refine ⟨_, rfl, _, dE, ?_, fun b o z => ?_, ?_⟩
          · have := List.length_filter_le (fun y => decide (num m1 y < num m2 y)) (ws.take j)
            rw [List.length_take] at this
            rw [List.length_map, sizeLine_eq]
            omega
          · rw [upd_ne (ne_of_none z nE)]
            exact s9 b o z
          · rw [upd_same, take_snoc gy, List.filter_append, List.map_append, filter_yes (P := fun y => decide (num m1 y < num m2 y)) pos]
            rfl
        · refine ⟨s9, ?_⟩
          rw [take_snoc gy, List.filter_append, filter_no (P := fun y => decide (num m1 y < num m2 y)) neg, List.append_nil]
          exact dE
      rintro He ⟨s9, dE⟩
      rw [List.length_map, List.take_of_length_le (by omega)] at dE
      refine ⟨E, _, rfl, .inl (SqL.of dE), ?_, fun zs few pz sz nf => ?_⟩
      · have := List.length_filter_le (fun y => decide (num m1 y < num m2 y)) ws
        omega
      have hz : ∀ y, y ∈ zs ↔ y ∈ ws ∧ num m1 y < num m2 y := fun y => by rw [pz.mem_iff, List.mem_filter, decide_eq_true_eq]
      have s21 : Same H20 (upd He few (.lst (zs.map V.str))) := s9.trans (Same.new nf)
      have hfew : (upd He few (.lst (zs.map V.str))) few = some (.lst (zs.map V.str)) := upd_same
      generalize upd He few (.lst (zs.map V.str)) = H21 at s21 hfew ⊢
      have s21' := s20.trans s21
      have hdue := s21 _ _ hdue
      have hqb := s21 _ _ hqb
      have hqc := s21 _ _ hqc
      clear s9 dE nE nf pz prT hL tsl s20 s21
      -- left
      have hzz : zs = [] ∨ ∃ k0 zr, zs = k0 :: zr := by cases zs with | nil => exact .inl rfl | cons k r => exact .inr ⟨k, r, rfl⟩
      have trx := tr.same s21'
      have Px := P.same s21' (Nat.le_refl _)
      obtain ⟨ts, hL, prT⟩ := trx
      refine ⟨.ref L, rfl, L, rfl, ⟨_, SqL.of hL⟩, fun E nE => ?_⟩
      refine lc_list (K := K) (a := L) (xs := ts.map V.ref) (fun j Hh => Same H21 Hh ∧ ∃ ps, Prs Hh p E ps ((ws.map fun y => (y, (fun y => num m1 y - num m2 y) y)).take j) ∧ Hh E = some (.lst (ps.map V.ref))) ⟨Same.new nE, [], Prs.nil, upd_same⟩ (fun j Hh hj z => SqL.of (z.1 _ _ hL)) ?_ ?_
      · rintro j x Hh hx ⟨s9, ps, pr, dE⟩
        obtain ⟨t, rfl, gt⟩ := ref_map_get hx
        obtain ⟨y, gy, ht⟩ := paired_get prT gt
        try dsimp only [wipe, List.set]
        refine ⟨t, _, rfl, SqT.of (s9 _ _ ht), rfl, _, _, rfl, _, _, rfl, _, _, rfl, rfl, ?_⟩
        try dsimp only [wipe, List.set]
        refine ⟨rfl, ?_⟩
        refine yes_of ?_
        refine ⟨_, rfl, _, rfl, _, rfl, _, _, rfl, rfl, (show 2 ≤ sizeLine by decide), fun T nT => ?_⟩
        have TE : T ≠ E := ne_new dE nT
        have Tp : T ≠ p := (pen_apart Px s9 nT).1
        refine ⟨ps.map V.ref, by rw [upd_ne (Ne.symm TE)]; exact dE, ?_, fun b o z => ?_, ps ++ [T], ?_, by rw [List.map_append]; exact upd_same⟩
        · have := pr.len
          rw [List.length_take, List.length_map] at this
          rw [List.length_map, sizeLine_eq]
          omega
        · rw [upd_ne (ne_of_none z nE), upd_ne (ne_of_none (s9 _ _ z) nT)]
          exact s9 b o z
        · rw [take_snocN (x := (y, (fun y => num m1 y - num m2 y) y)) (by rw [List.getElem?_map, gy]; rfl)]
          exact pr.snoc nT Tp TE
      rintro Hdd ⟨s9, ps, pr, dE⟩
      have tsl : ts.length = ws.length := paired_len prT
      rw [List.length_map, List.take_of_length_le (by rw [List.length_map]; omega)] at pr
      refine ⟨E, ps, cD (ws.map fun y => (y, (fun y => num m1 y - num m2 y) y)), rfl, SqL.of dE, pr.sqt, fun g ng => ?_⟩
      obtain ⟨mm, em, ndm, vm, im, lm⟩ := merge_fun (fun y => num m1 y - num m2 y) ws [] List.nodup_nil (fun _ z => nomatch z)
      rw [List.length_nil] at lm
      refine ⟨g, mm, rfl, upd_same.trans (congrArg (fun z => some (HO.dK z)) em), ndm, by omega, fun qd wd Gd nq sq hqd cr nr lr ir => ?_⟩
      have fnd := due_num (h := (fun y => num m1 y - num m2 y)) ndm vm im nr
      have sGd : Same H21 Gd := (s9.trans (Same.new ng)).trans sq
      have lrd : wd.length ≤ 4 := by omega
      have crd := cr
      have fqd : ∀ z o, H21 z = some o → qd ≠ z := fun z o h => ne_new ((s9.trans (Same.new ng)) _ _ h) nq
      clear s9 pr dE nE ng em ndm vm im lm nr lr ir sq cr prT hL tsl nq Px
      -- due.append(..)
      try dsimp only [List.set]
      have hfew := sGd _ _ hfew
      have hdued := sGd _ _ hdue
      refine due_cut (dl := dl) (H := Gd) (due := due) ?G2 ?imp2 ?rest2
      case imp2 =>
        intro r
        refine ⟨.ref due, rfl, .inl ⟨rfl, _, SqL.of hdued⟩, _, rfl, (show 0 ≤ sizeLine by decide), fun nl nnl => ?_⟩
        have s1 := Same.new (o := .lst []) nnl
        have hzy := hzz
        rcases hzy.symm with ⟨k0, zr, e0⟩ | e0
        · refine ⟨few, nl, _, rfl, rfl, SqL.of (s1 _ _ hfew), SqL.of upd_same, true, congrArg V.bl (by rw [e0]; rfl), iteT ?_⟩
          refine ⟨_, rfl, few, _, 0, .str k0, rfl, rfl, SqL.of (s1 _ _ hfew), by rw [e0]; exact at_head, (show 2 ≤ sizeLine by decide), fun tf ntf => ?_⟩
          have edl : dl = .tuple [.str k0, .bool true] := few_cons hless v1 v2 out1 out2 c2.c low1 (by rw [← e0]; exact sz) (by rw [← e0]; exact hz)
          have dd : DA (fun a => a = due) (upd (upd Gd nl (.lst [])) tf (.tup [.str k0, .bl true])) (.ref tf) dl := by
            rw [edl]
            exact .tup upd_same (fun e => by rw [show tf = due from e, s1 _ _ hdued] at ntf; cases ntf) (.cons (.str _) (.cons (.bl _) .nil))
          have s2 : Same Gd (upd (upd Gd nl (.lst [])) tf (.tup [.str k0, .bl true])) := s1.trans (Same.new ntf)
          clear ntf s1
          generalize upd (upd Gd nl (.lst [])) tf (.tup [.str k0, .bl true]) = Hx at s2 dd ⊢
          exact r tf Hx s2 dd
        · refine ⟨few, nl, _, rfl, rfl, SqL.of (s1 _ _ hfew), SqL.of upd_same, false, congrArg V.bl (by rw [e0]; rfl), iteF ?_⟩
          refine ⟨_, rfl, ?_⟩
          have edl : dl = numD wd := few_nil hless v1 v2 out1 out2 crd fnd (by rw [← e0]; exact hz)
          have dd : DA (fun a => a = due) (upd Gd nl (.lst [])) (.ref qd) dl := by rw [edl]; exact da_num (s1 _ _ hqd) (fqd due _ hdue)
          exact r qd _ s1 dd
      intro t5 H22 s22 da5
      refine ⟨due, _, _, rfl, rfl, s22 _ _ hdued, (show 3 < sizeLine by decide), ?_⟩
      have b23 : But due H22 (upd H22 due (.lst ([.ref qa, .ref qb, .ref qc] ++ [.ref t5]))) := fun b o nb z => by rw [upd_ne nb]; exact z
      have s23 : Same Ga (upd H22 due (.lst ([.ref qa, .ref qb, .ref qc] ++ [.ref t5]))) := fun b o z => b23 b o (ne_of_none z ndue) (s22 _ _ (sGd _ _ (s21' _ _ z)))
      have ea : wa = r1 := due_eq (h := fun y => num m1 y + num m2 y) cra fr1.c fna (fun y => by rw [nr1 y, v1 y, v2 y]) (fun y hy => by rw [out1 y hy, out2 y hy]; rfl)
      have lr1 : r1.length ≤ 4 := by rw [← ea]; exact lra
      have eb : wb = r2 := due_eq (h := fun y => if num m2 y > num m1 y then num m2 y else num m1 y) crb fr2.c fnb (fun y => by rw [nr2 y, v1 y, v2 y]) (fun y hy => by rw [out1 y hy, out2 y hy]; rfl)
      have ec : wc = r3 := due_eq (h := fun y => if num m2 y < num m1 y then num m2 y else num m1 y) crc fr3.c fnc (fun y => by rw [nr3 y, v1 y, v2 y]) (fun y hy => by rw [out1 y hy, out2 y hy]; rfl)
      have dadue : DA (fun _ => False) (upd H22 due (.lst ([.ref qa, .ref qb, .ref qc] ++ [.ref t5]))) (.ref due) (.list [numD r1, numD r2, numD r3, dl]) := by
        rw [← ea, ← eb, ← ec]
        exact .lst upd_same fardue (fun z => z) (.cons (da_num (s23 _ _ hqa) (fun z => z)) (.cons (da_num (b23 _ _ qbd (s22 _ _ (sGd _ _ hqb))) (fun z => z)) (.cons (da_num (b23 _ _ qcd (s22 _ _ (sGd _ _ hqc))) (fun z => z)) (.cons (Fs.DA.weak (fun _ z => z.elim) (DA.but (N := fun a => a = due) b23 rfl da5)) .nil))))
      have mdl : Md dl := by
        rcases hless with ⟨_, r, rfl, fr, _⟩ | ⟨i, k, rfl, gk, _, _⟩
        · exact md_num (fit_lite fr) fr.l
        · exact md_few (c2.w k (List.mem_of_getElem? gk))
      have rp4 := md_rp4 (md_num (fit_lite fr1) fr1.l) (md_num (fit_lite fr2) fr2.l) (md_num (fit_lite fr3) fr3.l) mdl
      have fewd : few ≠ due := fun e => by rw [e, hdued] at hfew; cases zs <;> cases hfew
      have hfew := b23 _ _ fewd (s22 _ _ hfew)
      generalize upd H22 due (.lst ([.ref qa, .ref qb, .ref qc] ++ [.ref t5])) = H23 at s23 dadue hfew ⊢
      have datold := datold.same s23
      have he1 := s23 _ _ he1
      have he2 := s23 _ _ he2
      have hl := s23 _ _ hl
      have A1 := A1.same s23
      have B1 := B1.same s23
      have B2 := B2.same s23
      have A2 := A2.same s23
      have P := P.same s23 (Nat.le_refl _)
      have tr := tr.same s23
      clear b23 s22 sGd s21' hqa hqb hqc da5 ea eb ec hdued hdue hqd fqd
      -- repr(told) != repr(due)
      generalize PyData.list [numD r1, numD r2, numD r3, dl] = D4 at datold dadue rp4
      refine ⟨_, rfl, fun _ => False, .ref told, D4, rfl, datold, rp4.1, rp4.2.1, rp4.2.2, _, rfl, fun _ => False, .ref due, D4, rfl, dadue, rp4.1, rp4.2.1, rp4.2.2, ?_⟩
      generalize esh : D4.shown = sh
      refine ⟨rfl, _, rfl, iteNS rfl ?_⟩
      clear esh
      -- fits_in
      try dsimp only [List.set]
      have A1x := A1
      have A2x := A2
      obtain ⟨dx, da, hA, _⟩ := A1x
      obtain ⟨dy, db, hB, _⟩ := A2x
      refine ⟨_, rfl, a, dx, _, rfl, hA, rfl, _, rfl, a, b, c1', c2', rfl, A1, A2, c1, c2, fun H24 s24 => ?_⟩
      refine ⟨_, rfl, b, dy, _, rfl, s24 _ _ hB, rfl, _, rfl, rfl, b, a, c2', c1', rfl, A2.same s24, A1.same s24, c2, c1, fun H25 s25 => ?_⟩
      refine ⟨(show 2 ≤ sizeLine by decide), fun la nla fla => ?_⟩
      generalize eB1 : ((names c1').all fun y => decide (num c1' y ≤ num c2' y)) = Bx
      generalize eB2 : ((names c2').all fun y => decide (num c2' y ≤ num c1' y)) = By
      have rp2 := md_rp2 (md_bool Bx) (md_bool By)
      have dl2 : DA (fun _ => False) (upd H25 la (.lst [.bl Bx, .bl By])) (.ref la) (.list [.bool Bx, .bool By]) := .lst upd_same fla (fun z => z) (.cons (.bl _) (.cons (.bl _) .nil))
      refine ⟨fun _ => False, .ref la, _, rfl, dl2, rp2.1, rp2.2.1, rp2.2.2, ?_⟩
      have s26 : Same H23 (upd H25 la (.lst [.bl Bx, .bl By])) := (s24.trans s25).trans (Same.new nla)
      generalize upd H25 la (.lst [.bl Bx, .bl By]) = H26 at s26 ⊢
      clear dl2 nla fla s24 s25
      -- the second
      have trx := tr.same s26
      obtain ⟨ts, hL, prT⟩ := trx
      have tsl : ts.length = ws.length := paired_len prT
      refine ⟨.ref L, rfl, L, rfl, ⟨_, SqL.of hL⟩, fun E nE => ?_⟩
      refine lc_list (K := K) (a := L) (xs := ts.map V.ref) (fun j Hh => Same H26 Hh ∧ Hh E = some (.lst (((ws.take j).filter fun y => decide (num m2 y < num m1 y)).map V.str))) ⟨Same.new nE, upd_same⟩ (fun j Hh hj z => SqL.of (z.1 _ _ hL)) ?_ ?_
      · rintro j x Hh hx ⟨s9, dE⟩
        obtain ⟨t, rfl, gt⟩ := ref_map_get hx
        obtain ⟨y, gy, ht⟩ := paired_get prT gt
        try dsimp only [wipe, List.set]
        refine ⟨t, _, rfl, SqT.of (s9 _ _ ht), rfl, _, _, rfl, _, _, rfl, _, _, rfl, rfl, ?_⟩
        try dsimp only [wipe, List.set]
        refine ⟨rfl, ?_⟩
        refine ⟨_, rfl, _, rfl, _, _, rfl, rfl, _, rfl, ite2 (fun pos => ?_) (fun neg => ?_)⟩
        · refine ⟨_, rfl, _, dE, ?_, fun b o z => ?_, ?_⟩
          · have := List.length_filter_le (fun y => decide (num m2 y < num m1 y)) (ws.take j)
            rw [List.length_take] at this
            rw [List.length_map, sizeLine_eq]
            omega
          · rw [upd_ne (ne_of_none z nE)]
            exact s9 b o z
          · rw [upd_same, take_snoc gy, List.filter_append, List.map_append, filter_yes (P := fun y => decide (num m2 y < num m1 y)) pos]
            rfl
        · refine ⟨s9, ?_⟩
          rw [take_snoc gy, List.filter_append, filter_no (P := fun y => decide (num m2 y < num m1 y)) neg, List.append_nil]
          exact dE
      rintro He ⟨s9, dE⟩
      rw [List.length_map, List.take_of_length_le (by omega)] at dE
      have f1e := fit_eq (l := ws.filter fun y => decide (num m2 y < num m1 y)) v1 v2 out1 low2 (fun y => by rw [List.mem_filter, decide_eq_true_eq])
      have f2e := fit_eq (l := zs) v2 v1 out2 low1 hz
      rw [eB1] at f1e
      rw [eB2] at f2e
      generalize (ws.filter fun y => decide (num m2 y < num m1 y)) = mo at dE f1e
      refine ⟨(show 0 ≤ sizeLine by decide), fun n1 nn1 => ?_⟩
      refine ⟨E, n1, _, rfl, rfl, SqL.of (Same.new nn1 _ _ dE), SqL.of upd_same, ?_⟩
      refine ⟨_, rfl, (show 0 ≤ sizeLine by decide), fun n2 nn2 => ?_⟩
      have hfw := Same.new (o := .lst []) nn2 _ _ (Same.new (o := .lst []) nn1 _ _ (s9 _ _ (s26 _ _ hfew)))
      refine ⟨few, n2, _, rfl, rfl, SqL.of hfw, SqL.of upd_same, ?_⟩
      refine ⟨(show 2 ≤ sizeLine by decide), fun lb nlb flb => ?_⟩
      rw [← f1e, ← f2e]
      have dl3 : DA (fun _ => False) (upd (upd (upd He n1 (.lst [])) n2 (.lst [])) lb (.lst [.bl Bx, .bl By])) (.ref lb) (.list [.bool Bx, .bool By]) := .lst upd_same flb (fun z => z) (.cons (.bl _) (.cons (.bl _) .nil))
      refine ⟨fun _ => False, .ref lb, _, rfl, dl3, rp2.1, rp2.2.1, rp2.2.2, ?_⟩
      generalize esh : (PyData.list [.bool Bx, .bool By]).shown = sh
      refine ⟨rfl, _, rfl, iteNS rfl ?_⟩
      have s27 : Same H23 (upd (upd (upd He n1 (.lst [])) n2 (.lst [])) lb (.lst [.bl Bx, .bl By])) := (((s26.trans s9).trans (Same.new nn1)).trans (Same.new nn2)).trans (Same.new nlb)
      generalize upd (upd (upd He n1 (.lst [])) n2 (.lst [])) lb (.lst [.bl Bx, .bl By]) = H27 at s27 ⊢
      clear esh dl3 nlb flb hfw nn2 nn1 dE s9 nE prT hL tsl s26 rp2 eB1 eB2 f1e f2e hfew hA hB
      have he1 := s27 _ _ he1
      have he2 := s27 _ _ he2
      have hl := s27 _ _ hl
      have A1 := A1.same s27
      have B1 := B1.same s27
      have B2 := B2.same s27
      have A2 := A2.same s27
      have P := P.same s27 (Nat.le_refl _)
      clear tr s27 hzz hz sz
      -- caps
      try dsimp only [List.set]
      refine ⟨.ref l, rfl, l, rfl, ⟨_, SqL.of hl⟩, fun E nE => ?_⟩
      have Ep := (pen_apart P (Same.refl _) nE).1
      have Ec := (pen_apart P (Same.refl _) nE).2
      refine lc_list (K := K) (a := l) (xs := ws.map V.str) (fun j Hh => ∃ ps ls, PrsL Hh p E ps ls ∧ ls.length ≤ j ∧ Hh E = some (.lst (ps.map V.ref)) ∧ PenAt Hh p c (1000 * i + 10 + 12 + 12 + 2 * j) ∧ But p H27 Hh)
        ⟨[], [], Paired.nil, Nat.le_refl _, upd_same, pen_off P Ep Ec, But.of (Same.new nE)⟩ (fun j Hh hj ⟨_, _, _, _, _, _, b⟩ => SqL.of (b _ _ lp hl)) ?_ ?_
      · rintro j x Hh hx ⟨ps, ls, pr, lls, dE, Pn, b5⟩
        obtain ⟨y, rfl, gy, my⟩ := str_map_get hx
        have hj : j < ws.length := (List.getElem?_eq_some_iff.mp gy).1
        try dsimp only [wipe, List.set]
        refine ⟨rfl, ?_⟩
        refine ⟨_, rfl, p, c, _, 3, rfl, Pn, by omega, by decide, by decide, fun kk H28 k0 k3 P28 b28 => ⟨_, _, rfl, rfl, _, rfl, ite2 (fun pos => ?_) (fun neg => ?_)⟩⟩
        · refine ⟨_, rfl, _, rfl, (show 5 ≤ sizeLine by decide), fun it nit => ?_⟩
          have itp := pen_apart P28 (Same.refl _) nit
          refine ⟨p, c, _, it, [.non, .int 0, .int 1, .int 2, .int 3], rfl, pen_off P28 itp.1 itp.2, by omega, upd_same, by decide, by decide, fun k x H29 hx P29 b29 => ?_⟩
          obtain ⟨o, rfl⟩ := five_oV hx
          refine ⟨(show 2 ≤ sizeLine by decide), fun T nT => ?_⟩
          have b59 : But p Hh H29 := (b28.trans (But.of (Same.new nit))).trans b29
          have dE9 := b59 _ _ Ep dE
          have TE : T ≠ E := ne_new dE9 nT
          have Tp := pen_apart P29 (Same.refl _) nT
          refine ⟨ps.map V.ref, by rw [upd_ne (Ne.symm TE)]; exact dE9, ?_, ps ++ [T], ls ++ [(y, o)], (pr.but b59).snoc nT Tp.1 TE, by rw [List.length_append, List.length_singleton]; omega, by rw [List.map_append]; exact upd_same, (pen_off (pen_off P29 Tp.1 Tp.2) Ep Ec).same (Same.refl _) (by omega), fun b o nb z => ?_⟩
          · have := pr.len
            rw [List.length_map, sizeLine_eq]
            omega
          · have z9 := b59 b o nb (b5 b o nb z)
            rw [upd_ne (fun e => by rw [e, nE] at z; cases z), upd_ne (Ne.symm (ne_new z9 nT))]
            exact z9
        · exact ⟨ps, ls, pr.but b28, by omega, b28 _ _ Ep dE, P28.same (Same.refl _) (by omega), b5.trans b28⟩
      rintro Hf ⟨ps, ls, pr, lls, dE, Pn, b5⟩
      rw [List.length_map] at Pn lls
      refine ⟨E, ps, lD ls, rfl, SqL.of dE, pr.sqt, fun caps ncaps => ?_⟩
      obtain ⟨lm, em, ndl, lml⟩ := merge_lims ls [] List.nodup_nil
      have hcap : (upd Hf caps (.dK (mergeK [] (lD ls)))) caps = some (.dK (lD lm)) := upd_same.trans (congrArg (fun z => some (HO.dK z)) em)
      have b30 : But p H27 (upd Hf caps (.dK (mergeK [] (lD ls)))) := b5.trans (But.of (Same.new ncaps))
      have capp := pen_apart Pn (Same.refl _) ncaps
      have e1c : e1 ≠ caps := Ne.symm (ne_new (b5 _ _ e1p he1) ncaps)
      have P := (pen_off (o := .dK (mergeK [] (lD ls))) Pn capp.1 capp.2).same (Same.refl _) (show 1000 * i + 10 + 12 + 12 + 2 * ws.length ≤ 1000 * i + 100 by omega)
      rw [List.length_nil] at lml
      have lm20 : lm.length ≤ 20 := by omega
      generalize upd Hf caps (.dK (mergeK [] (lD ls))) = H30 at hcap b30 P ⊢
      have he1 := b30 _ _ e1p he1
      have he2 := b30 _ _ e2p he2
      have B1 := StaffB.but b30 B1
      have B2 := StaffB.but b30 B2
      have A1 := B1.a
      have A2 := B2.a
      clear pr dE Pn b5 ncaps em nE b30 Ep Ec capp
      -- within
      try dsimp only [List.set]
      have A1x := A1
      have A2x := A2
      obtain ⟨dx, da, hA, _⟩ := A1x
      obtain ⟨dy, db, hB, _⟩ := A2x
      have rw1 := md_rp1 (md_bool (lm.all (okL m1)))
      refine ⟨_, rfl, a, dx, _, rfl, hA, rfl, _, rfl, rfl, a, caps, c1', lm, rfl, A1, hcap, lm20, fun H31 s31 => ?_⟩
      refine ⟨fun _ => False, .bl (lm.all (okL c1')), .bool (lm.all (okL m1)), rfl, (by rw [okL_eq v1 lm]; exact .bl _), rw1.1, rw1.2.1, rw1.2.2, ?_⟩
      refine ⟨_, rfl, _, rfl, e1, caps, m1, lm, rfl, s31 _ _ he1, s31 _ _ hcap, ndl, lm20, e1c, fun H32 s32 => ?_⟩
      refine ⟨fun _ => False, .bl (lm.all (okL m1)), .bool (lm.all (okL m1)), rfl, .bl _, rw1.1, rw1.2.1, rw1.2.2, ?_⟩
      generalize esh : (PyData.bool (lm.all (okL m1))).shown = sh
      refine ⟨rfl, _, rfl, iteNS rfl ?_⟩
      have s33 := s31.trans s32
      have he1 := s33 _ _ he1
      have he2 := s33 _ _ he2
      have A1 := A1.same s33
      have B1 := B1.same s33
      have B2 := B2.same s33
      have A2 := A2.same s33
      have hA := s33 _ _ hA
      have hB := s33 _ _ hB
      have P := P.same s33 (Nat.le_refl _)
      clear esh rw1 s31 s32 s33 hcap ndl lm20 lml B1 B2
      -- the sums
      have nA1 : ∀ y, 0 ≤ num c1' y := fun y => num_nn c1.c y
      have nA2 : ∀ y, 0 ≤ num c2' y := fun y => num_nn c2.c y
      have same1 : ∀ {q : Num}, Fit q → (∀ y, num q y = num c1' y + num c2' y) → q = r1 := fun fq e => can_ext fq.c fr1.c fun y => by rw [e y, nr1 y]
      refine ⟨_, rfl, _, rfl, a, dx, _, b, dy, _, rfl, rfl, hA, hB, a, b, c1', c2', rfl, A1, A2, c1, c2, ll, sum30, fun x1 q1 H34 s34 nx1 X1 fq1 nq1 => ?_⟩
      have lq1 : q1.length ≤ 4 := by rw [same1 fq1 nq1]; exact lr1
      have X1x := X1
      obtain ⟨dz, dr, hx1, _⟩ := X1x
      refine ⟨_, rfl, x1, dz, _, b, dy, _, rfl, rfl, hx1, s34 _ _ hB, x1, b, q1, c2', rfl, X1, A2.same s34, fq1, c2, by omega, fun all x2 q2 H35 s35 nx2 X2 fq2 nq2 => ?_, fun i k dd H' gk lt lo s hd => absurd lt (Int.not_lt.mpr (by rw [nq1 k]; have := nA1 k; omega))⟩
      have eq2 : q2 = c1' := can_ext fq2.c c1.c fun y => by rw [nq2 y, nq1 y]; omega
      rw [eq2] at X2
      have X2x := X2
      obtain ⟨dz2, dr2, hx2, _⟩ := X2x
      have s35' := s34.trans s35
      refine ⟨_, rfl, x2, dz2, _, rfl, hx2, .inl ⟨a, dx, _, rfl, s35' _ _ hA⟩, x2, c1', .ref a, rfl, X2, .inl ⟨a, c1', rfl, A1.same s35', true, congrArg V.bl (eqN_self c1.c.nd), false, rfl, iteF ?_⟩⟩
      -- one + second, second + one
      refine ⟨_, rfl, _, rfl, a, dx, _, b, dy, _, rfl, rfl, s35' _ _ hA, s35' _ _ hB, a, b, c1', c2', rfl, A1.same s35', A2.same s35', c1, c2, ll, sum30, fun x3 q3 H36 s36 nx3 X3 fq3 nq3 => ?_⟩
      have s36' := s35'.trans s36
      refine ⟨_, rfl, _, rfl, b, dy, _, a, dx, _, rfl, rfl, s36' _ _ hB, s36' _ _ hA, b, a, c2', c1', rfl, A2.same s36', A1.same s36', c2, c1, by omega, fun y => by rw [Int.add_comm]; exact sum30 y, fun x4 q4 H37 s37 nx4 X4 fq4 nq4 => ?_⟩
      have X3 := X3.same s37
      obtain ⟨dz3, dr3, hx3, hd3⟩ := X3
      have X4x := X4
      obtain ⟨dz4, dr4, hx4, _⟩ := X4x
      have s37' := s36'.trans s37
      have e43 : q4 = q3 := can_ext fq4.c fq3.c fun y => by rw [nq4 y, nq3 y, Int.add_comm]
      rw [e43] at X4
      refine ⟨x3, dz3, _, rfl, hx3, .inl ⟨x4, dz4, _, rfl, hx4⟩, x3, q3, .ref x4, rfl, ⟨dz3, dr3, hx3, hd3⟩, .inl ⟨x4, q3, rfl, X4, true, congrArg V.bl (eqN_self fq3.c.nd), false, rfl, iteF ?_⟩⟩
      -- not one.fits_in(one + second)
      refine ⟨_, rfl, a, dx, _, rfl, s37' _ _ hA, rfl, _, rfl, _, rfl, a, dx, _, b, dy, _, rfl, rfl, s37' _ _ hA, s37' _ _ hB, a, b, c1', c2', rfl, A1.same s37', A2.same s37', c1, c2, ll, sum30, fun x5 q5 H38 s38 nx5 X5 fq5 nq5 => ?_⟩
      refine ⟨a, x5, c1', q5, rfl, (A1.same s37').same s38, X5, c1, fq5, fun H39 s39 => ?_⟩
      have yes : ((names c1').all fun y => decide (num c1' y ≤ num q5 y)) = true := List.all_eq_true.mpr fun y _ => decide_eq_true (by rw [nq5 y]; have := nA2 y; omega)
      refine ⟨true, congrArg V.bl yes, iteF ?_⟩
      have s39' := (s37'.trans s38).trans s39
      have he1 := s39' _ _ he1
      have he2 := s39' _ _ he2
      have A1 := (A1.same s39')
      have A2 := A2.same s39'
      have hA := s39' _ _ hA
      have hB := s39' _ _ hB
      have P := P.same s39' (Nat.le_refl _)
      clear s34 s35 s35' s36 s36' s37 s37' s38 s39 s39' X1 X2 X4 X5 hx1 hx2 hx3 hx4 hd3 nx1 nx2 nx3 nx4 nx5
      -- numbers
      try dsimp only [List.set]
      have rp2 := md_rp2 (md_num (fit_lite c1) c1.l) (md_num (fit_lite c2) c2.l)
      refine ⟨_, rfl, a, dx, _, rfl, hA, rfl, a, c1', rfl, A1, fun t1 nt1 => ?_⟩
      have z1 : Same H39 (upd H39 t1 (.dK (cD c1'))) := Same.new nt1
      have k1 : (upd H39 t1 (.dK (cD c1'))) t1 = some (.dK (cD c1')) := upd_same
      generalize upd H39 t1 (.dK (cD c1')) = H40 at z1 k1 ⊢
      refine ⟨_, rfl, b, dy, _, rfl, z1 _ _ hB, rfl, b, c2', rfl, A2.same z1, fun t2 nt2 => ?_⟩
      have z2 : Same H40 (upd H40 t2 (.dK (cD c2'))) := Same.new nt2
      have k2 : (upd H40 t2 (.dK (cD c2'))) t2 = some (.dK (cD c2')) := upd_same
      generalize upd H40 t2 (.dK (cD c2')) = H41 at z2 k2 ⊢
      refine ⟨(show 2 ≤ sizeLine by decide), fun la nla fla => ?_⟩
      have da1 : DA (fun _ => False) (upd H41 la (.lst [.ref t1, .ref t2])) (.ref la) (.list [numD c1', numD c2']) := .lst upd_same fla (fun z => z) (.cons (da_num (Same.new nla _ _ (z2 _ _ k1)) (fun z => z)) (.cons (da_num (Same.new nla _ _ k2) (fun z => z)) .nil))
      have z3 : Same H39 (upd H41 la (.lst [.ref t1, .ref t2])) := (z1.trans z2).trans (Same.new nla)
      generalize upd H41 la (.lst [.ref t1, .ref t2]) = H42 at da1 z3 ⊢
      refine ⟨fun _ => False, .ref la, _, rfl, da1, rp2.1, rp2.2.1, rp2.2.2, ?_⟩
      refine ⟨_, rfl, e1, m1, rfl, z3 _ _ he1, nd1, by omega, fun p1 u1 H43 np1 z4 hp1 cu1 nu1 _ _ => ?_⟩
      have eu1 : u1 = c1' := can_ext cu1 c1.c fun y => by
        rw [nu1 y, v1 y]
        have := low1 y
        split <;> omega
      refine ⟨_, rfl, e2, m2, rfl, z4 _ _ (z3 _ _ he2), nd2, by omega, fun p2 u2 H44 np2 z5 hp2 cu2 nu2 _ _ => ?_⟩
      have eu2 : u2 = c2' := can_ext cu2 c2.c fun y => by
        rw [nu2 y, v2 y]
        have := low2 y
        split <;> omega
      rw [eu1] at hp1
      rw [eu2] at hp2
      refine ⟨(show 2 ≤ sizeLine by decide), fun lb nlb flb => ?_⟩
      have da2 : DA (fun _ => False) (upd H44 lb (.lst [.ref p1, .ref p2])) (.ref lb) (.list [numD c1', numD c2']) := .lst upd_same flb (fun z => z) (.cons (da_num (Same.new nlb _ _ (z5 _ _ hp1)) (fun z => z)) (.cons (da_num (Same.new nlb _ _ hp2) (fun z => z)) .nil))
      refine ⟨fun _ => False, .ref lb, _, rfl, da2, rp2.1, rp2.2.1, rp2.2.2, ?_⟩
      generalize esh : (PyData.list [numD c1', numD c2']).shown = sh
      refine ⟨rfl, _, rfl, iteNS rfl ?_⟩
      exact ⟨_, _, _, _, _, _, _, _, _, _, _, _, _, _, _, rfl, P.same (((z3.trans z4).trans z5).trans (Same.new nlb)) (by omega)⟩
    · rintro σ H2 ⟨l0, y3, y4, y5, y6, y7, y8, y9, y10, y11, y12, y13, y14, y15, y16, rfl, hP2⟩
      exact k _
end
end Fs2
set_option Elab.async false
set_option linter.all false
set_option maxRecDepth 100000
set_option maxHeartbeats 0
namespace Fs2
open PySem PySem.Spec PyProof.Rows L2 Fh Fs FhY
open PySem.W (Frag)
abbrev sErrF : Stmt := inClass (top 9) 0
def ownB (K : Frag) (C : Addr) : Bool := He.eqO (PySem.W.findIn K (.ref C) "__class__") (some (some (.builtin "object.__class__"))) && (He.eqO (PySem.W.specialIn K (.builtin "object.__class__") "__get__") (some (some (.builtin "getset_descriptor.__get__"))) &&
  (decide (PySem.W.takesIn K (.builtin "object.__class__") = some true) && (decide (PySem.W.mroIn K C (.type "object") = some true) && (decide (PySem.W.kitOne K (.ref C) (.ref C) = some true) &&
  (decide (PySem.W.kitOne K (.type "NoneType") (.ref C) = some false) && decide (PySem.W.kitOne K (.type "dict") (.ref C) = some false))))))
theorem ownB_ok {K : Frag} {mg : Str → Option Value} {nm : Str} {C : Addr} (gC : mg nm = some (.ref C)) (cl : Cls K C) (h : ownB K C = true) : OwnC K mg nm C := by
  obtain ⟨h1, h⟩ := He.ba h
  obtain ⟨h2, h⟩ := He.ba h
  obtain ⟨h3, h⟩ := He.ba h
  obtain ⟨h4, h⟩ := He.ba h
  obtain ⟨h5, h⟩ := He.ba h
  obtain ⟨h6, h7⟩ := He.ba h
  exact ⟨gC, cl, He.eqO_ok h1, He.eqO_ok h2, of_decide_eq_true h3, of_decide_eq_true h4, of_decide_eq_true h5, of_decide_eq_true h6, of_decide_eq_true h7⟩
def exB (K : Frag) : Bool := ownB K (He.ga K "Packed") && (ownB K (He.ga K "Staff") && (crB K (He.ga K "Staff") && (cmB K (He.ga K "Staff") "of" && (propB K (He.ga K "Staff") "kinds" && (PySem.W.fnIn K (He.ma K (He.ga K "Staff") "__getitem__") && (He.eqO (PySem.W.findIn K (.ref (He.ga K "Staff")) "__ne__") (some (some (.builtin "object.__ne__"))) && (decide (PySem.W.subIn K (.ref (He.ga K "Staff")) (.type "object") = some true) && (PySem.W.selfFirst K (He.ga K "Staff") && (PySem.W.notFirst K (He.ga K "Staff") (.type "dict") && (clB K ("TooFew", .oe, ["kind"])))))))))))
def fn : List He.DefD := [dDef "is_word" sWord, dDef "is_whole" sWhole, dDef "_unpacked" sUnp, dDef "_counted" sCnt, dDef "_has_string_keys" sKeys, dDef "_staff" sStf, dDef "_law_pen" sPen, dDef "_law_draw" sDraw, dDef "_law_pick" sPick, dDef "_law_words" sWds, dDef "_law_staff" sStaff, dDef "_law_less" sLess, dDef "_law_plain" sPlain, dDef "_law_within" sWithin, dDef "law" sLaw, dMeth "Packed" "__init__" "Packed.__init__" sPkI, dMeth "Staff" "__init__" "Staff.__init__" sStI, dMeth "Staff" "numbers" "Staff.numbers" sStN, dMeth "Staff" "__getitem__" "Staff.__getitem__" sStG, dMeth "Staff" "__eq__" "Staff.__eq__" sStE, dMeth "Staff" "__add__" "Staff.__add__" sAdd, dMeth "Staff" "__sub__" "Staff.__sub__" sSub, dMeth "Staff" "__or__" "Staff.__or__" sOr, dMeth "Staff" "__and__" "Staff.__and__" sAnd, dMeth "Staff" "fits_in" "Staff.fits_in" sFit, dMeth "Staff" "within" "Staff.within" sWin, dMeth "TooFew" "__init__" "TooFew.__init__" sErrF]
def gs : List GDef := [gDef "Staff" "kinds" "Staff.kinds" "property" sStK, gDef "Staff" "of" "Staff.of" "classmethod" sStOf]
def fa : List He.Fa := [.glo "is_word", .glo "is_whole", .glo "_unpacked", .glo "_counted", .glo "_has_string_keys", .glo "_staff", .glo "_law_pen", .glo "_law_draw", .glo "_law_pick", .glo "_law_words", .glo "_law_staff", .glo "_law_less", .glo "_law_plain", .glo "_law_within", .glo "law", .free "isinstance", .free "str", .free "int", .free "bool", .free "dict", .free "list", .free "tuple", .free "len", .free "all", .free "sum", .free "sorted", .free "range", .free "set", .free "repr", .free "OverflowError", .free "max", .free "min", .int "HUGE" (10 ^ 30), .int "LONGEST" 8, .str "LETTERS" "abcdefghijklmnopqrstuvwxyz", .glo "Packed", .glo "Staff", .cls "Packed", .cls "Staff", .noat "Packed" "content", .noat "Staff" "_numbers", .mkr "Packed", .mkr "Staff", .glo "TooFew", .meth "Staff" "numbers", .meth "Staff" "__getitem__", .meth "Staff" "__eq__", .meth "Staff" "__add__", .meth "Staff" "__sub__", .meth "Staff" "__or__", .meth "Staff" "__and__", .meth "Staff" "fits_in", .meth "Staff" "within"]
def names : List Str := ["_wall", "__name__", "HUGE", "LETTERS", "LONGEST", "is_word", "is_whole", "InvalidStaff", "TooFew", "Packed", "_unpacked", "_counted", "_has_string_keys", "_staff", "Staff", "_law_pen", "_law_draw", "_law_pick", "_law_words", "_law_staff", "_law_less", "_law_plain", "_law_within"]
abbrev R : PySem.W.OpenRow := PySem.W.OpenLaw.row PySem.Challenge.rw_fewhands_k02_whole_staffs_as_numbers
abbrev hk : PySem.W.Hook := hookY 7 fa fn gs exB
def ob (s : PySem.W.SharedT) : AlY := obsY 7 fa fn gs exB (HandSHeadRun.getT s)
theorem ob_eq (s : PySem.W.SharedT) : ob s = hk.obs s.abs := obsY_eq (HandSHeadRun.getT_eq s)
theorem run (w : World) : HandSHeadRun.RunEq R (PySem.W.view R.prog [26]) hk ob 8000 names w := by
  intro os
  kernel_rfl
section
variable {P : Program} {w : World} {K : Frag} {h : Heap} {mg : Str → Option Value}
theorem facts {f : Addr} (X : K.In h) (G : h.Ns mainGlobals mg) (hfa : mg ("law" : Str) = some (.ref f)) (c : obsK fa fn gs exB K = valY fn gs) :
    ∃ fd : FuncData, (∀ (s : Shared) (v : Value), BindsTo s fd ⟨[v], []⟩ [("_law_script", v)]) ∧ ∀ base : Heap, K.In base → base.Ns mainGlobals mg → FnG P w K mg base CX0 10 f fd ["_law_script"] (spLaw K) := by
  have d := says_d c
  obtain ⟨b1, m⟩ := He.ba (says_more c)
  obtain ⟨b2, m⟩ := He.ba m
  obtain ⟨b3, m⟩ := He.ba m
  obtain ⟨b4, m⟩ := He.ba m
  obtain ⟨b5, m⟩ := He.ba m
  obtain ⟨b6, m⟩ := He.ba m
  obtain ⟨b7, m⟩ := He.ba m
  obtain ⟨b8, m⟩ := He.ba m
  obtain ⟨b9, m⟩ := He.ba m
  obtain ⟨b10, b11⟩ := He.ba m
  obtain ⟨fd0, F0⟩ := funT d 0 (x := "is_word") (st := sWord) rfl
  obtain ⟨fd1, F1⟩ := funT d 1 (x := "is_whole") (st := sWhole) rfl
  obtain ⟨fd2, F2⟩ := funT d 2 (x := "_unpacked") (st := sUnp) rfl
  obtain ⟨fd3, F3⟩ := funT d 3 (x := "_counted") (st := sCnt) rfl
  obtain ⟨fd4, F4⟩ := funT d 4 (x := "_has_string_keys") (st := sKeys) rfl
  obtain ⟨fd5, F5⟩ := funT d 5 (x := "_staff") (st := sStf) rfl
  obtain ⟨fd6, F6⟩ := funT d 6 (x := "_law_pen") (st := sPen) rfl
  obtain ⟨fd7, F7⟩ := funT d 7 (x := "_law_draw") (st := sDraw) rfl
  obtain ⟨fd8, F8⟩ := funT d 8 (x := "_law_pick") (st := sPick) rfl
  obtain ⟨fd9, F9⟩ := funT d 9 (x := "_law_words") (st := sWds) rfl
  obtain ⟨fd10, F10⟩ := funT d 10 (x := "_law_staff") (st := sStaff) rfl
  obtain ⟨fd11, F11⟩ := funT d 11 (x := "_law_less") (st := sLess) rfl
  obtain ⟨fd12, F12⟩ := funT d 12 (x := "_law_plain") (st := sPlain) rfl
  obtain ⟨fd13, F13⟩ := funT d 13 (x := "_law_within") (st := sWithin) rfl
  obtain ⟨fd14, F14⟩ := funT d 14 (x := "law") (st := sLaw) rfl
  have g0 := (He.glo_ok X G (d.fact 0 (f := .glo "is_word") rfl))
  have g1 := (He.glo_ok X G (d.fact 1 (f := .glo "is_whole") rfl))
  have g2 := (He.glo_ok X G (d.fact 2 (f := .glo "_unpacked") rfl))
  have g3 := (He.glo_ok X G (d.fact 3 (f := .glo "_counted") rfl))
  have g4 := (He.glo_ok X G (d.fact 4 (f := .glo "_has_string_keys") rfl))
  have g5 := (He.glo_ok X G (d.fact 5 (f := .glo "_staff") rfl))
  have g6 := (He.glo_ok X G (d.fact 6 (f := .glo "_law_pen") rfl))
  have g7 := (He.glo_ok X G (d.fact 7 (f := .glo "_law_draw") rfl))
  have g8 := (He.glo_ok X G (d.fact 8 (f := .glo "_law_pick") rfl))
  have g9 := (He.glo_ok X G (d.fact 9 (f := .glo "_law_words") rfl))
  have g10 := (He.glo_ok X G (d.fact 10 (f := .glo "_law_staff") rfl))
  have g11 := (He.glo_ok X G (d.fact 11 (f := .glo "_law_less") rfl))
  have g12 := (He.glo_ok X G (d.fact 12 (f := .glo "_law_plain") rfl))
  have g13 := (He.glo_ok X G (d.fact 13 (f := .glo "_law_within") rfl))
  have g14 := (He.glo_ok X G (d.fact 14 (f := .glo "law") rfl))
  obtain ⟨fd15, F15⟩ := funM d 15 (cn := "Packed") (m := "__init__") (q := "Packed.__init__") (st := sPkI) rfl
  obtain ⟨fd16, F16⟩ := funM d 16 (cn := "Staff") (m := "__init__") (q := "Staff.__init__") (st := sStI) rfl
  obtain ⟨fd17, F17⟩ := funM d 17 (cn := "Staff") (m := "numbers") (q := "Staff.numbers") (st := sStN) rfl
  obtain ⟨fd18, F18⟩ := funM d 18 (cn := "Staff") (m := "__getitem__") (q := "Staff.__getitem__") (st := sStG) rfl
  obtain ⟨fd19, F19⟩ := funM d 19 (cn := "Staff") (m := "__eq__") (q := "Staff.__eq__") (st := sStE) rfl
  obtain ⟨fd20, F20⟩ := funM d 20 (cn := "Staff") (m := "__add__") (q := "Staff.__add__") (st := sAdd) rfl
  obtain ⟨fd21, F21⟩ := funM d 21 (cn := "Staff") (m := "__sub__") (q := "Staff.__sub__") (st := sSub) rfl
  obtain ⟨fd22, F22⟩ := funM d 22 (cn := "Staff") (m := "__or__") (q := "Staff.__or__") (st := sOr) rfl
  obtain ⟨fd23, F23⟩ := funM d 23 (cn := "Staff") (m := "__and__") (q := "Staff.__and__") (st := sAnd) rfl
  obtain ⟨fd24, F24⟩ := funM d 24 (cn := "Staff") (m := "fits_in") (q := "Staff.fits_in") (st := sFit) rfl
  obtain ⟨fd25, F25⟩ := funM d 25 (cn := "Staff") (m := "within") (q := "Staff.within") (st := sWin) rfl
  obtain ⟨fd26, F26⟩ := funM d 26 (cn := "TooFew") (m := "__init__") (q := "TooFew.__init__") (st := sErrF) rfl
  obtain ⟨fe0, E0⟩ := funG c 0 (cn := "Staff") (m := "kinds") (q := "Staff.kinds") (T := "property") (st := sStK) rfl
  obtain ⟨fe1, E1⟩ := funG c 1 (cn := "Staff") (m := "of") (q := "Staff.of") (T := "classmethod") (st := sStOf) rfl
  have T : TxtS mg := ⟨(He.free_ok X G (d.fact 15 (f := .free "isinstance") rfl)), (He.free_ok X G (d.fact 16 (f := .free "str") rfl)), (He.free_ok X G (d.fact 17 (f := .free "int") rfl)), (He.free_ok X G (d.fact 18 (f := .free "bool") rfl)), (He.free_ok X G (d.fact 19 (f := .free "dict") rfl)), (He.free_ok X G (d.fact 20 (f := .free "list") rfl)), (He.free_ok X G (d.fact 21 (f := .free "tuple") rfl)), (He.free_ok X G (d.fact 22 (f := .free "len") rfl)), (He.free_ok X G (d.fact 23 (f := .free "all") rfl)), (He.free_ok X G (d.fact 24 (f := .free "sum") rfl)), (He.free_ok X G (d.fact 25 (f := .free "sorted") rfl)), He.str_ok X G (d.fact 34 (f := .str "LETTERS" "abcdefghijklmnopqrstuvwxyz") rfl), He.int_ok X G (d.fact 33 (f := .int "LONGEST" 8) rfl), He.int_ok X G (d.fact 32 (f := .int "HUGE" (10 ^ 30)) rfl)⟩
  have TP : TxtP mg := ⟨(He.free_ok X G (d.fact 20 (f := .free "list") rfl)), (He.free_ok X G (d.fact 17 (f := .free "int") rfl)), (He.free_ok X G (d.fact 22 (f := .free "len") rfl))⟩
  have TQ : TxtQ mg := ⟨(He.free_ok X G (d.fact 26 (f := .free "range") rfl)), (He.free_ok X G (d.fact 27 (f := .free "set") rfl)), (He.free_ok X G (d.fact 28 (f := .free "repr") rfl)), (He.free_ok X G (d.fact 29 (f := .free "OverflowError") rfl))⟩
  have TM : TxtM mg := ⟨(He.free_ok X G (d.fact 30 (f := .free "max") rfl)), (He.free_ok X G (d.fact 31 (f := .free "min") rfl))⟩
  have OP : OwnC K mg "Packed" (He.ga K "Packed") := ownB_ok (He.glo_ok X G (d.fact 35 (f := .glo "Packed") rfl)) (He.cls_ok (d.fact 37 (f := .cls "Packed") rfl)) b1
  have OS : OwnC K mg "Staff" (He.ga K "Staff") := ownB_ok (He.glo_ok X G (d.fact 36 (f := .glo "Staff") rfl)) (He.cls_ok (d.fact 38 (f := .cls "Staff") rfl)) b2
  have M0 := He.meth_ok (d.fact 44 (f := .meth "Staff" "numbers") rfl)
  have M1 := He.meth_ok (d.fact 45 (f := .meth "Staff" "__getitem__") rfl)
  have M2 := He.meth_ok (d.fact 46 (f := .meth "Staff" "__eq__") rfl)
  have M3 := He.meth_ok (d.fact 47 (f := .meth "Staff" "__add__") rfl)
  have M4 := He.meth_ok (d.fact 48 (f := .meth "Staff" "__sub__") rfl)
  have M5 := He.meth_ok (d.fact 49 (f := .meth "Staff" "__or__") rfl)
  have M6 := He.meth_ok (d.fact 50 (f := .meth "Staff" "__and__") rfl)
  have M7 := He.meth_ok (d.fact 51 (f := .meth "Staff" "fits_in") rfl)
  have M8 := He.meth_ok (d.fact 52 (f := .meth "Staff" "within") rfl)
  have CI := clB_one b11
  have ei : EK K (He.ga K "TooFew") .oe := CI.ei
  have EF : PySem.ErrF.ErrFxt K mg (He.ga K "TooFew") (He.ma K (He.ga K "TooFew") "__init__") := errF_of (He.glo_ok X G (d.fact 43 (f := .glo "TooFew") rfl)) ei (CI.no "kind" List.mem_cons_self) CI.iC CI.tI (by
    obtain ⟨oc, od, kV, doc, pm, an, cdv, ct, osl, e, lk, hcd⟩ := F26.ex
    refine ⟨oc, od, kV, doc, pm, an, cdv, ct, osl, ⟨23, 17, 23, 21⟩, ⟨23, 23, 23, 27⟩, ⟨24, 8, 24, 12⟩, ⟨24, 8, 24, 17⟩, ⟨24, 20, 24, 24⟩, ⟨24, 8, 24, 24⟩, ?_, hcd⟩
    rw [lk, e]
    rfl)
  have GP : Pkg K mg (He.ga K "Packed") (He.ga K "Staff") (He.ma K (He.ga K "Packed") "__init__") (He.ma K (He.ga K "Staff") "__init__") (He.ga K "is_word") (He.ga K "is_whole") (He.ga K "_unpacked") (He.ga K "_counted") (He.ga K "_has_string_keys") fd0 fd1 fd2 fd3 fd4 fd15 fd16 :=
    ⟨T, OP, He.noat_ok (d.fact 39 (f := .noat "Packed" "content") rfl), He.mkr_ok (d.fact 41 (f := .mkr "Packed") rfl), F15, OS, He.noat_ok (d.fact 40 (f := .noat "Staff" "_numbers") rfl), He.mkr_ok (d.fact 42 (f := .mkr "Staff") rfl), F16, F0, F1, F2, F3, F4, g0, g1, g2, g3, g4⟩
  have M : Gm K (He.ga K "Staff") (He.ma K (He.ga K "Staff") "__getitem__") (He.ga K "_staff") (getA K "property" (He.ma K (He.ga K "Staff") "kinds")) (He.ma K (He.ga K "Staff") "kinds") fd18 fd5 fe0 mg :=
    ⟨M1.at_, b6, M1.fn, F18, F5, g5, propB_ok b5, E0⟩
  have O : Ops K mg (He.ga K "Staff") (He.ga K "TooFew") (He.ma K (He.ga K "TooFew") "__init__") (He.ma K (He.ga K "Staff") "numbers") (He.ma K (He.ga K "Staff") "__sub__") (He.ma K (He.ga K "Staff") "__add__") (He.ma K (He.ga K "Staff") "__or__") (He.ma K (He.ga K "Staff") "__and__") (He.ma K (He.ga K "Staff") "__eq__") (getA K "classmethod" (He.ma K (He.ga K "Staff") "of")) (He.ma K (He.ga K "Staff") "of") (He.ma K (He.ga K "Staff") "fits_in") (He.ma K (He.ga K "Staff") "within") (.type "type") fd17 fd21 fd20 fd22 fd23 fd19 fe1 fd24 fd25 :=
    ⟨EF, errC_ofO ei, errO_of ei, b9, M0, F17, M4.at_, M4.fn, F21, M3.at_, M3.fn, F20, M5.at_, M5.fn, F22, M6.at_, M6.fn, F23, M2.at_, M2.fn, F19, He.eqO_ok b7, of_decide_eq_true b8, crB_ok b3, cmB_ok b4, E1, M7, F24, M8, F25⟩
  have Z : Defs K mg (He.ga K "_law_pen") (He.ga K "_law_draw") (He.ga K "_law_pick") (He.ga K "_law_words") (He.ga K "_law_staff") (He.ga K "_law_less") (He.ga K "_law_plain") (He.ga K "_law_within") fd6 fd7 fd8 fd9 fd10 fd11 fd12 fd13 := ⟨F6, F7, F8, F9, F10, F11, F12, F13, g6, g7, g8, g9, g10, g11, g12, g13⟩
  have e := hfa.symm.trans g14
  cases e
  have b : ∀ (s : Shared) (v : Value), BindsTo s fd14 ⟨[v], []⟩ [("_law_script", v)] := by
    obtain ⟨oc, od, kV, doc, pm, an, cdv, ct, osl, e, _, _⟩ := F14.ex
    intro s v
    rw [e]
    exact .of_eq rfl
  exact ⟨fd14, b, fun base _ _ => ok_law F14 GP M O Z TP TQ TM⟩
end
end Fs2
set_option Elab.async false
set_option linter.all false
set_option maxRecDepth 100000
set_option maxHeartbeats 0
open PySem PySem.W PySem.Calls PyProof.Rows
theorem PySem.Challenge.cw_fewhands_k02_whole_staffs_as_numbers_holds : PySem.Challenge.rw_fewhands_k02_whole_staffs_as_numbers.Holds := by
  w_on; o_law
  refine HandSHeadRun.head_any (r := OpenLaw.row PySem.Challenge.rw_fewhands_k02_whole_staffs_as_numbers) (q := view (OpenLaw.row PySem.Challenge.rw_fewhands_k02_whole_staffs_as_numbers).prog [26]) (H := Fs2.hk) (ob := Fs2.ob) (M := 8000) (loose := Fs2.names) (d := HandSHeadRun.topDef (OpenLaw.row PySem.Challenge.rw_fewhands_k02_whole_staffs_as_numbers).prog 26) (kwd := []) Fs2.ob_eq
    (by kernel_rfl) (fun s => by kernel_rfl) Fs2.run (by kernel_rfl) (by kernel_rfl) (by kernel_rfl) (by rfl) (by first | assumption | decide +kernel) (by decide +kernel) ⟨rfl, rfl, rfl, rfl, rfl, by decide +kernel⟩ ?hw ?hc
  case hw => w_witness2
  case hc =>
    refine Fh.walk_ofGE (l := PySem.Challenge.rw_fewhands_k02_whole_staffs_as_numbers) (n := 63) (k := 10) (x := "_law_script") (CX := L2.CX0) rfl (by decide) (by kernel_rfl) ⟨rfl, by decide, by decide⟩ ?F (fun _ _ _ _ z => z)
    intro w mg fa h Y G hmg0
    obtain ⟨K, KX, c⟩ := Y
    have hmg : mg ("law" : PySem.Str) = some (.ref fa) := by
      have e : (HandSHeadRun.topDef (OpenLaw.row PySem.Challenge.rw_fewhands_k02_whole_staffs_as_numbers).prog 26).name = ("law" : PySem.Str) := by kernel_rfl
      rw [← e]
      exact hmg0
    obtain ⟨fd, hb, hF⟩ := Fs2.facts (P := (PySem.Challenge.rw_fewhands_k02_whole_staffs_as_numbers).prog) (w := w) KX G hmg c
    exact ⟨K, fd, Fs2.spLaw K, KX, hb, fun H a ns hl _ _ hS => ⟨a, ns, rfl, hS, hl, fun _ => rfl⟩, hF⟩
