import PyProof.Rows.All
import Wide.All
import OpenK.AllK
import Wide.FinOn
import PyProof.ReprRoads
import HandS.ForMost
import HandS.EndBits
import KE.KExcInit
import HandS.Exc
import HandS.ExcInit
import HandS.ExcOwn
import HandS.IsInst
import HandS.ExcIs
import HandS.Defaults
import KE.KExcIs
import HandS.ExcValue
import HandS.DeepEq
import HandS.DictComp
import HandS.Star
import HandS.MakeKw
import HandS.MakeKwOnly
import HandS.ClsMeth
import HandS.Property
import HandS.CallLocal
import KE.KParD
import PyProof.InstNe
import OpenK.KMeth
import KE.KOpsOwn
import HandS.SlotsOwn
import HandS.Set
import HandS.SetFor
import HandS.Strs
import HandS.SetKeys
import HandS.Conv
import HandS.ListItems
import KE.KDictSum
import HandS.Walk
import KE.KEqDict
import HandS.Text
import PyProof.ReprLen
import PyProof.TupleOfSeq
import HandS.ForExc
import HandS.More
import HandS.Dict
import PyProof.EqAt
import PyProof.NeKinds
import HandS.RaiseMore
import KE.KStateDown
import HandS.Head0
import HandS.Head1
import HandS.Head2
import HandS.HeadEnd
import HandS.HeadHook1
import HandS.HeadHook2
import HandS.HeadHook3
import HandS.HeadHook4
import HandS.NoneIn
import PyProof.TupleKey
import PyProof.DictFindH
import HandS.Small
import PyProof.DictRoadsH
import HandS.Iter
import HandS.Nested
import KE.KSuper
import HandS.Lambda
import HandS.EndTab
import HandS.List
import PySem.Challenge.RW_fewhands_k24_whole_texts_of_plans_bent
import HandS.TupAny
import HandS.TryOnly
import HandS.Codes
import HandS.FStr
import PyProof.AutoSeq1
import HandS.ReplaceList
import HandS.Replace
import HandS.Words
import HandS.WordsExc
import PyProof.CollectStr
import HandS.TupLe
set_option Elab.async false
set_option linter.all false
set_option maxRecDepth 100000
set_option maxHeartbeats 4000000
/-! FhA: a def's promise where no repr is under way (FnG), data in the abstract heap (DA), repr of it -/
namespace Fh
open PySem PySem.Spec PyProof.Rows L2

/-! ### 1. promises that hold where the stack shows no repr -/
structure FnG (P : Program) (w : World) (K : PySem.W.Frag) (mg : Str → Option Value) (base : Heap) (CX : CXT) (k : Nat) (f : Addr) (fd : FuncData) (ps : List Str) (sp : Sp) : Prop where
  len : ∀ vs H Q E, sp vs H Q E → vs.length = ps.length
  run : ∀ (A : Around) (outer : List Env) (s : Shared) (H : Hp) (args : Args) (us : List Value) (vs : List V) (Q : VK) (E : XK), A.guards = some [] → Room k A → Env0 P w K mg base A outer s H →
    BindsTo s fd args (ps.zip us) → Vals vs us → sp vs H Q E → codeAny (model P w) A (.call (.ref f) args) (CR CX outer P w H s Q E) s

theorem guards_deeper (A : Around) (env : Env) : (A.deeper env).guards = A.guards := by
  first
    | rfl
    | simp [Around.deeper]

/-- the body's rule under no repr -/
theorem FunG_ok {P : Program} {w : World} {K : PySem.W.Frag} {mg : Str → Option Value} {base : Heap} {x qual : Str} {st : Stmt} {f : Addr} {fd : FuncData} {N ps : List Str} {k : Nat} {sp : Sp} {CX : CXT}
    (F : Fun K x qual st f fd) (S : FnScope N ps (defScope st)) (len : ∀ vs H Q E, sp vs H Q E → vs.length = ps.length)
    (hbody : ∀ (cdv : Value) (A : Around) (outer : List Env) (s : Shared) (H : Hp) (vs : List V) (Q : VK) (E : XK), A.guards = some [] → Room k (A.deeper (envOfC qual (defScope st) s.heap.objs.size f cdv)) → sp vs H Q E →
      ∃ t, PSs (cxOf CX P w K mg base N qual (defScope st) f cdv A outer s H E) (defBody st) t ∧ t { nx := fun _ H' => Q .non H', rt := Q } (start N vs) H) : FnG P w K mg base CX (k + 1) f fd ps sp := by
  obtain ⟨oc, od, kV, doc, pm, an, cdv, ct, osl, rfl, lk, hcd⟩ := F.ex
  refine ⟨len, fun A outer s H args us vs Q E hg hr e0 hb rv hsp => ?_⟩
  have nvs := len vs H Q E hsp
  have inK : K.In s.heap := e0.mod.kin.keeps (fun b o z => (e0.bs b o z).1)
  have nolim : s.heap.NoLimit := e0.mod.nolimit.keeps (fun b o z => (e0.bs b o z).1)
  have kinds : ∀ y ∈ ps.zip us, (defScope st).names.lookup y.1 = some .local ∨ ((defScope st).names.lookup y.1 = some .cell ∧ ((cellsFrom (s.heap.objs.size + 1) (defScope st).names []).lookup y.1).isSome = true) := by
    rintro ⟨n, v⟩ hy
    cases S.par n (List.of_mem_zip hy).1 with
    | inl q => exact Or.inl q
    | inr q => exact Or.inr ⟨q, PySem.W.cellsFrom_some _ _ _ (Or.inl q)⟩
  refine codeAny_call_function hr.depth (inK _ _ lk) rfl S.co S.gen rfl (PySem.W.codeRec_of inK hcd) (hb _ _ _ _ ?_)
  refine wpAny_newFunctionEnv_cells S.kind kinds fun env henv s1 ic => ?_
  subst henv
  refine ⟨nolim.keeps ic.toInCall.keep, codeAny_func ?_⟩
  obtain ⟨t, ht, hq⟩ := hbody cdv A outer s H vs Q E hg (hr.deeper _) hsp
  have J0 : Inv (cxOf CX P w K mg base N qual (defScope st) f cdv A outer s H E) [] (start N vs) H s1 := inv_start S hr.hd e0 nvs rv ic
  refine wpAny_mono (ht.run [] s1 (start N vs) H _ J0 hq) ?_ (fun e s' z => z)
  intro fl s' hs
  match fl, hs with
  | .ret u, hs =>
    obtain ⟨v, σ', H', J, ru, q⟩ := hs
    exact ⟨v, H', J.os, J.bare, J.base, J.hok, ru, q⟩
  | .next, hs =>
    obtain ⟨σ', H', J, q⟩ := hs
    exact ⟨V.non, H', J.os, J.bare, J.base, J.hok, rfl, q⟩
  | .brk, hs =>
    obtain ⟨_, _, _, q⟩ := hs
    exact q.elim
  | .cont, hs =>
    obtain ⟨_, _, _, q⟩ := hs
    exact q.elim

theorem FnOk.toG {P : Program} {w : World} {K : PySem.W.Frag} {mg : Str → Option Value} {base : Heap} {CX : CXT} {k : Nat} {f : Addr} {fd : FuncData} {ps : List Str} {sp : Sp} (F : FnOk P w K mg base CX k f fd ps sp) : FnG P w K mg base CX k f fd ps sp :=
  ⟨F.len, fun A outer s H args us vs Q E _ hr e0 hb rv hsp => F.run A outer s H args us vs Q E hr e0 hb rv hsp⟩

section
variable {X : Cx} {CX : CXT} {k : Nat} {f : Addr} {fd : FuncData} {ps : List Str} {sp : Sp} {dvs : List V} {ds : List Value} {E : XK} {x : Str} {p pos : Pos} {e : Expr} {es : List Expr} {t : TA}
theorem run_fnG {pins : List (Addr × Obj)} {σ : L2.St} {H : Hp} {s : Shared} {Q : VK} {us : List Value} {vs : List V} (F : FnG X.prog X.w X.K X.mg X.base CX k f fd ps sp) (hg : X.A.guards = some []) (hr : Room k X.A) (hb : Binds X.K fd ps ds) (hd : Vals dvs ds)
    (hx : Passes CX X E) (I : Inv X pins σ H s) (r : Vals vs us) (h : sp (vs ++ dvs) H Q E) : wpAny (model X.prog X.w) X.A (call (.ref f) us) (EP X pins σ Q) X.xe s := by
  have both : Vals (vs ++ dvs) (us ++ ds) := r.append hd
  have many : (us ++ ds).length = ps.length := by
    rw [← both.length]
    exact F.len _ _ _ _ h
  refine wpAny_call (codeAny_mono (F.run X.A X.stack s H ⟨us, []⟩ (us ++ ds) (vs ++ dvs) Q E hg hr I.env0 (hb s us I.kIn many) both h) ?_)
  intro res s' hq
  match res, hq with
  | .error er, hq => exact hx pins σ H s er s' I hq
  | .ok (.ret u), hq => exact I.after hq
theorem pe_callG (F : FnG X.prog X.w X.K X.mg X.base CX k f fd ps sp) (hgd : X.A.guards = some []) (hr : Room k X.A) (hg : Gl X x) (hm : X.mg x = some (.ref f)) (hk : PySem.W.keepIn X.K (.ref f) = true) (hb : Binds X.K fd ps ds) (hd : Vals dvs ds) (hx : Passes CX X E)
    (ha : PA X (e :: es) t) (hdb : (x == ("__debug__" : Str)) = false := by decide) (he : starEach (e :: es) X.env = (false, eval e X.env) :: starEach es X.env := by rfl) (hpl : (backTo pos (starEach es X.env)).any (·.1) = false := by rfl) :
    PE X (.Call (.Name x p) (e :: es) [] pos) (tCall sp dvs E t) :=
  ⟨fun pins s σ H Q I h => wpAny_Call_Name_kw (ld_glob I hg hm (PySem.W.callWith_K (h₀ := X.base) I.ok.mod.kin hk
    (thn (ha.run pos pins s σ H _ I h) fun us s1 ⟨vs, H1, I1, r, q⟩ => ⟨I1.kIn, run_fnG F hgd hr hb hd hx I1 r q⟩) he hpl) hdb)⟩
end

/-! ### 2. the end of a law whose def is promised under no repr -/
/-- from FnG to a promise of calls at one A: an FnOk is asked by the library; here its core is gone through anew -/
theorem law_callG {P : Program} {w : World} {K : PySem.W.Frag} {mg mb : Str → Option Value} {CX : CXT} {k : Nat} {fa a : Addr} {fd : FuncData} {x : Str} {sp : Sp} {s1 : Shared} {vs : List Value} {ns : List Int}
    (KX : K.In s1.heap) (hns : s1.heap.Ns mainGlobals mg) (hb : s1.heap.Ns builtinsNs mb) (hbb : ∀ x : Str, x ≠ "__name__" → mb x = bootBuiltins x) (hlim : s1.heap.NoLimit) (hg : s1.gens = #[])
    (ha : s1.heap.get? a = some { cls := .type "list", data := .seq vs.toArray }) (hi : IntsAre vs ns) (hl : ns.length ≤ sizeLine) (hr : Room k callerA)
    (F : ∀ base : Heap, K.In base → base.Ns mainGlobals mg → FnG P w K mg base CX k fa fd [x] sp) (hbind : ∀ (s : Shared) (u : Value), BindsTo s fd ⟨[u], []⟩ [(x, u)])
    (hsp : ∀ H : Hp, Only H → SqL K H a (ns.map V.int) → sp [.ref a] H (fun v _ => v = .bl true) fun _ _ _ => False)
    (hCX : ∀ H e s', CX [] H s1 (fun _ _ _ => False) e s' → False) :
    codeAny (model P w) callerA (.call (.ref fa) ⟨[.ref a], []⟩) (fun r s' => r = .ok (.ret (.bool true)) ∧ OldK s1.heap s'.heap ∧ s'.os = s1.os ∧ AllBare s'.gens) s1 := by
  have rv := vals_ints hi
  have lenV := hi.length
  -- H tracks at most the script, and that as a known object
  have main : ∀ H : Hp, Only H → SqL K H a (ns.map V.int) → HOk P w H s1.heap → (∀ b, H b ≠ none → b = a) → (H a ≠ none → K.lookup a = none) →
      codeAny (model P w) callerA (.call (.ref fa) ⟨[.ref a], []⟩) (fun r s' => r = .ok (.ret (.bool true)) ∧ OldK s1.heap s'.heap ∧ s'.os = s1.os ∧ AllBare s'.gens) s1 := by
    intro H hO hS hok only noK
    have under : ∀ {b : Addr} {o : Obj}, s1.heap.get? b = some o → H b = none → (hidT s1.heap H).get? b = some o := fun z n => hidT_get z n
    have dictFree : ∀ {b : Addr} {o : Obj} {es : Array DictEntry} {ep : Nat}, s1.heap.get? b = some o → o.data = .dict es ep → H b = none := by
      intro b o es ep z d
      by_cases q : H b = none
      · exact q
      · have hba : b = a := only b q
        rw [hba, ha] at z
        have zo := Option.some.inj z
        rw [← zo] at d
        exact nomatch (show Data.seq vs.toArray _ = Data.dict es ep from d)
    have nsU : ∀ {b : Addr} {m : Str → Option Value}, s1.heap.Ns b m → (hidT s1.heap H).Ns b m := fun {b m} ⟨o, es, ep, z, d, r⟩ => ⟨o, es, ep, under z (dictFree z d), d, r⟩
    have kU : K.In (hidT s1.heap H) := by
      intro b o z
      refine under (KX b o z) ?_
      by_cases q : H b = none
      · exact q
      · have hba : b = a := only b q
        rw [hba] at z q
        rw [noK q] at z
        exact nomatch z
    have mU : Mod K mg (hidT s1.heap H) := ⟨kU, nsU hns, ⟨mb, nsU hb, hbb⟩, (let ⟨mc, h1, h2⟩ := hlim; ⟨mc, nsU h1, h2⟩)⟩
    have e0 : Env0 P w K mg (hidT s1.heap H) callerA [] s1 H := ⟨rfl, mU, fun b o z => of_hidT z, Nat.le_of_eq (hidT_size _ _), trivial, fun b q => (nomatch (show b ∈ ([] : List Addr) from q)), hok, .of_eq hg⟩
    refine codeAny_mono ((F _ kU (nsU hns)).run callerA [] s1 H ⟨[.ref a], []⟩ [.ref a] [.ref a] _ _ rfl hr e0 (hbind s1 (.ref a)) (.cons rfl .nil) (hsp H hO hS)) ?_
    intro r s' hq
    match r, hq with
    | .error e, hq => exact (hCX H e s' hq).elim
    | .ok (.ret u), hq =>
      obtain ⟨v, H', os, bare, un, hok', ru, q⟩ := hq
      have q1 : v = .bl true := q
      rw [q1] at ru
      have q2 : u = Value.bool true := ru
      subst q2
      refine ⟨rfl, OldK.of_keep (fun b o z => ?_), os, bare⟩
      by_cases n : H b = none
      · exact un.keep b o z n (fun y => (nomatch (show b ∈ ([] : List Addr) from y))) (fun y => (nomatch y))
      · cases hO b with
        | inl y => exact absurd y n
        | inr y =>
          obtain ⟨ob, xs, y⟩ := y
          have y2 := un.frzs b ob _ y
          have g1 := (hok b _ y).1
          have g2 := (hok' b _ y2).1
          rw [z] at g1
          rw [Option.some.inj g1]
          exact g2
  by_cases hk : K.lookup a = none
  · refine main (fun b => if b = a then some (.frz { cls := .type "list", data := .seq vs.toArray } (.lst (ns.map V.int))) else none) ?_ ?_ ?_ ?_ (fun _ => hk)
    · intro b
      by_cases hb : b = a
      · exact Or.inr ⟨_, _, if_pos hb⟩
      · exact Or.inl (if_neg hb)
    · exact Or.inl (Or.inr ⟨{ cls := .type "list", data := .seq vs.toArray }, if_pos rfl⟩)
    · intro b u z
      by_cases hb : b = a
      · rw [hb] at z ⊢
        have z2 := Option.some.inj ((if_pos rfl).symm.trans z)
        rw [← z2]
        exact ⟨ha, by rw [List.length_map]; exact hl, vs, _, rv, ha⟩
      · exact nomatch (if_neg hb).symm.trans z
    · intro b z
      by_cases hb : b = a
      · exact hb
      · exact absurd (if_neg hb) z
  · obtain ⟨o, ho⟩ := Option.ne_none_iff_exists'.mp hk
    have z := KX a o ho
    rw [ha] at z
    have zo := Option.some.inj z
    subst zo
    refine main (fun _ => none) (fun _ => Or.inl rfl) (Or.inr ⟨_, vs.toArray, _, ho, rfl, rfl, rfl, ?_, ?_⟩) (fun b u y => (nomatch (show (none : Option HO) = some u from y))) (fun b y => absurd rfl y) (fun y => absurd rfl y)
    · rw [List.size_toArray, lenV]
      exact hl
    · simpa using rv

theorem walk_ofG {l : PySem.W.OpenLaw} {n k : Nat} {q : Program} {loose : List Str} {XP : (Str → Option Value) → Heap → Prop} {YP : World → Heap → Prop} {d : DefRec} {K : Params → PySem.W.Frag} {CX : World → CXT} {sp : World → Sp} {x : Str}
    (hn : l.most = some n) (hn2 : n ≤ sizeLine) (hdf : d.params.defaults = []) (hr : Room k callerA)
    (hY : ∀ (w : World) (h : Heap), YP w h → (K w.params).In h)
    (F : ∀ (w : World) (mg : Str → Option Value) (fa : Addr) (h : Heap), (K w.params).In h → h.Ns mainGlobals mg → mg d.name = some (.ref fa) →
      ∃ fd : FuncData, (∀ (s : Shared) (u : Value), BindsTo s fd ⟨[u], []⟩ [(x, u)]) ∧
        ∀ base : Heap, (K w.params).In base → base.Ns mainGlobals mg → FnG l.prog w (K w.params) mg base (CX w) k fa fd [x] (sp w))
    (hsp : ∀ (w : World) (H : Hp) (a : Addr) (ns : List Int), ns.length ≤ n → (∀ z ∈ ns, Builtin.Int.intBits z ≤ 1048576) → Only H → SqL (K w.params) H a (ns.map V.int) → sp w [.ref a] H (fun v _ => v = .bl true) fun _ _ _ => False)
    (hCX : ∀ (w : World) (H : Hp) (s : Shared) (e : Value) (s' : Shared), CX w [] H s (fun _ _ _ => False) e s' → False) :
    PySem.W.WalkO q loose XP YP l.row.toRowW d [] (fun f vs => PySem.call f vs) :=
  Att.attach_callB hn hdf fun w s0 s1 mg mb fa o pm cd doc a vs ns G Y ho hd hcd hmg hobj hints hlen hbits hg =>
    let ⟨fd, hb, hF⟩ := F w mg fa _ (hY w _ Y) G.T.g hmg
    law_callG (hY w _ Y) G.T.g G.T.b G.T.builtins G.T.nolimit hg hobj hints (Nat.le_trans hlen hn2) hr hF hb (fun H hO hS => hsp w H a ns hlen hbits hO hS) (fun H e s' => hCX w H s1 e s')

/-! ### 3. data in the abstract heap -/
def kP : Key → PyData
  | .inl i => .int i
  | .inr x => .str x
mutual
/-- v is the data d -/
inductive DA (N : Addr → Prop) (H : Hp) : V → PyData → Prop where
  | non : DA N H .non .none
  | bl (b : Bool) : DA N H (.bl b) (.bool b)
  | int (i : Int) : DA N H (.int i) (.int i)
  | str (x : Str) : DA N H (.str x) (.str x)
  | lst {a : Addr} {xs : List V} {ds : List PyData} : H a = some (.lst xs) → a ≠ sysModules → ¬ N a → DAs N H xs ds → DA N H (.ref a) (.list ds)
  | tup {a : Addr} {xs : List V} {ds : List PyData} : H a = some (.tup xs) → ¬ N a → DAs N H xs ds → DA N H (.ref a) (.tuple ds)
  | dK {a : Addr} {es : List (Key × V)} {kvs : List (PyData × PyData)} : H a = some (.dK es) → ¬ N a → DKs N H es kvs → DA N H (.ref a) (.dict kvs)
inductive DAs (N : Addr → Prop) (H : Hp) : List V → List PyData → Prop where
  | nil : DAs N H [] []
  | cons {x : V} {d : PyData} {xs : List V} {ds : List PyData} : DA N H x d → DAs N H xs ds → DAs N H (x :: xs) (d :: ds)
inductive DKs (N : Addr → Prop) (H : Hp) : List (Key × V) → List (PyData × PyData) → Prop where
  | nil : DKs N H [] []
  | cons {k : Key} {v : V} {d : PyData} {es : List (Key × V)} {kvs : List (PyData × PyData)} : DA N H v d → DKs N H es kvs → DKs N H ((k, v) :: es) ((kP k, d) :: kvs)
end
mutual
theorem DA.same {N : Addr → Prop} {H H' : Hp} (s : Same H H') : ∀ {v : V} {d : PyData}, DA N H v d → DA N H' v d
  | _, _, .non => .non
  | _, _, .bl b => .bl b
  | _, _, .int i => .int i
  | _, _, .str x => .str x
  | _, _, .lst h n m r => .lst (s _ _ h) n m (DAs.same s r)
  | _, _, .tup h m r => .tup (s _ _ h) m (DAs.same s r)
  | _, _, .dK h m r => .dK (s _ _ h) m (DKs.same s r)
theorem DAs.same {N : Addr → Prop} {H H' : Hp} (s : Same H H') : ∀ {v : List V} {d : List PyData}, DAs N H v d → DAs N H' v d
  | _, _, .nil => .nil
  | _, _, .cons h r => .cons (DA.same s h) (DAs.same s r)
theorem DKs.same {N : Addr → Prop} {H H' : Hp} (s : Same H H') : ∀ {v : List (Key × V)} {d : List (PyData × PyData)}, DKs N H v d → DKs N H' v d
  | _, _, .nil => .nil
  | _, _, .cons h r => .cons (DA.same s h) (DKs.same s r)
end
theorem key_reads {h : Heap} {k : Key} {u : Value} (z : keyIs k u = true) : Reads h u (kP k) [] := by
  cases k with
  | inl i =>
    obtain ⟨t, e⟩ := Value.isInt_shape (show Value.isInt i u = true from z)
    rw [e]
    exact .int i t
  | inr x =>
    obtain ⟨t, e⟩ := Value.isStrOf_shape (show Value.isStrOf x u = true from z)
    rw [e]
    exact .str x t
section
variable {P : Program} {w : World} {N : Addr → Prop} {H : Hp} {h : Heap}
mutual
theorem DA.reads (ok : HOk P w H h) : ∀ {v : V} {d : PyData} {u : Value}, DA N H v d → RelV v u → ∃ as, Reads h u d as ∧ sysModules ∉ as
  | _, _, u, .non, r => by
    have e : u = Value.none := r
    rw [e]
    exact ⟨[], .none, List.not_mem_nil⟩
  | _, _, u, .bl b, r => by
    have e : u = Value.bool b := r
    rw [e]
    exact ⟨[], .bool b, List.not_mem_nil⟩
  | _, _, u, .int i, r => by
    obtain ⟨t, e⟩ := (show ∃ t, u = Value.int i t from r)
    rw [e]
    exact ⟨[], .int i t, List.not_mem_nil⟩
  | _, _, u, .str x, r => by
    obtain ⟨t, e⟩ := (show ∃ t, u = Value.str x t from r)
    rw [e]
    exact ⟨[], .str x t, List.not_mem_nil⟩
  | _, _, u, .lst (a := a) (xs := xs) hA n _ rs, r => by
    have e : u = Value.ref a := r
    rw [e]
    obtain ⟨_, its, m, rv, ho⟩ := (show ObjOk P w H h a (.lst xs) from ok a _ hA)
    obtain ⟨as, ra, ns⟩ := DAs.reads ok rs rv
    exact ⟨a :: as, .list ho rfl rfl (by simpa using ra), fun z => (List.mem_cons.mp z).elim (fun y => n y.symm) ns⟩
  | _, _, u, .tup (a := a) (xs := xs) hA _ rs, r => by
    have e : u = Value.ref a := r
    rw [e]
    obtain ⟨_, its, rv, o, ho, hc, m, hd⟩ := (show ObjOk P w H h a (.tup xs) from ok a _ hA)
    obtain ⟨as, ra, ns⟩ := DAs.reads ok rs rv
    exact ⟨as, .tuple ho hc hd (by simpa using ra), ns⟩
  | _, _, u, .dK (a := a) (es := es) hA _ rs, r => by
    have e : u = Value.ref a := r
    rw [e]
    obtain ⟨_, hs, vs, rv, o, ds, ep, ho, hx, hd, _, hp, _⟩ := (show ObjOk P w H h a (.dK es) from ok a _ hA)
    obtain ⟨as, bs, r1, r2, n1, n2⟩ := DKs.reads ok rs rv hp
    refine ⟨a :: as ++ bs, .dict ho hx.1 hd r1 r2, fun z => ?_⟩
    rcases List.mem_append.mp z with y | y
    · rcases List.mem_cons.mp y with x | x
      · exact absurd x.symm (beq_eq_false_iff_ne.mp hs)
      · exact n1 x
    · exact n2 y
theorem DAs.reads (ok : HOk P w H h) : ∀ {vs : List V} {ds : List PyData} {us : List Value}, DAs N H vs ds → Vals vs us → ∃ as, ReadsAll h us ds as ∧ sysModules ∉ as
  | _, _, _, .nil, .nil => ⟨[], .nil, List.not_mem_nil⟩
  | _, _, _, .cons hd rs, .cons r1 r2 => by
    obtain ⟨as, a1, a2⟩ := DA.reads ok hd r1
    obtain ⟨bs, b1, b2⟩ := DAs.reads ok rs r2
    exact ⟨as ++ bs, .cons a1 b1, fun z => (List.mem_append.mp z).elim a2 b2⟩
theorem DKs.reads (ok : HOk P w H h) : ∀ {es : List (Key × V)} {kvs : List (PyData × PyData)} {vs : List (Key × Value)} {ds : List DictEntry}, DKs N H es kvs → KV es vs → Pairs (mixKind P w) ds vs →
    ∃ as bs, ReadsAll h (ds.map (·.key)) (kvs.map (·.1)) as ∧ ReadsAll h (ds.map (·.val)) (kvs.map (·.2)) bs ∧ sysModules ∉ as ∧ sysModules ∉ bs
  | _, _, _, _, .nil, .nil, .nil => ⟨[], [], .nil, .nil, List.not_mem_nil, List.not_mem_nil⟩
  | _, _, _, _, .cons hd rs, .cons r1 r2, .cons p1 p2 p3 => by
    obtain ⟨as, bs, a1, b1, a2, b2⟩ := DKs.reads ok rs r2 p3
    obtain ⟨cs, c1, c2⟩ := DA.reads ok hd (show RelV _ _ from p2 ▸ r1.2)
    have k1 := key_reads (h := h) p1
    rw [← r1.1] at k1
    exact ⟨[] ++ as, cs ++ bs, .cons k1 a1, .cons c1 b1, a2, fun z => (List.mem_append.mp z).elim c2 b2⟩
end
end

/-! ### 4. repr of data -/
def rRepr : List V → Hp → VK → Prop := fun xs H Q => ∃ (N : Addr → Prop) (v : V) (d : PyData), xs = [v] ∧ DA N H v d ∧ d.showable = true ∧ d.depth ≤ 60 ∧ d.shown.length ≤ sizeLine ∧ Q (.str d.shown) H
theorem call_repr {X : Cx} (hg : X.A.guards = some []) (hu : X.A.units + 64 < cLine) : CallR X (.builtin "repr") rRepr := by
  intro pins s σ H xs us Q I r h
  obtain ⟨N, v, d, rfl, hd, hs, hz, hl, q⟩ := h
  obtain ⟨u, rfl, ru⟩ := vals1 r
  obtain ⟨as, ra, ns⟩ := DA.reads I.hok hd ru
  match hd, ra with
  | .non, .none => exact PySem.P.repr_of_none ⟨.str _, H, I.tok _, ⟨_, rfl⟩, q⟩
  | .bl b, .bool _ => exact PySem.P.repr_of_bool ⟨.str _, H, I.tok _, ⟨_, rfl⟩, q⟩
  | .int i, .int _ t => exact PySem.P.repr_of_int (by simpa [PyData.showable] using hs) ⟨.str _, H, I.tok _, ⟨_, rfl⟩, q⟩
  | .str x, .str _ t => exact PySem.P.repr_of_str ⟨.str _, H, I.tok _, ⟨_, rfl⟩, q⟩ (by simpa only [PyData.shown] using hl)
  | .lst _ _ _ _, .list a b c e => exact PySem.repr_of_reads' (.list a b c e) hs (fun _ => ns) hg (by omega) (fun _ _ z => z) (fun h' t tk k => ⟨.str _, H, I.kept (t' := tk) k, ⟨_, rfl⟩, q⟩) hl
  | .tup _ _ _, .tuple a b c e => exact PySem.repr_of_reads' (.tuple a b c e) hs (fun _ => ns) hg (by omega) (fun _ _ z => z) (fun h' t tk k => ⟨.str _, H, I.kept (t' := tk) k, ⟨_, rfl⟩, q⟩) hl
  | .dK _ _ _, .dict a b c e f => exact PySem.repr_of_reads' (.dict a b c e f) hs (fun _ => ns) hg (by omega) (fun _ _ z => z) (fun h' t tk k => ⟨.str _, H, I.kept (t' := tk) k, ⟨_, rfl⟩, q⟩) hl
end Fh
set_option Elab.async false
set_option linter.all false
set_option maxRecDepth 100000
set_option maxHeartbeats 4000000
namespace PySem
namespace FhX
open Builtin Builtin.ObjectAttr
/-! ### own error classes over any of the built-in bases: made with positions or keywords -/
section
variable {prog : Program} {w : World} {A : Around} {E : Value → Shared → Prop} {R : Result → Shared → Prop} {h : Heap} {g : Array GenState} {d : Drawn} {t : Nat} {os : OsState}
variable {nm q : Str} {C N : Addr} {bs bm bmB : List Value} {hdct : Bool} {sn : List Str} {sub : List Value} {ab : Bool} {col : Option Bool} {dd : Option Addr} {k0 k1 k2 k3 k5 : Option Value} {B newId initId : String}

theorem newK_check {M : Model} (F : ExcBaseFacts B newId initId bmB) (hT : ∀ X : String, bm.contains (.type X) = bmB.contains (.type X)) {rest : List Value} {kw : List (Str × Value)} {Q : Unit → Shared → Prop}
    (hC : h.get? C = some (excClassObj nm q C N bs bm hdct sn sub ab col dd k0 k1 k2 k3 k5 newId)) (hq : Q () ⟨h, g, d, t, os⟩) : wpAny M A (checkBuiltinCall newId ⟨.ref C :: rest, kw⟩) Q E ⟨h, g, d, t, os⟩ := by
  have isB : (Value.ref C :: bm).contains (.type B) = true := by
    rw [List.contains_cons, hT, F.hasB, Bool.or_true]
  have star := F.noStar
  simp only [checkBuiltinCall, F.newKind, F.newSplit, F.newRow]
  repeat (first
    | refine wpAny_loadPart_at hC ?_
    | (refine wpAny_isSubtype_exc hC ?_; rw [isB])
    | refine wpAny_staticBase_exc hC ?_
    | refine wpAny_madeBy_exc hC ?_
    | simp only [bne_self_eq_false, Bool.false_eq_true, if_false]
    | wp_step)
  exact hq

theorem newK_made (F : ExcBaseFacts B newId initId bmB) (hT : ∀ X : String, bm.contains (.type X) = bmB.contains (.type X)) {rest : List Value} {kw : List (Str × Value)}
    (hC : h.get? C = some (excClassObj nm q C N bs bm hdct sn sub ab col dd k0 k1 k2 k3 k5 newId))
    (hq : R (.ok (.ret (.ref (h.objs.size + 1)))) ⟨(h.push (PySem.W.kdv_tup rest)).push (HandSPX.excO C h.objs.size), g, d, t, os⟩) (hz : rest.length ≤ sizeLine) :
    codeAny (model prog w) A (.builtin newId ⟨.ref C :: rest, kw⟩) R ⟨h, g, d, t, os⟩ := by
  have hends := F.ends
  have isB : (Value.ref C :: bm).contains (.type B) = true := by
    rw [List.contains_cons, hT, F.hasB, Bool.or_true]
  have noA : (Value.ref C :: bm).contains (.type "AttributeError") = false := by
    rw [List.contains_cons, hT, F.noAttr]
    rfl
  have noN : (Value.ref C :: bm).contains (.type "NameError") = false := by
    rw [List.contains_cons, hT, F.noName]
    rfl
  refine codeAny_builtinAt F.entry ?_
  unfold Builtin.«BaseException.__new__»
  refine wpAt_bind ?_
  show wpAt _ _ _ (stack >>= _) _ _ _
  refine wpAt_bind (wpAt_stack fun p below => wpAt_of_wpAny ?_)
  wp_walk
  refine wpAt_of_wpAny ?_
  rw [F.owner]
  repeat (first
    | with_reducible refine wpAny_madeHere_exc F.canon hC ?_
    | with_reducible refine wpAny_loadPart_at hC ?_
    | (with_reducible refine wpAny_isSubtype_exc hC ?_; first | rw [isB] | rw [noA] | rw [noN])
    | wp_step)
  show R _ _
  rw [Heap.size_push]
  exact hq

theorem typeCallK (F : ExcBaseFacts B newId initId bmB) (hT : ∀ X : String, bm.contains (.type X) = bmB.contains (.type X)) {rest : List Value} {kw : List (Str × Value)} {fI : Addr} {Q : Fin → Shared → Prop}
    (hC : h.get? C = some (excClassObj nm q C N bs bm hdct sn sub ab col dd k0 k1 k2 k3 k5 newId))
    (hi : PySem.W.Looks (model prog w) h (typeLookup (.ref C) "__init__") (some (.ref fI))) (hb : ∀ self, PySem.W.Looks (model prog w) h (bindSpecial (.ref fI) self) (.ref fI, [self])) (hz : rest.length ≤ sizeLine)
    (hq : codeAny (model prog w) A (.call (.ref fI) ⟨.ref (h.objs.size + 1) :: rest, kw⟩)
      (fun r s' => match r with | .ok (.ret v) => v = .none ∧ Q (.done (.ret (.ref (h.objs.size + 1)))) s' | .ok _ => False | .error e => E e s')
      ⟨(h.push (PySem.W.kdv_tup rest)).push (HandSPX.excO C h.objs.size), g, d, t, os⟩) :
    wpAny (model prog w) A (Builtin.«type.__call__» ⟨.ref C :: rest, kw⟩) Q E ⟨h, g, d, t, os⟩ := by
  repeat (first
    | with_reducible refine wpAny_loadPart_at hC ?_
    | with_reducible refine wpAny_madeBy_exc hC ?_
    | wp_step)
  refine codeAny_call_builtin_code (Code.quiet_builtin _ F.quiet) (newK_check F hT hC ?_)
  refine newK_made F hT hC ?_ hz
  show wpAny _ _ _ _ _ _
  have up : ∀ b o, h.get? b = some o → ((h.push (PySem.W.kdv_tup rest)).push (HandSPX.excO C h.objs.size)).get? b = some o := fun b o z => Heap.get?_push_of_some _ (Heap.get?_push_of_some _ z)
  have hC1 := up _ _ hC
  have here : ((h.push (PySem.W.kdv_tup rest)).push (HandSPX.excO C h.objs.size)).get? (h.objs.size + 1) = some (HandSPX.excO C h.objs.size) := by heap_get
  have self : (Value.ref C :: bm).contains (.ref C) = true := by simp
  have i1 := hi.keeps up
  have b1 := (hb (.ref (h.objs.size + 1))).keeps up
  unfold isInstance
  repeat (first
    | with_reducible refine wpAny_loadPart_at here ?_
    | (with_reducible refine wpAny_isSubtype_exc hC1 ?_; rw [self])
    | wp_step)
  show wpAny _ _ (typeLookup (.ref C) _) _ _ _
  refine i1.at (wpAny_holding (wpAny_bind (b1.at (wpAny_bind (wpAny_call (codeAny_mono hq ?_))))))
  intro r s' z
  match r, z with
  | .error e, z => exact z
  | .ok (.ret v), z =>
    obtain ⟨rfl, z⟩ := z
    first
      | exact wpAny_pure (wpAny_pure z)
      | (wp_walk; exact z)

theorem callK_check {M : Model} {rest : List Value} {kw : List (Str × Value)} {Q : Unit → Shared → Prop} (hC : h.get? C = some (excClassObj nm q C N bs bm hdct sn sub ab col dd k0 k1 k2 k3 k5 newId))
    (hq : Q () ⟨h, g, d, t, os⟩) : wpAny M A (checkBuiltinCall "type.__call__" ⟨.ref C :: rest, kw⟩) Q E ⟨h, g, d, t, os⟩ := by
  have f3 := tc_sub
  have isT : (⟨h, g, d, t, os⟩ : Shared).TypeIs (.ref C) "type" := ⟨_, hC, rfl⟩
  simp only [checkBuiltinCall, tc_kind, tc_split]
  repeat (any_goals (first
    | assumption
    | with_reducible refine wpAny_loadPart_at hC ?_
    | with_reducible refine wpAny_onRaise ?_
    | with_reducible refine wpAny_map ?_
    | wp_step))

theorem callK_own (F : ExcBaseFacts B newId initId bmB) (hT : ∀ X : String, bm.contains (.type X) = bmB.contains (.type X)) {rest : List Value} {kw : List (Str × Value)} {fI : Addr}
    (hC : h.get? C = some (excClassObj nm q C N bs bm hdct sn sub ab col dd k0 k1 k2 k3 k5 newId))
    (hi : PySem.W.Looks (model prog w) h (typeLookup (.ref C) "__init__") (some (.ref fI))) (hb : ∀ self, PySem.W.Looks (model prog w) h (bindSpecial (.ref fI) self) (.ref fI, [self])) (hz : rest.length ≤ sizeLine)
    (hq : codeAny (model prog w) (A.under (.builtin "type.__call__" ⟨.ref C :: rest, kw⟩)) (.call (.ref fI) ⟨.ref (h.objs.size + 1) :: rest, kw⟩) (PySem.W.InitBack (h.objs.size + 1) R)
      ⟨(h.push (PySem.W.kdv_tup rest)).push (HandSPX.excO C h.objs.size), g, d, t, os⟩) :
    codeAny (model prog w) A (.call (.ref C) ⟨rest, kw⟩) R ⟨h, g, d, t, os⟩ := by
  have f1 := tc_lookup
  have f2 := tc_bind (.ref C)
  have isT : (⟨h, g, d, t, os⟩ : Shared).TypeIs (.ref C) "type" := ⟨_, hC, rfl⟩
  refine codeAny_of_tree ?_
  show wpAny _ _ (callAny (.ref C) _) _ _ _
  repeat (any_goals (first
    | assumption
    | with_reducible refine wpAny_loadPart_at hC ?_
    | wp_step))
  refine ⟨rfl, ?_⟩
  refine codeAny_call_builtin_at (Code.quiet_builtin _ (by decide +kernel)) entry_typeCall (callK_check hC (typeCallK F hT hC hi hb hz ?_))
  refine codeAny_mono hq ?_
  intro r s' z
  match r, z with
  | .error e, z => exact z
  | .ok (.ret v), z => exact z
  | .ok .next, z => exact z
  | .ok .brk, z => exact z
  | .ok .cont, z => exact z
end
end FhX
end PySem
set_option Elab.async false
set_option linter.all false
set_option maxRecDepth 100000
set_option maxHeartbeats 4000000
namespace Fh
open PySem PySem.Spec PyProof.Rows L2
open PySem.W (Frag)

/-- what the written part says of an own error class at C, straight below the built-in class with mro bmB -/
structure EI (K : Frag) (C : Addr) (bmB : List Value) (newId : String) : Prop where
  q : PySem.W.excInitIn K C bmB newId = true
  mro : (PySem.W.clsIn K C).map (·.mro) = some (.ref C :: bmB)
  hd : PySem.W.hasDictIn K C = true
  ty : PySem.W.typeIn K (.ref C) = some (.type "type")
  sa : PySem.W.findIn K (.ref C) "__setattr__" = some (some (.builtin "object.__setattr__"))
  ga : PySem.W.findIn K (.ref C) "__getattribute__" = some (some (.builtin "BaseException.__getattribute__"))
  gg : PySem.W.findIn K (.ref C) "__getattr__" = some none
  cl : PySem.W.findIn K (.ref C) "__class__" = some (some (.builtin "object.__class__"))
  kC : PySem.W.keepIn K (.ref C) = true
  hn : PySem.W.specialIn K (.builtin "object.__class__") "__get__" = some (some (.builtin "getset_descriptor.__get__"))
  ht : PySem.W.takesIn K (.builtin "object.__class__") = some true

section
variable {K : Frag} {C : Addr} {bmB : List Value} {newId : String}
theorem EI.cls (T : EI K C bmB newId) : ∃ cd, PySem.W.clsIn K C = some cd ∧ cd.mro = .ref C :: bmB := Option.map_eq_some_iff.mp T.mro
theorem EI.sub (T : EI K C bmB newId) {b : Value} : PySem.W.subIn K (.ref C) b = some (List.contains (.ref C :: bmB) b) := by
  obtain ⟨cd, h1, h2⟩ := T.cls
  show PySem.W.mroIn K C b = _
  unfold PySem.W.mroIn
  rw [h1, Option.bind_some, h2, if_neg (by simp)]
theorem EI.mroI (T : EI K C bmB newId) {b : Value} : PySem.W.mroIn K C b = some (List.contains (.ref C :: bmB) b) := T.sub
theorem EI.tail (T : EI K C bmB newId) : PySem.W.excTail bmB bmB = true := by
  have q := T.q
  obtain ⟨cd, h1, h2⟩ := T.cls
  unfold PySem.W.clsIn at h1
  unfold PySem.W.excInitIn at q
  split at h1
  · rename_i c d cd' sl ho
    have e := Option.some.inj h1
    subst e
    rw [ho] at q
    split at q
    · rename_i dd cd2 sl2 ho2
      have e2 := Option.some.inj ho2
      injection e2 with e3 e4 e5 e6
      injection e5 with e5
      subst e5
      rw [h2] at q
      split at q
      · rename_i C' bm _ _ _ _ _ _ hm _
        injection hm with hm1 hm2
        subst hm2
        simp only [Bool.and_eq_true] at q
        exact q.2
      · exact nomatch q
    · exact nomatch q
  · exact nomatch h1
theorem EI.over (T : EI K C bmB newId) : PySem.W.excOver K C bmB = true := by
  obtain ⟨cd, h1, h2⟩ := T.cls
  unfold PySem.W.excOver
  rw [h1]
  show (match cd.mro with | .ref C' :: bm => C' == C && PySem.W.excTail bmB bm | _ => false) = true
  rw [h2]
  show (C == C && PySem.W.excTail bmB bmB) = true
  rw [T.tail]
  simp
end

/-! ### self.f = v in such a class's __init__ -/
section
variable {prog : Program} {w : World} {A : Around} {R : Result → Shared → Prop} {hp : Heap} {g : Array GenState} {d : Drawn} {t : Nat} {os : OsState} {K : Frag} {C : Addr} {bmB : List Value} {newId B : String} {name : Str} {tk : Tok} {v : Value} {x : Addr} {fv : Array Value}
open Builtin Builtin.ObjectAttr in
theorem osaG_new (T : EI K C bmB newId) (SF : StoreFacts B bmB "object.__setattr__" "object") (X : K.In hp) (hx : hp.get? x = some { cls := .ref C, data := .fields fv }) (no : PySem.W.findIn K (.ref C) name = some none)
    (hq : ∀ h' tk' dx, (∀ b o, b ≠ x → hp.get? b = some o → h'.get? b = some o) → hp.objs.size ≤ dx → dx ≠ x → h'.get? x = some { cls := .ref C, dict := some dx, data := .fields fv } →
      h'.Ns1 dx (fun y => if y = name then some v else none) → R (.ok (.ret .none)) ⟨h', g, d, tk', os⟩) :
    codeAny (model prog w) A (.call (.builtin "object.__setattr__") ⟨[.ref x, .str name tk, v], []⟩) R ⟨hp, g, d, t, os⟩ := by
  obtain ⟨cd, hcd, hdict⟩ := PySem.W.any_some T.hd
  have apart : x ≠ hp.objs.size := Nat.ne_of_lt (Heap.lt_size hx)
  have hcls : PySem.W.Looks (model prog w) hp (classData C) cd := PySem.W.looks_clsIn X hcd
  refine PySem.W.osa_openX (od := none) (r := none) SF X ⟨hx, rfl, rfl, trivial⟩ T.over ?_ fun b => ?_
  · unfold PySem.W.takerIn
    rw [no]
    rfl
  · show wpAny _ _ (storeInOwnDict (.ref x) (.ref C) (.str name tk) name v b) _ _ _
    obtain ⟨n1, n2, n3, n4, n5, n6, n7, n8, n9, n10, n11⟩ := cd
    have e6 : n6 = true := hdict
    subst e6
    unfold storeInOwnDict ownDictForStores
    repeat (first
      | with_reducible refine HandSPX.store_in_new ?_ ?_
      | with_reducible refine wpAny_loadPart_at hx ?_
      | with_reducible refine hcls.at ?_
      | wp_step)
    · exact ⟨_, #[], _, (Heap.get?_update_ne _ _ _ _ apart.symm).trans (Heap.get?_push_at rfl rfl), rfl, fun e he => absurd he (by simp), fun _ => rfl⟩
    · intro h' tk' ns same
      have hx1 : (hp.push { cls := .type "dict", data := .dict #[] }).get? x = some { cls := .ref C, data := .fields fv } := Heap.get?_push_of_some _ hx
      refine hq h' tk' hp.objs.size (fun b o hb ho => ?_) (Nat.le_refl _) apart.symm ?_ ns
      · exact (same.2 b (Nat.ne_of_lt (Heap.lt_size ho))).trans ((Heap.get?_update_ne _ _ _ _ hb).trans (Heap.get?_push_of_some _ ho))
      · exact (same.2 x apart).trans (Heap.get?_update_self _ hx1 rfl)

open Builtin Builtin.ObjectAttr in
theorem osaG_old {dx : Addr} {m0 : Str → Option Value} {nl : List Str} (T : EI K C bmB newId) (SF : StoreFacts B bmB "object.__setattr__" "object") (X : K.In hp) (hx : hp.get? x = some { cls := .ref C, dict := some dx, data := .fields fv })
    (hns : hp.Ns1 dx m0) (hw : Within m0 nl) (hz : nl.length ≤ 1000) (no : PySem.W.findIn K (.ref C) name = some none)
    (hq : ∀ h' tk', (∀ b o, b ≠ dx → hp.get? b = some o → h'.get? b = some o) → h'.Ns1 dx (fun y => if y = name then some v else m0 y) → R (.ok (.ret .none)) ⟨h', g, d, tk', os⟩) :
    codeAny (model prog w) A (.call (.builtin "object.__setattr__") ⟨[.ref x, .str name tk, v], []⟩) R ⟨hp, g, d, t, os⟩ := by
  obtain ⟨cd, hcd, hdict⟩ := PySem.W.any_some T.hd
  obtain ⟨oD, _, _, hoD, _, _⟩ := hns.count hw
  have hcls : PySem.W.Looks (model prog w) hp (classData C) cd := PySem.W.looks_clsIn X hcd
  refine PySem.W.osa_openX (od := some oD) (r := none) SF X ⟨hx, rfl, rfl, hoD⟩ T.over ?_ fun b => ?_
  · unfold PySem.W.takerIn
    rw [no]
    rfl
  · show wpAny _ _ (storeInOwnDict (.ref x) (.ref C) (.str name tk) name v b) _ _ _
    obtain ⟨n1, n2, n3, n4, n5, n6, n7, n8, n9, n10, n11⟩ := cd
    have e6 : n6 = true := hdict
    subst e6
    unfold storeInOwnDict ownDictForStores
    repeat (first
      | with_reducible refine OEX.store_in_old hns hw hz ?_
      | with_reducible refine wpAny_loadPart_at hx ?_
      | with_reducible refine hcls.at ?_
      | wp_step)
    intro h' tk' ns same
    exact hq h' tk' (fun b o hb ho => (same.2 b hb).trans ho) ns
end

section
variable {X : Cx} {pins : List (Addr × Obj)} {σ : L2.St} {H : Hp} {s : Shared} {a C dx : Addr} {f : Str} {y : V} {u : Value} {fs : List (Str × V)} {Q : Unit → Shared → Prop} {E : Value → Shared → Prop} {A : Around} {bmB : List Value} {newId B : String}
theorem ostG_new (T : EI X.K C bmB newId) (SF : StoreFacts B bmB "object.__setattr__" "object") (I : Inv X pins σ H s) (e : H a = some (exo a C none)) (no : PySem.W.findIn X.K (.ref C) f = some none) (ry : RelV y u)
    (h : ∀ dx s', H dx = none → dx ≠ a → Inv X pins σ (upd (upd H dx (exd dx [(f, y)])) a (exo a C (some dx))) s' → Q () s') : wpAny (model X.prog X.w) A (setAttr (.ref a) f u) Q E s := by
  obtain ⟨t1, ho⟩ := exo_at I.hok e
  obtain ⟨hp, g, d, t, os⟩ := s
  refine PySem.W.set_plain I.kIn (ox := { cls := .ref C, dict := none, data := .fields #[.ref t1, .none, .none, .none, .bool false, .none] }) (od := none) ⟨ho, rfl, rfl, trivial⟩ T.sa ?_
  refine osaG_new T SF I.kIn ho no (fun h' tk' dx k dn dne hx hn => ?_)
  have fresh : H dx = none := I.hok.fresh dn
  have below : ∀ {b : Addr} {o : Obj}, hp.get? b = some o → b ≠ dx := fun {b o} q => Nat.ne_of_lt (Nat.lt_of_lt_of_le (Heap.lt_size q) dn)
  have off : ∀ {b : Addr}, H b = none → b ≠ a := fun {b} n z => by
    rw [z, e] at n
    exact nomatch n
  have U : Un X.fs [] H (upd (upd H dx (exd dx [(f, y)])) a (exo a C (some dx))) hp h' := by
    refine ⟨fun b o q n _ _ => k b o (off n) q, fun b o q n _ _ => ⟨o.slots, k b o (off n) q⟩, fun b o q n _ => ?_, fun b o q _ => ?_, fun b xs q => ?_, fun b o v q => ?_, fun b ps q => ?_⟩
    · rw [upd_ne (off n), upd_ne (below q)]
      exact n
    · by_cases hb : b = a
      · exact ⟨_, by rw [hb]; exact hx⟩
      · exact ⟨o, k b o hb q⟩
    · rw [upd_ne (at_ne e q exo_tup), upd_ne (ne_of_none q fresh)]
      exact q
    · rw [upd_ne (at_ne e q exo_frz), upd_ne (ne_of_none q fresh)]
      exact q
    · refine ⟨#[], ?_⟩
      rw [upd_ne (at_ne e q exo_tbl), upd_ne (ne_of_none q fresh), q]
      simp
  refine h dx _ fresh dne (I.un (t' := tk') U fun b o q => ?_)
  by_cases hb : b = a
  · subst hb
    rw [upd_same] at q
    have q2 := Option.some.inj q
    rw [← q2]
    exact exo_ok hx
  · rw [upd_ne hb] at q
    by_cases hd : b = dx
    · subst hd
      rw [upd_same] at q
      have q2 := Option.some.inj q
      rw [← q2]
      exact exd_ok hn (relO_put (fs := []) ry fun g => True.intro)
    · rw [upd_ne hd] at q
      refine (I.hok b o q).stay (fun c v hc z => k c v ?_ z) (fun c hc => ?_) (fun c xs hc => ?_)
      · cases hc with
        | inl hc =>
          rw [hc]
          exact hb
        | inr hc => exact at_ne e hc exo_own
      · rw [upd_ne (at_ne e hc exo_own), upd_ne (ne_of_none hc fresh)]
        exact hc
      · rw [upd_ne (at_ne e hc exo_tup), upd_ne (ne_of_none hc fresh)]
        exact hc
theorem ostG_old (T : EI X.K C bmB newId) (SF : StoreFacts B bmB "object.__setattr__" "object") (I : Inv X pins σ H s) (e : H a = some (exo a C (some dx))) (ed : H dx = some (exd dx fs)) (hl : fs.length ≤ 900) (no : PySem.W.findIn X.K (.ref C) f = some none) (ry : RelV y u)
    (h : ∀ s', Inv X pins σ (upd H dx (exd dx ((f, y) :: fs))) s' → Q () s') : wpAny (model X.prog X.w) A (setAttr (.ref a) f u) Q E s := by
  obtain ⟨t1, ho⟩ := exo_at I.hok e
  obtain ⟨mA, hns, rel⟩ := exd_at I.hok ed
  have hw := within_of rel
  obtain ⟨hp, g, d, t, os⟩ := s
  obtain ⟨oD, _, _, hoD, _, _⟩ := hns.count hw
  refine PySem.W.set_plain I.kIn (ox := { cls := .ref C, dict := some dx, data := .fields #[.ref t1, .none, .none, .none, .bool false, .none] }) (od := some oD) ⟨ho, rfl, rfl, hoD⟩ T.sa ?_
  refine osaG_old T SF I.kIn ho hns hw (by rw [List.length_map]; omega) no (fun h' tk' k hn => ?_)
  obtain ⟨o2, _, _, e2, _⟩ := id hn
  exact h _ (I.write (t' := tk') (x := dx) (e := dx) (o := exd dx ((f, y) :: fs)) (by rw [ed]; exact True.intro) (.inl rfl) k ⟨o2, e2⟩ (exd_ok hn (relO_put ry rel)))
end

/-- self.f = e: the first store, a later one -/
def tOstG (to te : TE) (f : Str) : TS := fun D σ H => te σ H fun y H1 => to σ H1 fun x H2 => ∃ a C : Addr, x = .ref a ∧
  ((H2 a = some (exo a C none) ∧ ∀ dx, H2 dx = none → dx ≠ a → D.nx σ (upd (upd H2 dx (exd dx [(f, y)])) a (exo a C (some dx)))) ∨
    ∃ (dx : Addr) (fs : List (Str × V)), H2 a = some (exo a C (some dx)) ∧ H2 dx = some (exd dx fs) ∧ fs.length ≤ 900 ∧ D.nx σ (upd H2 dx (exd dx ((f, y) :: fs))))

/-- the promise of __init__(self, f): self.f = f -/
def spI1 (C : Addr) (f : Str) : Sp := fun vs H Q _ => ∃ (a : Addr) (v : V), vs = [.ref a, v] ∧ H a = some (exo a C none) ∧ ∀ d, H d = none → d ≠ a → Q .non (upd (upd H d (exd d [(f, v)])) a (exo a C (some d)))
/-- .. of __init__(self, f, g): self.f = f; self.g = g -/
def spI2 (C : Addr) (f g : Str) : Sp := fun vs H Q _ => ∃ (a : Addr) (v u : V), vs = [.ref a, v, u] ∧ H a = some (exo a C none) ∧
  ∀ d, H d = none → d ≠ a → Q .non (upd (upd (upd H d (exd d [(f, v)])) a (exo a C (some d))) d (exd d [(g, u), (f, v)]))

section
variable {X : Cx} {o e : Expr} {to te : TE} {f : Str} {p' pos : Pos} {C : Addr} {bmB : List Value} {newId B : String}
/-- the store as a statement, the class known -/
theorem ps_ostG (T : EI X.K C bmB newId) (SF : StoreFacts B bmB "object.__setattr__" "object") (no : PySem.W.findIn X.K (.ref C) f = some none) (ho : PE X o to) (he : PE X e te) (hs : swapsWith e (some (.Attribute o f p')) pos.line X.env = pure false := by rfl) :
    PS X (.Assign [.Attribute o f p'] e pos) (fun D σ H => te σ H fun y H1 => to σ H1 fun x H2 => ∃ a : Addr, x = .ref a ∧
      ((H2 a = some (exo a C none) ∧ ∀ dx, H2 dx = none → dx ≠ a → D.nx σ (upd (upd H2 dx (exd dx [(f, y)])) a (exo a C (some dx)))) ∨
        ∃ (dx : Addr) (fs : List (Str × V)), H2 a = some (exo a C (some dx)) ∧ H2 dx = some (exd dx fs) ∧ fs.length ≤ 900 ∧ D.nx σ (upd H2 dx (exd dx ((f, y) :: fs))))) := by
  refine ⟨fun pins s σ H D I h => ?_⟩
  refine plainObj_wpAny_Assign_Attribute (thn (he.run pins s σ H _ I h) fun v s1 ⟨y, H1, I1, r1, q1⟩ => thn (ho.run pins s1 σ H1 _ I1 q1) fun u s2 ⟨x, H2, I2, r2, a, ex, q⟩ => ?_) hs
  rw [ex] at r2
  have eu : u = Value.ref a := r2
  rw [eu]
  cases q with
  | inl q => exact ostG_new T SF I2 q.1 no r1 fun dx s' n ne J => ⟨σ, _, J, q.2 dx n ne⟩
  | inr q =>
    obtain ⟨dx, fs, ea, ed, hl, q⟩ := q
    exact ostG_old T SF I2 ea ed hl no r1 fun s' J => ⟨σ, _, J, q⟩
end

section
variable {P : Program} {w : World} {K : Frag} {mg : Str → Option Value} {base : Heap} {C fI : Addr} {bmB : List Value} {newId B : String} {f g qual : Str} {fd : FuncData} {st : Stmt}
/-- the class's __init__ of one field keeps its promise -/
theorem fn_init1 (F : Fun K "__init__" qual st fI fd) (T : EI K C bmB newId) (SF : StoreFacts B bmB "object.__setattr__" "object") (no : PySem.W.findIn K (.ref C) f = some none) (S : FnScope ["self", f] ["self", f] (defScope st))
    {p1 p2 p3 p4 : Pos} (hb : defBody st = [.Assign [.Attribute (.Name "self" p1) f p2] (.Name f p3) p4]) (hl : (defScope st).names.lookup f = some .local) (hl2 : (defScope st).names.lookup ("self" : Str) = some .local)
    (hd : (f == ("__debug__" : Str)) = false) (hcd : (f == ("__classdict__" : Str)) = false)
    (hs : ∀ env, swapsWith (.Name f p3) (some (.Attribute (.Name "self" p1) f p2)) p4.line env = pure false) : FnOk P w K mg base CX0 1 fI fd ["self", f] (spI1 C f) := by
  refine F.ok S (fun vs H Q E h => ?_) (fun cdv A outer s H vs Q E hr h => ?_)
  · obtain ⟨a, v, rfl, _⟩ := h
    rfl
  · obtain ⟨a, v, rfl, ha, k⟩ := h
    rw [hb]
    refine ⟨_, pss_one (ps_ostG T SF no (pe_var (i := 0) rfl (Or.inl hl2)) (pe_var (i := 1) rfl (Or.inl hl) hd hcd) (hs _)), ?_⟩
    exact ⟨v, rfl, .ref a, rfl, a, rfl, Or.inl ⟨ha, fun d n ne => k d n ne⟩⟩
theorem fn_init2 (F : Fun K "__init__" qual st fI fd) (T : EI K C bmB newId) (SF : StoreFacts B bmB "object.__setattr__" "object") (no : PySem.W.findIn K (.ref C) f = some none) (no2 : PySem.W.findIn K (.ref C) g = some none) (S : FnScope ["self", f, g] ["self", f, g] (defScope st))
    {p1 p2 p3 p4 q1 q2 q3 q4 : Pos} (hb : defBody st = [.Assign [.Attribute (.Name "self" p1) f p2] (.Name f p3) p4, .Assign [.Attribute (.Name "self" q1) g q2] (.Name g q3) q4])
    (hl : (defScope st).names.lookup f = some .local) (hl2 : (defScope st).names.lookup ("self" : Str) = some .local) (hl3 : (defScope st).names.lookup g = some .local)
    (hd : (f == ("__debug__" : Str)) = false) (hcd : (f == ("__classdict__" : Str)) = false) (hd2 : (g == ("__debug__" : Str)) = false) (hcd2 : (g == ("__classdict__" : Str)) = false)
    (hs : ∀ env, swapsWith (.Name f p3) (some (.Attribute (.Name "self" p1) f p2)) p4.line env = pure false) (hs2 : ∀ env, swapsWith (.Name g q3) (some (.Attribute (.Name "self" q1) g q2)) q4.line env = pure false) :
    FnOk P w K mg base CX0 1 fI fd ["self", f, g] (spI2 C f g) := by
  refine F.ok S (fun vs H Q E h => ?_) (fun cdv A outer s H vs Q E hr h => ?_)
  · obtain ⟨a, v, u, rfl, _⟩ := h
    rfl
  · obtain ⟨a, v, u, rfl, ha, k⟩ := h
    rw [hb]
    refine ⟨_, pss_cons (ps_ostG T SF no (pe_var (i := 0) rfl (Or.inl hl2)) (pe_var (i := 1) rfl (Or.inl hl) hd hcd) (hs _))
      (pss_one (ps_ostG T SF no2 (pe_var (i := 0) rfl (Or.inl hl2)) (pe_var (i := 2) rfl (Or.inl hl3) hd2 hcd2) (hs2 _))), ?_⟩
    refine ⟨v, rfl, .ref a, rfl, a, rfl, Or.inl ⟨ha, fun d n ne => ?_⟩⟩
    refine ⟨u, rfl, .ref a, rfl, a, rfl, Or.inr ⟨d, [(f, v)], upd_same, ?_, (show 1 ≤ 900 by decide), k d n ne⟩⟩
    rw [upd_ne ne, upd_same]
end

/-! ### C(..): made, by positions, by keywords -/
/-- the reading: the new error at a -/
def tMkE (C : Addr) (n m : Nat) (sp : Sp) (gV : List V → List V → List V) (t tk : TA) : TE := fun σ H Q => t σ H fun vs H1 => tk σ H1 fun zs H2 => vs.length = n ∧ zs.length = m ∧
  ∀ a, H2 a = none → sp (gV (.ref a :: vs) zs) (upd H2 a (exo a C none)) (fun v H3 => v = .non ∧ Q (.ref a) H3) E0
section
variable {X : Cx} {k n : Nat} {fI C : Addr} {fd : FuncData} {ps ks : List Str} {sp : Sp} {x : Str} {p pos : Pos} {e : Expr} {es : List Expr} {kws : List Keyword} {t tk : TA} {g : List Value → List Value → List Value} {gV : List V → List V → List V} {bmB : List Value} {newId initId B : String}
theorem run_mkE {pins : List (Addr × Obj)} {σ : L2.St} {H : Hp} {s : Shared} {Q : VK} {us ws : List Value} {vs zs : List V} (T : EI X.K C bmB newId) (FB : ExcBaseFacts B newId initId bmB) (iC : PySem.W.findIn X.K (.ref C) "__init__" = some (some (.ref fI))) (tI : PySem.W.typeIn X.K (.ref fI) = some (.type "function"))
    (F : FnOk X.prog X.w X.K X.mg X.base CX0 k fI fd ps sp) (hr : Room (k + 1) X.A) (hb : KBn X.K fd ps (n + 1) ks g gV)
    (I : Inv X pins σ H s) (r : Vals vs us) (rz : Vals zs ws) (l1 : vs.length = n) (l2 : zs.length = ks.length) (hn : n ≤ 1000)
    (h : ∀ a, H a = none → sp (gV (.ref a :: vs) zs) (upd H a (exo a C none)) (fun v H3 => v = .non ∧ Q (.ref a) H3) E0) :
    wpAny (model X.prog X.w) X.A (call (.ref C) us (ks.zip ws)) (EP X pins σ Q) X.xe s := by
  obtain ⟨nm, N', qn, bs, bm, hdct, sn, sub, ab, col, dd, k0, k1, k2, k3, k5, hC, hT⟩ := PySem.W.excInit_of I.kIn T.q
  have KI := I.kIn
  have bound : us.length ≤ sizeLine := by
    rw [← r.length, l1, sizeLine_eq]
    omega
  obtain ⟨hp, gs, dr, tk, os⟩ := s
  have far : hp.objs.size ≤ hp.objs.size + 1 := Nat.le_succ _
  have free : H (hp.objs.size + 1) = none := I.hok.fresh far
  have hq := h (hp.objs.size + 1) free
  have up : ∀ b o, hp.get? b = some o → ((hp.push (PySem.W.kdv_tup us)).push (HandSPX.excO C hp.objs.size)).get? b = some o := fun b o z => Heap.get?_push_of_some _ (Heap.get?_push_of_some _ z)
  have here : ((hp.push (PySem.W.kdv_tup us)).push (HandSPX.excO C hp.objs.size)).get? (hp.objs.size + 1) = some (HandSPX.excO C hp.objs.size) := by heap_get
  have I2 : Inv X pins σ (upd H (hp.objs.size + 1) (exo (hp.objs.size + 1) C none)) ⟨(hp.push (PySem.W.kdv_tup us)).push (HandSPX.excO C hp.objs.size), gs, dr, tk, os⟩ :=
    I.laid (t' := tk) (a := hp.objs.size + 1) (o := exo (hp.objs.size + 1) C none) (h' := (hp.push (PySem.W.kdv_tup us)).push (HandSPX.excO C hp.objs.size)) up far (exo_ok here)
  have r2 := hb.rel (.cons (show RelV (V.ref (hp.objs.size + 1)) (Value.ref (hp.objs.size + 1)) from rfl) r) rz
  have c1 : (Value.ref (hp.objs.size + 1) :: us).length = n + 1 := by
    rw [List.length_cons, ← r.length, l1]
  have c2 : ws.length = ks.length := rz.length.symm.trans l2
  refine wpAny_call (FhX.callK_own FB hT hC (PySem.W.looks_findIn KI iC) (fun self => PySem.W.bind_fn KI self tI) bound
    (codeAny_mono (F.run _ X.stack _ _ ⟨Value.ref (hp.objs.size + 1) :: us, ks.zip ws⟩ (g (Value.ref (hp.objs.size + 1) :: us) ws) _ _ E0 (hr.make C us (ks.zip ws)) (I2.env0.make C us (ks.zip ws)) (hb.to _ (Value.ref (hp.objs.size + 1) :: us) ws I2.kIn c1 c2) r2 hq) ?_))
  intro res s' z
  match res, z with
  | .error er, z => exact (show False from z).elim
  | .ok (.ret u), z =>
    obtain ⟨v, H', I3, rv, ev, q3⟩ := I2.after z
    subst ev
    exact ⟨rv, ⟨V.ref (hp.objs.size + 1), H', I3, rfl, q3⟩⟩
theorem pe_mkE (T : EI X.K C bmB newId) (FB : ExcBaseFacts B newId initId bmB) (iC : PySem.W.findIn X.K (.ref C) "__init__" = some (some (.ref fI))) (tI : PySem.W.typeIn X.K (.ref fI) = some (.type "function"))
    (F : FnOk X.prog X.w X.K X.mg X.base CX0 k fI fd ps sp) (hr : Room (k + 1) X.A) (hb : KBn X.K fd ps (n + 1) ks g gV) (hn : n ≤ 1000) (hg : Gl X x) (hm : X.mg x = some (.ref C)) (ha : PA X (e :: es) t) (hkw : PK X kws tk)
    (hall : (backToKw pos (keywordEach kws X.env)).all (·.1.isSome) = true := by rfl) (hks : (backToKw pos (keywordEach kws X.env)).filterMap (·.1) = ks := by rfl) (hdb : (x == ("__debug__" : Str)) = false := by decide)
    (he : starEach (e :: es) X.env = (false, eval e X.env) :: starEach es X.env := by rfl) (hpl : ((backTo pos (starEach (e :: es) X.env)).any (·.1) || (backToKw pos (keywordEach kws X.env)).any (·.1.isNone)) = false := by rfl) :
    PE X (.Call (.Name x p) (e :: es) kws pos) (tMkE C n ks.length sp gV t tk) := by
  refine ⟨fun pins s σ H Q I h => ?_⟩
  refine wpAny_Call_Name_kw (ld_glob I hg hm ?_ hdb)
  refine PySem.W.callWith_KW (h₀ := X.base) I.ok.mod.kin T.kC hall (thn (ha.run pos pins s σ H _ I h) fun us s1 ⟨vs, H1, I1, r, q⟩ => ?_) hpl he
  refine thn (hkw.run pos pins s1 σ H1 _ I1 q) fun ws s2 ⟨zs, H2, I2, rz, l1, l2, q2⟩ => ⟨I2.kIn, ?_⟩
  rw [hks]
  exact run_mkE T FB iC tI F hr hb I2 r rz l1 l2 hn q2
theorem pe_mkE0 (T : EI X.K C bmB newId) (FB : ExcBaseFacts B newId initId bmB) (iC : PySem.W.findIn X.K (.ref C) "__init__" = some (some (.ref fI))) (tI : PySem.W.typeIn X.K (.ref fI) = some (.type "function"))
    (F : FnOk X.prog X.w X.K X.mg X.base CX0 k fI fd ps sp) (hr : Room (k + 1) X.A) (hb : KBn X.K fd ps 1 ks g gV) (hg : Gl X x) (hm : X.mg x = some (.ref C)) (hkw : PK X kws tk)
    (hall : (backToKw pos (keywordEach kws X.env)).all (·.1.isSome) = true := by rfl) (hks : (backToKw pos (keywordEach kws X.env)).filterMap (·.1) = ks := by rfl) (hdb : (x == ("__debug__" : Str)) = false := by decide)
    (hpl : ((backTo pos (starEach [] X.env)).any (·.1) || (backToKw pos (keywordEach kws X.env)).any (·.1.isNone)) = false := by rfl) :
    PE X (.Call (.Name x p) [] kws pos) (tMkE C 0 ks.length sp gV tNil tk) := by
  refine ⟨fun pins s σ H Q I h => ?_⟩
  refine wpAny_Call_Name_kw (ld_glob I hg hm ?_ hdb)
  refine PySem.W.callWith_KW0 (h₀ := X.base) I.ok.mod.kin T.kC hall ?_ hpl
  refine thn (hkw.run pos pins s σ H _ I h) fun ws s2 ⟨zs, H2, I2, rz, l1, l2, q2⟩ => ⟨I2.kIn, ?_⟩
  rw [hks]
  exact run_mkE (us := []) (vs := []) T FB iC tI F hr hb I2 .nil rz rfl l2 (Nat.zero_le _) q2
/-- C(), C without an __init__ of its own -/
theorem pe_mkE00 (T : EI X.K C bmB newId) (FB : ExcBaseFacts B newId initId bmB) (q : PySem.W.excIn X.K C bmB newId = true) (hg : Gl X x) (hm : X.mg x = some (.ref C)) (hdb : (x == ("__debug__" : Str)) = false := by decide) :
    PE X (.Call (.Name x p) [] [] pos) (fun _ H Q => ∀ a, H a = none → Q (.ref a) (upd H a (exo a C none))) := by
  refine ⟨fun pins s σ H Q I h => ?_⟩
  refine wpAny_Call_Name_kw (ld_glob I hg hm ?_ hdb)
  refine PySem.W.callWith_K0 I.kIn T.kC ?_
  show wpAny _ _ (call (.ref C) []) _ _ _
  obtain ⟨bm, N, nm, qn, bs, hdct, sn, sub, ab, col, dd, k0, k1, k2, k3, k5, mN, hC, hN, hni, TT⟩ := exc_obj I.kIn q
  refine wpAny_call_exc_subT FB TT hC hN hni (fun h' a hm => ?_) (Nat.zero_le _)
  have hn : H a = none := I.hok.gone hm.new
  obtain ⟨t, ht, _, _⟩ := hm.there
  exact ⟨.ref a, upd H a (exo a C none), I.laidN hm.keeps hm.new hn (exo_ok ht), rfl, h a hn⟩
end
end Fh
set_option Elab.async false
set_option linter.all false
set_option maxRecDepth 100000
set_option maxHeartbeats 4000000
namespace Fh
open PySem PySem.Spec PyProof.Rows L2
open PySem.W (Frag)

/-- an error of the class at C stands at a, with the fields fs -/
def ErrAt (H : Hp) (a C : Addr) (fs : List (Str × V)) : Prop := (fs = [] ∧ H a = some (exo a C none)) ∨ ∃ d, H a = some (exo a C (some d)) ∧ H d = some (exd d fs)
theorem ErrAt.same {H H' : Hp} {a C : Addr} {fs : List (Str × V)} (s : Same H H') (h : ErrAt H a C fs) : ErrAt H' a C fs := by
  rcases h with ⟨e, h⟩ | ⟨d, h1, h2⟩
  · exact Or.inl ⟨e, s _ _ h⟩
  · exact Or.inr ⟨d, s _ _ h1, s _ _ h2⟩
theorem ErrAt.inst {P : Program} {w : World} {H : Hp} {h : Heap} {a C : Addr} {fs : List (Str × V)} (ok : HOk P w H h) (z : ErrAt H a C fs) :
    ∃ (ox : Obj) (od : Option Obj), PySem.W.InstAt h a ox C od ∧ (∀ f v, fs.lookup f = some v → ∃ o u, od = some o ∧ PySem.W.lookIn f o = some (some u) ∧ RelV v u) := by
  rcases z with ⟨e, z⟩ | ⟨d, z1, z2⟩
  · obtain ⟨t1, ho⟩ := exo_at ok z
    refine ⟨_, none, ⟨ho, rfl, rfl, trivial⟩, fun f v l => ?_⟩
    rw [e] at l
    exact nomatch l
  · obtain ⟨t1, ho⟩ := exo_at ok z1
    obtain ⟨mA, hns, rel⟩ := exd_at ok z2
    obtain ⟨od, hod, hl⟩ := lookIn_ns hns
    refine ⟨_, some od, ⟨ho, rfl, rfl, hod⟩, fun f v l => ?_⟩
    obtain ⟨u, hu, ru⟩ := RelO.some_of (v := v) (o := mA f) (by rw [← l]; exact rel f)
    exact ⟨od, u, rfl, by rw [hl, hu], ru⟩

section
variable {K : Frag} {C D : Addr} {bmB bmD : List Value} {newId newD : String}
/-- no own class among the built-in ones -/
def NoRefs (l : List Value) : Prop := ∀ a, Value.ref a ∉ l
theorem EI.kit (T : EI K C bmB newId) (U : EI K D bmD newD) (n : NoRefs bmB) : PySem.W.kitOne K (.ref C) (.ref D) = some (decide (C = D)) := by
  unfold PySem.W.kitOne
  by_cases e : C = D
  · rw [if_pos (by simp [e]), decide_eq_true e]
  · rw [if_neg (by simp [e]), decide_eq_false e]
    obtain ⟨cd, h1, _⟩ := U.cls
    unfold PySem.W.kitCls
    show (if ((PySem.W.clsIn K D).isSome && PySem.W.typeIn K (.ref D) == some (.type "type")) = true then PySem.W.subIn K (.ref C) (.ref D) else none) = some false
    rw [if_pos (by rw [h1, U.ty]; rfl), T.sub]
    have q : ¬ (Value.ref D) ∈ (Value.ref C :: bmB) := fun z => by
      rcases List.mem_cons.mp z with y | y
      · exact e (Value.ref.inj y).symm
      · exact n D y
    have r : List.contains (Value.ref C :: bmB) (Value.ref D) = false := Bool.eq_false_iff.mpr fun z => q (List.contains_iff_mem.mp z)
    rw [r]
theorem EI.kitT (T : EI K C bmB newId) {t : String} (hm : PySem.W.kitMeta t = true) : PySem.W.kitOne K (.ref C) (.type t) = some (bmB.contains (.type t)) := by
  unfold PySem.W.kitOne
  rw [if_neg (by simp)]
  show (if PySem.W.kitMeta t = true then PySem.W.subIn K (.ref C) (.type t) else none) = _
  rw [if_pos hm, T.sub, List.contains_cons]
  rfl
end

/-- isinstance(e, c) of an own error -/
def rIsX (K : Frag) : List V → Hp → VK → Prop := fun xs H Q => ∃ (a C : Addr) (fs : List (Str × V)) (bmB : List Value) (newId : String) (c : V) (cv : Value) (b : Bool), xs = [.ref a, c] ∧ ErrAt H a C fs ∧ EI K C bmB newId ∧
  bmB.contains (.type "BaseException") = true ∧ bmB.contains (.type "object") = true ∧ ClsV c cv ∧ PySem.W.kitOne K (.ref C) cv = some b ∧ Q (.bl b) H
theorem call_isX {X : Cx} : CallR X (.builtin "isinstance") (rIsX X.K) := by
  intro pins s σ H xs us Q I r h
  obtain ⟨a, C, fs, bmB, newId, c, cv, b, rfl, ha, T, hB, hO, hc, e, q⟩ := h
  obtain ⟨u1, u2, rfl, r1, r2⟩ := vals2 r
  have e1 : u1 = Value.ref a := r1
  rw [e1, hc.eq r2]
  obtain ⟨ox, od, J, _⟩ := ha.inst I.hok
  obtain ⟨cd, hcd, _⟩ := T.cls
  exact PySem.W.kia_one (PySem.W.kitx_exc (od := od) (by rw [hcd]; rfl) T.ga T.gg (by rw [T.sub, List.contains_cons, hB, Bool.or_true]) T.cl T.hn T.ht (by rw [T.mroI, List.contains_cons, hO, Bool.or_true])) I.kIn J e (fun z => nomatch z) fun tk => ⟨.bl b, H, I.tok tk, rfl, q⟩

/-- e.f of an own error -/
def tErrF (K : Frag) (f : Str) (ta : TE) : TE := fun σ H Q => ta σ H fun x H1 => ∃ (a C : Addr) (fs : List (Str × V)) (bmB : List Value) (newId : String) (v : V), x = .ref a ∧ ErrAt H1 a C fs ∧ EI K C bmB newId ∧ bmB.contains (.type "BaseException") = true ∧
  PySem.W.findIn K (.ref C) f = some none ∧ fs.lookup f = some v ∧ Q v H1
theorem pe_errF {X : Cx} {e : Expr} {ta : TE} {f : Str} {pos : Pos} (he : PE X e ta) (hb : attributeBase e f X.env (eval e X.env) = eval e X.env := by rfl) : PE X (.Attribute e f pos) (tErrF X.K f ta) := by
  refine ⟨fun pins s σ H Q I h => attr_of hb (thn (he.run pins s σ H _ I h) fun u s1 ⟨x, H1, I1, rx, a, C, fs, bmB, newId, v, ex, ha, T, hB, no, l, q⟩ => ?_)⟩
  rw [ex] at rx
  have eu : u = Value.ref a := rx
  rw [eu]
  obtain ⟨ox, od, J, look⟩ := ha.inst I1.hok
  obtain ⟨o, u', hod, hl, ru⟩ := look f v l
  subst hod
  exact HandSPX.exc_get I1.kIn J T.ga T.gg (by rw [T.sub, List.contains_cons, hB, Bool.or_true]) (PySem.W.findObj_own T.hd no rfl hl) (handed_of ru) ⟨v, H1, I1.tok _, ru, q⟩

/-! ### a list display whose address is not that of sys.modules -/
def tLstS (t : TA) : TE := fun σ H Q => t σ H fun xs H1 => xs.length ≤ sizeLine ∧ ∀ p, H1 p = none → p ≠ sysModules → Q (.ref p) (upd H1 p (.lst xs))
theorem pe_lstS {X : Cx} {es : List Expr} {t : TA} {pos : Pos} (h : PA X es t) : PE X (.List es pos) (tLstS t) := by
  refine ⟨fun pins s σ H Q I hq => wpAny_List_spliced (thn (h.run pos pins s σ H _ I hq) fun us s1 ⟨xs, H1, I1, r, z, q⟩ => ⟨by rw [← r.length]; exact z, ?_⟩)⟩
  have new : H1 s1.heap.objs.size = none := I1.hok.fresh (Nat.le_refl _)
  have far : s1.heap.objs.size ≠ sysModules := Nat.ne_of_gt I1.big
  exact ⟨.ref s1.heap.objs.size, upd H1 s1.heap.objs.size (.lst xs), I1.laid (t' := s1.toks) (fun b u e => Heap.get?_push_of_some _ e) (Nat.le_refl _) ⟨z, us, 0, r, Heap.get?_push_size _ rfl⟩, rfl, q _ new far⟩

/-! ### a value and itself -/
def rNeSame : R2 := fun x y H Q => x = y ∧ ((∃ N d, DA N H x d ∧ SeqAt.shaped d = true ∧ PyData.eqv d d = true) ∨ ∃ a ks, x = .ref a ∧ H a = some (.dK ks)) ∧ Q (.bl false) H
theorem hits_same {A : Around} {s : Shared} {ks : List (Key × Value)} (nd : (ks.map (·.1)).Nodup) : ∀ l : List (Key × Value), (∀ p ∈ l, p ∈ ks) → PySem.W.KeqHits A s ks l true
  | [], _ => .nil
  | (k, v) :: r, h => by
    have m := h (k, v) List.mem_cons_self
    have e : valueAt ks k = some v := by
      clear h
      induction ks with
      | nil => exact nomatch m
      | cons p ks ih =>
        unfold valueAt
        rw [List.find?_cons]
        rcases List.mem_cons.mp m with z | z
        · rw [← z]
          simp
        · obtain ⟨n1, n2⟩ := List.nodup_cons.mp (show (p.1 :: ks.map (·.1)).Nodup from nd)
          have ne : ¬ p.1 = k := fun y => n1 (by rw [y]; exact List.mem_map.mpr ⟨(k, v), z, rfl⟩)
          rw [decide_eq_false ne]
          exact ih n2 z
    exact .hit e (SeqAt.EqAt.same _) (hits_same nd r fun p hp => h p (List.mem_cons_of_mem _ hp))
theorem op_neSame {X : Cx} (hu : X.A.units + 64 < cLine) : OpR X (compareOp .NotEq) rNeSame := by
  intro pins s σ H x y v u Q I rx ry h
  obtain ⟨exy, h, q⟩ := h
  subst exy
  rcases h with ⟨N, d, hd, hs, hv⟩ | ⟨a, ks, ex, ha⟩
  · obtain ⟨as, r1, _⟩ := DA.reads I.hok hd rx
    obtain ⟨bs, r2, _⟩ := DA.reads I.hok hd ry
    exact SeqAt.compareNe_shaped r1 r2 hs hs hu ⟨.bl _, H, I, rfl, by rw [hv]; exact q⟩
  · subst ex
    have e1 : v = Value.ref a := rx
    have e2 : u = Value.ref a := ry
    rw [e1, e2]
    obtain ⟨_, ya, va, ra, da⟩ := (show ObjOk X.prog X.w H s.heap a (.dK ks) from I.hok a _ ha)
    obtain ⟨o, es, ep, g1, g2, g3, g4, g5, nd⟩ := id da
    exact PySem.W.keq_ne (knd := mixKind X.prog X.w) (r := true) ya ya da da (by omega) (fun _ => hits_same nd va fun p hp => hp) ⟨.bl false, H, I, (by show Value.bool _ = Value.bool false; simp), q⟩
end Fh
set_option Elab.async false
set_option linter.all false
set_option maxRecDepth 100000
set_option maxHeartbeats 4000000
namespace Fh
open PySem PySem.Spec PyProof.Rows L2
open PySem.W (Frag)

theorem PE.imp {X : Cx} {e : Expr} {t t' : TE} (h : PE X e t) (i : ∀ σ H Q, t' σ H Q → t σ H Q) : PE X e t' := ⟨fun pins s σ H Q I q => h.run pins s σ H Q I (i σ H Q q)⟩
theorem PA.imp {X : Cx} {e : List Expr} {t t' : TA} (h : PA X e t) (i : ∀ σ H Q, t' σ H Q → t σ H Q) : PA X e t' := ⟨fun pos pins s σ H Q I q => h.run pos pins s σ H Q I (i σ H Q q)⟩
theorem PS.imp {X : Cx} {e : Stmt} {t t' : TS} (h : PS X e t) (i : ∀ D σ H, t' D σ H → t D σ H) : PS X e t' := ⟨fun pins s σ H D I q => h.run pins s σ H D I (i D σ H q)⟩
theorem Same.upd {H H' : Hp} {p : Addr} {o : HO} (s : Same H H') (n : H' p = none) : Same H (upd H' p o) := fun b u e => by
  rw [upd_ne (ne_of_none (s b u e) n)]
  exact s b u e
theorem Same.new {H : Hp} {p : Addr} {o : HO} (n : H p = none) : Same H (L2.upd H p o) := Same.upd (Same.refl H) n

/-! ### written data -/
/-- N: addresses that stand already and are kept apart -/
def Kept (N : Addr → Prop) (H : Hp) : Prop := ∀ a, N a → H a ≠ none
theorem Kept.same {N : Addr → Prop} {H H' : Hp} (k : Kept N H) (s : Same H H') : Kept N H' := fun a n z => by
  cases e : H a with
  | none => exact k a n e
  | some o =>
    rw [s a o e] at z
    exact nomatch z
theorem Kept.not {N : Addr → Prop} {H : Hp} (k : Kept N H) {p : Addr} (n : H p = none) : ¬ N p := fun z => k p z n
def tD (N : Addr → Prop) (d : PyData) : TE := fun _ H Q => Kept N H ∧ ∀ x H', Same H H' → DA N H' x d → Q x H'
def tDs (N : Addr → Prop) (ds : List PyData) : TA := fun _ H Q => Kept N H ∧ ∀ xs H', Same H H' → DAs N H' xs ds → Q xs H'
theorem DAs.length {N : Addr → Prop} {H : Hp} : ∀ {xs : List V} {ds : List PyData}, DAs N H xs ds → xs.length = ds.length
  | _, _, .nil => rfl
  | _, _, .cons _ r => congrArg Nat.succ (DAs.length r)
theorem DAs.append {N : Addr → Prop} {H : Hp} : ∀ {xs ys : List V} {ds es : List PyData}, DAs N H xs ds → DAs N H ys es → DAs N H (xs ++ ys) (ds ++ es)
  | _, _, _, _, .nil, h => h
  | _, _, _, _, .cons a r, h => .cons a (DAs.append r h)
theorem DAs.get {N : Addr → Prop} {H : Hp} : ∀ {xs : List V} {ds : List PyData}, DAs N H xs ds → ∀ {i : Nat} {x : V}, xs[i]? = some x → ∃ d, ds[i]? = some d ∧ DA N H x d
  | _, _, .nil, _, _, e => by simp at e
  | _, _, .cons a r, 0, x, e => by
    simp at e
    subst e
    exact ⟨_, rfl, a⟩
  | _, _, .cons a r, i + 1, x, e => by
    obtain ⟨d, h1, h2⟩ := DAs.get r (i := i) (x := x) (by simpa using e)
    exact ⟨d, by simpa using h1, h2⟩
section
variable {X : Cx} {e : Expr} {es : List Expr} {d : PyData} {ds : List PyData} {pos pos' pos2 : Pos} {j : Nat} {N : Addr → Prop}
theorem pd_non {j} : PE X (.Constant .none j pos) (tD N .none) := PE.imp pe_non fun σ H Q q => q.2 _ H (Same.refl H) .non
theorem pd_bl {b j} : PE X (.Constant (.bool b) j pos) (tD N (.bool b)) := PE.imp pe_bl fun σ H Q q => q.2 _ H (Same.refl H) (.bl b)
theorem pd_int {i j} : PE X (.Constant (.int i) j pos) (tD N (.int i)) := PE.imp pe_int fun σ H Q q => q.2 _ H (Same.refl H) (.int i)
theorem pd_str {x j} : PE X (.Constant (.str x) j pos) (tD N (.str x)) := PE.imp pe_str fun σ H Q q => q.2 _ H (Same.refl H) (.str x)
theorem pd_neg {i j} : PE X (.UnaryOp .USub (.Constant (.int i) j pos) pos') (tD N (.int (-i))) := PE.imp (pe_un un_neg pe_int) fun σ H Q q => ⟨i, rfl, q.2 _ H (Same.refl H) (.int _)⟩
theorem pd_pow {i j : Int} {a b} (h0 : 0 ≤ j ∧ j ≤ 1000000 ∧ i.natAbs < 2 ^ 64) : PE X (.BinOp (.Constant (.int i) a pos) .Pow (.Constant (.int j) b pos') pos2) (tD N (.int (i ^ j.toNat))) :=
  PE.imp (pe_op op_pow pe_int pe_int) fun σ H Q q => ⟨i, j, rfl, rfl, h0, q.2 _ H (Same.refl H) (.int _)⟩
theorem pds_nil : PA X [] (tDs N []) := PA.imp pa_nil fun σ H Q q => q.2 [] H (Same.refl H) .nil
theorem pds_cons (h : PE X e (tD N d)) (r : PA X es (tDs N ds)) (hs : starEach (e :: es) X.env = (false, eval e X.env) :: starEach es X.env := by rfl) : PA X (e :: es) (tDs N (d :: ds)) :=
  PA.imp (pa_cons h r hs) fun σ H Q q => ⟨q.1, fun x H1 s1 d1 => ⟨q.1.same s1, fun xs H2 s2 d2 => q.2 (x :: xs) H2 (s1.trans s2) (.cons (DA.same s2 d1) d2)⟩⟩
theorem pd_tup {x1} (h : PA X es (tDs N ds)) (hz : ds.length ≤ sizeLine := by decide) : PE X (.Tuple es x1 pos) (tD N (.tuple ds)) :=
  PE.imp (pe_tup h) fun σ H Q q => ⟨q.1, fun xs H1 s1 d1 => ⟨by rw [d1.length]; exact hz, fun p n => q.2 _ _ (Same.upd s1 n) (.tup upd_same ((q.1.same s1).not n) (DAs.same (Same.new n) d1))⟩⟩
theorem pd_lst (h : PA X es (tDs N ds)) (hz : ds.length ≤ sizeLine := by decide) : PE X (.List es pos) (tD N (.list ds)) :=
  PE.imp (pe_lstS h) fun σ H Q q => ⟨q.1, fun xs H1 s1 d1 => ⟨by rw [d1.length]; exact hz, fun p n far => q.2 _ _ (Same.upd s1 n) (.lst upd_same far ((q.1.same s1).not n) (DAs.same (Same.new n) d1))⟩⟩
theorem pd_dict0 : PE X (.Dict [] [] pos) (tD N (.dict [])) := PE.imp pe_dnewK fun σ H Q q p n => q.2 _ _ (Same.new n) (.dK upd_same (q.1.not n) .nil)
/-- {'k': a constant} -/
theorem pd_dictI {k : Str} {i : Int} {a b} : PE X (.Dict [some (.Constant (.str k) a pos)] [.Constant (.int i) b pos'] pos2) (tD N (.dict [(.str k, .int i)])) := by
  refine PE.imp (pe_disp (pps_cons pe_str pe_int pps_nil) (by rfl) (by rfl) (fun z => by cases z) (show 1 ≤ 15 by decide)) fun σ H Q q p n => ?_
  refine ⟨upd_same, [(Sum.inr k, .int i)], rfl, (show 1 ≤ 15 by decide), ?_⟩
  rw [upd_upd]
  exact q.2 _ _ (Same.new n) (.dK upd_same (q.1.not n) (.cons (k := Sum.inr k) (.int i) .nil))
/-- {'k': []} -/
theorem pd_dictL {k : Str} {a} : PE X (.Dict [some (.Constant (.str k) a pos)] [.List [] pos'] pos2) (tD N (.dict [(.str k, .list [])])) := by
  refine PE.imp (pe_disp (pps_cons pe_str (pe_lstS pa_nil) pps_nil) (by rfl) (by rfl) (fun z => by cases z) (show 1 ≤ 15 by decide)) fun σ H Q q p n => ?_
  refine ⟨by decide, fun l nl far => ?_⟩
  have pl : p ≠ l := fun z => by
    rw [← z, upd_same] at nl
    exact nomatch nl
  have hl : H l = none := by
    rw [upd_ne (Ne.symm pl)] at nl
    exact nl
  refine ⟨by rw [upd_ne pl, upd_same], [(Sum.inr k, .ref l)], rfl, (show 1 ≤ 15 by decide), ?_⟩
  refine q.2 _ _ (fun b u z => ?_) (.dK upd_same (q.1.not n) (.cons (k := Sum.inr k) (.lst (by rw [upd_ne (Ne.symm pl), upd_same]) far (q.1.not hl) .nil) .nil))
  rw [upd_ne (ne_of_none z n), upd_ne (ne_of_none z hl), upd_ne (ne_of_none z n)]
  exact z
end

/-! ### the pen of a law: its ints, its place, its rest -/
/-- a pen at p, its list at c; its place is at most n -/
structure PenAt (H : Hp) (p c : Addr) (n : Nat) : Prop where
  pc : p ≠ c
  ex : ∃ (cs : List Int) (spot rest : Int), H p = some (.dK [(Sum.inr "cells", .ref c), (Sum.inr "spot", .int spot), (Sum.inr "rest", .int rest)]) ∧ H c = some (.lst (cs.map V.int)) ∧ cs.length ≤ 1000 ∧ 0 ≤ spot ∧ spot ≤ n
/-- all but p stays -/
def But (p : Addr) (H H' : Hp) : Prop := ∀ b o, b ≠ p → H b = some o → H' b = some o
theorem But.refl (p : Addr) (H : Hp) : But p H H := fun _ _ _ h => h
theorem But.trans {p : Addr} {H H1 H2 : Hp} (a : But p H H1) (b : But p H1 H2) : But p H H2 := fun x o n h => b x o n (a x o n h)
theorem But.of {p : Addr} {H H1 : Hp} (a : Same H H1) : But p H H1 := fun x o _ h => a x o h
theorem But.upd {p : Addr} {H H1 : Hp} {u : HO} (a : But p H H1) : But p H (L2.upd H1 p u) := fun x o n h => by
  rw [upd_ne n]
  exact a x o n h
theorem PenAt.same {H H' : Hp} {p c : Addr} {n m : Nat} (s : Same H H') (h : PenAt H p c n) (hm : n ≤ m) : PenAt H' p c m := by
  obtain ⟨a, cs, spot, rest, h1, h2, h3, h4, h5⟩ := h
  exact ⟨a, cs, spot, rest, s _ _ h1, s _ _ h2, h3, h4, by omega⟩
mutual
theorem DA.but {N : Addr → Prop} {p : Addr} {H H' : Hp} (s : But p H H') (hp : N p) : ∀ {v : V} {d : PyData}, DA N H v d → DA N H' v d
  | _, _, .non => .non
  | _, _, .bl b => .bl b
  | _, _, .int i => .int i
  | _, _, .str x => .str x
  | _, _, .lst h n m r => .lst (s _ _ (fun z => m (z ▸ hp)) h) n m (DAs.but s hp r)
  | _, _, .tup h m r => .tup (s _ _ (fun z => m (z ▸ hp)) h) m (DAs.but s hp r)
  | _, _, .dK h m r => .dK (s _ _ (fun z => m (z ▸ hp)) h) m (DKs.but s hp r)
theorem DAs.but {N : Addr → Prop} {p : Addr} {H H' : Hp} (s : But p H H') (hp : N p) : ∀ {v : List V} {d : List PyData}, DAs N H v d → DAs N H' v d
  | _, _, .nil => .nil
  | _, _, .cons h r => .cons (DA.but s hp h) (DAs.but s hp r)
theorem DKs.but {N : Addr → Prop} {p : Addr} {H H' : Hp} (s : But p H H') (hp : N p) : ∀ {v : List (Key × V)} {d : List (PyData × PyData)}, DKs N H v d → DKs N H' v d
  | _, _, .nil => .nil
  | _, _, .cons h r => .cons (DA.but s hp h) (DKs.but s hp r)
end
end Fh
set_option Elab.async false
set_option linter.all false
set_option maxRecDepth 100000
set_option maxHeartbeats 4000000
namespace Fh
open PySem PySem.Spec PyProof.Rows L2
open PySem.W (Frag)

/-! ### a pen's pairs -/
def penKV (c : Addr) (s r : Int) : List (Key × V) := [(Sum.inr "cells", .ref c), (Sum.inr "spot", .int s), (Sum.inr "rest", .int r)]
theorem pen_cells {c : Addr} {s r : Int} : valV (penKV c s r) (Sum.inr "cells" : Key) = some (.ref c) := by
  first
    | rfl
    | simp [penKV, valV]
theorem pen_spot {c : Addr} {s r : Int} : valV (penKV c s r) (Sum.inr "spot" : Key) = some (.int s) := by
  first
    | rfl
    | simp [penKV, valV]
theorem pen_rest {c : Addr} {s r : Int} : valV (penKV c s r) (Sum.inr "rest" : Key) = some (.int r) := by
  first
    | rfl
    | simp [penKV, valV]
theorem put_spot {c : Addr} {s r z : Int} : putK (penKV c s r) (Sum.inr "spot" : Key) (.int z) = penKV c z r := by
  first
    | rfl
    | simp [penKV, putK]
theorem put_rest {c : Addr} {s r z : Int} : putK (penKV c s r) (Sum.inr "rest" : Key) (.int z) = penKV c s z := by
  first
    | rfl
    | simp [penKV, putK]
/-- a pen stands at p, its list at c; its place is s, its rest r -/
structure PenS (H : Hp) (p c : Addr) (cs : List Int) (s r : Int) : Prop where
  pc : p ≠ c
  hp : H p = some (.dK (penKV c s r))
  hc : H c = some (.lst (cs.map V.int))
  hl : cs.length ≤ 1000
theorem PenAt.open {H : Hp} {p c : Addr} {n : Nat} (h : PenAt H p c n) : ∃ cs s r, PenS H p c cs s r ∧ 0 ≤ s ∧ s ≤ n := by
  obtain ⟨a, cs, s, r, h1, h2, h3, h4, h5⟩ := h
  exact ⟨cs, s, r, ⟨a, h1, h2, h3⟩, h4, h5⟩
theorem PenS.at_ {H : Hp} {p c : Addr} {cs : List Int} {s r : Int} {n : Nat} (h : PenS H p c cs s r) (h0 : 0 ≤ s) (h1 : s ≤ n) : PenAt H p c n := ⟨h.pc, cs, s, r, h.hp, h.hc, h.hl, h0, h1⟩
theorem PenS.put {H : Hp} {p c : Addr} {cs : List Int} {s r s' r' : Int} (h : PenS H p c cs s r) : PenS (upd H p (.dK (penKV c s' r'))) p c cs s' r' :=
  ⟨h.pc, upd_same, by rw [upd_ne (Ne.symm h.pc)]; exact h.hc, h.hl⟩
theorem PenS.same {H H' : Hp} {p c : Addr} {cs : List Int} {s r : Int} (h : PenS H p c cs s r) (z : Same H H') : PenS H' p c cs s r := ⟨h.pc, z _ _ h.hp, z _ _ h.hc, h.hl⟩

section
variable {X : Cx} {o i : Expr} {x : Str} {p1 p2 p3 : Pos} {a k : Nat}
/-- pen['rest'], pen['spot'], pen['cells']: the pen's name stands in the slot k -/
def tPenV (g : Addr → Int → Int → V) (k : Nat) : TE := fun σ H Q => ∃ p c cs s r, σ[k]? = some (some (V.ref p)) ∧ PenS H p c cs s r ∧ Q (g c s r) H
theorem pe_rest (hu : X.A.units + 1 < cLine) (ho : PE X o (tVar k)) : PE X (.Subscript o (.Constant (.str "rest") a p2) p3) (tPenV (fun _ _ r => .int r) k) :=
  PE.imp (pe_dget hu ho pe_str (fun _ _ => rfl)) fun σ H Q ⟨p, c, cs, s, r, h1, h2, q⟩ => ⟨_, h1, p, _, rfl, by rw [← pen_rest (c := c) (s := s) (r := r)]; exact DGet.k (k := Sum.inr "rest") h2.hp, q⟩
theorem pe_spot (hu : X.A.units + 1 < cLine) (ho : PE X o (tVar k)) : PE X (.Subscript o (.Constant (.str "spot") a p2) p3) (tPenV (fun _ s _ => .int s) k) :=
  PE.imp (pe_dget hu ho pe_str (fun _ _ => rfl)) fun σ H Q ⟨p, c, cs, s, r, h1, h2, q⟩ => ⟨_, h1, p, _, rfl, by rw [← pen_spot (c := c) (s := s) (r := r)]; exact DGet.k (k := Sum.inr "spot") h2.hp, q⟩
theorem pe_cells (hu : X.A.units + 1 < cLine) (ho : PE X o (tVar k)) : PE X (.Subscript o (.Constant (.str "cells") a p2) p3) (tPenV (fun c _ _ => .ref c) k) :=
  PE.imp (pe_dget hu ho pe_str (fun _ _ => rfl)) fun σ H Q ⟨p, c, cs, s, r, h1, h2, q⟩ => ⟨_, h1, p, _, rfl, by rw [← pen_cells (c := c) (s := s) (r := r)]; exact DGet.k (k := Sum.inr "cells") h2.hp, q⟩
/-- int(e), an int -/
def tIntOf (te : TE) : TE := fun σ H Q => te σ H fun v H1 => ∃ n : Int, v = .int n ∧ Q v H1
end

theorem fm_lo (z b : Int) (h0 : 0 < b) (h1 : b < 2 ^ 64) : -(2 ^ 64) < z.fmod b ∧ z.fmod b < 2 ^ 64 := by
  have l := Int.fmod_nonneg_of_pos z h0
  have u := Int.fmod_lt_of_pos z h0
  omega
/-- the statement that takes a cell of the script, if there is one -/
def tCellIf : TS := fun D σ H => ∃ (p c : Addr) (cs : List Int) (z y re sz : Int) (m : V) (dg mx : Option V), σ = [some (.ref p), some m, dg, some (.int z), some (.int y), mx] ∧ PenS H p c cs sz re ∧ 0 ≤ z ∧
  ∀ (cell : Int) (H' : Hp), Same H H' → D.nx [some (.ref p), some m, dg, some (.int z), some (.int cell), mx] H'
/-! ### what a draw promises -/
def spDraw : Sp := fun vs H Q _ => ∃ (p c : Addr) (n : Nat) (m : Int), vs = [.ref p, .int m] ∧ PenAt H p c n ∧ n ≤ 1000000 ∧ 1 ≤ m ∧ m ≤ 1000000 ∧
  ∀ (k : Int) (H' : Hp), 0 ≤ k → k < m → PenAt H' p c (n + 1) → But p H H' → Q (.int k) H'
/-- items[draw]: an item of a list -/
def spPick (K : Frag) : Sp := fun vs H Q _ => ∃ (p c : Addr) (n : Nat) (l : Addr) (xs : List V), vs = [.ref p, .ref l] ∧ PenAt H p c n ∧ n ≤ 1000000 ∧ H l = some (.lst xs) ∧ 1 ≤ xs.length ∧ xs.length ≤ 1000 ∧
  ∀ (i : Nat) (x : V) (H' : Hp), xs[i]? = some x → PenAt H' p c (n + 1) → But p H H' → Q x H'
/-- the script's pen -/
def spPen (K : Frag) : Sp := fun vs H Q _ => ∃ (a : Addr) (ns : List Int), vs = [.ref a] ∧ SqL K H a (ns.map V.int) ∧ ns.length ≤ 63 ∧
  ∀ (p c : Addr) (H' : Hp), Same H H' → H p = none → PenAt H' p c 0 → Q (.ref p) H'
theorem dp_ints {K : Frag} {H : Hp} : ∀ cs : List Int, DpAll K H (cs.map V.int) (cs.map PyData.int)
  | [] => .nil
  | z :: cs => .cons (.int z) (dp_ints cs)
theorem lay_ints : ∀ cs : List Int, PyData.canLayAll0 (cs.map PyData.int) = true
  | [] => rfl
  | z :: cs => by
    show (PyData.canLay0 (.int z) && PyData.canLayAll0 (cs.map PyData.int)) = true
    rw [lay_ints cs]
    rfl
theorem depth_ints : ∀ cs : List Int, PyData.depthAll (cs.map PyData.int) ≤ 1
  | [] => by
    show PyData.depthAll [] ≤ 1
    simp [PyData.depthAll]
  | z :: cs => by
    have h := depth_ints cs
    simp only [List.map_cons, PyData.depthAll, PyData.depth]
    omega
theorem shaped_ints (cs : List Int) : SeqAt.shaped (.list (cs.map PyData.int)) = true := by
  have h1 := lay_ints cs
  have h2 := depth_ints cs
  have h3 : PyData.depth (.list (cs.map PyData.int)) ≤ 64 := by
    simp only [PyData.depth]
    omega
  unfold SeqAt.shaped
  rw [decide_eq_true h3, Bool.and_true]
  simpa [PyData.canLay0] using h1
theorem int_map_get {cs : List Int} {i : Nat} (h : i < cs.length) : (cs.map V.int)[i]? = some (.int cs[i]) := by
  rw [List.getElem?_map, List.getElem?_eq_getElem h]
  rfl
/-- slices at a start of 0 keep ints -/
theorem cut_ints (ns : List Int) (lo hi : Option Int) : ∃ ms : List Int, cutV (ns.map V.int) lo hi = ms.map V.int ∧ ms.length ≤ ns.length := by
  unfold cutV
  refine ⟨(ns.drop (HT.sIx (ns.map V.int).length 0 lo)).take (HT.sIx (ns.map V.int).length (ns.map V.int).length hi - HT.sIx (ns.map V.int).length 0 lo), ?_, ?_⟩
  · rw [List.map_take, List.map_drop]
  · rw [List.length_take, List.length_drop]
    omega
end Fh
set_option Elab.async false
set_option linter.all false
set_option maxRecDepth 100000
set_option maxHeartbeats 4000000
namespace Fh
open PySem PySem.Spec PyProof.Rows L2
open PySem.W (Frag)

/-! ### the four built-in classes below which a package's errors stand -/
inductive BK where
  | ve | le | oe | re
  deriving DecidableEq
def BK.nm : BK → String
  | .ve => "ValueError"
  | .le => "LookupError"
  | .oe => "OverflowError"
  | .re => "RuntimeError"
def BK.nw : BK → String
  | .ve => "ValueError.__new__"
  | .le => "LookupError.__new__"
  | .oe => "OverflowError.__new__"
  | .re => "RuntimeError.__new__"
def BK.ni : BK → String
  | .ve => "ValueError.__init__"
  | .le => "LookupError.__init__"
  | .oe => "OverflowError.__init__"
  | .re => "RuntimeError.__init__"
def BK.bm : BK → List Value
  | .oe => [.type "OverflowError", .type "ArithmeticError", .type "Exception", .type "BaseException", .type "object"]
  | b => [.type b.nm, .type "Exception", .type "BaseException", .type "object"]
def BK.no : BK → Int
  | .ve => 0
  | .le => 1
  | .oe => 2
  | .re => 3
theorem BK.fb : ∀ b : BK, ExcBaseFacts b.nm b.nw b.ni b.bm
  | .ve => PySem.F.excBase_ValueError
  | .le => PySem.F.excBase_LookupError
  | .oe => PySem.F.excBase_OverflowError
  | .re => PySem.F.excBase_RuntimeError
theorem BK.sf : ∀ b : BK, StoreFacts b.nm b.bm "object.__setattr__" "object"
  | .ve => PySem.F.store_ValueError
  | .le => PySem.F.store_LookupError
  | .oe => PySem.F.store_OverflowError
  | .re => PySem.F.store_RuntimeError
theorem BK.hB : ∀ b : BK, b.bm.contains (.type "BaseException") = true
  | .ve => by decide +kernel
  | .le => by decide +kernel
  | .oe => by decide +kernel
  | .re => by decide +kernel
theorem BK.hO : ∀ b : BK, b.bm.contains (.type "object") = true
  | .ve => by decide +kernel
  | .le => by decide +kernel
  | .oe => by decide +kernel
  | .re => by decide +kernel
theorem BK.noR : ∀ b : BK, NoRefs b.bm := fun b a h => by
  cases b <;> simp [BK.bm, BK.nm] at h
abbrev EK (K : Frag) (C : Addr) (b : BK) : Prop := EI K C b.bm b.nw

/-! ### a class of one field -/
structure Ok1 (K : Frag) (mg : Str → Option Value) (nm : Str) (b : BK) (f : Str) (C fI : Addr) : Prop where
  ei : EK K C b
  gC : mg nm = some (.ref C)
  iC : PySem.W.findIn K (.ref C) "__init__" = some (some (.ref fI))
  tI : PySem.W.typeIn K (.ref fI) = some (.type "function")
  no : PySem.W.findIn K (.ref C) f = some none
  fn : ∃ fd, (∀ (P : Program) (w : World) (base : Heap), FnOk P w K mg base CX0 1 fI fd ["self", f] (spI1 C f)) ∧
    KBn K fd ["self", f] 2 [] (fun us _ => us) (fun vs _ => vs) ∧ KBn K fd ["self", f] 1 [f] (fun us ws => us ++ ws) (fun vs zs => vs ++ zs)
structure Ok2 (K : Frag) (mg : Str → Option Value) (nm : Str) (b : BK) (f g : Str) (C fI : Addr) : Prop where
  ei : EK K C b
  gC : mg nm = some (.ref C)
  iC : PySem.W.findIn K (.ref C) "__init__" = some (some (.ref fI))
  tI : PySem.W.typeIn K (.ref fI) = some (.type "function")
  no : PySem.W.findIn K (.ref C) f = some none
  no2 : PySem.W.findIn K (.ref C) g = some none
  fn : ∃ fd, (∀ (P : Program) (w : World) (base : Heap), FnOk P w K mg base CX0 1 fI fd ["self", f, g] (spI2 C f g)) ∧
    KBn K fd ["self", f, g] 3 [] (fun us _ => us) (fun vs _ => vs) ∧ KBn K fd ["self", f, g] 1 [g, f] (fun us ws => us ++ ws.reverse) (fun vs zs => vs ++ zs.reverse)
structure Ok0 (K : Frag) (mg : Str → Option Value) (nm : Str) (b : BK) (C : Addr) : Prop where
  ei : EK K C b
  gC : mg nm = some (.ref C)
  ex : PySem.W.excIn K C b.bm b.nw = true
theorem Vals.reverse {xs : List V} {us : List Value} (r : Vals xs us) : Vals xs.reverse us.reverse := by
  induction r with
  | nil => exact .nil
  | cons h _ ih =>
    rw [List.reverse_cons, List.reverse_cons]
    exact ih.append (.cons h .nil)
section
variable {K : Frag} {mg : Str → Option Value} {nm f g qual : Str} {b : BK} {C fI : Addr} {st : Stmt} {fd : FuncData} {p1 p2 p3 p4 q1 q2 q3 q4 : Pos}
theorem ok1_of (ei : EK K C b) (gC : mg nm = some (.ref C)) (iC : PySem.W.findIn K (.ref C) "__init__" = some (some (.ref fI))) (tI : PySem.W.typeIn K (.ref fI) = some (.type "function")) (no : PySem.W.findIn K (.ref C) f = some none)
    (F : Fun K "__init__" qual st fI fd) (S : FnScope ["self", f] ["self", f] (defScope st)) (hb : defBody st = [.Assign [.Attribute (.Name "self" p1) f p2] (.Name f p3) p4])
    (hl : (defScope st).names.lookup f = some .local) (hl2 : (defScope st).names.lookup ("self" : Str) = some .local) (hd : (f == ("__debug__" : Str)) = false) (hcd : (f == ("__classdict__" : Str)) = false)
    (hs : ∀ env, swapsWith (.Name f p3) (some (.Attribute (.Name "self" p1) f p2)) p4.line env = pure false)
    (h0 : ∀ (kV doc pm : Value) (an : Option Addr) (cdv ct x y : Value), bindArgs (PySem.W.fnOf "__init__" qual (defArgs st) (defBody st) (defScope st) .none kV doc pm an cdv ct) ⟨[x, y], []⟩ = pure [(("self" : Str), x), (f, y)])
    (h1 : ∀ (kV doc pm : Value) (an : Option Addr) (cdv ct x y : Value), bindArgs (PySem.W.fnOf "__init__" qual (defArgs st) (defBody st) (defScope st) .none kV doc pm an cdv ct) ⟨[x], [(f, y)]⟩ = pure [(("self" : Str), x), (f, y)]) :
    Ok1 K mg nm b f C fI := by
  refine ⟨ei, gC, iC, tI, no, fd, fun P w base => fn_init1 F ei b.sf no S hb hl hl2 hd hcd hs, ⟨fun s us ws _ l1 l2 => ?_, fun r _ => r⟩, ⟨fun s us ws _ l1 l2 => ?_, fun r z => r.append z⟩⟩
  · obtain ⟨oc, od, kV, doc, pm, an, cdv, ct, osl, rfl, _, _⟩ := F.ex
    match us, ws, l1, l2 with
    | [x, y], [], _, _ => exact .of_eq (h0 kV doc pm an cdv ct x y)
  · obtain ⟨oc, od, kV, doc, pm, an, cdv, ct, osl, rfl, _, _⟩ := F.ex
    match us, ws, l1, l2 with
    | [x], [y], _, _ => exact .of_eq (h1 kV doc pm an cdv ct x y)
theorem ok2_of (ei : EK K C b) (gC : mg nm = some (.ref C)) (iC : PySem.W.findIn K (.ref C) "__init__" = some (some (.ref fI))) (tI : PySem.W.typeIn K (.ref fI) = some (.type "function")) (no : PySem.W.findIn K (.ref C) f = some none) (no2 : PySem.W.findIn K (.ref C) g = some none)
    (F : Fun K "__init__" qual st fI fd) (S : FnScope ["self", f, g] ["self", f, g] (defScope st)) (hb : defBody st = [.Assign [.Attribute (.Name "self" p1) f p2] (.Name f p3) p4, .Assign [.Attribute (.Name "self" q1) g q2] (.Name g q3) q4])
    (hl : (defScope st).names.lookup f = some .local) (hl2 : (defScope st).names.lookup ("self" : Str) = some .local) (hl3 : (defScope st).names.lookup g = some .local)
    (hd : (f == ("__debug__" : Str)) = false) (hcd : (f == ("__classdict__" : Str)) = false) (hd2 : (g == ("__debug__" : Str)) = false) (hcd2 : (g == ("__classdict__" : Str)) = false)
    (hs : ∀ env, swapsWith (.Name f p3) (some (.Attribute (.Name "self" p1) f p2)) p4.line env = pure false) (hs2 : ∀ env, swapsWith (.Name g q3) (some (.Attribute (.Name "self" q1) g q2)) q4.line env = pure false)
    (h0 : ∀ (kV doc pm : Value) (an : Option Addr) (cdv ct x y z : Value), bindArgs (PySem.W.fnOf "__init__" qual (defArgs st) (defBody st) (defScope st) .none kV doc pm an cdv ct) ⟨[x, y, z], []⟩ = pure [(("self" : Str), x), (f, y), (g, z)])
    (h1 : ∀ (kV doc pm : Value) (an : Option Addr) (cdv ct x y z : Value), bindArgs (PySem.W.fnOf "__init__" qual (defArgs st) (defBody st) (defScope st) .none kV doc pm an cdv ct) ⟨[x], [(g, z), (f, y)]⟩ = pure [(("self" : Str), x), (f, y), (g, z)]) :
    Ok2 K mg nm b f g C fI := by
  refine ⟨ei, gC, iC, tI, no, no2, fd, fun P w base => fn_init2 F ei b.sf no no2 S hb hl hl2 hl3 hd hcd hd2 hcd2 hs hs2, ⟨fun s us ws _ l1 l2 => ?_, fun r _ => r⟩, ⟨fun s us ws _ l1 l2 => ?_, fun r z => r.append z.reverse⟩⟩
  · obtain ⟨oc, od, kV, doc, pm, an, cdv, ct, osl, rfl, _, _⟩ := F.ex
    match us, ws, l1, l2 with
    | [x, y, z], [], _, _ => exact .of_eq (h0 kV doc pm an cdv ct x y z)
  · obtain ⟨oc, od, kV, doc, pm, an, cdv, ct, osl, rfl, _, _⟩ := F.ex
    match us, ws, l1, l2 with
    | [x], [z, y], _, _ => exact .of_eq (h1 kV doc pm an cdv ct x y z)
end

/-! ### a new error and its dict in the heap -/
theorem err_made {H : Hp} {a d C : Addr} {fs fs' : List (Str × V)} (na : H a = none) (nd : upd H a (exo a C none) d = none) (ne : d ≠ a) :
    Same H (upd (upd (upd H a (exo a C none)) d (exd d fs)) a (exo a C (some d))) ∧ ErrAt (upd (upd (upd H a (exo a C none)) d (exd d fs)) a (exo a C (some d))) a C fs ∧
    Same H (upd (upd (upd (upd H a (exo a C none)) d (exd d fs)) a (exo a C (some d))) d (exd d fs')) ∧ ErrAt (upd (upd (upd (upd H a (exo a C none)) d (exd d fs)) a (exo a C (some d))) d (exd d fs')) a C fs' := by
  have hd : H d = none := by
    rw [upd_ne ne] at nd
    exact nd
  refine ⟨fun b o z => ?_, Or.inr ⟨d, upd_same, by rw [upd_ne ne, upd_same]⟩, fun b o z => ?_, Or.inr ⟨d, by rw [upd_ne (Ne.symm ne), upd_same], upd_same⟩⟩
  · rw [upd_ne (ne_of_none z na), upd_ne (ne_of_none z hd), upd_ne (ne_of_none z na)]
    exact z
  · rw [upd_ne (ne_of_none z hd), upd_ne (ne_of_none z na), upd_ne (ne_of_none z hd), upd_ne (ne_of_none z na)]
    exact z

/-! ### (C(v), C(f=v)) -/
def tPair (C : Addr) (f : Str) : TE := fun σ H Q => ∃ v, σ[0]? = some (some v) ∧ ∀ p a b H', Same H H' → H' p = some (.tup [.ref a, .ref b]) → ErrAt H' a C [(f, v)] → ErrAt H' b C [(f, v)] → Q (.ref p) H'
section
variable {X : Cx} {nm f o : Str} {b : BK} {C fI : Addr} {p1 p2 q1 q2 r1 r2 kp pos : Pos} {x1 : _}
theorem pe_pair (O : Ok1 X.K X.mg nm b f C fI) (hr : Room 2 X.A) (hg : Gl X nm) (v1 : PE X (.Name o q1) (tVar 0)) (v2 : PE X (.Name o q2) (tVar 0)) (hdb : (nm == ("__debug__" : Str)) = false := by decide)
    (hs : starEach [Expr.Name o q1] X.env = (false, eval (.Name o q1) X.env) :: starEach [] X.env := by rfl) (hall : (backToKw r2 (keywordEach [⟨some f, .Name o q2, kp⟩] X.env)).all (·.1.isSome) = true := by rfl)
    (hks : (backToKw r2 (keywordEach [⟨some f, .Name o q2, kp⟩] X.env)).filterMap (·.1) = [f] := by rfl)
    (hst : starEach [Expr.Call (.Name nm p1) [.Name o q1] [] r1, .Call (.Name nm p2) [] [⟨some f, .Name o q2, kp⟩] r2] X.env = (false, eval (.Call (.Name nm p1) [.Name o q1] [] r1) X.env) :: starEach [.Call (.Name nm p2) [] [⟨some f, .Name o q2, kp⟩] r2] X.env := by rfl)
    (hst2 : starEach [Expr.Call (.Name nm p2) [] [⟨some f, .Name o q2, kp⟩] r2] X.env = (false, eval (.Call (.Name nm p2) [] [⟨some f, .Name o q2, kp⟩] r2) X.env) :: starEach [] X.env := by rfl) :
    PE X (.Tuple [.Call (.Name nm p1) [.Name o q1] [] r1, .Call (.Name nm p2) [] [⟨some f, .Name o q2, kp⟩] r2] x1 pos) (tPair C f) := by
  obtain ⟨fd, F, k0, k1⟩ := O.fn
  have G := F X.prog X.w X.base
  refine PE.imp (pe_tup (pa_cons (pe_mkE (n := 1) O.ei b.fb O.iC O.tI G hr k0 (by decide) hg O.gC (pa_cons v1 pa_nil hs) pk_nil rfl rfl hdb hs rfl)
    (pa_cons (pe_mkE0 O.ei b.fb O.iC O.tI G hr k1 hg O.gC (pk_cons v2 pk_nil) hall hks hdb rfl) pa_nil hst2) hst)) fun σ H Q ⟨v, hv, q⟩ => ?_
  refine ⟨v, hv, rfl, rfl, fun a na => ⟨a, v, rfl, upd_same, fun d nd ne => ⟨rfl, ?_⟩⟩⟩
  obtain ⟨s1, e1, _, _⟩ := err_made (C := C) (fs := [(f, v)]) (fs' := []) na nd ne
  generalize upd (upd (upd H a (exo a C none)) d (exd d [(f, v)])) a (exo a C (some d)) = H1 at s1 e1 ⊢
  refine ⟨v, hv, rfl, rfl, fun a2 na2 => ⟨a2, v, rfl, upd_same, fun d2 nd2 ne2 => ⟨rfl, ?_⟩⟩⟩
  obtain ⟨s2, e2, _, _⟩ := err_made (C := C) (fs := [(f, v)]) (fs' := []) na2 nd2 ne2
  generalize upd (upd (upd H1 a2 (exo a2 C none)) d2 (exd d2 [(f, v)])) a2 (exo a2 C (some d2)) = H2 at s2 e2 ⊢
  refine ⟨(show 2 ≤ sizeLine by decide), fun p np => q p a a2 _ (Same.upd (s1.trans s2) np) upd_same ((e1.same s2).same (Same.new np)) (e2.same (Same.new np))⟩
end

/-! ### isinstance(e, C) by the classes' places -/
/-- e stands in slot 0, an error of a class at C -/
def Err0 (K : Frag) (σ : L2.St) (H : Hp) (C : Addr) (b : BK) : Prop := ∃ a fs, σ[0]? = some (some (V.ref a)) ∧ ErrAt H a C fs ∧ EK K C b
def tIs (K : Frag) (D : Addr) : TE := fun σ H Q => ∃ C b, Err0 K σ H C b ∧ Q (.bl (decide (C = D))) H
def tIss (K : Frag) (Ds : List Addr) : TA := fun σ H Q => ∃ C b, Err0 K σ H C b ∧ Q (Ds.map fun D => .bl (decide (C = D))) H
section
variable {X : Cx} {nm o : Str} {b : BK} {D : Addr} {Ds : List Addr} {p1 p2 p3 q1 pos : Pos} {e : Expr} {es : List Expr}
theorem pe_is (ei : EK X.K D b) (gD : X.mg nm = some (.ref D)) (hi : X.mg "isinstance" = none) (hg : Gl X nm) (hg2 : Gl X "isinstance") (v0 : PE X (.Name o q1) (tVar 0)) (hdb : (nm == ("__debug__" : Str)) = false := by decide)
    (hs : starEach [Expr.Name o q1, .Name nm p2] X.env = (false, eval (.Name o q1) X.env) :: starEach [.Name nm p2] X.env := by rfl) (hs2 : starEach [Expr.Name nm p2] X.env = (false, eval (.Name nm p2) X.env) :: starEach [] X.env := by rfl) :
    PE X (.Call (.Name "isinstance" p1) [.Name o q1, .Name nm p2] [] p3) (tIs X.K D) :=
  PE.imp (pe_callB call_isX hg2 hi (by decide +kernel) (pa_cons v0 (pa_cons (pe_glob (v := .ref D) hg gD rfl hdb) pa_nil hs2) hs) (he := hs)) fun σ H Q ⟨C, b', ⟨a, fs, h0, h1, h2⟩, q⟩ =>
    ⟨_, h0, a, C, fs, _, _, .ref D, _, _, rfl, h1, h2, b'.hB, b'.hO, .own D, h2.kit ei b'.noR, q⟩
theorem pis_nil : PA X [] (tIss X.K []) := PA.imp pa_nil fun σ H Q ⟨_, _, _, q⟩ => q
theorem pis_cons (h : PE X e (tIs X.K D)) (r : PA X es (tIss X.K Ds)) (hs : starEach (e :: es) X.env = (false, eval e X.env) :: starEach es X.env := by rfl) : PA X (e :: es) (tIss X.K (D :: Ds)) :=
  PA.imp (pa_cons h r hs) fun σ H Q ⟨C, b, h0, q⟩ => ⟨C, b, h0, C, b, h0, q⟩
/-- .. of a built-in class -/
theorem pe_isT {t : String} (hm : PySem.W.kitMeta t = true) (hi : X.mg "isinstance" = none) (hn : X.mg nm = none) (hb : bootBuiltins nm = some (.type t)) (hg : Gl X nm) (hg2 : Gl X "isinstance") (v0 : PE X (.Name o q1) (tVar 0)) (hdb : (nm == ("__debug__" : Str)) = false := by decide)
    (hnn : nm ≠ "__name__" := by decide) (hs : starEach [Expr.Name o q1, .Name nm p2] X.env = (false, eval (.Name o q1) X.env) :: starEach [.Name nm p2] X.env := by rfl) (hs2 : starEach [Expr.Name nm p2] X.env = (false, eval (.Name nm p2) X.env) :: starEach [] X.env := by rfl) :
    PE X (.Call (.Name "isinstance" p1) [.Name o q1, .Name nm p2] [] p3) (fun σ H Q => ∃ C b, Err0 X.K σ H C b ∧ Q (.bl (b.bm.contains (.type t))) H) :=
  PE.imp (pe_callB call_isX hg2 hi (by decide +kernel) (pa_cons v0 (pa_cons (pe_bltn (v := .ty t) hg hn hb rfl hnn hdb) pa_nil hs2) hs) (he := hs)) fun σ H Q ⟨C, b', ⟨a, fs, h0, h1, h2⟩, q⟩ =>
    ⟨_, h0, a, C, fs, _, _, .ty t, _, _, rfl, h1, h2, b'.hB, b'.hO, .ty t, h2.kitT hm, q⟩
end
end Fh
set_option Elab.async false
set_option linter.all false
set_option maxRecDepth 100000
set_option maxHeartbeats 4000000
namespace Fh
open PySem PySem.Spec PyProof.Rows L2
open PySem.W (Frag)

/-! ### found = found + [..] -/
def tGrowI (K : Frag) (Ds : List Addr) : TS := fun D σ H => ∃ (C : Addr) (b : BK) (a l : Addr) (fs : List (Str × V)) (xs : List V), σ = [some (.ref a), some (.ref l)] ∧ ErrAt H a C fs ∧ EK K C b ∧ H l = some (.lst xs) ∧ xs.length + Ds.length ≤ 1000 ∧
  ∀ l' H', Same H H' → H' l' = some (.lst (xs ++ Ds.map fun D => .bl (decide (C = D)))) → D.nx [some (.ref a), some (.ref l')] H'
theorem grow_I {K : Frag} {Ds : List Addr} (D : Ends) (σ : L2.St) (H : Hp) (h : tGrowI K Ds D σ H) : tAsg (tOp rCat (tVar 1) (tLst (tIss K Ds))) (gName 1) D σ H := by
  obtain ⟨C, b, a, l, fs, xs, rfl, he, ek, hl, hz, q⟩ := h
  have z1 : (Ds.map fun D => V.bl (decide (C = D))).length ≤ sizeLine := by
    rw [List.length_map, sizeLine_eq]
    omega
  refine ⟨_, rfl, C, b, ⟨a, fs, rfl, he, ek⟩, z1, fun p np => ?_⟩
  have s1 : Same H (upd H p (.lst (Ds.map fun D => V.bl (decide (C = D))))) := Same.new np
  refine ⟨l, p, xs, _, rfl, rfl, s1 _ _ hl, upd_same, ?_, fun p2 np2 => q p2 _ (Same.upd s1 np2) upd_same⟩
  rw [List.length_map, sizeLine_eq]
  omega
def tStartI (K : Frag) (Ds : List Addr) : TS := fun D σ H => ∃ (C : Addr) (b : BK) (a : Addr) (o : Option V) (fs : List (Str × V)), σ = [some (.ref a), o] ∧ ErrAt H a C fs ∧ EK K C b ∧ Ds.length ≤ 1000 ∧
  ∀ l' H', Same H H' → H' l' = some (.lst (Ds.map fun D => .bl (decide (C = D)))) → D.nx [some (.ref a), some (.ref l')] H'
theorem start_I {K : Frag} {Ds : List Addr} (D : Ends) (σ : L2.St) (H : Hp) (h : tStartI K Ds D σ H) : tAsg (tLst (tIss K Ds)) (gName 1) D σ H := by
  obtain ⟨C, b, a, o, fs, rfl, he, ek, hz, q⟩ := h
  refine ⟨C, b, ⟨a, fs, rfl, he, ek⟩, ?_, fun p np => q p _ (Same.new np) upd_same⟩
  rw [List.length_map, sizeLine_eq]
  omega
def tGrowD (N : Addr → Prop) (ds : List PyData) : TS := fun D σ H => ∃ (p l : Addr) (xs : List V) (cs : List PyData), σ = [some (.ref p), some (.ref l)] ∧ Kept N H ∧ H l = some (.lst xs) ∧ DAs N H xs cs ∧ cs.length + ds.length ≤ 1000 ∧
  ∀ l' ys H', Same H H' → H' l' = some (.lst ys) → DAs N H' ys (cs ++ ds) → D.nx [some (.ref p), some (.ref l')] H'
theorem grow_D {N : Addr → Prop} {ds : List PyData} (D : Ends) (σ : L2.St) (H : Hp) (h : tGrowD N ds D σ H) : tAsg (tOp rCat (tVar 1) (tLst (tDs N ds))) (gName 1) D σ H := by
  obtain ⟨p, l, xs, cs, rfl, kp, hl, da, hz, q⟩ := h
  refine ⟨_, rfl, kp, fun ys H1 s1 d1 => ⟨?_, fun p1 n1 => ?_⟩⟩
  · rw [d1.length, sizeLine_eq]
    omega
  refine ⟨l, p1, xs, ys, rfl, rfl, Same.upd s1 n1 _ _ hl, upd_same, ?_, fun p2 n2 => ?_⟩
  · rw [da.length, d1.length, sizeLine_eq]
    omega
  · have s2 := Same.upd (o := .lst ys) s1 n1
    have s3 := Same.upd (o := .lst (xs ++ ys)) s2 n2
    exact q p2 _ _ s3 upd_same ((DAs.same s3 da).append (DAs.same ((Same.new n1).trans (Same.new n2)) d1))
def tStartD (N : Addr → Prop) (ds : List PyData) : TS := fun D σ H => ∃ (p : Addr) (o : Option V), σ = [some (.ref p), o] ∧ Kept N H ∧ ds.length ≤ 1000 ∧
  ∀ l' ys H', Same H H' → H' l' = some (.lst ys) → DAs N H' ys ds → D.nx [some (.ref p), some (.ref l')] H'
theorem start_D {N : Addr → Prop} {ds : List PyData} (D : Ends) (σ : L2.St) (H : Hp) (h : tStartD N ds D σ H) : tAsg (tLst (tDs N ds)) (gName 1) D σ H := by
  obtain ⟨p, o, rfl, kp, hz, q⟩ := h
  refine ⟨kp, fun ys H1 s1 d1 => ⟨?_, fun p1 n1 => q p1 ys _ (Same.upd s1 n1) upd_same (DAs.same (Same.new n1) d1)⟩⟩
  rw [d1.length, sizeLine_eq]
  omega

/-! ### values that a law may ask anything of -/
def isDictD : PyData → Bool
  | .dict _ => true
  | _ => false
def okD (d : PyData) : Bool := d.showable && decide (d.depth ≤ 60) && decide (d.shown.length ≤ sizeLine) && ((SeqAt.shaped d && PyData.eqv d d) || isDictD d) && d.shown.cps.all (fun c => decide (c < 0x110000))
theorem okD_repr {d : PyData} (h : okD d = true) : d.showable = true ∧ d.depth ≤ 60 ∧ d.shown.length ≤ sizeLine := by
  unfold okD at h
  simp only [Bool.and_eq_true, decide_eq_true_eq] at h
  exact ⟨h.1.1.1.1, h.1.1.1.2, h.1.1.2⟩
theorem okD_lay {d : PyData} (h : okD d = true) : PyData.canLay0 (.str d.shown) = true := by
  unfold okD at h
  rw [Bool.and_eq_true] at h
  show PyData.canLay0 (.str d.shown) = true
  unfold PyData.canLay0
  exact h.2
theorem okD_same {N : Addr → Prop} {H : Hp} {x : V} {d : PyData} (h : okD d = true) (a : DA N H x d) : (∃ N d, DA N H x d ∧ SeqAt.shaped d = true ∧ PyData.eqv d d = true) ∨ ∃ a ks, x = .ref a ∧ H a = some (.dK ks) := by
  unfold okD at h
  simp only [Bool.and_eq_true, Bool.or_eq_true] at h
  rcases h.1.2 with z | z
  · exact Or.inl ⟨N, d, a, z.1, z.2⟩
  · cases a with
    | dK e _ _ => exact Or.inr ⟨_, _, rfl, e⟩
    | _ => exact nomatch z
/-- any of these, drawn -/
def spAny (ds : List PyData) : Sp := fun vs H Q _ => ∃ (p c : Addr) (n : Nat), vs = [.ref p] ∧ PenAt H p c n ∧ n ≤ 1000000 ∧
  ∀ (d : PyData) (x : V) (H' : Hp), d ∈ ds → DA (fun a => a = p) H' x d → PenAt H' p c (n + 1) → But p H H' → Q x H'
end Fh
set_option Elab.async false
set_option linter.all false
set_option maxRecDepth 100000
set_option maxHeartbeats 4000000
/-! FsA: a def of **names called with keywords, a class made so -/
namespace Fs
open PySem PySem.Spec PyProof.Rows L2
open PySem.W (Frag)

/-! ### the dict of the keywords -/
theorem kw_pairs {P : Program} {w : World} : ∀ (ex : List (Str × Value)) (t : Tok), Pairs (mixKind P w) (PySem.W.kwEs w.params t ex) (ex.map fun q => ((Sum.inr q.1 : Key), q.2))
  | [], _ => .nil
  | x :: r, t => .cons (keyIs_str x.1 t) rfl (kw_pairs r (t + 1))
theorem kw_nodup {α : Type} {ex : List (Str × α)} (hn : (ex.map (·.1)).Nodup) : ((ex.map fun q => ((Sum.inr q.1 : Key), q.2)).map (·.1)).Nodup := by
  rw [List.map_map]
  have e : (ex.map (·.1)).map (Sum.inr : Str → Key) = ex.map ((fun q : Key × α => q.1) ∘ fun q : Str × α => ((Sum.inr q.1 : Key), q.2)) := by rw [List.map_map]; rfl
  rw [← e]
  exact List.Pairwise.map _ (fun a b h q => h (Sum.inr.inj q)) hn
theorem kw_isDict {P : Program} {w : World} {h : Heap} {D : Addr} {ex : List (Str × Value)} (t : Tok) (n : Nat) (hn : (ex.map (·.1)).Nodup) (hD : h.get? D = some (PySem.W.dictOf (PySem.W.kwEs w.params t ex) n)) :
    h.DictOf (mixKind P w) D (ex.map fun q => ((Sum.inr q.1 : Key), q.2)) :=
  ⟨_, (PySem.W.kwEs w.params t ex).toArray, n, hD, ⟨rfl, rfl, rfl⟩, rfl, fun e he => by
    obtain ⟨k, u, hk, hh⟩ := PySem.W.kwEs_key ex t e (List.mem_toArray.mp he)
    exact ⟨.inr k, by rw [hk]; exact keyIs_str k u, hh.trans rfl⟩, kw_pairs ex t, kw_nodup hn⟩

section
variable {prog : Program} {w : World} {A : Around} {E : Value → Shared → Prop} {D : Addr}
theorem kw_set {s : Shared} {es : List DictEntry} {n : Nat} {k : Str} {v : Value} {Q : Unit → Shared → Prop} (hD : s.heap.get? D = some (PySem.W.dictOf es n))
    (hs : ∀ e ∈ es, e.key.isStr k = false) (hr : ∀ e ∈ es, e.refKey = false)
    (h : ∀ h', h'.get? D = some (PySem.W.dictOf (es ++ [⟨PyData.keyHash w.params k, .str k s.toks, v⟩]) (n + 1)) → (∀ b, b ≠ D → h'.get? b = s.heap.get? b) → h'.objs.size = s.heap.objs.size → Q () { s with heap := h', toks := s.toks + 1 }) :
    wpAny (model prog w) A (nsSet D k v) Q E s := by
  have e1 : es.any (·.key.isStr k) = false := by
    cases q : es.any (·.key.isStr k) with
    | false => rfl
    | true => obtain ⟨e, he, z⟩ := List.any_eq_true.mp q; rw [hs e he] at z; cases z
  have e2 : es.any (·.refKey) = false := by
    cases q : es.any (·.refKey) with
    | false => rfl
    | true => obtain ⟨e, he, z⟩ := List.any_eq_true.mp q; rw [hr e he] at z; cases z
  have e : Obj.putName k (PyData.keyHash w.params k) (.str k s.toks) v (PySem.W.dictOf es n) = PySem.W.dictOf (es ++ [⟨PyData.keyHash w.params k, .str k s.toks, v⟩]) (n + 1) := by
    rw [PySem.W.putName_dict, PySem.W.putL_new hs]
    show PySem.W.dictOf _ (if es.any (·.key.isStr k) then n else n + 1) = _
    rw [e1, if_neg Bool.false_ne_true]
  have c : aRefKeyMayBeTheName k es.toArray = false := by
    rw [aRefKeyMayBeTheName_at, ← Array.any_toList, ← Array.any_toList]
    show (!es.any (·.key.isStr k) && es.any (·.refKey)) = false
    rw [e2, Bool.and_false]
  unfold nsSet
  refine wpAny_bind (wpAny_bind (wpAny_askSetting (wpAny_pure (wpAny_bind (wpAny_mkText (wpAny_bind (wpAny_loadPart hD ?_)))))))
  dsimp only
  rw [c]
  refine wpAny_updatePart hD (h _ ?_ (fun b hb => Heap.get?_update_ne _ _ _ _ hb) (Heap.size_update _ _ _))
  exact e ▸ Heap.get?_update_self _ hD (e ▸ rfl)
theorem kw_fill {Q : PUnit → Shared → Prop} : ∀ (ex : List (Str × Value)) (s : Shared) (es : List DictEntry) (n : Nat), s.heap.get? D = some (PySem.W.dictOf es n) →
    (∀ e ∈ es, ∀ x ∈ ex, e.key.isStr x.1 = false) → (∀ e ∈ es, e.refKey = false) → (ex.map (·.1)).Nodup →
    (∀ h', h'.get? D = some (PySem.W.dictOf (es ++ PySem.W.kwEs w.params s.toks ex) (n + ex.length)) → (∀ b, b ≠ D → h'.get? b = s.heap.get? b) → h'.objs.size = s.heap.objs.size → Q ⟨⟩ { s with heap := h', toks := s.toks + ex.length }) →
    wpAny (model prog w) A (forIn ex PUnit.unit fun x _ => (nsSet D x.1 x.2 >>= fun _ => pure (ForInStep.yield PUnit.unit))) Q E s
  | [], s, es, n, hD, _, _, _, h => by
    rw [List.forIn_nil]
    refine wpAny_pure (h s.heap ?_ (fun _ _ => rfl) rfl)
    show s.heap.get? D = some (PySem.W.dictOf (es ++ []) n)
    rw [List.append_nil]
    exact hD
  | x :: r, s, es, n, hD, hs, hr, hn, h => by
    obtain ⟨hn1, hn2⟩ := List.nodup_cons.mp (show (x.1 :: r.map (·.1)).Nodup from hn)
    rw [List.forIn_cons]
    refine wpAny_bind (wpAny_bind (kw_set hD (fun e he => hs e he x (.head _)) hr fun h' hD' hb hz => wpAny_pure ?_))
    show wpAny (model prog w) A (forIn r PUnit.unit fun x _ => (nsSet D x.1 x.2 >>= fun _ => pure (ForInStep.yield PUnit.unit))) Q E { s with heap := h', toks := s.toks + 1 }
    refine kw_fill r { s with heap := h', toks := s.toks + 1 } _ _ hD' (fun e he y hy => ?_) (fun e he => ?_) hn2 fun h'' hD'' hb' hz' => ?_
    · rcases List.mem_append.mp he with he | he
      · exact hs e he y (.tail _ hy)
      · obtain rfl := List.mem_singleton.mp he
        show (x.1 == y.1) = false
        exact beq_eq_false_iff_ne.mpr fun q => hn1 (by rw [q]; exact List.mem_map_of_mem hy)
    · rcases List.mem_append.mp he with he | he
      · exact hr e he
      · obtain rfl := List.mem_singleton.mp he
        rfl
    · have t1 : s.toks + 1 + r.length = s.toks + (r.length + 1) := by omega
      have t2 : n + 1 + r.length = n + (r.length + 1) := by omega
      show Q ⟨⟩ { s with heap := h'', toks := s.toks + 1 + r.length }
      rw [t1]
      refine h h'' ?_ (fun b q => (hb' b q).trans (hb b q)) (hz'.trans hz)
      rw [t2, List.append_assoc] at hD''
      exact hD''
end

/-! ### a def of **nm -/
def FnKw (P : Program) (w : World) (K : Frag) (mg : Str → Option Value) (base : Heap) (CX : CXT) (k : Nat) (f : Addr) (ks : List Str) (sp : Sp) : Prop :=
  ∀ (A : Around) (outer : List Env) (s : Shared) (H : Hp) (us ws : List Value) (vs zs : List V) (Q : VK) (E : XK), Room k A → Env0 P w K mg base A outer s H → Vals vs us → Vals zs ws → zs.length = ks.length → sp (vs ++ zs) H Q E →
    codeAny (model P w) A (.call (.ref f) ⟨us, ks.zip ws⟩) (CR CX outer P w H s Q E) s
def kwD (ks : List Str) (zs : List V) : List (Key × V) := (ks.zip zs).map fun q => (.inr q.1, q.2)
def spKw (ks : List Str) (sp : Sp) : Sp := fun vs H Q E => ∃ x zs, vs = x :: zs ∧ zs.length = ks.length ∧ ∀ d, H d = none → sp [x, .ref d] (upd H d (.dK (kwD ks zs))) Q E
theorem kv_zip : ∀ {ks : List Str} {zs : List V} {ws : List Value}, Vals zs ws → KV (kwD ks zs) ((ks.zip ws).map fun q => ((Sum.inr q.1 : Key), q.2))
  | [], _, _, _ => .nil
  | _ :: _, [], [], .nil => .nil
  | k :: ks, z :: zs, u :: ws, .cons h r => .cons ⟨rfl, h⟩ (kv_zip (ks := ks) r)
theorem zip_fst {α : Type} : ∀ {ks : List Str} {ws : List α}, ws.length = ks.length → (ks.zip ws).map (·.1) = ks
  | [], [], _ => rfl
  | k :: ks, u :: ws, h => by
    show k :: (ks.zip ws).map (·.1) = k :: ks
    rw [zip_fst (Nat.succ.inj h)]
section
variable {CX : CXT} {P : Program} {w : World} {K : Frag} {mg : Str → Option Value} {base : Heap} {k : Nat} {f : Addr} {name qual : Str} {params : Arguments} {body : List Stmt} {scope : Scope} {dV kV doc pm cdv ct oc : Value} {an od : Option Addr}
  {osl : Array (Option Value)} {N ks : List Str} {sp : Sp} {nm sf : Str}
/-- a new object and what was made of it, tracked ahead of a def's body -/
theorem env0_grown {A : Around} {outer : List Env} {s : Shared} {H : Hp} {h' : Heap} {t' : Nat} {u : HO} (e0 : Env0 P w K mg base A outer s H) (kp : ∀ b x, s.heap.get? b = some x → h'.get? b = some x) (sz : s.heap.objs.size ≤ h'.objs.size)
    (new : ObjOk P w (upd H s.heap.objs.size u) h' s.heap.objs.size u) : Env0 P w K mg base A outer { s with heap := h', toks := t' } (upd H s.heap.objs.size u) := by
  refine ⟨e0.frames, e0.mod, fun b x e => ⟨kp b x (e0.bs b x e).1, ?_⟩, Nat.le_trans e0.bsz sz, Heap.FunFrames.of_keeps (fun b x e _ => ⟨x, kp b x e, rfl⟩) e0.funs, fun b hb => ?_, e0.hok.laid kp (Nat.le_refl _) new, e0.bare⟩
  · rw [upd_ne (Nat.ne_of_lt (Heap.lt_size (e0.bs b x e).1))]
    exact (e0.bs b x e).2
  · obtain ⟨_, x, hx, _⟩ := e0.funs.mem hb
    rw [upd_ne (Nat.ne_of_lt (Heap.lt_size hx))]
    exact e0.frf b hb
theorem fn_kwd (lk : K.lookup f = some ⟨oc, od, .func (PySem.W.fnOf name qual params body scope dV kV doc pm an cdv ct), osl⟩) (hcd : PySem.W.codeIn K cdv qual = true) (S : FnScope N [sf, nm] scope) (hCX : StX.CXUp CX) (hk : ks.Nodup) (hz : ks.length ≤ sizeLine)
    (hb : ∀ (x : Value) (ws : List Value), ws.length = ks.length → bindArgs (PySem.W.fnOf name qual params body scope dV kV doc pm an cdv ct) ⟨[x], ks.zip ws⟩ =
      ((alloc ({ cls := .type "dict", data := .dict #[] } : Obj) : Sem Addr) >>= fun D => forIn (ks.zip ws) PUnit.unit (fun x _ => (nsSet D x.1 x.2 >>= fun _ => pure (ForInStep.yield PUnit.unit))) >>= fun _ => pure [(sf, x), (nm, Value.ref D)]))
    (hbody : ∀ (A : Around) (outer : List Env) (s : Shared) (H : Hp) (vs : List V) (Q : VK) (E : XK), Room k (A.deeper (envOfC qual scope s.heap.objs.size f cdv)) → sp vs H Q E →
      ∃ t, PSs (cxOf CX P w K mg base N qual scope f cdv A outer s H E) body t ∧ t { nx := fun _ H' => Q .non H', rt := Q } (start N vs) H) :
    FnKw P w K mg base CX (k + 1) f ks (spKw ks sp) := by
  intro A outer s H us ws vs zs Q E hr e0 r rz hl hsp
  obtain ⟨x, zs', ev, hl', hq⟩ := hsp
  have e1 : ∃ u, us = [u] ∧ vs = [x] ∧ zs = zs' ∧ RelV x u := by
    have n1 : (vs ++ zs).length = (x :: zs').length := by rw [ev]
    rw [List.length_append, List.length_cons, hl, hl'] at n1
    have n2 : vs.length = 1 := by omega
    match vs, us, r, n2 with
    | [y], [u], .cons hy .nil, _ =>
      have e : y :: zs = x :: zs' := ev
      injection e with e1 e2
      subst e1 e2
      exact ⟨u, rfl, rfl, rfl, hy⟩
  obtain ⟨u, rfl, rfl, rfl, hx⟩ := e1
  have hlw : ws.length = ks.length := rz.length.symm.trans hl
  have hn : H s.heap.objs.size = Option.none := e0.hok.fresh (Nat.le_refl _)
  refine StX.run_bnd lk hcd S hr e0 (G := fun xs H2 => ∃ d, H d = Option.none ∧ xs = [x, V.ref d] ∧ H2 = upd H d (.dK (kwD ks zs))) (fun A' Ex Q' h => ?_) fun s2 H2 xs ⟨d, hd, ex, eH⟩ hr' => ?_
  · rw [hb u ws hlw]
    refine wpAny_bind (wpAny_alloc (wpAny_bind (kw_fill (D := s.heap.objs.size) (ks.zip ws) { s with heap := s.heap.push ({ cls := .type "dict", data := .dict #[] } : Obj) } [] 0 (Heap.get?_push_size _ rfl) (fun _ he => nomatch he) (fun _ he => nomatch he)
      (by rw [zip_fst hlw]; exact hk) fun h' hD hkeep hsz => wpAny_pure ?_)))
    have kp : ∀ b x, s.heap.get? b = some x → h'.get? b = some x := fun b x e => (hkeep b (Nat.ne_of_lt (Heap.lt_size e))).trans (Heap.get?_push_of_some _ e)
    have sz : s.heap.objs.size ≤ h'.objs.size := by
      rw [hsz]
      show _ ≤ (s.heap.push _).objs.size
      rw [Heap.size_push]
      exact Nat.le_succ _
    have new : ObjOk P w (upd H s.heap.objs.size (.dK (kwD ks zs))) h' s.heap.objs.size (.dK (kwD ks zs)) := by
      refine ⟨?_, beq_eq_false_iff_ne.mpr (Nat.ne_of_gt (StX.env0_big e0)), _, kv_zip rz, kw_isDict s.toks _ (by rw [zip_fst hlw]; exact hk) hD⟩
      unfold kwD
      rw [List.length_map, List.length_zip, hl, Nat.min_self]
      exact hz
    have un : Un (frs outer) [] H (upd H s.heap.objs.size (.dK (kwD ks zs))) s.heap h' := Un.laid kp (Nat.le_refl _) hn
    exact h { s with heap := h', toks := s.toks + (ks.zip ws).length } _ [x, V.ref s.heap.objs.size] [u, Value.ref s.heap.objs.size] (env0_grown e0 kp sz new) un rfl (fun e s' => hCX outer s H _ _ E e s' un kp rfl) (.cons hx (.cons rfl .nil)) rfl ⟨_, hn, rfl, rfl⟩
  · subst ex eH
    exact hbody A outer s2 _ _ Q E hr' (hq d hd)
end

/-! ### a class whose __init__ is such a def -/
section
variable {X : Cx} {CX : CXT} {k n : Nat} {f C : Addr} {ks : List Str} {sp : Sp} {E : XK} {x : Str} {p pos : Pos} {kws : List Keyword} {tk : TA}
theorem run_makeW {pins : List (Addr × Obj)} {σ : L2.St} {H : Hp} {s : Shared} {Q : VK} {ws : List Value} {zs : List V} (M : Mk X.K C f) (F : FnKw X.prog X.w X.K X.mg X.base CX k f ks sp) (hr : Room (k + 1) X.A) (hx : Passes CX X E)
    (I : Inv X pins σ H s) (rz : Vals zs ws) (l2 : zs.length = ks.length)
    (h : ∀ x dx, H x = none → H dx = none → dx ≠ x → sp (.ref x :: zs) (upd (upd H dx (.own x)) x (.ins C dx [])) (fun v H2 => v = .non ∧ Q (.ref x) H2) E) :
    wpAny (model X.prog X.w) X.A (call (.ref C) [] (ks.zip ws)) (EP X pins σ Q) X.xe s := by
  have hq := h (s.heap.objs.size + 1) s.heap.objs.size (I.hok.fresh (Nat.le_succ _)) (I.hok.fresh (Nat.le_refl _)) (Nat.ne_of_lt (Nat.lt_succ_self _))
  have I2 := Inv.made (C := C) I
  refine wpAny_call (make_map (f := f) I.kIn M.makes M.init (beq_iff_eq.mp M.fn) (codeAny_mono (F _ X.stack _ _ [Value.ref (s.heap.objs.size + 1)] ws [V.ref (s.heap.objs.size + 1)] zs _ E (hr.make C [] (ks.zip ws))
    (I2.env0.make C [] (ks.zip ws)) (.cons rfl .nil) rz l2 hq) fun r s' hq' => ?_))
  cases r with
  | error e => exact hx pins σ _ _ e s' I2 hq'
  | ok fl =>
    cases fl with
    | ret u =>
      obtain ⟨v, H', I3, rv, ev, q3⟩ := I2.after hq'
      subst ev
      exact ⟨rv, ⟨V.ref (s.heap.objs.size + 1), H', I3, rfl, q3⟩⟩
    | next => exact False.elim hq'
    | brk => exact False.elim hq'
    | cont => exact False.elim hq'
def tMakeW (C : Addr) (m : Nat) (sp : Sp) (E : XK) (tk : TA) : TE := fun σ H Q => tk σ H fun zs H2 => zs.length = m ∧ ∀ x dx, H2 x = none → H2 dx = none → dx ≠ x →
  sp (.ref x :: zs) (upd (upd H2 dx (.own x)) x (.ins C dx [])) (fun v H3 => v = .non ∧ Q (.ref x) H3) E
/-- C(k = v, ..), C a name of the module -/
theorem pe_makeW (M : Mk X.K C f) (F : FnKw X.prog X.w X.K X.mg X.base CX k f ks sp) (hr : Room (k + 1) X.A) (hg : Gl X x) (hm : X.mg x = some (.ref C)) (hx : Passes CX X E) (hkw : PK X kws tk)
    (hall : (backToKw pos (keywordEach kws X.env)).all (·.1.isSome) = true := by rfl) (hks : (backToKw pos (keywordEach kws X.env)).filterMap (·.1) = ks := by rfl) (hdb : (x == ("__debug__" : Str)) = false := by decide)
    (hpl : ((backTo pos (starEach [] X.env)).any (·.1) || (backToKw pos (keywordEach kws X.env)).any (·.1.isNone)) = false := by rfl) :
    PE X (.Call (.Name x p) [] kws pos) (tMakeW C ks.length sp E tk) := by
  refine ⟨fun pins s σ H Q I h => ?_⟩
  refine wpAny_Call_Name_kw (ld_glob I hg hm ?_ hdb)
  refine PySem.W.callWith_KW0 (h₀ := X.base) I.ok.mod.kin M.kp hall ?_ hpl
  refine thn (hkw.run pos pins s σ H _ I h) fun ws s2 ⟨zs, H2, I2, rz, l2, q2⟩ => ⟨I2.kIn, ?_⟩
  rw [hks]
  exact run_makeW M F hr hx I2 rz l2 q2
end
end Fs
set_option Elab.async false
set_option linter.all false
set_option maxRecDepth 100000
set_option maxHeartbeats 4000000
/-! FsB: own ==, !=, [], operators of instances -/
namespace PySem
namespace FsX
open Builtin
section
variable {prog : Program} {w : World} {A : Around} {E : Value → Shared → Prop} {s : Shared} {K : PySem.W.Frag} {x C f : Addr} {ox : Obj} {od : Option Obj} {b tb : Value}
theorem slot_check {M : Model} {id owner n : String} {rest : List Value} {Q : Unit → Shared → Prop} (hk : builtinKind id = some .slot) (hs : splitId id = some (owner, n)) (ha : argsOk id ⟨.ref x :: rest, []⟩)
    (X : K.In s.heap) (I : PySem.W.InstAt s.heap x ox C od) (hob : PySem.W.subIn K (.ref C) (.type owner) = some true) (hq : Q () s) : wpAny M A (checkBuiltinCall id ⟨.ref x :: rest, []⟩) Q E s := by
  simp only [checkBuiltinCall, hk, hs]
  refine wpAny_bind ?_
  unfold isInstance
  refine wpAny_bind (I.type.here ?_)
  refine (PySem.W.looks_subIn X hob).here ?_
  simp only [Bool.not_true, Bool.false_eq_true, if_false]
  cases hsig : Manifest.signature? id with
  | none => exact wpAny_pure hq
  | some sig =>
    simp only [argsOk, hsig] at ha
    have h2 : Bind.checkArgs id sig ⟨.ref x :: rest, []⟩ = pure () := ha
    show wpAny M A (Bind.checkArgs id sig ⟨.ref x :: rest, []⟩) Q E _
    rw [h2]; exact wpAny_pure hq
theorem objNe_K (hu : A.units < cLine) (X : K.In s.heap) (I : PySem.W.InstAt s.heap x ox C od) (hs : PySem.W.findIn K (.ref C) "__eq__" = some (some (.ref f))) (hf : PySem.W.isFn K (.ref f) = true) {Q : Fin → Shared → Prop}
    (hcall : wpAny (model prog w) A (call (.ref f) [.ref x, b]) (fun v s' => ∃ c, v = .bool c ∧ Q (.done (.ret (.bool (!c)))) s') E s) :
    wpAny (model prog w) A (Builtin.«object.__ne__» ⟨[.ref x, b], []⟩) Q E s := by
  obtain ⟨h, g, d, t, os⟩ := s
  unfold Builtin.«object.__ne__»
  repeat (first
    | with_reducible refine wpAny_cRoomFor hu ?_
    | (refine wpAny_bind (m := callSpecialIfBound? (.ref x) (Str.ofString "__eq__") [b])
        (PySem.W.ifBound_K X I hs hf (wpAny_mono hcall (fun r s' hr => by
          obtain ⟨c, rfl, hq⟩ := hr
          repeat (first | exact hq | exact wpAny_pure hq | exact wpAny_truthy_bool hq | (refine wpAny_bind (m := truthy (.bool _)) (wpAny_truthy_bool ?_)) | wp_step)) fun _ _ e => e)))
    | wp_step)
theorem tryNe_K (hu : A.units + 1 < cLine) (X : K.In s.heap) (I : PySem.W.InstAt s.heap x ox C od) (hs : PySem.W.findIn K (.ref C) "__eq__" = some (some (.ref f))) (hf : PySem.W.isFn K (.ref f) = true)
    (hn : PySem.W.findIn K (.ref C) "__ne__" = some (some (.builtin "object.__ne__"))) (hob : PySem.W.subIn K (.ref C) (.type "object") = some true) {Q : Option Value → Shared → Prop}
    (hcall : wpAny (model prog w) A.in1 (call (.ref f) [.ref x, b]) (fun v s' => ∃ c, v = .bool c ∧ Q (some (.bool (!c))) s') E s) :
    wpAny (model prog w) A (tryCompare (.ref x) "__ne__" b) Q E s := by
  simp only [tryCompare, callSpecialIfBound?, bindSpecialIfBound?]
  refine wpAny_bind (wpAny_holding (wpAny_bind (wpAny_bind (wpAny_bind (I.type.here ((PySem.W.looks_findIn X hn).here ?_))))))
  have S := F.cmp_object.ne
  simp only [S.bind]
  refine wpAny_bind (wpAny_askSetting (wpAny_ite ?_))
  have go : wpAny (model prog w) A (call (.builtin "object.__ne__") ([.ref x] ++ [b])) (fun v s' => ∃ c, v = .bool c ∧ Q (some (.bool c)) s') E s :=
    wpAny_call (codeAny_call_builtin S.plain F.cmpEntry_ne (slot_check F.cmpKind_ne F.cmpSplit_ne (F.cmpArgs_ne _ _) X I hob
      (objNe_K (A := A.in1) hu X I hs hf (wpAny_mono hcall (fun v s' hv => by
        obtain ⟨c, rfl, hq⟩ := hv
        first | exact ⟨c, rfl, !c, rfl, hq⟩ | exact ⟨c, rfl, ⟨!c, rfl, hq⟩⟩) fun _ _ e => e))))
  have fin : wpAny (model prog w) A (call (.builtin "object.__ne__") ([.ref x] ++ [b]) >>= fun v => pure (some v)) (fun r s' => ∃ c, r = some (.bool c) ∧ Q (some (.bool c)) s') E s :=
    wpAny_bind (wpAny_mono go (fun v s' ⟨c, e, hq⟩ => wpAny_pure ⟨c, by rw [e], hq⟩) fun _ _ e => e)
  have fin2 : wpAny (model prog w) A (call (.builtin "object.__ne__") ([.ref x] ++ [b]) >>= fun v => pure (some v)) (fun a s' => wpAny (model prog w) A (match a with | some .notImplemented | none => pure none | some v => pure (some v)) Q E s') E s :=
    wpAny_mono fin (fun r s' ⟨c, e, hq⟩ => by subst e; exact wpAny_pure hq) fun _ _ e => e
  split
  · exact wpAny_bind (wpAny_pure (wpAny_pure fin2))
  · exact wpAny_tryCatch (wpAny_bind (wpAny_pure (wpAny_pure fin2)))
theorem cmpNe_K {Q : Value → Shared → Prop} (hu : A.units + 1 < cLine) (X : K.In s.heap) (I : PySem.W.InstAt s.heap x ox C od) (hb : PySem.W.Looks (model prog w) s.heap (typeOf b) tb) (hn : PySem.W.notFirst K C tb = true)
    (hs : PySem.W.findIn K (.ref C) "__eq__" = some (some (.ref f))) (hf : PySem.W.isFn K (.ref f) = true) (hne : PySem.W.findIn K (.ref C) "__ne__" = some (some (.builtin "object.__ne__"))) (hob : PySem.W.subIn K (.ref C) (.type "object") = some true)
    (hcall : wpAny (model prog w) A.in1 (call (.ref f) [.ref x, b]) (fun v s' => ∃ c, v = .bool c ∧ Q (.bool (!c)) s') E s) : wpAny (model prog w) A (richCompare .NotEq (.ref x) b) Q E s := by
  have one : wpAny (model prog w) A (tryCompare (.ref x) "__ne__" b) (fun r s' => ∃ v, r = some v ∧ Q v s') E s :=
    tryNe_K hu X I hs hf hne hob (wpAny_mono hcall (fun v s' ⟨c, e, hq⟩ => ⟨c, e, _, rfl, hq⟩) fun _ _ e => e)
  unfold richCompare
  simp only [oneThing_ref]
  refine wpAny_holding (wpAny_bind (wpAny_cRoomFor (Nat.lt_of_succ_lt hu) ?_))
  rw [cmpInfo_NotEq]
  dsimp only
  refine wpAny_bind (I.type.here (wpAny_bind (hb.here ?_)))
  split
  · rename_i q
    have e : PySem.W.subIn K tb (.ref C) = some false := by
      rcases Bool.or_eq_true_iff.mp hn with e | e
      · rw [beq_iff_eq.mp e] at q; simp at q
      · exact beq_iff_eq.mp e
    refine wpAny_bind ((PySem.W.looks_subIn X e).here ?_)
    simp only [Bool.false_eq_true, if_false]
    refine wpAny_bind (wpAny_mono one (fun r s' z => ?_) fun _ _ e => e)
    obtain ⟨v, rfl, hq⟩ := z
    exact wpAny_pure hq
  · refine wpAny_bind (wpAny_pure ?_)
    simp only [Bool.false_eq_true, if_false]
    refine wpAny_bind (wpAny_mono one (fun r s' z => ?_) fun _ _ e => e)
    obtain ⟨v, rfl, hq⟩ := z
    exact wpAny_pure hq
end
end FsX
end PySem
set_option Elab.async false
set_option linter.all false
set_option maxRecDepth 100000
set_option maxHeartbeats 4000000
/-! FsC: own ==, !=, [], operators of instances, over the layer -/
namespace Fs
open PySem PySem.Spec PyProof.Rows L2
open PySem.W (Frag)
section
variable {X : Cx} {CX : CXT} {k n : Nat} {g C : Addr} {sp : Sp} {E : XK} {a b : Expr} {pos : Pos} {ta tb : TE}
/-- o[y], o an instance of the class at C with its own __getitem__ -/
def rGetO (C : Addr) (sp : Sp) (E : XK) : R2 := fun x y H Q => ∃ a dx fs, x = .ref a ∧ H a = some (.ins C dx fs) ∧ sp [x, y] H Q E
theorem pe_ixO (hs : PySem.W.findIn X.K (.ref C) "__getitem__" = some (some (.ref g))) (hg : PySem.W.fnIn X.K g = true) (hf : PySem.W.isFn X.K (.ref g) = true) (F : FnR X.prog X.w X.K X.mg X.base CX k g sp) (hr : Room (k + 1) X.A) (hx : Passes CX X E)
    (ha : PE X a ta) (hb : PE X b tb) (hsl : ∀ o i, subscripted b true o i = runValue (.builtin "lifetime.subscript" ⟨[o, i], []⟩) := by intro _ _; with_unfolding_all rfl) : PE X (.Subscript a b pos) (tOp (rGetO C sp E) ta tb) := by
  refine ⟨fun pins s σ H Q I h => ?_⟩
  refine Subscript_ (thn (ha.run pins s σ H _ I h) fun u s1 ⟨x, H1, I1, rx, q1⟩ => thn (hb.run pins s1 σ H1 _ I1 q1) fun iv s2 ⟨y, H2, I2, ry, a', dx, fs, ex, ea, q2⟩ => ?_)
  subst ex
  obtain rfl : u = Value.ref a' := rx
  obtain ⟨mA, O, _, _, _, _⟩ := ins_get I2.hok ea
  obtain ⟨od, J, _⟩ := O.look
  obtain ⟨m, hF⟩ := I2.fr
  refine PySem.W.sub_K hF I2.ok.mod.kin J hs hg hf (wpAny_call (SlX.run_at (us := [.ref a', iv]) (ws := [.ref a', y]) F hr.in1 I2.env0.in1 hx I2 (.cons rfl (.cons ry .nil)) q2)) (hsl _ _)
/-- the type of the right operand is not one below C -/
def Oth (K : Frag) (C : Addr) (H : Hp) (y : V) : Prop := (∃ b dy ys, y = .ref b ∧ H b = some (.ins C dy ys)) ∨ ∃ b kvs, y = .ref b ∧ H b = some (.dK kvs) ∧ PySem.W.notFirst K C (.type "dict") = true
theorem Oth.looks {K : Frag} {pins : List (Addr × Obj)} {s : Shared} {σ : L2.St} {H : Hp} {y : V} {u : Value} (o : Oth K C H y) (I : Inv X pins σ H s) (ry : RelV y u) :
    ∃ tb, PySem.W.Looks (model X.prog X.w) s.heap (typeOf u) tb ∧ PySem.W.notFirst K C tb = true := by
  rcases o with ⟨b, dy, ys, rfl, eb⟩ | ⟨b, kvs, rfl, eb, hn⟩
  · obtain rfl : u = Value.ref b := ry
    obtain ⟨mA, O, _, _, _, _⟩ := ins_get I.hok eb
    obtain ⟨od, J, _⟩ := O.look
    exact ⟨.ref C, J.type, by unfold PySem.W.notFirst; simp⟩
  · obtain rfl : u = Value.ref b := ry
    obtain ⟨_, _, vs, _, ob, es, ep, h1, h2, _⟩ := dk_of I.hok eb
    refine ⟨.type "dict", ?_, hn⟩
    have e := (PySem.W.Looks.ld (M := model X.prog X.w) (part := none) h1).andThen (f := fun o => pure o.cls) .now
    intro A Q E s k q
    refine wpAny_typeOf_ref (k _ _ h1) ?_
    rw [h2.1]
    exact q
/-- x == y -/
def rEqO (K : Frag) (C : Addr) (sp : Sp) (E : XK) : R2 := fun x y H Q => ∃ a dx fs, x = .ref a ∧ H a = some (.ins C dx fs) ∧ Oth K C H y ∧ sp [x, y] H Q E
theorem op_eqO (hs : PySem.W.findIn X.K (.ref C) "__eq__" = some (some (.ref g))) (hf : PySem.W.isFn X.K (.ref g) = true) (F : FnR X.prog X.w X.K X.mg X.base CX n g sp) (hr : Room n X.A) (hx : Passes CX X E) : OpR X (compareOp .Eq) (rEqO X.K C sp E) := by
  intro pins s σ H x y v u Q I rx ry h
  obtain ⟨a, dx, fs, rfl, ea, o, q⟩ := h
  cases (show v = Value.ref a from rx)
  obtain ⟨mA, O, _, _, _, _⟩ := ins_get I.hok ea
  obtain ⟨od, J, _⟩ := O.look
  obtain ⟨m, hF⟩ := I.fr
  obtain ⟨tb, ht, hn⟩ := o.looks I ry
  show wpAny _ _ (richCompare .Eq _ _) _ _ _
  refine PySem.W.cmp_K (op := .Eq) (tb := tb) hr.units0 hF I.ok.mod.kin J ht hn hs hf ?_
  refine wpAny_mono (wpAny_call (run_fnR (us := [.ref a, u]) (vs := [.ref a, y]) F hr hx I (.cons rfl (.cons ry .nil)) q)) (fun w s' z => ?_) fun _ _ x => x
  obtain ⟨z', H', I', rz, qz⟩ := z
  exact SlX.cmpback rz ⟨z', H', I', rz, qz⟩
/-- x != y by the own ==: the other answer -/
def rNeO (K : Frag) (C : Addr) (sp : Sp) (E : XK) : R2 := fun x y H Q => ∃ a dx fs, x = .ref a ∧ H a = some (.ins C dx fs) ∧ Oth K C H y ∧ sp [x, y] H (fun v H' => ∃ c, v = .bl c ∧ Q (.bl (!c)) H') E
theorem op_neO (hs : PySem.W.findIn X.K (.ref C) "__eq__" = some (some (.ref g))) (hf : PySem.W.isFn X.K (.ref g) = true) (hne : PySem.W.findIn X.K (.ref C) "__ne__" = some (some (.builtin "object.__ne__"))) (hob : PySem.W.subIn X.K (.ref C) (.type "object") = some true)
    (F : FnR X.prog X.w X.K X.mg X.base CX n g sp) (hr : Room (n + 1) X.A) (hx : Passes CX X E) : OpR X (compareOp .NotEq) (rNeO X.K C sp E) := by
  intro pins s σ H x y v u Q I rx ry h
  obtain ⟨a, dx, fs, rfl, ea, o, q⟩ := h
  cases (show v = Value.ref a from rx)
  obtain ⟨mA, O, _, _, _, _⟩ := ins_get I.hok ea
  obtain ⟨od, J, _⟩ := O.look
  obtain ⟨tb, ht, hn⟩ := o.looks I ry
  show wpAny _ _ (richCompare .NotEq _ _) _ _ _
  refine PySem.FsX.cmpNe_K (by have := hr.un; omega) I.kIn J ht hn hs hf hne hob ?_
  refine wpAny_mono (wpAny_call (SlX.run_at (us := [.ref a, u]) (ws := [.ref a, y]) F hr.in1 I.env0.in1 hx I (.cons rfl (.cons ry .nil)) q)) (fun w s' z => ?_) fun _ _ x => x
  obtain ⟨z', H', I', rz, c, ec, qz⟩ := z
  subst ec
  cases (show w = Value.bool c from rz)
  exact ⟨c, rfl, .bl (!c), H', I', rfl, qz⟩
/-- x op y, both of the class at C -/
def rBinO (C : Addr) (sp : Sp) (E : XK) : R2 := fun x y H Q => ∃ a dx fs b dy ys, x = .ref a ∧ y = .ref b ∧ H a = some (.ins C dx fs) ∧ H b = some (.ins C dy ys) ∧ sp [x, y] H Q E
theorem op_binO {op : Operator} (hc : PySem.W.selfFirst X.K C = true) (hs : PySem.W.findIn X.K (.ref C) (PySem.dunder op.info.2) = some (some (.ref g))) (hf : PySem.W.isFn X.K (.ref g) = true) (F : FnR X.prog X.w X.K X.mg X.base CX n g sp) (hr : Room n X.A) (hx : Passes CX X E) :
    OpR X (binaryOp op) (rBinO C sp E) := by
  intro pins s σ H x y v u Q I rx ry h
  obtain ⟨a, dx, fs, b, dy, ys, rfl, rfl, ea, eb, q⟩ := h
  cases (show v = Value.ref a from rx)
  cases (show u = Value.ref b from ry)
  obtain ⟨mA, O, _, _, _, _⟩ := ins_get I.hok ea
  obtain ⟨od, J, _⟩ := O.look
  obtain ⟨mB, O2, _, _, _, _⟩ := ins_get I.hok eb
  obtain ⟨od2, J2, _⟩ := O2.look
  obtain ⟨m, hF⟩ := I.fr
  refine PySem.W.binop_K (op := op) hF I.ok.mod.kin J J2.type hc hs hf ?_
  refine wpAny_mono (wpAny_call (run_fnR (us := [.ref a, .ref b]) (vs := [.ref a, .ref b]) F hr hx I (.cons rfl (.cons rfl .nil)) q)) (fun w s' z => ?_) fun _ _ x => x
  obtain ⟨z', H', I', rz, qz⟩ := z
  exact SlX.cmpback rz ⟨z', H', I', rz, qz⟩
end

/-! ### calls: a local name that holds a class, a classmethod by keywords -/
theorem FnKw.of_fn {P : Program} {w : World} {K : Frag} {mg : Str → Option Value} {base : Heap} {CX : CXT} {k n : Nat} {f : Addr} {fd : FuncData} {ps ks : List Str} {sp : Sp} (F : FnOk P w K mg base CX k f fd ps sp)
    (hb : KBn K fd ps n ks (fun us ws => us ++ ws) (fun vs zs => vs ++ zs)) (hp : ps.length = n + ks.length) : FnKw P w K mg base CX k f ks sp := by
  intro A outer s H us ws vs zs Q E hr e0 r rz hl hsp
  have l1 := F.len _ _ _ _ hsp
  rw [List.length_append, hp, hl] at l1
  have l2 : us.length = n := by rw [← r.length]; omega
  exact F.run A outer s H ⟨us, ks.zip ws⟩ (us ++ ws) (vs ++ zs) Q E hr e0 (hb.to s us ws (e0.mod.kin.keeps fun b o e => (e0.bs b o e).1) l2 (rz.length.symm.trans hl)) (r.append rz) hsp
section
variable {X : Cx} {CX : CXT} {k i : Nat} {f C p g : Addr} {mc : Value} {ks : List Str} {sp : Sp} {E : XK} {x m : Str} {px pos apos : Pos} {o : Expr} {kws : List Keyword} {ta : TE} {tk : TA} {pl : Sem Bool}
/-- c(k = v, ..), the i-th slot holds the class at C -/
def tMakeL (i : Nat) (C : Addr) (m : Nat) (sp : Sp) (E : XK) (tk : TA) : TE := fun σ H Q => σ[i]? = some (some (.ref C)) ∧ tMakeW C m sp E tk σ H Q
theorem pe_makeWL (M : Mk X.K C f) (F : FnKw X.prog X.w X.K X.mg X.base CX k f ks sp) (hr : Room (k + 1) X.A) (hN : X.N[i]? = some x) (hv : Vis X.env.scope x) (hx : Passes CX X E) (hkw : PK X kws tk)
    (hall : (backToKw pos (keywordEach kws X.env)).all (·.1.isSome) = true := by rfl) (hks : (backToKw pos (keywordEach kws X.env)).filterMap (·.1) = ks := by rfl) (hdb : (x == ("__debug__" : Str)) = false := by decide) (hcd : (x == ("__classdict__" : Str)) = false := by decide)
    (hpl : ((backTo pos (starEach [] X.env)).any (·.1) || (backToKw pos (keywordEach kws X.env)).any (·.1.isNone)) = false := by rfl) :
    PE X (.Call (.Name x px) [] kws pos) (tMakeL i C ks.length sp E tk) := by
  refine ⟨fun pins s σ H Q I h => ?_⟩
  obtain ⟨hs, ht⟩ := h
  refine wpAny_Call_Name_kw (thn ((pe_var (pos := px) hN hv hdb hcd).run pins s σ H (fun v H1 => v = .ref C ∧ H1 = H) I ⟨.ref C, hs, rfl, rfl⟩) fun u s1 ⟨v, H1, I1, r1, q1⟩ => ?_)
  obtain ⟨rfl, rfl⟩ := q1
  cases r1
  refine PySem.W.callWith_KW0 (h₀ := X.base) I.ok.mod.kin M.kp hall ?_ hpl
  refine thn (hkw.run pos pins s1 σ _ _ I1 ht) fun ws s2 ⟨zs, H2, I2, rz, l2, q2⟩ => ⟨I2.kIn, ?_⟩
  rw [hks]
  exact run_makeW M F hr hx I2 rz l2 q2
/-- C.m(k = v), m a classmethod -/
def tCMethK (C : Addr) (n : Nat) (sp : Sp) (E : XK) (ta : TE) (tk : TA) : TE := fun σ H Q => ta σ H fun x H1 => x = .ref C ∧ tk σ H1 fun zs H2 => zs.length = n ∧ sp (.ref C :: zs) H2 Q E
theorem run_fnKw {pins : List (Addr × Obj)} {σ : L2.St} {H : Hp} {s : Shared} {Q : VK} {us ws : List Value} {vs zs : List V} (F : FnKw X.prog X.w X.K X.mg X.base CX k f ks sp) (hr : Room k X.A) (hx : Passes CX X E) (I : Inv X pins σ H s) (r : Vals vs us) (rz : Vals zs ws) (hl : zs.length = ks.length) (h : sp (vs ++ zs) H Q E) :
    codeAny (model X.prog X.w) X.A (.call (.ref f) ⟨us, ks.zip ws⟩) (fun r s' => match r with | .ok (.ret v) => EP X pins σ Q v s' | .ok _ => False | .error e => X.xe e s') s := by
  refine codeAny_mono (F X.A X.stack s H us ws vs zs Q E hr I.env0 r rz hl h) fun r s' hq => ?_
  cases r with
  | error e => exact hx pins σ H s e s' I hq
  | ok fl =>
    cases fl with
    | ret u => exact I.after hq
    | next => exact False.elim hq
    | brk => exact False.elim hq
    | cont => exact False.elim hq
theorem pe_cmethK (he : PE X o ta) (r : ClX.CRead X.K C mc) (c : ClX.CMet X.K C mc m p g) (F : FnKw X.prog X.w X.K X.mg X.base CX k g ks sp) (hr : Room k X.A) (hx : Passes CX X E) (hkw : PK X kws tk)
    (hall : (backToKw pos (keywordEach kws X.env)).all (·.1.isSome) = true := by rfl) (hks : (backToKw pos (keywordEach kws X.env)).filterMap (·.1) = ks := by rfl)
    (hpl : ((backTo pos (starEach [] X.env)).any (·.1) || (backToKw pos (keywordEach kws X.env)).any (·.1.isNone)) = false := by rfl)
    (ht : eval (.Call (.Attribute o m apos) [] kws pos) X.env = (do
      let ov ← eval o X.env
      standAt apos.atName
      let (f, first) ← holding [ov] (getMethod ov m pl)
      callWith pos f first (backTo pos (starEach [] X.env)) (backToKw pos (keywordEach kws X.env))) := by rfl) :
    PE X (.Call (.Attribute o m apos) [] kws pos) (tCMethK C ks.length sp E ta tk) := by
  refine ⟨fun pins s σ H Q I h => ?_⟩
  refine PySem.W.methodCall_KW (pl := pl) (thn (he.run pins s σ H _ I h) fun u s1 ⟨x, H1, I1, rx, ex, q⟩ => ?_) ht
  subst ex
  obtain rfl : u = Value.ref C := rx
  refine ClX.getmethcm_ok I1 r c fun s2 I2 => ?_
  refine PySem.W.callWith_of (P := PySem.W.MethP X.K _ g (.ref C)) hpl (PySem.W.keeps_M c.fi) (evalArgs_kw2_nil hall (thn (hkw.run pos _ s2 σ H1 _ I2 q) fun ws s3 ⟨zs, H2, I3, rz, l2, q2⟩ => ?_))
  rw [hks]
  refine ⟨⟨ClX.pin_at I3, I3.kIn⟩, ?_⟩
  have z := wpAny_call (PySem.W.method_call (pos := []) (kw := ks.zip ws) (ClX.pin_at I3) (run_fnKw (us := [.ref C]) (vs := [.ref C]) F hr hx I3 (.cons rfl .nil) rz l2 q2))
  exact thn z fun _ _ y => ClX.unpinE y
end
end Fs
set_option Elab.async false
set_option linter.all false
set_option maxRecDepth 100000
set_option maxHeartbeats 4000000
/-! FsD: set(d) of a dict of texts, sorted of it; tuple(d), list(d.values()) -/
namespace Fs
open PySem PySem.Spec PyProof.Rows L2
open PySem.W (Frag)

/-! ### a set by its elements in some order -/
def SR {K : Type} [DecidableEq K] {P : Program} {w : World} (knd : PySem.KeyKind P w K) (h : Heap) (a : Addr) (l : List (Int × Value)) : Prop :=
  ∃ o ep t es, h.get? a = some o ∧ o.ExactSet ∧ o.data = .set es ep t ∧ es.toList.Perm l ∧ ElemsOf knd l ∧ l.length < scanBound ∧ t.fits es.size = true ∧ Ris t.place.toList ∧ (w.params.followText "set-order" = true ∨ t.led = true)
theorem SR.move {K : Type} [DecidableEq K] {P : Program} {w : World} {knd : PySem.KeyKind P w K} {h h' : Heap} {a : Addr} {l : List (Int × Value)} (R : SR knd h a l) (k : ∀ o, h.get? a = some o → h'.get? a = some o) : SR knd h' a l :=
  let ⟨o, ep, t, es, ho, r⟩ := R
  ⟨o, ep, t, es, k o ho, r⟩
section
variable {K : Type} [DecidableEq K] {P : Program} {w : World} {knd : PySem.KeyKind P w K} {A : Around} {E : Value → Shared → Prop} {s : Shared} {a : Addr} {l : List (Int × Value)}
/-- the elements are stored, the table is laid anew where it is too full -/
theorem sr_tail {g : Bool → Sem Unit} (hg : ∀ (b : Bool) (s1 : Shared) (Q' : Unit → Shared → Prop), Q' () s1 → wpAny (model P w) A (g b) Q' E s1) {o : Obj} {es : Array (Int × Value)} {ep : Nat} {t : SetTable} (ho : s.heap.get? a = some o) (hx : o.ExactSet) (hd : o.data = .set es ep t)
    {es1 : Array (Int × Value)} {t2 : SetTable} {l' : List (Int × Value)} (pm : es1.toList.Perm l') (el : ElemsOf knd l') (hb : l'.length < scanBound) (hf : t2.fits es1.size = true) (hr : Ris t2.place.toList) (hl : w.params.followText "set-order" = true ∨ t2.led = true) {dm : Bool}
    {R : Option Bool → Shared → Prop} (hR : ∀ h', Heap.SameBut a s.heap h' → SR knd h' a l' → R (some true) { s with heap := h' }) :
    wpAny (model P w) A (storeSet a es1 t2 >>= fun _ => if (!dm && t2.tooFull) = true then (g (relayAll t2 es1 (SetTable.grown es1.size)).2.2 >>= fun _ => storeSet a (relayAll t2 es1 (SetTable.grown es1.size)).1 (relayAll t2 es1 (SetTable.grown es1.size)).2.1 >>= fun _ => pure (some true)) else pure (some true)) R E s := by
  have size1 : es1.size = l'.length := by rw [← Array.length_toList, pm.length_eq]
  have room1 : es1.size < scanBound := size1 ▸ hb
  refine wpAny_bind (wpAny_storeSet_of ho hd ?_ (fits_of_scanBound room1))
  have stored := store_at (es' := es1) (t' := t2) ho hd
  have other := Heap.SameBut.update s.heap a (Obj.putSet es1 t2)
  split
  · have w1 := relayAll_perm t2 es1 (SetTable.grown es1.size)
    have w2 := relayAll_fits t2 es1 (SetTable.grown es1.size)
    have w3 := relayAll_ris t2 es1 (SetTable.grown es1.size)
    have w4 := relayAll_led t2 es1 (SetTable.grown es1.size)
    generalize relayAll t2 es1 (SetTable.grown es1.size) = Z at w1 w2 w3 w4 ⊢
    obtain ⟨es2, t3, gv⟩ := Z
    dsimp only at w1 w2 w3 w4 ⊢
    have size2 : es2.size = l'.length := by rw [← Array.length_toList, (w1.trans pm).length_eq]
    have room2 : es2.size < scanBound := size2 ▸ hb
    refine wpAny_bind (hg _ _ _ (wpAny_bind (wpAny_storeSet_of stored rfl (wpAny_pure (hR _ (other.trans (Heap.SameBut.update _ a _)) ?_)) (fits_of_scanBound room2))))
    exact ⟨_, _, t3, es2, store_at (es' := es2) (t' := t3) stored rfl, hx, rfl, w1.trans pm, el, hb, w2, w3, hl.imp id fun z => by rw [w4]; exact z⟩
  · exact wpAny_pure (hR _ other ⟨_, _, t2, es1, stored, hx, rfl, pm, el, hb, hf, hr, hl⟩)
/-- an element that isn't there is added -/
theorem sr_add {k : K} {x : Value} {Q : Bool → Shared → Prop} (R : SR knd s.heap a l) (hkey : knd.is k x = true) (hsc : x.scannable = true) (no : ∀ e ∈ l, knd.is k e.2 = false) (room : l.length + 1 < scanBound)
    (hQ : ∀ h', Heap.SameBut a s.heap h' → SR knd h' a (l ++ [(knd.hash k, x)]) → Q true { s with heap := h' }) : wpAny (model P w) A (setAddHashed a x (knd.hash k)) Q E s := by
  obtain ⟨o, ep, t, es, ho, hx, hd, pm, el, hb, hf, hr, hl⟩ := R
  have el0 : ElemsOf knd es.toList := fun e he => el e (pm.mem_iff.mp he)
  have size0 : es.size < scanBound := by rw [← Array.length_toList, pm.length_eq]; exact hb
  have nf : List.findIdx? (fun e => knd.is k e.2) es.toList = none := List.findIdx?_eq_none_iff.mpr fun e he => no e (pm.mem_iff.mp he)
  have gw : ∀ (b : Bool) (s1 : Shared) (Q' : Unit → Shared → Prop), Q' () s1 → wpAny (model P w) A (match b with | true => rule "set.scan.the-table-gave-way" | false => pure ()) Q' E s1 := fun b s1 Q' q => by
    cases b
    · exact wpAny_pure q
    · exact wpAny_rule q
  unfold setAddHashed setAddHashedIn
  refine wpAny_holding (wpAny_bind (wpAny_setState_of ho hd hf ?_))
  dsimp only
  rw [byScan_of hsc size0 el0]
  simp only [↓reduceIte]
  unfold setAddByScan
  refine wpAny_bind (wpAny_bind (wpAny_rule (wpAny_bind (wpAny_setScan_of hkey ho hd hf el0 ?_))))
  rw [nf]
  dsimp only
  have w1 := layNew_perm t es (knd.hash k) x
  have w2 := layNew_fits t es (knd.hash k) x
  have w3 := layNew_ris t es (knd.hash k) x hr
  have w4 := layNew_led t es (knd.hash k) x
  generalize layNew t es (knd.hash k) x = Z at w1 w2 w3 w4 ⊢
  obtain ⟨es1, t1, dm, gv⟩ := Z
  dsimp only at w1 w2 w3 w4 ⊢
  rw [Array.toList_push] at w1
  have pm1 : es1.toList.Perm (l ++ [(knd.hash k, x)]) := w1.trans (pm.append_right _)
  have el1 : ElemsOf knd (l ++ [(knd.hash k, x)]) := fun e he => by
    rcases List.mem_append.mp he with q | q
    · exact el e q
    · rw [List.mem_singleton.mp q]
      exact ⟨⟨k, hkey, rfl⟩, hsc⟩
  have hb1 : (l ++ [(knd.hash k, x)]).length < scanBound := by rw [List.length_append]; exact room
  have led1 : w.params.followText "set-order" = true ∨ t1.led = true := hl.imp id fun z => by rw [w4]; exact z
  refine wpAny_bind (gw _ _ _ ?_)
  split
  · refine wpAny_bind ?_
    rw [hashByValue_scannable 8 hsc]
    refine wpAny_pure (sr_tail (knd := knd) gw ho hx hd pm1 el1 hb1 ?_ ?_ ?_ fun h' sb r => ?_)
    · split
      · exact w2
      · exact SetTable.fits_plain_off w2
    · split <;> exact w3
    · split <;> exact led1
    · dsimp only
      exact wpAny_pure (hQ h' sb r)
  · refine wpAny_bind (wpAny_pure ?_)
    simp only [↓reduceIte]
    refine sr_tail (knd := knd) gw ho hx hd pm1 el1 hb1 w2 w3 led1 fun h' sb r => ?_
    dsimp only
    exact wpAny_pure (hQ h' sb r)
end
section
variable {K : Type} [DecidableEq K] {P : Program} {w : World} {knd : PySem.KeyKind P w K} {A : Around} {E : Value → Shared → Prop} {s : Shared} {a d : Addr}
/-- a set without elements -/
def noSet (w : World) : Obj := { cls := .type "set", dict := none, data := .set #[] 0 (.fresh 0 0 (!w.params.followText "set-order")) }
theorem led_new (w : World) : w.params.followText "set-order" = true ∨ (SetTable.fresh 0 0 (!w.params.followText "set-order")).led = true := by
  show _ ∨ (!w.params.followText "set-order") = true
  cases w.params.followText "set-order"
  · exact .inr rfl
  · exact .inl rfl
theorem sr_new {h : Heap} (ho : h.get? a = some (noSet w)) : SR knd h a [] :=
  ⟨_, 0, _, #[], ho, ⟨rfl, rfl, rfl⟩, rfl, List.Perm.refl _, (fun e he => nomatch he), by decide, rfl, List.Pairwise.nil, led_new w⟩
theorem relaid_nil (t : SetTable) (n : Nat) : ∃ t', t.relaid #[] n = some (t', #[]) ∧ t'.place = #[] ∧ t'.led = t.led ∧ t'.dummies = #[] := by
  have nl : ∀ m, ((List.range (m + 1)).filterMap fun j => (((Array.replicate (m + 1) (none : Option Nat)).getD j none).map fun z => (j, z))) = [] := fun m => by
    rw [List.filterMap_eq_nil_iff]
    intro j hj
    have q : (Array.replicate (m + 1) (none : Option Nat)).getD j none = none := by
      rw [Array.getD_eq_getD_getElem?]
      cases e : (Array.replicate (m + 1) (none : Option Nat))[j]? with
      | none => rfl
      | some z =>
        rw [Array.getElem?_replicate] at e
        split at e
        · rw [← Option.some.inj e]; rfl
        · cases e
    rw [q]
    rfl
  have e : t.relaid #[] n = some ({ mask := SetTable.sizeAbove n - 1, place := (((List.range (SetTable.sizeAbove n - 1 + 1)).filterMap fun j => (((Array.replicate (SetTable.sizeAbove n - 1 + 1) (none : Option Nat)).getD j none).map fun z => (j, z))).map (·.1)).toArray, dummies := #[], finger := t.finger, led := t.led, moves := t.movedTo (SetTable.sizeAbove n - 1), plain := t.plain }, (((List.range (SetTable.sizeAbove n - 1 + 1)).filterMap fun j => (((Array.replicate (SetTable.sizeAbove n - 1 + 1) (none : Option Nat)).getD j none).map fun z => (j, z))).map (·.2)).toArray) := rfl
  rw [nl] at e
  exact ⟨_, e, rfl, rfl, rfl⟩
theorem sr_room {n : Nat} {Q : Unit → Shared → Prop} (hn : n < 64) (ho : s.heap.get? a = some (noSet w)) (hQ : ∀ h', Heap.SameBut a s.heap h' → SR knd h' a [] → Q () { s with heap := h' }) : wpAny (model P w) A (setRoomFor a n) Q E s := by
  unfold setRoomFor
  refine wpAny_bind (wpAny_setState_of ho rfl rfl ?_)
  cases q : SetTable.roomFor (SetTable.fresh 0 0 (!w.params.followText "set-order")) n with
  | none => exact wpAny_pure (hQ s.heap (Heap.SameBut.refl a s.heap) (sr_new ho))
  | some m =>
    have hm : m = n * 2 := by
      unfold SetTable.roomFor at q
      split at q
      · have e := Option.some.inj q
        have z : (SetTable.fresh 0 0 (!w.params.followText "set-order")).place.size = 0 := rfl
        rw [z] at e
        omega
      · cases q
    have all : ∀ i, i < 64 → SetTable.sizeAbove (i * 2) ≤ 256 := by decide +kernel
    have line : ¬ SetTable.sizeAbove m > sizeLine := by
      have := all n hn
      rw [hm, sizeLine_eq]
      omega
    obtain ⟨t', e1, e2, e3, e4⟩ := relaid_nil (SetTable.fresh 0 0 (!w.params.followText "set-order")) m
    unfold setRelay
    dsimp only
    refine wpAny_bind (wpAny_setState_of ho rfl rfl ?_)
    dsimp only
    rw [if_neg line]
    try refine wpAny_bind (wpAny_pure ?_)
    have ro : (#[] : Array (Int × Value)).map (·.1) = #[] := by simp
    rw [ro, e1]
    refine wpAny_bind (wpAny_pure ?_)
    refine wpAny_storeSet_of ho rfl (hQ _ (Heap.SameBut.update ..) ?_) (Nat.zero_le _)
    exact ⟨_, _, t', #[], store_at (es' := #[]) (t' := t') ho rfl, ⟨rfl, rfl, rfl⟩, rfl, List.Perm.refl _, (fun e he => nomatch he), by decide, by
      unfold SetTable.fits SetTable.fill
      rw [e2, e4]
      simp, by rw [e2]; exact List.Pairwise.nil, (led_new w).imp id fun z => by rw [e3]; exact z⟩
end
/-! ### set(d) -/
def entOf (e : DictEntry) : Int × Value := (e.hash, e.key)
section
variable {K : Type} [DecidableEq K] {P : Program} {w : World} {knd : PySem.KeyKind P w K} {A : Around} {E : Value → Shared → Prop} {s : Shared} {a d : Addr}
theorem pairs_at {des : List DictEntry} {kvs : List (K × Value)} (p : Pairs knd des kvs) : ∀ {i : Nat} {e : DictEntry}, des[i]? = some e → ∃ q, kvs[i]? = some q ∧ knd.is q.1 e.key = true := by
  induction p with
  | nil => intro i e h; cases h
  | @cons e0 kv es kvs h1 h2 r ih =>
    intro i e h
    cases i with
    | zero =>
      cases h
      exact ⟨kv, rfl, h1⟩
    | succ i => exact ih h
/-- the entry at i has a key that none ahead of it has -/
theorem pairs_new {des : List DictEntry} {kvs : List (K × Value)} (p : Pairs knd des kvs) (nd : (kvs.map (·.1)).Nodup) {i : Nat} {e : DictEntry} (he : des[i]? = some e) {q : K × Value} (hq : kvs[i]? = some q) :
    ∀ x ∈ (des.take i).map entOf, knd.is q.1 x.2 = false := by
  intro x hx
  obtain ⟨e2, h2, rfl⟩ := List.mem_map.mp hx
  obtain ⟨j, hj, e3⟩ := List.mem_iff_getElem.mp h2
  have lj : j < i ∧ j < des.length := by
    rw [List.length_take] at hj
    omega
  have ej : des[j]? = some e2 := by
    rw [List.getElem_take] at e3
    rw [List.getElem?_eq_getElem lj.2, e3]
  obtain ⟨q2, g2, k2⟩ := pairs_at p ej
  cases c : knd.is q.1 e2.key with
  | false => exact c
  | true =>
    have same : q.1 = q2.1 := knd.inj e2.key q.1 q2.1 c k2
    have m1 : (kvs.map (·.1))[i]? = some q.1 := by rw [List.getElem?_map, hq]; rfl
    have m2 : (kvs.map (·.1))[j]? = some q2.1 := by rw [List.getElem?_map, g2]; rfl
    have li : i < (kvs.map (·.1)).length := (List.getElem?_eq_some_iff.mp m1).1
    have lj2 : j < (kvs.map (·.1)).length := (List.getElem?_eq_some_iff.mp m2).1
    have ne := List.pairwise_iff_getElem.mp nd j i lj2 li lj.1
    rw [List.getElem?_eq_getElem li] at m1
    rw [List.getElem?_eq_getElem lj2] at m2
    exact absurd ((Option.some.inj m2).trans (same.symm.trans (Option.some.inj m1).symm)) ne
theorem take_one {α : Type} {l : List α} {i : Nat} {x : α} (h : l[i]? = some x) : l.take (i + 1) = l.take i ++ [x] := by rw [List.take_add_one, h]; rfl
theorem set_of_dict {o : Obj} {des : Array DictEntry} {ep : Nat} {kvs : List (K × Value)} {Q : Unit → Shared → Prop} (hda : d ≠ a) (hd : (d == sysModules) = false) (ho : s.heap.get? d = some o) (hx : o.ExactDict) (hdt : o.data = .dict des ep) (hk : PySem.KeysOf knd des) (hsc : ∀ e ∈ des, e.key.scannable = true)
    (p : Pairs knd des.toList kvs) (nd : (kvs.map (·.1)).Nodup) (few : des.size < 64) (hs : s.heap.get? a = some (noSet w))
    (hQ : ∀ h', Heap.SameBut a s.heap h' → SR knd h' a (des.toList.map entOf) → Q () { s with heap := h' }) : wpAny (model P w) A (Builtin.Frozenset.updateFrom "set.__init__" a (.ref d)) Q E s := by
  have hT : s.TypeIs (.ref d) "dict" := ⟨o, ho, hx.1⟩
  have n1 := PySem.F.sub_dict_set
  have n2 := PySem.F.sub_dict_frozenset
  unfold Builtin.Frozenset.updateFrom Builtin.Frozenset.isAnySet
  refine wpAny_bind ?_
  unfold orM
  refine wpAny_bind (wpAny_isInstance (T := "dict") (b := false) hT n1 ?_)
  show wpAny _ _ (isInstance (.ref d) (.type "frozenset")) _ _ _
  refine wpAny_isInstance (T := "dict") (b := false) hT n2 ?_
  simp only [Bool.false_eq_true, if_false]
  refine wpAny_bind (wpAny_typeOf hT ?_)
  simp only [beq_self_eq_true, if_true]
  refine wpAny_bind (wpAny_rule (wpAny_bind (wpAny_pure ?_)))
  try dsimp only
  rw [hd]
  simp only [Bool.false_eq_true, if_false]
  refine wpAny_bind (wpAny_dictEpoch ho hdt ?_)
  refine wpAny_bind (wpAny_dictEntries ho hdt ?_)
  refine wpAny_bind (sr_room (knd := knd) few hs fun h1 b1 r1 => ?_)
  have ho1 : h1.get? d = some o := (b1.2 d hda).trans ho
  refine wpAny_bind (wpAny_dictEntries (s := { s with heap := h1 }) ho1 hdt ?_)
  refine wpAny_bind (TI.forIn_rng (n := des.size) _ (fun rest _ s' => ∃ i h', rest = List.range' i (des.size - i) ∧ i ≤ des.size ∧ s' = { s with heap := h' } ∧ Heap.SameBut a s.heap h' ∧ SR knd h' a ((des.toList.take i).map entOf)) _ ?_ ?_ _ ?_)
  · rintro x rest b s' ⟨i, h', e1, e2, rfl, e4, e5⟩
    have hi : i < des.size := by
      rcases Nat.lt_or_ge i des.size with q | q
      · exact q
      · rw [Nat.sub_eq_zero_of_le q] at e1
        cases e1
    have hxi : x = i ∧ rest = List.range' (i + 1) (des.size - (i + 1)) := by
      have : des.size - i = (des.size - (i + 1)) + 1 := by omega
      rw [this, List.range'_succ] at e1
      injection e1 with q1 q2
      exact ⟨q1, q2⟩
    obtain ⟨rfl, rfl⟩ := hxi
    have ho2 : h'.get? d = some o := (e4.2 d hda).trans ho
    have hl : x < des.toList.length := by rw [Array.length_toList]; exact hi
    have ex : des[x]? = some des[x] := Array.getElem?_eq_getElem hi
    have exl : des.toList[x]? = some des[x] := by rw [Array.getElem?_toList]; exact ex
    obtain ⟨q, g1, g2⟩ := pairs_at p exl
    obtain ⟨k0, g3, g4⟩ := hk des[x] (Array.getElem_mem hi)
    have same : k0 = q.1 := knd.inj _ _ _ g3 g2
    rw [same] at g4
    refine wpAny_bind (wpAny_dictEntries (s := { s with heap := h' }) ho2 hdt ?_)
    rw [ex]
    dsimp only
    refine wpAny_bind (wpAny_holding ?_)
    rw [g4]
    refine sr_add (s := { s with heap := h' }) e5 g2 (hsc _ (Array.getElem_mem hi)) (pairs_new p nd exl g1) ?_ fun h2 sb r2 => ?_
    · rw [List.length_map, List.length_take, Array.length_toList]
      show min x des.size + 1 < 4096
      omega
    · have ho3 : h2.get? d = some o := (sb.2 d hda).trans ho2
      refine wpAny_bind (wpAny_dictEpoch (s := { s with heap := h2 }) ho3 hdt ?_)
      simp only [bne_self_eq_false, Bool.false_eq_true, if_false]
      refine wpAny_pure ⟨x + 1, h2, rfl, hi, rfl, e4.trans sb, ?_⟩
      rw [take_one exl, List.map_append]
      show SR knd h2 a (_ ++ [(des[x].hash, des[x].key)])
      rw [g4]
      exact r2
  · rintro b s' ⟨i, h', e1, e2, rfl, e4, e5⟩
    have hi : i = des.size := by
      rcases Nat.lt_or_ge i des.size with q | q
      · have : des.size - i = (des.size - (i + 1)) + 1 := by omega
        rw [this, List.range'_succ] at e1
        cases e1
      · omega
    subst hi
    rw [List.take_of_length_le (by rw [Array.length_toList]; omega)] at e5
    exact wpAny_pure (hQ h' e4 e5)
  · exact ⟨0, h1, by rw [Nat.sub_zero], Nat.zero_le _, rfl, b1, r1⟩
end
/-! ### the calls -/
section
variable {K : Type} [DecidableEq K] {P : Program} {w : World} {knd : PySem.KeyKind P w K} {A : Around} {E : Value → Shared → Prop} {s : Shared} {a d : Addr}
set_option maxHeartbeats 8000000 in
theorem call_set_dict {o : Obj} {des : Array DictEntry} {ep : Nat} {kvs : List (K × Value)} {Q : Value → Shared → Prop} (hd : (d == sysModules) = false) (ho : s.heap.get? d = some o) (hx : o.ExactDict) (hdt : o.data = .dict des ep) (hk : PySem.KeysOf knd des) (hsc : ∀ e ∈ des, e.key.scannable = true)
    (p : Pairs knd des.toList kvs) (nd : (kvs.map (·.1)).Nodup) (few : des.size < 64)
    (hQ : ∀ h', (∀ b u, s.heap.get? b = some u → h'.get? b = some u) → SR knd h' s.heap.objs.size (des.toList.map entOf) → Q (.ref s.heap.objs.size) { s with heap := h' }) : wpAny (model P w) A (call (.type "set") [.ref d]) Q E s := by
  obtain ⟨c, tl, hmro⟩ := F.called_set.mro
  have hmade := F.called_set.made
  have hsub := F.called_set.sub
  have h1 := F.called_set.notType
  have h2 := F.called_set.canCreate
  have hct := F.typeCall_set_1 (.ref d)
  have hli := F.called_set.init.lookup
  have hbi := F.called_set.init.bind (.ref s.heap.objs.size)
  have hS : (s.heap.push (noSet w)).get? s.heap.objs.size = some (noSet w) := Heap.get?_push_size _ rfl
  have hT : Shared.TypeIs { s with heap := s.heap.push (noSet w) } (.ref s.heap.objs.size) "set" := ⟨_, hS, rfl⟩
  refine wpAny_call (codeAny_of_tree ?_)
  show wpAny _ _ (callAny (.type "set") _) _ _ _
  refine wpAny_pure ⟨Code.quiet_builtin _ (by decide +kernel), codeAny_builtin F.entry_type_call ?_⟩
  rw [Around.under_plain (weight_type_call_type "set" [.ref d] []) rfl]
  repeat (any_goals (first | assumption | wp_step))
  refine codeAny_mono (code_set_led1 (.ref d) (E := E) (Q₁ := fun obj s1 => obj = .ref s.heap.objs.size ∧ s1 = { s with heap := s.heap.push (noSet w) }) ⟨rfl, rfl⟩) fun r s1 hr => ?_
  match r, hr with
  | .error e, hr => exact hr
  | .ok .next, hr => exact hr.elim
  | .ok .brk, hr => exact hr.elim
  | .ok .cont, hr => exact hr.elim
  | .ok (.ret obj), hr =>
    obtain ⟨rfl, rfl⟩ := hr
    repeat (any_goals (first | assumption | wp_step))
    refine codeAny_mono (codeAny_call_builtin (R := wants (fun r s2 => r = .none ∧ Q (.ref s.heap.objs.size) s2) E) F.called_set.init.plain F.entry_set_init (check_set_init_1 hT ?_)) fun r2 s2 hr2 => ?_
    · have hda : d ≠ s.heap.objs.size := Nat.ne_of_lt (Heap.lt_size ho)
      have up : ∀ {A' : Around} {Q' : Unit → Shared → Prop} {E' : Value → Shared → Prop}, (∀ h', Heap.SameBut s.heap.objs.size (s.heap.push (noSet w)) h' → SR knd h' s.heap.objs.size (des.toList.map entOf) → Q' () { s with heap := h' }) →
          wpAny (model P w) A' (Builtin.Frozenset.updateFrom "set.__init__" s.heap.objs.size (.ref d)) Q' E' { s with heap := s.heap.push (noSet w) } := fun q =>
        set_of_dict (s := { s with heap := s.heap.push (noSet w) }) hda hd (Heap.get?_push_of_some _ ho) hx hdt hk hsc p nd few hS q
      unfold Builtin.«set.__init__» noKeywords
      generalize hU : Builtin.Frozenset.updateFrom = U at up ⊢
      wp_walk
      refine up fun h' sb r => ?_
      show wpAny _ _ (ret Value.none) _ _ _
      exact wpAny_pure ⟨rfl, hQ h' (fun b u e => (sb.2 b (Nat.ne_of_lt (Heap.lt_size e))).trans (Heap.get?_push_of_some _ e)) r⟩
    · match r2, hr2 with
      | .error e, hr2 => exact hr2
      | .ok .next, hr2 => exact hr2.elim
      | .ok .brk, hr2 => exact hr2.elim
      | .ok .cont, hr2 => exact hr2.elim
      | .ok (.ret v), hr2 =>
        obtain ⟨rfl, hq⟩ := hr2
        repeat (any_goals (first | assumption | wp_step))
end
/-! ### sorted of such a set -/
def strOf (v : Value) : Str := match v with
  | .str x _ => x
  | _ => Str.empty
theorem strs_all : ∀ {us : List Value}, (∀ u ∈ us, ∃ x t, u = Value.str x t) → StrsAre us (us.map strOf)
  | [], _ => .nil
  | u :: us, h => by
    obtain ⟨x, t, rfl⟩ := h u List.mem_cons_self
    exact .cons x t (strs_all fun v hv => h v (List.mem_cons_of_mem _ hv))
section
variable {P : Program} {w : World} {A : Around} {E : Value → Shared → Prop} {s : Shared} {a : Addr} {l : List (Int × Value)}
theorem sorted_sr {Q : Value → Shared → Prop} (R : SR (mixKind P w) s.heap a l) (hh : A.handled = none) (few : l.length < 64) (hs : ∀ e ∈ l, ∃ x t, e.2 = Value.str x t)
    (hQ : ∀ s' p (out : Array Value) (c : Nat) (ys : List Str), (∀ b o, s.heap.get? b = some o → s'.heap.get? b = some o) → s'.gens = s.gens → s'.os = s.os → s.heap.objs.size ≤ p → s'.heap.get? p = some (seqObj "list" out c) → StrsAre out.toList ys →
      ys.Perm (l.map fun e => strOf e.2) → sortedS ys = true → Q (.ref p) s') : wpAny (model P w) A (call (.builtin "sorted") [.ref a]) Q E s := by
  obtain ⟨o, ep, t, es, ho, hx, hd, pm, el, hb, hf, hr, hl⟩ := R
  have size1 : es.size < scanBound := by rw [← Array.length_toList, pm.length_eq]; exact hb
  refine Calls.call_function_entry PyProof.Rows.kind_sorted PyProof.Rows.plain_sorted PyProof.Rows.entry_sorted (PyProof.Rows.args_sorted1 _) ?_
  unfold Builtin.«sorted»
  refine wpAny_bind (m := checkCount "sorted" 1 1 _) (wpAny_pure (wpAny_bind (collect_set (A := A.in1) hh ⟨o, ho, hx.1, hd⟩ hf size1 hr hl fun s1 vs k1 hz g1 o1 pv => ?_)))
  have pl : vs.Perm (l.map (·.2)) := pv.trans (pm.map _)
  have lv : vs.length = l.length := by rw [pl.length_eq, List.length_map]
  have hI : StrsAre vs (vs.map strOf) := strs_all fun v hv => by
    obtain ⟨e, he, q⟩ := List.mem_map.mp (pl.mem_iff.mp hv)
    obtain ⟨x, t, h1⟩ := hs e he
    exact ⟨x, t, by rw [← q, h1]⟩
  have pk : (vs.map strOf).Perm (l.map fun e => strOf e.2) := by
    have q := pl.map strOf
    rw [List.map_map] at q
    exact q
  refine wpAny_bind (wpAny_newList ?_ (by rw [lv, sizeLine_eq]; omega))
  have hoL : (s1.heap.push (seqObj "list" vs.toArray 0)).get? s1.heap.objs.size = some (seqObj "list" vs.toArray 0) := Heap.get?_push_size _ rfl
  refine wpAny_bind (wpAny_holding (wpAny_call_entry PyProof.Rows.slot_list_sort ⟨_, hoL, rfl⟩ PyProof.Rows.entry_list_sort
    (list_sort_treeK PyProof.Rows.strKind_oneLt (s := { s1 with heap := s1.heap.push (seqObj "list" vs.toArray 0) }) hoL hI.keysOf (fun v1 v2 rest e => keyKind_strs (by rw [← e]; exact hI)) (by rw [lv]; exact few) fun st' hp hs2 => ⟨_, rfl, ?_⟩)
    (PyProof.Rows.args_list_sort _)))
  obtain ⟨ys, q1, q2, q3⟩ := sorted_out_str hI hp hs2
  obtain ⟨c, hc⟩ := PyProof.Rows.sortedHeap_at (vs := vs) (out := (arrOf st').map (·.2)) hoL
  refine wpAny_pure ⟨_, rfl, hQ _ s1.heap.objs.size _ c ys (fun b u e => ?_) g1 o1 hz hc q1 (q2.trans pk) q3⟩
  have q := k1 b u e
  have hlt := Heap.lt_size q
  show (PyProof.Rows.sortedHeap (s1.heap.push (seqObj "list" vs.toArray 0)) s1.heap.objs.size vs _).get? b = some u
  rw [PyProof.Rows.sortedHeap_old (Nat.ne_of_lt hlt) (by rw [size_push']; exact Nat.lt_succ_of_lt hlt)]
  exact Heap.get?_push_of_some _ q
end
/-! ### over the layer -/
/-- the set of the texts ks -/
def SetS (P : Program) (w : World) (a : Addr) (ks : List Str) : HO := .ext fun h => ∃ l, SR (mixKind P w) h a l ∧ (∀ e ∈ l, ∃ x t, e.2 = Value.str x t) ∧ (l.map fun e => strOf e.2) = ks
section
variable {X : Cx}
/-- set(d), d a dict whose keys are texts -/
theorem cr_setD : CallR X (.type "set") (fun xs H Q => ∃ (a : Addr) (kvs : List (Key × V)) (ks : List Str), xs = [.ref a] ∧ H a = some (.dK kvs) ∧ kvs.map (·.1) = ks.map Sum.inr ∧ ks.length < 64 ∧ ∀ p, H p = none → Q (.ref p) (upd H p (SetS X.prog X.w p ks))) := by
  intro pins s σ H xs us Q I r h
  obtain ⟨a, kvs, ks, rfl, hd, hks, few, q⟩ := h
  rw [Vals.ref1 r]
  obtain ⟨z, lo, vs, rel, o, des, ep, ho, hx, hdt, hk, pr, nd⟩ := dk_of I.hok hd
  have keys : vs.map (·.1) = ks.map Sum.inr := rel.keys.symm.trans hks
  have lens : vs.length = ks.length := by
    have e := congrArg List.length keys
    rw [List.length_map, List.length_map] at e
    exact e
  have plen : ∀ {xs : List DictEntry} {ys : List (Key × Value)}, Pairs (mixKind X.prog X.w) xs ys → xs.length = ys.length := by
    intro xs ys p
    induction p with
    | nil => rfl
    | cons _ _ _ ih => rw [List.length_cons, List.length_cons, ih]
  have few2 : des.size < 64 := by rw [← Array.length_toList, plen pr, lens]; exact few
  have txt : ∀ (i : Nat) (e : DictEntry), des.toList[i]? = some e → ∃ y t, ks[i]? = some y ∧ e.key = Value.str y t := fun i e he => by
    obtain ⟨p, g1, g2⟩ := pairs_at pr he
    have g3 : (vs.map (·.1))[i]? = some p.1 := by rw [List.getElem?_map, g1]; rfl
    rw [keys, List.getElem?_map] at g3
    cases e4 : ks[i]? with
    | none => rw [e4] at g3; cases g3
    | some y =>
      rw [e4] at g3
      have e5 : Sum.inr y = p.1 := Option.some.inj g3
      rw [← e5] at g2
      obtain ⟨t, ev⟩ := Value.isStrOf_shape (x := y) (v := e.key) g2
      exact ⟨y, t, rfl, ev⟩
  have txt2 : ∀ e ∈ des.toList, ∃ y t, e.key = Value.str y t := fun e he => by
    obtain ⟨i, hi, e2⟩ := List.mem_iff_getElem.mp he
    obtain ⟨y, t, _, q⟩ := txt i e (by rw [List.getElem?_eq_getElem hi, e2])
    exact ⟨y, t, q⟩
  refine call_set_dict (knd := mixKind X.prog X.w) lo ho hx hdt hk (fun e he => ?_) pr nd few2 fun h' kp R => ?_
  · obtain ⟨y, t, q⟩ := txt2 e (by simpa using he)
    rw [q]
    rfl
  · have es : ((des.toList.map entOf).map fun e => strOf e.2) = ks := by
      rw [List.map_map]
      refine List.ext_getElem? fun i => ?_
      rw [List.getElem?_map]
      cases e : des.toList[i]? with
      | none =>
        have : ks.length ≤ i := by rw [← lens, ← plen pr]; exact List.getElem?_eq_none_iff.mp e
        rw [List.getElem?_eq_none_iff.mpr this]
        rfl
      | some x =>
        obtain ⟨y, t, g1, g2⟩ := txt i x e
        rw [g1]
        show some (strOf x.key) = some y
        rw [g2]
        rfl
    have st : ∀ e ∈ des.toList.map entOf, ∃ x t, e.2 = Value.str x t := fun e he => by
      obtain ⟨e2, h2, rfl⟩ := List.mem_map.mp he
      exact txt2 e2 h2
    refine ⟨.ref s.heap.objs.size, upd H s.heap.objs.size (SetS X.prog X.w s.heap.objs.size ks), I.laid (t' := s.toks) kp (Nat.le_refl _) ⟨⟨_, R, st, es⟩, let ⟨o, _, _, _, e, _⟩ := R; ⟨o, e⟩, fun h1 h2 ⟨l, r1, r2, r3⟩ k => ⟨l, r1.move k, r2, r3⟩⟩, rfl, q _ (I.hok.fresh (Nat.le_refl _))⟩
/-- sorted of it -/
theorem cr_sortedTx (hc : X.calm = true) : CallR X (.builtin "sorted") (fun xs H Q => ∃ (a : Addr) (ks : List Str), xs = [.ref a] ∧ H a = some (SetS X.prog X.w a ks) ∧ ks.length < 64 ∧ ∀ ys p, ys.Perm ks → sortedS ys = true → H p = none → Q (.ref p) (upd H p (.lst (ys.map V.str)))) := by
  intro pins s σ H xs us Q I r h
  obtain ⟨a, ks, rfl, ha, few, q⟩ := h
  obtain ⟨⟨l, R, st, rfl⟩, _⟩ := I.hok a _ ha
  rw [Vals.ref1 r]
  rw [List.length_map] at few
  refine sorted_sr R (I.ok.hd hc) few st fun s' p out c ys k g o hp hg hi pm so => ?_
  have hlen : (ys.map V.str).length ≤ sizeLine := by rw [List.length_map, pm.length_eq, List.length_map, sizeLine_eq]; omega
  have hn : H p = none := I.hok.fresh hp
  have J : Inv X pins σ (upd H p (.lst (ys.map V.str))) { s with heap := s'.heap, gens := s'.gens, drawn := s'.drawn, toks := s'.toks } :=
    I.call (ch := []) (Un.laid k hp hn) (I.hok.laid k hp ⟨hlen, out.toList, c, vals_of_strs hi, hg⟩) (by rw [g]; exact I.bare) (fun _ z => nomatch z)
  have e : s' = { s with heap := s'.heap, gens := s'.gens, drawn := s'.drawn, toks := s'.toks } := by
    cases s'
    cases s
    cases o
    rfl
  rw [e]
  exact ⟨.ref p, _, J, rfl, q ys p pm so hn⟩
end
end Fs
set_option Elab.async false
set_option linter.all false
set_option maxRecDepth 100000
set_option maxHeartbeats 4000000
/-! FsE: tuple(d), list(d.values()) -/
namespace Fs
open PySem PySem.Spec PyProof.Rows L2
open PySem.W (Frag)
section
variable {P : Program} {w : World} {A : Around} {E : Value → Shared → Prop} {s : Shared} {T : String} {r d : Addr} {n : Nat} {Pv : Nat → Value → Prop} {OK : Heap → Prop}
theorem new_tuple_of {Q1 : Value → Shared → Prop} (S : PySem.W.KdlSrc P w T r d n Pv OK) (nt : isSubtype (.type T) (.type "tuple") = pure false) (hne : (Value.type T == Value.type "tuple") = false) (hh : A.handled = none) (ok : OK s.heap) (hn : n ≤ sizeLine)
    (h : ∀ (h' : Heap) (tk : Nat) (acc : Array Value), (∀ b o, s.heap.get? b = some o → h'.get? b = some o) → ItemsOf Pv acc n → Q1 (.ref h'.objs.size) { s with heap := h'.push { cls := .type "tuple", data := .seq acc }, toks := tk }) :
    codeAny (model P w) A (.call (.builtin "tuple.__new__") ⟨[.type "tuple", .ref r], []⟩) (wants Q1 E) s := by
  refine codeAny_of_tree ?_
  show wpAny _ A.in1 (do checkBuiltinCall "tuple.__new__" ⟨[.type "tuple", .ref r], []⟩; again (.builtin "tuple.__new__" ⟨[.type "tuple", .ref r], []⟩)) _ _ s
  refine wpAny_bind (wpAny_of_eq (F.newCall_tuple_1 _) (wpAny_pure ⟨plainId_quiet F.plain_tuple_new _, codeAny_builtin F.entry_tuple_new ?_⟩))
  rw [Around.under_plainId F.plain_tuple_new _]
  have hsub := sub_tuple_self
  have hinit := init_tuple_lookup
  have hmh := madeHere_tuple
  have hTI := S.type s ok
  have hh1 : A.in1.handled = none := hh
  wp_walk using wpAny_typeOf hTI, PySem.W.kdu_collect (A := A.in1) S hh1 ok hn
  intro h' tk acc hk hacc
  show wpAny _ _ (Builtin.Tuple.tupleExact acc.toList.toArray >>= fun v => ret v) _ _ _
  have ea : acc.toList.toArray = acc := by simp
  rw [ea]
  unfold Builtin.Tuple.tupleExact
  exact wpAny_bind (wpAny_newObj_type (wpAny_pure (h h' tk acc hk hacc)) (by show acc.size ≤ sizeLine; rw [hacc.1]; exact hn))
theorem call_tuple_src {Q : Value → Shared → Prop} (S : PySem.W.KdlSrc P w T r d n Pv OK) (nt : isSubtype (.type T) (.type "tuple") = pure false) (hne : (Value.type T == Value.type "tuple") = false) (hh : A.handled = none) (ok : OK s.heap) (hn : n ≤ sizeLine)
    (h : ∀ (h' : Heap) (tk : Nat) (acc : Array Value), (∀ b o, s.heap.get? b = some o → h'.get? b = some o) → ItemsOf Pv acc n → Q (.ref h'.objs.size) { s with heap := h'.push { cls := .type "tuple", data := .seq acc }, toks := tk }) :
    wpAny (model P w) A (call (.type "tuple") [.ref r]) Q E s := by
  refine callType_codes (Q₁ := fun obj s1 => s1.TypeIs obj "tuple" ∧ Q obj s1) F.called_tuple (F.typeCall_tuple_1 _) F.entry_object_init
    (new_tuple_of (A := A.in1) S nt hne hh ok hn fun h' tk acc hk hacc => ⟨⟨_, Heap.get?_push_size _ rfl, rfl⟩, h h' tk acc hk hacc⟩) fun obj s1 h1 => ?_
  exact ⟨h1.1, F.args_object_init_2 obj _, object_init_meets F.called_tuple.init.lookup F.called_tuple.made (by decide) P w A.in1 _ s1 ⟨h1.1, rfl, h1.2⟩⟩
end
theorem dict_no_tuple : isSubtype (.type "dict") (.type "tuple") = pure false := by rw [isSubtype_type]; kernel_rfl
section
variable {X : Cx}
/-- tuple(d): its keys -/
theorem call_tupleD (hc : X.calm = true) : CallR X (.type "tuple") (fun xs H Q => ∃ (a : Addr) (kvs : List (Key × V)), xs = [.ref a] ∧ H a = some (.dK kvs) ∧ ∀ p, H p = none → Q (.ref p) (upd H p (.tup (kvs.map fun kv => kV kv.1)))) := by
  intro pins s σ H xs us Q I r h
  obtain ⟨a, kvs, rfl, hd, q⟩ := h
  rw [Vals.ref1 r]
  obtain ⟨z, lo, vs, rel, dd⟩ := dk_of I.hok hd
  obtain ⟨ep, hat⟩ := dd.dictAt
  have lens : kvs.length = vs.length := Paired.length rel
  have ek : (kvs.map fun kv => kV kv.1) = vs.map fun p => kV p.1 := by
    have e := congrArg (List.map kV) rel.keys
    rw [List.map_map, List.map_map] at e
    exact e
  refine call_tuple_src (PySem.W.kdl_dict (knd := mixKind X.prog X.w) (kvs := vs) (ep := ep) lo) dict_no_tuple (by decide) (I.ok.hd hc) hat (by rw [← lens]; exact z) fun h' tk acc hk hacc => ?_
  have hv : Vals (vs.map fun p => kV p.1) acc.toList := by
    refine vals_of_at (by rw [List.length_map, Array.length_toList]; exact hacc.1.symm) fun j x u e1 e2 => ?_
    obtain ⟨k, y, g1, g2⟩ := hacc.2 j u (by rw [← Array.getElem?_toList]; exact e2)
    rw [List.getElem?_map, g1] at e1
    rw [← Option.some.inj e1]
    exact keyIs_rel (show keyIs k u = true from g2)
  have I1 : Inv X pins σ H { s with heap := h', toks := tk } := I.kept hk
  refine ⟨.ref h'.objs.size, upd H h'.objs.size (.tup (kvs.map fun kv => kV kv.1)), I1.laid (t' := tk) (fun b u e => Heap.get?_push_of_some _ e) (Nat.le_refl _) (show ObjOk X.prog X.w _ _ _ (.tup _) from ⟨by rw [List.length_map]; exact z, acc.toList, by rw [ek]; exact hv, by rw [Array.toArray_toList]; exact IsTup.new _ _⟩), rfl, q _ (I1.hok.fresh (Nat.le_refl _))⟩
/-- list(e.values()) -/
def tListVals (te : TE) : TE := fun σ H Q => te σ H fun x H1 => ∃ (d : Addr) (kvs : List (Key × V)), x = .ref d ∧ H1 d = some (.dK kvs) ∧ ∀ p, H1 p = none → Q (.ref p) (upd H1 p (.lst (kvs.map (·.2))))
theorem kv_vals : ∀ {kvs : List (Key × V)} {vs : List (Key × Value)}, KV kvs vs → Vals (kvs.map (·.2)) (vs.map (·.2))
  | _, _, .nil => .nil
  | _, _, .cons h t => .cons h.2 (kv_vals t)
theorem pe_listVals {e : Expr} {te : TE} {p apos cpos pos : Pos} (hc : X.calm = true) (he : PE X e te) (hg : Gl X "list") (hm : X.mg "list" = none) (hv : bootBuiltins "list" = some (.type "list")) (hbase : attributeBase e "values" X.env (eval e X.env) = eval e X.env := by rfl) (hline : (apos.endLine == cpos.line) = true := by rfl)
    (hs : starEach [.Call (.Attribute e "values" apos) [] [] cpos] X.env = (false, eval (.Call (.Attribute e "values" apos) [] [] cpos) X.env) :: starEach [] X.env := by rfl) :
    PE X (.Call (.Name "list" p) [.Call (.Attribute e "values" apos) [] [] cpos] [] pos) (tListVals te) := by
  refine ⟨fun pins s σ H Q I hq => ?_⟩
  refine wpAny_Call_Name_kw (ld_blt I hg hm hv ?_)
  refine PyProof.Rows.callWith_type1 ?_ hs rfl
  rw [hs]
  show wpAny _ _ (spliced ((false, eval (.Call (.Attribute e "values" apos) [] [] cpos) X.env) :: backTo pos (starEach [] X.env))) _ _ s
  refine Calls.spliced_cons (wpAny_Call_method (T := "dict") (id := "dict.values") hbase rfl hline F.plainAttrs_dict F.slot_dict_values F.type_dict_values (thn (he.run pins s σ H _ I hq) fun u s1 ⟨x, H1, I1, rx, d, kvs, ex, hd, q⟩ => ?_))
  subst ex
  obtain rfl : u = Value.ref d := rx
  obtain ⟨hz, hs0, vs, kv, hdo⟩ := dk_of I1.hok hd
  obtain ⟨ep, hat⟩ := hdo.dictAt
  have lens : kvs.length = vs.length := Paired.length kv
  refine ⟨hdo.typeIs, hdo.mapOf.noDict, ?_⟩
  show wpAny _ _ (callWith cpos (.builtin "dict.values") [.ref d] [] []) _ X.xe s1
  refine method_meetsIn F.slot_dict_values F.entry_dict_values rfl (PySem.evalArgs_none ⟨rfl, hdo.typeIs, F.args_dict_values_1 _, _, meets_dict_values (mixKind X.prog X.w) d hs0, ⟨vs, hdo⟩, ?_⟩)
  refine Calls.spliced_nil ?_
  refine PySem.W.kdl_call (PySem.W.kdl_values (knd := mixKind X.prog X.w) (kvs := vs) (ep := ep)) (I1.ok.hd hc) ⟨⟨_, Heap.get?_push_size _ rfl, rfl, rfl⟩, hat.push _⟩ (by rw [← lens]; exact hz) fun h' tk acc c hk hS hacc => ?_
  have I2 : Inv X pins σ H1 { s1 with heap := s1.heap.push { cls := .type "dict_values", data := .fields #[.ref d] } } := I1.kept (t' := s1.toks) fun b ob q => Heap.get?_push_of_some _ q
  have ea : acc.toList = vs.map (·.2) := PySem.W.kdl_vals_eq (kvs := vs) acc.toList (by rw [Array.length_toList]; exact hacc.1) (fun j u e => hacc.2 j u (by rw [← Array.getElem?_toList]; exact e))
  have hvv : Vals (kvs.map (·.2)) acc.toList := by rw [ea]; exact kv_vals kv
  refine ⟨.ref _, _, I2.laid (t' := tk) hk (Nat.le_refl _) (show ObjOk X.prog X.w _ _ _ (.lst (kvs.map (·.2))) from ⟨by rw [List.length_map]; exact hz, acc.toList, c, hvv, by rw [Array.toArray_toList]; exact hS⟩), rfl, q _ (I2.hok.fresh (Nat.le_refl _))⟩
end
/-- a turn of a comprehension without a test -/
theorem yes_of {σ : L2.St} {H : Hp} {A B : Hp → Prop} (h : A H) : tYes σ H (fun b H3 => if b = true then A H3 else B H3) := by
  show if true = true then A H else B H
  rw [if_pos rfl]
  exact h
/-- what can't be reached -/
theorem pss_no {X : Cx} {ss : List Stmt} : PSs X ss (fun _ _ _ => False) := ⟨fun _ _ _ _ _ _ h => h.elim⟩
end Fs
set_option Elab.async false
set_option linter.all false
set_option maxRecDepth 100000
set_option maxHeartbeats 4000000
/-! FsF: dict comprehensions by turns; numbers by names -/
namespace Fs
open PySem PySem.Spec PyProof.Rows L2 Fh
open PySem.W (Frag)
section
variable {J : It} {n : Nat} {G : Hp → Prop} {Y : Nat → Hp → V → Hp → Prop}
/-- a dict comprehension over a walk: Pv by the turn and the heap -/
theorem dc_it (w : Walk J n G Y) {g : TG} {tt : TT} {tk tv : TE} {vs : List Nat} {σ : L2.St} {H1 : Hp} {D : Addr} {Qd : Hp → Prop} (Pv : Nat → Hp → Prop) (h0 : Pv 0 (upd H1 D (.dK []))) (hG : ∀ i H, i ≤ n → Pv i H → G H)
    (hs : ∀ i x H H', i < n → Pv i H → Y i H x H' → g x (wipe σ vs) H' fun σ2 H2 => wipe σ2 vs = wipe σ vs ∧ tt σ2 H2 fun b H3 =>
      if b = true then tk σ2 H3 fun y H4 => tv σ2 H4 fun z H5 => ∃ kvs k, y = kV k ∧ H5 D = some (.dK kvs) ∧ kvs.length < sizeLine ∧ Pv (i + 1) (upd H5 D (.dK (putK kvs k z))) else Pv (i + 1) H3) (hd : ∀ H, Pv n H → Qd H) :
    ∃ W : Nat → Nat → Hp → Prop, (∃ m, W 0 m (upd H1 D (.dK []))) ∧ ∀ i m H, W i m H →
      (J.stop i H ∧ Qd H) ∨ (J.go i H ∧ ∃ Nx : Hp → Prop, (∀ H', Nx H' → ∃ m', m' < m ∧ W (i + 1) m' H') ∧ ∀ x H', J.yld i H x H' → g x (wipe σ vs) H' fun σ2 H2 => wipe σ2 vs = wipe σ vs ∧ tt σ2 H2 fun b H3 =>
        if b = true then tk σ2 H3 fun y H4 => tv σ2 H4 fun z H5 => ∃ kvs k, y = kV k ∧ H5 D = some (.dK kvs) ∧ kvs.length < sizeLine ∧ Nx (upd H5 D (.dK (putK kvs k z))) else Nx H3) := by
  refine ⟨fun i m H => m + i = n ∧ Pv i H, ⟨n, rfl, h0⟩, fun i m H ⟨e, p⟩ => ?_⟩
  cases m with
  | zero =>
    rw [Nat.zero_add] at e
    subst e
    exact .inl ⟨w.stops H (hG _ H (Nat.le_refl _) p), hd H p⟩
  | succ m =>
    have hlt : i < n := by omega
    have q := hG i H (Nat.le_of_lt hlt) p
    exact .inr ⟨w.goes i H hlt q, Pv (i + 1), fun H' p' => ⟨m, Nat.lt_succ_self m, by omega, p'⟩, fun x H' y => hs i x H H' hlt p (w.yields i H x H' hlt q y)⟩
end
/-! ### numbers by names -/
abbrev Num : Type := List (Str × Int)
def cD (m : Num) : List (Key × V) := m.map fun q => (.inr q.1, .int q.2)
def names (m : Num) : List Str := m.map (·.1)
theorem cD_keys (m : Num) : (cD m).map (·.1) = (names m).map Sum.inr := by
  unfold cD names
  rw [List.map_map, List.map_map]
  rfl
theorem cD_len (m : Num) : (cD m).length = m.length := List.length_map _
theorem cD_val (m : Num) (y : Str) : valV (cD m) (.inr y) = (m.lookup y).map V.int := by
  induction m with
  | nil => rfl
  | cons q m ih =>
    obtain ⟨x, n⟩ := q
    by_cases e : y = x
    · subst e
      show ((List.find? (fun kv => decide (kv.1 = Sum.inr y)) ((Sum.inr y, V.int n) :: cD m)).map (·.2)) = _
      rw [List.find?_cons_of_pos (by simp), List.lookup_cons_self]
      rfl
    · have ne : ¬ ((Sum.inr x : Key) = Sum.inr y) := fun z => e (Sum.inr.inj z).symm
      show ((List.find? (fun kv => decide (kv.1 = Sum.inr y)) ((Sum.inr x, V.int n) :: cD m)).map (·.2)) = _
      rw [List.find?_cons_of_neg (by simpa using ne)]
      show valV (cD m) (.inr y) = _
      rw [ih, List.lookup_cons]
      have b : (y == x) = false := beq_eq_false_iff_ne.mpr e
      rw [b]
theorem names_len (m : Num) : (names m).length = m.length := List.length_map _
theorem lookup_some {m : Num} {y : Str} (h : y ∈ names m) : ∃ n, m.lookup y = some n ∧ (y, n) ∈ m := by
  induction m with
  | nil => cases h
  | cons q m ih =>
    obtain ⟨x, n⟩ := q
    by_cases e : y = x
    · subst e
      exact ⟨n, List.lookup_cons_self, List.mem_cons_self⟩
    · have h2 : y ∈ names m := by
        rcases List.mem_cons.mp (show y ∈ x :: names m from h) with z | z
        · exact absurd z e
        · exact z
      obtain ⟨k, h3, h4⟩ := ih h2
      exact ⟨k, by rw [List.lookup_cons, beq_eq_false_iff_ne.mpr e]; exact h3, List.mem_cons_of_mem _ h4⟩
theorem lookup_none {m : Num} {y : Str} (h : y ∉ names m) : m.lookup y = none := by
  induction m with
  | nil => rfl
  | cons q m ih =>
    obtain ⟨x, n⟩ := q
    have e : y ≠ x := fun z => h (by rw [z]; exact List.mem_cons_self)
    rw [List.lookup_cons, beq_eq_false_iff_ne.mpr e]
    exact ih fun z => h (List.mem_cons_of_mem _ z)
/-- those above 0, in the order of ys -/
def pick (m : Num) (ys : List Str) : Num := ys.filterMap fun y => (m.lookup y).bind fun n => if 0 < n then some (y, n) else none
theorem pick_snoc (m : Num) (ys : List Str) (y : Str) (n : Int) (h : m.lookup y = some n) : pick m (ys ++ [y]) = if 0 < n then pick m ys ++ [(y, n)] else pick m ys := by
  unfold pick
  rw [List.filterMap_append]
  show _ ++ List.filterMap _ [y] = _
  rw [List.filterMap_cons, h]
  by_cases p : 0 < n
  · rw [if_pos p]
    simp [p]
  · rw [if_neg p]
    simp [p]
theorem pick_names (m : Num) (ys : List Str) : ∀ y ∈ names (pick m ys), y ∈ ys := by
  intro y hy
  obtain ⟨q, hq, e⟩ := List.mem_map.mp hy
  obtain ⟨z, hz, e2⟩ := List.mem_filterMap.mp hq
  cases h : m.lookup z with
  | none => rw [h] at e2; cases e2
  | some n =>
    rw [h] at e2
    have e3 : (if 0 < n then some (z, n) else none) = some q := e2
    by_cases p : 0 < n
    · rw [if_pos p] at e3
      have e4 := Option.some.inj e3
      have e : q.1 = y := e
      rw [← e, ← e4]
      exact hz
    · rw [if_neg p] at e3
      cases e3
theorem pick_len (m : Num) (ys : List Str) : (pick m ys).length ≤ ys.length := List.length_filterMap_le _ _
/-- a new key stands at the end -/
theorem putK_new {m : Num} {y : Str} {v : V} (h : y ∉ names m) : putK (cD m) (.inr y) v = cD m ++ [(.inr y, v)] := by
  unfold putK
  have e : ((cD m).any fun kv => decide (kv.1 = Sum.inr y)) = false := by
    cases q : (cD m).any fun kv => decide (kv.1 = Sum.inr y) with
    | false => rfl
    | true =>
      obtain ⟨kv, h1, h2⟩ := List.any_eq_true.mp q
      obtain ⟨z, hz, e⟩ := List.mem_map.mp h1
      have e2 : kv.1 = Sum.inr y := of_decide_eq_true h2
      rw [← e] at e2
      have e3 : z.1 = y := Sum.inr.inj e2
      exact absurd (by rw [← e3]; exact List.mem_map_of_mem hz) h
  rw [e]
  rfl
theorem cD_snoc (m : Num) (y : Str) (n : Int) : cD (m ++ [(y, n)]) = cD m ++ [(.inr y, .int n)] := by
  unfold cD
  rw [List.map_append]
  rfl
theorem cD_kv (m : Num) : ((cD m).map fun kv => kV kv.1) = (names m).map V.str := by
  unfold cD names
  rw [List.map_map, List.map_map]
  rfl
theorem at_str {ys : List Str} {i : Nat} {x : V} (h : (ys.map V.str)[i]? = some x) : ∃ y, ys[i]? = some y ∧ x = .str y ∧ y ∈ ys := by
  rw [List.getElem?_map] at h
  cases e : ys[i]? with
  | none => rw [e] at h; cases h
  | some y =>
    rw [e] at h
    exact ⟨y, rfl, (Option.some.inj h).symm, List.mem_of_getElem? e⟩
theorem take_snoc {ys : List Str} {i : Nat} {y : Str} (h : ys[i]? = some y) : ys.take (i + 1) = ys.take i ++ [y] := by
  rw [List.take_add_one, h]
  rfl
theorem not_before {ys : List Str} {i : Nat} {y : Str} (nd : ys.Nodup) (h : ys[i]? = some y) : y ∉ ys.take i := by
  intro z
  obtain ⟨j, hj, e⟩ := List.mem_iff_getElem.mp z
  have hl : j < i ∧ j < ys.length := by
    rw [List.length_take] at hj
    omega
  have li : i < ys.length := (List.getElem?_eq_some_iff.mp h).1
  have ne := List.pairwise_iff_getElem.mp nd j i hl.2 li hl.1
  rw [List.getElem_take] at e
  rw [List.getElem?_eq_getElem li] at h
  exact ne (e.trans (Option.some.inj h).symm)
end Fs
set_option Elab.async false
set_option linter.all false
set_option maxRecDepth 100000
set_option maxHeartbeats 4000000
/-! FsG: == of two dicts of numbers, both answers -/
namespace Fs
open PySem PySem.Spec PyProof.Rows L2 Fh
open PySem.W (Frag)
/-- every number of m stands in m2 -/
def allIn (m2 : Num) : Num → Bool
  | [] => true
  | q :: m => match m2.lookup q.1 with
    | some n => (q.2 == n) && allIn m2 m
    | none => false
def eqN (m m2 : Num) : Bool := m.length == m2.length && allIn m2 m
section
variable {X : Cx} {A : Around} {s : Shared}
theorem hitsN {m2 : Num} {vb : List (Key × Value)} (rb : KV (cD m2) vb) : ∀ {m : Num} {va : List (Key × Value)}, KV (cD m) va → PySem.W.KeqHits A s vb va (allIn m2 m)
  | [], _, .nil => .nil
  | q :: m, _, .cons (b := p) h t => by
    obtain ⟨k, v⟩ := p
    obtain ⟨h1, h2⟩ := h
    have hk : Sum.inr q.1 = k := h1
    subst hk
    have rel := rb.val (.inr q.1)
    rw [cD_val] at rel
    have ih := hitsN rb t
    unfold allIn
    cases e : m2.lookup q.1 with
    | none =>
      rw [e] at rel
      exact .miss rel.none_of
    | some n =>
      rw [e] at rel
      obtain ⟨y, hy, ry⟩ := rel.some_of
      obtain ⟨t1, rfl⟩ := (show ∃ t, v = Value.int q.2 t from h2)
      obtain ⟨t2, rfl⟩ := (show ∃ t, y = Value.int n t from ry)
      obtain ⟨e1, E1, E2⟩ := HT.eqAt_int A s q.2 t1 n t2
      have ee : e1 = (q.2 == n) := by
        cases c : (q.2 == n) with
        | true => exact E2.mpr (eq_of_beq c)
        | false =>
          cases d : e1 with
          | false => rfl
          | true =>
            rw [E2.mp d, beq_self_eq_true] at c
            cases c
      rw [ee] at E1
      exact .hit hy E1 ih
/-- == of two dicts of numbers -/
def rEqN : R2 := fun x y H Q => ∃ a b m m2, x = .ref a ∧ y = .ref b ∧ H a = some (.dK (cD m)) ∧ H b = some (.dK (cD m2)) ∧ Q (.bl (eqN m m2)) H
theorem op_eqN (hu : X.A.units < cLine) : OpR X (compareOp .Eq) rEqN := by
  intro pins s σ H x y v u Q I rx ry h
  obtain ⟨a, b, m, m2, rfl, rfl, ea, eb, q⟩ := h
  obtain rfl : v = Value.ref a := rx
  obtain rfl : u = Value.ref b := ry
  obtain ⟨_, ya, va, ra, da⟩ := dk_of I.hok ea
  obtain ⟨_, yb, vb, rb, db⟩ := dk_of I.hok eb
  have l1 : va.length = m.length := by rw [← ra.length, cD_len]
  have l2 : vb.length = m2.length := by rw [← rb.length, cD_len]
  exact PySem.W.keq_eq (knd := mixKind X.prog X.w) ya yb da db hu (fun _ => hitsN rb ra) (fin_bl I q (by unfold eqN; rw [l1, l2]))
theorem eqN_self {m : Num} (nd : (names m).Nodup) : eqN m m = true := by
  have go : ∀ {l : Num}, (∀ q ∈ l, m.lookup q.1 = some q.2) → allIn m l = true := by
    intro l
    induction l with
    | nil => intro _; rfl
    | cons q l ih =>
      intro h
      unfold allIn
      rw [h q List.mem_cons_self]
      show (q.2 == q.2 && allIn m l) = true
      rw [beq_self_eq_true, ih fun p hp => h p (List.mem_cons_of_mem _ hp)]
      rfl
  have at_ : ∀ {l : Num}, (names l).Nodup → ∀ q ∈ l, l.lookup q.1 = some q.2 := by
    intro l
    induction l with
    | nil => intro _ q hq; cases hq
    | cons p l ih =>
      intro n q hq
      obtain ⟨n1, n2⟩ := List.nodup_cons.mp (show (p.1 :: names l).Nodup from n)
      rcases List.mem_cons.mp hq with e | e
      · rw [e]
        exact List.lookup_cons_self
      · have ne : q.1 ≠ p.1 := fun z => n1 (by rw [← z]; exact List.mem_map_of_mem e)
        rw [List.lookup_cons, beq_eq_false_iff_ne.mpr ne]
        exact ih n2 q e
  unfold eqN
  rw [beq_self_eq_true, go (at_ nd)]
  rfl
theorem eqN_lack {m : Num} {y : Str} {n : Int} (h : y ∉ names m) : eqN m [(y, n)] = false := by
  unfold eqN
  match m, h with
  | [], _ => rfl
  | [q], h =>
    have ne : q.1 ≠ y := fun z => h (by rw [← z]; exact List.mem_cons_self)
    show (true && allIn [(y, n)] [q]) = false
    unfold allIn
    rw [List.lookup_cons, beq_eq_false_iff_ne.mpr ne]
    rfl
  | q1 :: q2 :: m, _ => rfl
end
end Fs
set_option Elab.async false
set_option linter.all false
set_option maxRecDepth 100000
set_option maxHeartbeats 4000000
/-! FsH: words -/
namespace Fs
open PySem PySem.Spec PyProof.Rows L2 Fh
open PySem.W (Frag)
def abc : List Nat := (Str.ofString "abcdefghijklmnopqrstuvwxyz").cps.toList
def Low (x : Str) : Prop := ∀ c ∈ x.cps.toList, c ∈ abc
theorem len_tl (x : Str) : x.length = x.cps.toList.length := (Array.length_toList).symm
theorem app_tl (x y : Str) : (x ++ y).cps.toList = x.cps.toList ++ y.cps.toList := by
  show (x.cps ++ y.cps).toList = _
  exact Array.toList_append
theorem app_len (x y : Str) : (x ++ y).length = x.length + y.length := by rw [len_tl, len_tl, len_tl, app_tl, List.length_append]
theorem Low.app {x y : Str} (a : Low x) (b : Low y) : Low (x ++ y) := fun c hc => by
  rw [app_tl] at hc
  rcases List.mem_append.mp hc with z | z
  · exact a c z
  · exact b c z
theorem Low.one {c : Nat} (h : c ∈ abc) : Low ⟨#[c]⟩ := fun d hd => by
  rcases List.mem_cons.mp (show d ∈ [c] from hd) with z | z
  · rw [z]; exact h
  · cases z
theorem Low.cut {z : Str} (h : Low z) (lo hi : Option Int) : Low (cutS z lo hi) := fun c hc => by
  unfold cutS at hc
  exact h c (List.mem_of_mem_drop (List.mem_of_mem_take hc))
theorem cut_parts {z : Str} {k : Nat} (h : k ≤ z.length) : (cutS z none (some (k : Int))).length + (cutS z (some (k : Int)) none).length = z.length := by
  have e1 : (cutS z none (some (k : Int))).length = k := by
    rw [len_tl]
    unfold cutS
    rw [HT.sIx_none, HT.sIx_nat, Nat.min_eq_left h]
    show ((z.cps.toList.drop 0).take (k - 0)).length = k
    rw [List.drop_zero, Nat.sub_zero, List.length_take, ← len_tl]
    omega
  have e2 : (cutS z (some (k : Int)) none).length = z.length - k := by
    rw [len_tl]
    unfold cutS
    rw [HT.sIx_none, HT.sIx_nat, Nat.min_eq_left h]
    show ((z.cps.toList.drop k).take (z.length - k)).length = _
    rw [List.length_take, List.length_drop, ← len_tl]
    omega
  omega
theorem joinL_nil : ∀ ps : List (List Nat), TL.joinL [] ps = ps.flatten
  | [] => rfl
  | [p] => by
    show p = [p].flatten
    simp
  | p :: q :: r => by
    show p ++ ([] ++ TL.joinL [] (q :: r)) = _
    rw [List.nil_append, joinL_nil (q :: r)]
    rfl
theorem join_tl (ys : List Str) : (Txt.join (Str.ofString "") ys).cps.toList = (ys.map fun y => y.cps.toList).flatten := by
  have h := TL.tl_join (Str.ofString "") ys
  have e : TL.tl (Str.ofString "") = [] := by decide +kernel
  rw [e, joinL_nil] at h
  rw [TL.join_eq]
  exact h
theorem join_low {ys : List Str} (h : ∀ y ∈ ys, Low y ∧ y.length = 1) : Low (Txt.join (Str.ofString "") ys) ∧ (Txt.join (Str.ofString "") ys).length = ys.length ∧ (ys.map (·.length)).sum = ys.length := by
  refine ⟨fun c hc => ?_, ?_, ?_⟩
  · rw [join_tl] at hc
    obtain ⟨l, hl, hc2⟩ := List.mem_flatten.mp hc
    obtain ⟨y, hy, rfl⟩ := List.mem_map.mp hl
    exact (h y hy).1 c hc2
  · rw [len_tl, join_tl]

    induction ys with
    | nil => rfl
    | cons y ys ih =>
      have h1 := (h y List.mem_cons_self).2
      rw [len_tl] at h1
      rw [List.map_cons, List.flatten_cons, List.length_append, ih fun z hz => h z (List.mem_cons_of_mem _ hz), h1, List.length_cons]
      omega
  · skip
    induction ys with
    | nil => rfl
    | cons y ys ih =>
      rw [List.map_cons, List.sum_cons, ih fun z hz => h z (List.mem_cons_of_mem _ hz), (h y List.mem_cons_self).2, List.length_cons]
      omega
def zs : Str := Str.ofString "zzzzzzzz"
theorem ne_zs_len {x : Str} (h : x.length ≤ 7) : x ≠ zs := fun e => by
  rw [e] at h
  exact absurd h (by decide +kernel)
theorem ne_zs_w {x y : Str} (h : 119 ∈ y.cps.toList) : x ++ y ≠ zs := fun e => by
  have m : 119 ∈ (x ++ y).cps.toList := by
    rw [app_tl]
    exact List.mem_append_right _ h
  rw [e] at m
  exact absurd m (by decide +kernel)
theorem pen_off {H : Hp} {p c D : Addr} {n : Nat} {o : HO} (h : PenAt H p c n) (h1 : D ≠ p) (h2 : D ≠ c) : PenAt (upd H D o) p c n := by
  obtain ⟨cs, s, r, S, s0, s1⟩ := h.open
  exact PenS.at_ ⟨S.pc, by rw [upd_ne (Ne.symm h1)]; exact S.hp, by rw [upd_ne (Ne.symm h2)]; exact S.hc, S.hl⟩ s0 s1
theorem pen_apart {H H' : Hp} {p c D : Addr} {n : Nat} (h : PenAt H p c n) (sm : Same H H') (hD : H' D = none) : D ≠ p ∧ D ≠ c := by
  obtain ⟨cs, s, r, S, _, _⟩ := h.open
  constructor
  · intro e
    rw [e, sm _ _ S.hp] at hD
    cases hD
  · intro e
    rw [e, sm _ _ S.hc] at hD
    cases hD
theorem but_none {p b : Addr} {H H' : Hp} (h : But p H H') (hb : H' b = none) (ne : b ≠ p) : H b = none := by
  cases q : H b with
  | none => rfl
  | some u => rw [h b u ne q] at hb; cases hb
end Fs
set_option Elab.async false
set_option linter.all false
set_option maxRecDepth 100000
set_option maxHeartbeats 4000000
/-! FsI: two sorted rearrangements of the same texts are the same -/
namespace Fs
open PySem PySem.Spec PyProof.Rows L2 Fh
theorem rising_pairs : ∀ (l : List Str) (p : Str), risingS p l = true → (p :: l).Pairwise fun a b => a.cps.toList ≤ b.cps.toList
  | [], p, _ => List.pairwise_singleton _ _
  | x :: r, p, h => by
    obtain ⟨h1, h2⟩ := Bool.and_eq_true_iff.mp (show (!ltCps x.cps.toList p.cps.toList && risingS x r) = true from h)
    have ih := rising_pairs r x h2
    have px : p.cps.toList ≤ x.cps.toList := by
      rw [ltCps_eq] at h1
      have : ¬ x.cps.toList < p.cps.toList := by simpa using h1
      exact List.not_lt.mp this
    refine List.pairwise_cons.mpr ⟨fun y hy => ?_, ih⟩
    rcases List.mem_cons.mp hy with e | e
    · rw [e]; exact px
    · exact List.le_trans px ((List.pairwise_cons.mp ih).1 y e)
theorem sorted_same {xs ys : List Str} (p : xs.Perm ys) (h1 : sortedS xs = true) (h2 : sortedS ys = true) : xs = ys := by
  have pw : ∀ l : List Str, sortedS l = true → l.Pairwise fun a b => a.cps.toList ≤ b.cps.toList := fun l h => by
    cases l with
    | nil => exact List.Pairwise.nil
    | cons x r => exact rising_pairs r x h
  refine List.Perm.eq_of_pairwise (fun a b _ _ u v => ?_) (pw _ h1) (pw _ h2) p
  have e := List.le_antisymm u v
  have e2 : a.cps = b.cps := Array.toList_inj.mp e
  cases a
  cases b
  cases e2
  rfl
end Fs
set_option Elab.async false
set_option linter.all false
set_option maxRecDepth 100000
set_option maxHeartbeats 4000000
/-! FsJ: numbers by names as data; pairs laid one by one; those above 0 once more -/
namespace Fs
open PySem PySem.Spec PyProof.Rows L2 Fh
open PySem.W (Frag)
/-! ### as data -/
def kvD (m : Num) : List (PyData × PyData) := m.map fun q => (.str q.1, .int q.2)
def numD (m : Num) : PyData := .dict (kvD m)
theorem dks_num {N : Addr → Prop} {H : Hp} : ∀ m : Num, DKs N H (cD m) (kvD m)
  | [] => .nil
  | q :: m => .cons (k := Sum.inr q.1) (.int q.2) (dks_num m)
theorem da_num {N : Addr → Prop} {H : Hp} {a : Addr} {m : Num} (h : H a = some (.dK (cD m))) (n : ¬ N a) : DA N H (.ref a) (numD m) := .dK h n (dks_num m)
theorem das_strs {N : Addr → Prop} {H : Hp} : ∀ ys : List Str, DAs N H (ys.map V.str) (ys.map PyData.str)
  | [] => .nil
  | y :: ys => .cons (.str y) (das_strs ys)
/-- few of them, with short names and numbers -/
structure Lite (m : Num) : Prop where
  few : m.length ≤ 64
  each : ∀ q ∈ m, q.1.length ≤ 8 ∧ (∀ c ∈ q.1.cps.toList, c < 16 ^ 8) ∧ q.2.natAbs < 10 ^ 33
theorem Lite.tail {q : Str × Int} {m : Num} (h : Lite (q :: m)) : Lite m := ⟨by have := h.few; rw [List.length_cons] at this; omega, fun p hp => h.each p (List.mem_cons_of_mem _ hp)⟩
theorem log_small {i : Int} (h : i.natAbs < 10 ^ 33) : i.natAbs.log2 < 111 := by
  by_cases z : i.natAbs = 0
  · rw [z]; decide
  · refine (Nat.log2_lt z).mpr (Nat.lt_trans h (by decide +kernel))
theorem int_short {i : Int} (h : i.natAbs < 10 ^ 33) : PyData.leavesShort 40 (.int i) = true := by
  have e := int_text_length_le10 (k := 33) (by decide) h
  simp only [PyData.leavesShort, decide_eq_true_eq]
  show (Str.ofString (toString i)).length ≤ 40
  rw [PySem.ofString_length]
  omega
theorem int_weight {i : Int} (h : i.natAbs < 10 ^ 33) : PyData.weight (.int i) ≤ 111 := by
  have e := log_small h
  simp only [PyData.weight]
  split <;> omega
theorem kv_showable : ∀ {m : Num}, Lite m → PyData.showableKv (kvD m) = true
  | [], _ => rfl
  | q :: m, h => by
    have e := log_small (h.each q List.mem_cons_self).2.2
    show (PyData.showable (.str q.1) && PyData.showable (.int q.2) && PyData.showableKv (kvD m)) = true
    rw [kv_showable h.tail]
    simp only [PyData.showable, Bool.true_and, Bool.and_true, decide_eq_true_eq]
    omega
theorem kv_short : ∀ {m : Num}, Lite m → PyData.leavesShortKv 40 (kvD m) = true
  | [], _ => rfl
  | q :: m, h => by
    obtain ⟨e1, e2, e3⟩ := h.each q List.mem_cons_self
    show (PyData.leavesShort 40 (.str q.1) && PyData.leavesShort 40 (.int q.2) && PyData.leavesShortKv 40 (kvD m)) = true
    rw [kv_short h.tail, int_short e3]
    simp only [PyData.leavesShort, Bool.and_true, List.all_eq_true, decide_eq_true_eq]
    exact e2
theorem kv_weight : ∀ {m : Num}, Lite m → PyData.weightKv (kvD m) ≤ 121 * m.length
  | [], _ => Nat.le_refl _
  | q :: m, h => by
    obtain ⟨e1, e2, e3⟩ := h.each q List.mem_cons_self
    have w1 : PyData.weight (.str q.1) ≤ 8 := e1
    have w2 := int_weight e3
    have w3 := kv_weight h.tail
    show PyData.weight (.str q.1) + PyData.weight (.int q.2) + 2 + PyData.weightKv (kvD m) ≤ _
    rw [List.length_cons]
    omega
theorem kv_depth : ∀ m : Num, PyData.depthKv (kvD m) = 0
  | [] => rfl
  | q :: m => by
    show max (max (PyData.depth (.str q.1)) (PyData.depth (.int q.2))) (PyData.depthKv (kvD m)) = 0
    rw [kv_depth m]
    simp only [PyData.depth, Nat.max_self]
/-- may be shown -/
def Rp (d : PyData) : Prop := d.showable = true ∧ d.depth ≤ 60 ∧ d.shown.length ≤ sizeLine
theorem rp_of {d : PyData} (h1 : d.showable = true) (h2 : d.depth ≤ 60) (h3 : d.leavesShort 40 = true) (h4 : d.weight ≤ 10000) : Rp d := by
  refine ⟨h1, h2, ?_⟩
  have e := PyData.shown_le 40 (by decide) d h3
  rw [sizeLine_eq]
  omega
theorem num_rp {m : Num} (h : Lite m) : Rp (numD m) := by
  have w := kv_weight h
  have f := h.few
  refine rp_of ?_ ?_ ?_ ?_
  · simp only [numD, PyData.showable]; exact kv_showable h
  · simp only [numD, PyData.depth, kv_depth]; omega
  · simp only [numD, PyData.leavesShort]; exact kv_short h
  · simp only [numD, PyData.weight]; omega
theorem int_rp {i : Int} (h : i.natAbs < 10 ^ 33) : Rp (.int i) := by
  have e := log_small h
  refine rp_of ?_ ?_ (int_short h) (by have := int_weight h; omega)
  · simp only [PyData.showable, decide_eq_true_eq]; omega
  · simp only [PyData.depth]; omega
/-- [numbers, names, total] -/
theorem three_rp {m : Num} {t : Int} (h : Lite m) (ht : t.natAbs < 10 ^ 33) : Rp (.list [numD m, .tuple ((names m).map PyData.str), .int t]) := by
  obtain ⟨a1, a2, a3⟩ := num_rp h
  have w := kv_weight h
  have f := h.few
  have e := log_small ht
  have tx : ∀ ys : List Str, (∀ y ∈ ys, y.length ≤ 8 ∧ ∀ c ∈ y.cps.toList, c < 16 ^ 8) → PyData.showableAll (ys.map PyData.str) = true ∧ PyData.leavesShortAll 40 (ys.map PyData.str) = true ∧ PyData.weightAll (ys.map PyData.str) ≤ 9 * ys.length ∧ PyData.depthAll (ys.map PyData.str) = 0 := by
    intro ys
    induction ys with
    | nil => intro _; exact ⟨rfl, rfl, Nat.le_refl _, rfl⟩
    | cons y ys ih =>
      intro g
      obtain ⟨i1, i2, i3, i4⟩ := ih fun z hz => g z (List.mem_cons_of_mem _ hz)
      obtain ⟨g1, g2⟩ := g y List.mem_cons_self
      refine ⟨?_, ?_, ?_, ?_⟩
      · show (PyData.showable (.str y) && PyData.showableAll (ys.map PyData.str)) = true
        rw [i1]; simp only [PyData.showable, Bool.and_true]
      · show (PyData.leavesShort 40 (.str y) && PyData.leavesShortAll 40 (ys.map PyData.str)) = true
        rw [i2]
        simp only [PyData.leavesShort, Bool.and_true, List.all_eq_true, decide_eq_true_eq]
        exact g2
      · show PyData.weight (.str y) + 1 + PyData.weightAll (ys.map PyData.str) ≤ _
        have w1 : PyData.weight (.str y) ≤ 8 := g1
        rw [List.length_cons]; omega
      · show max (PyData.depth (.str y)) (PyData.depthAll (ys.map PyData.str)) = 0
        rw [i4]; simp only [PyData.depth, Nat.max_self]
  obtain ⟨s1, s2, s3, s4⟩ := tx (names m) fun y hy => by
    obtain ⟨q, hq, rfl⟩ := List.mem_map.mp hy
    exact ⟨(h.each q hq).1, (h.each q hq).2.1⟩
  have nl := names_len m
  refine rp_of ?_ ?_ ?_ ?_
  · simp only [PyData.showable, PyData.showableAll, Bool.and_true, numD, kv_showable h, s1, Bool.true_and, decide_eq_true_eq]; omega
  · simp only [PyData.depth, PyData.depthAll, numD, kv_depth, s4]; omega
  · simp only [PyData.leavesShort, PyData.leavesShortAll, numD, kv_short h, s2, Bool.true_and, Bool.and_true]
    simpa only [PyData.leavesShort] using int_short ht
  · have w2 := int_weight ht
    have e3 : PyData.weight (.list [numD m, .tuple ((names m).map PyData.str), .int t]) = PyData.weightKv (kvD m) + 1 + (PyData.weightAll ((names m).map PyData.str) + 1 + (PyData.weight (.int t) + 1 + 0)) := by simp only [PyData.weight, PyData.weightAll, numD]
    rw [e3]; omega
/-! ### pairs laid one by one -/
theorem names_cons (q : Str × Int) (m : Num) : names (q :: m) = q.1 :: names m := rfl
theorem putK_old {m : Num} {y : Str} {n : Int} (h : y ∈ names m) : ∃ m2, putK (cD m) (.inr y) (.int n) = cD m2 ∧ names m2 = names m ∧ ∀ q ∈ m2, q ∈ m ∨ q = (y, n) := by
  have a : ((cD m).any fun kv => decide (kv.1 = Sum.inr y)) = true := by
    obtain ⟨q, hq, e⟩ := List.mem_map.mp h
    exact List.any_eq_true.mpr ⟨(.inr q.1, .int q.2), List.mem_map_of_mem (f := fun q : Str × Int => ((Sum.inr q.1 : Key), V.int q.2)) hq, decide_eq_true (congrArg Sum.inr e)⟩
  refine ⟨m.map fun q => if q.1 = y then (q.1, n) else q, ?_, ?_, ?_⟩
  · unfold putK
    rw [a, if_pos rfl]
    unfold cD
    rw [List.map_map, List.map_map]
    refine List.map_congr_left fun q _ => ?_
    show (if (Sum.inr q.1 : Key) = Sum.inr y then ((Sum.inr q.1 : Key), V.int n) else (Sum.inr q.1, V.int q.2)) = _
    by_cases z : q.1 = y
    · rw [if_pos (congrArg Sum.inr z)]
      show _ = ((Sum.inr (if q.1 = y then (q.1, n) else q).1 : Key), V.int (if q.1 = y then (q.1, n) else q).2)
      rw [if_pos z]
    · rw [if_neg fun w => z (Sum.inr.inj w)]
      show _ = ((Sum.inr (if q.1 = y then (q.1, n) else q).1 : Key), V.int (if q.1 = y then (q.1, n) else q).2)
      rw [if_neg z]
  · unfold names
    rw [List.map_map]
    refine List.map_congr_left fun q _ => ?_
    show (if q.1 = y then (q.1, n) else q).1 = q.1
    split <;> rfl
  · intro q hq
    obtain ⟨p, hp, rfl⟩ := List.mem_map.mp hq
    by_cases z : p.1 = y
    · rw [if_pos z, z]; exact .inr rfl
    · rw [if_neg z]; exact .inl hp
/-- the pairs of l, later ones win -/
theorem merge_num : ∀ (l m : Num), (names m).Nodup → ∃ m2, mergeK (cD m) (cD l) = cD m2 ∧ (names m2).Nodup ∧ (∀ q ∈ m2, q ∈ m ∨ q ∈ l) ∧ m2.length ≤ m.length + l.length
  | [], m, nd => ⟨m, rfl, nd, fun q hq => .inl hq, by omega⟩
  | q :: l, m, nd => by
    have step : ∃ m1, putK (cD m) (.inr q.1) (.int q.2) = cD m1 ∧ (names m1).Nodup ∧ (∀ p ∈ m1, p ∈ m ∨ p = q) ∧ m1.length ≤ m.length + 1 := by
      by_cases h : q.1 ∈ names m
      · obtain ⟨m1, e1, e2, e3⟩ := putK_old (n := q.2) h
        refine ⟨m1, e1, by rw [e2]; exact nd, fun p hp => e3 p hp, ?_⟩
        have l1 := names_len m1
        have l2 := names_len m
        rw [e2] at l1
        omega
      · refine ⟨m ++ [q], by rw [putK_new h, ← cD_snoc], ?_, fun p hp => ?_, by rw [List.length_append]; exact Nat.le_refl _⟩
        · have e : names (m ++ [q]) = names m ++ [q.1] := by unfold names; rw [List.map_append]; rfl
          rw [e]
          refine List.nodup_append.mpr ⟨nd, List.pairwise_singleton _ _, fun a ha b hb => ?_⟩
          rw [List.mem_singleton.mp hb]
          exact fun z => h (z ▸ ha)
        · rcases List.mem_append.mp hp with z | z
          · exact .inl z
          · exact .inr (List.mem_singleton.mp z)
    obtain ⟨m1, e1, n1, i1, l1⟩ := step
    obtain ⟨m2, e2, n2, i2, l2⟩ := merge_num l m1 n1
    refine ⟨m2, ?_, n2, fun p hp => ?_, by rw [List.length_cons]; omega⟩
    · show mergeK (putK (cD m) (.inr q.1) (.int q.2)) (cD l) = cD m2
      rw [e1, e2]
    · rcases i2 p hp with z | z
      · rcases i1 p z with y | y
        · exact .inl y
        · exact .inr (by rw [y]; exact List.mem_cons_self)
      · exact .inr (List.mem_cons_of_mem _ z)
/-- none twice: as they are -/
theorem merge_new : ∀ (l m : Num), (names (m ++ l)).Nodup → mergeK (cD m) (cD l) = cD (m ++ l)
  | [], m, _ => by rw [List.append_nil]; rfl
  | q :: l, m, nd => by
    have e : m ++ q :: l = (m ++ [q]) ++ l := by simp
    have h : q.1 ∉ names m := by
      have e2 : names (m ++ q :: l) = names m ++ names (q :: l) := by unfold names; rw [List.map_append]
      rw [e2] at nd
      intro z
      exact (List.nodup_append.mp nd).2.2 _ z _ List.mem_cons_self rfl
    show mergeK (putK (cD m) (.inr q.1) (.int q.2)) (cD l) = _
    rw [putK_new h, ← cD_snoc, e]
    exact merge_new l _ (by rw [← e]; exact nd)
/-! ### those above 0 -/
theorem pick_cons (m : Num) (y : Str) (ys : List Str) : pick m (y :: ys) = match m.lookup y with
    | some n => if 0 < n then (y, n) :: pick m ys else pick m ys
    | none => pick m ys := by
  show List.filterMap _ (y :: ys) = _
  rw [List.filterMap_cons]
  cases e : m.lookup y with
  | none => rfl
  | some n =>
    by_cases p : 0 < n
    · simp only [Option.bind_some, if_pos p]
      rfl
    · simp only [Option.bind_some, if_neg p]
      rfl
theorem lookup_mem {m : Num} {y : Str} {n : Int} (e : m.lookup y = some n) : (y, n) ∈ m := by
  induction m with
  | nil => cases e
  | cons q m ih =>
    rw [List.lookup_cons] at e
    cases c : (y == q.1) with
    | true =>
      rw [c] at e
      have e2 := eq_of_beq c
      have e3 : q.2 = n := Option.some.inj e
      rw [e2, ← e3]; exact List.mem_cons_self
    | false =>
      rw [c] at e
      exact List.mem_cons_of_mem _ (ih e)
theorem pick_lookup {m : Num} {ys : List Str} {y : Str} (h : ∀ z ∈ names m, z ∈ ys) (pos : ∀ q ∈ m, 0 ≤ q.2) : ((pick m ys).lookup y).getD 0 = (m.lookup y).getD 0 := by
  have main : ∀ ys : List Str, ((pick m ys).lookup y).getD 0 = if y ∈ ys then (m.lookup y).getD 0 else 0 := by
    intro ys
    induction ys with
    | nil => rfl
    | cons z ys ih =>
      rw [pick_cons]
      cases e : m.lookup z with
      | none =>
        show ((pick m ys).lookup y).getD 0 = _
        rw [ih]
        by_cases a : y = z
        · subst a
          rw [if_pos List.mem_cons_self, e]
          split <;> rfl
        · have : y ∈ z :: ys ↔ y ∈ ys := by simp [a]
          simp only [this]
      | some n =>
        by_cases p : 0 < n
        · simp only [if_pos p]
          by_cases a : y = z
          · subst a
            rw [List.lookup_cons_self, if_pos List.mem_cons_self, e]
          · rw [List.lookup_cons, beq_eq_false_iff_ne.mpr a]
            have : y ∈ z :: ys ↔ y ∈ ys := by simp [a]
            simp only [this]
            exact ih
        · simp only [if_neg p]
          rw [ih]
          by_cases a : y = z
          · subst a
            have m1 := lookup_mem e
            have n0 : n = 0 := by
              have h0 : 0 ≤ n := pos _ m1
              omega
            rw [if_pos List.mem_cons_self, e, n0]
            split <;> rfl
          · have : y ∈ z :: ys ↔ y ∈ ys := by simp [a]
            simp only [this]
  rw [main ys]
  split
  · rfl
  · rename_i nm
    have : y ∉ names m := fun z => nm (h y z)
    rw [lookup_none this]
    rfl
theorem pick_sub (m : Num) : ∀ ys : List Str, (names (pick m ys)).Sublist ys
  | [] => List.Sublist.slnil
  | y :: ys => by
    rw [pick_cons]
    cases e : m.lookup y with
    | none => exact (pick_sub m ys).cons _
    | some n =>
      by_cases p : 0 < n
      · simp only [if_pos p]
        exact (pick_sub m ys).cons_cons _
      · simp only [if_neg p]
        exact (pick_sub m ys).cons _
theorem pick_nodup {m : Num} {ys : List Str} (h : ys.Nodup) : (names (pick m ys)).Nodup := (pick_sub m ys).nodup h
theorem pick_mem {m : Num} {ys : List Str} : ∀ q ∈ pick m ys, m.lookup q.1 = some q.2 ∧ 0 < q.2 := by
  intro q hq
  obtain ⟨z, hz, e2⟩ := List.mem_filterMap.mp hq
  cases e : m.lookup z with
  | none => rw [e] at e2; cases e2
  | some n =>
    rw [e] at e2
    have e3 : (if 0 < n then some (z, n) else none) = some q := e2
    split at e3
    · rename_i p
      rw [← Option.some.inj e3]
      exact ⟨e, p⟩
    · cases e3
theorem lookup_of {l : Num} (nd : (names l).Nodup) : ∀ q ∈ l, l.lookup q.1 = some q.2 := by
  induction l with
  | nil => intro q hq; cases hq
  | cons p l ih =>
    intro q hq
    obtain ⟨n1, n2⟩ := List.nodup_cons.mp (show (p.1 :: names l).Nodup from nd)
    rcases List.mem_cons.mp hq with e | e
    · rw [e]
      exact List.lookup_cons_self
    · have ne : q.1 ≠ p.1 := fun z => n1 (by rw [← z]; exact List.mem_map_of_mem e)
      rw [List.lookup_cons, beq_eq_false_iff_ne.mpr ne]
      exact ih n2 q e
/-- all above 0, in their own order: as they are -/
theorem pick_self {m : Num} (nd : (names m).Nodup) (pos : ∀ q ∈ m, 0 < q.2) : pick m (names m) = m := by
  have go : ∀ l : Num, (∀ q ∈ l, q ∈ m) → pick m (names l) = l := by
    intro l
    induction l with
    | nil => intro _; rfl
    | cons q l ih =>
      intro h
      have hq := h q List.mem_cons_self
      show pick m (q.1 :: names l) = _
      rw [pick_cons, lookup_of nd q hq]
      simp only [if_pos (pos q hq)]
      rw [ih fun p hp => h p (List.mem_cons_of_mem _ hp)]
  exact go m fun q hq => hq
theorem sorted_sub {xs ys : List Str} (s : xs.Sublist ys) (h : sortedS ys = true) : sortedS xs = true := by
  have pw : ∀ l : List Str, sortedS l = true → l.Pairwise fun a b => a.cps.toList ≤ b.cps.toList := fun l h => by
    cases l with
    | nil => exact List.Pairwise.nil
    | cons x r => exact rising_pairs r x h
  have back : ∀ (l : List Str) (p : Str), ((p :: l).Pairwise fun a b => a.cps.toList ≤ b.cps.toList) → risingS p l = true := by
    intro l
    induction l with
    | nil => intro _ _; rfl
    | cons x r ih =>
      intro p h
      obtain ⟨h1, h2⟩ := List.pairwise_cons.mp h
      show (!ltCps x.cps.toList p.cps.toList && risingS x r) = true
      rw [ih x h2, Bool.and_true, ltCps_eq]
      have : ¬ x.cps.toList < p.cps.toList := List.not_lt.mpr (h1 x List.mem_cons_self)
      simpa using this
  cases xs with
  | nil => rfl
  | cons x r => exact back r x ((pw ys h).sublist s)
/-- a second staff of the same numbers -/
theorem pick_again {m : Num} {ys zs : List Str} (nd : (names m).Nodup) (py : ys.Perm (names m)) (sy : sortedS ys = true) (pz : zs.Perm (names (pick m ys))) (sz : sortedS zs = true) : pick (pick m ys) zs = pick m ys := by
  have e : zs = names (pick m ys) := sorted_same pz sz (sorted_sub (pick_sub m ys) sy)
  rw [e]
  exact pick_self (pick_nodup (py.nodup_iff.mpr nd)) fun q hq => (pick_mem q hq).2
end Fs
set_option Elab.async false
set_option linter.all false
set_option maxRecDepth 100000
set_option maxHeartbeats 4000000
/-! FsK: slices of texts, pairs laid by a comprehension -/
namespace Fs
open PySem PySem.Spec PyProof.Rows L2 Fh
open PySem.W (Frag)
theorem cut_strs (ys : List Str) (lo hi : Option Int) : ∃ ms : List Str, cutV (ys.map V.str) lo hi = ms.map V.str ∧ ms.length ≤ ys.length ∧ ∀ x ∈ ms, x ∈ ys := by
  unfold cutV
  refine ⟨(ys.drop (HT.sIx (ys.map V.str).length 0 lo)).take (HT.sIx (ys.map V.str).length (ys.map V.str).length hi - HT.sIx (ys.map V.str).length 0 lo), ?_, ?_, fun x hx => List.mem_of_mem_drop (List.mem_of_mem_take hx)⟩
  · rw [List.map_take, List.map_drop]
  · rw [List.length_take, List.length_drop]
    omega
/-- tuples of a key and its value, none of them at p or at E -/
def Prs (H : Hp) (p E : Addr) (ps : List Addr) (l : Num) : Prop := Paired (fun q (kv : Key × V) => H q = some (.tup [kV kv.1, kv.2]) ∧ q ≠ p ∧ q ≠ E) ps (cD l)
theorem Prs.nil {H : Hp} {p E : Addr} : Prs H p E [] [] := Paired.nil
theorem Prs.but {H H' : Hp} {p E : Addr} {ps : List Addr} {l : Num} (h : Prs H p E ps l) (b : But p H H') : Prs H' p E ps l := Paired.mono (fun q kv z => ⟨b _ _ z.2.1 z.1, z.2⟩) h
theorem Prs.snoc {H : Hp} {p E T : Addr} {ps : List Addr} {l : Num} {y : Str} {n : Int} {o : HO} (h : Prs H p E ps l) (nT : H T = none) (Tp : T ≠ p) (TE : T ≠ E) :
    Prs (upd (upd H T (.tup [.str y, .int n])) E o) p E (ps ++ [T]) (l ++ [(y, n)]) := by
  unfold Prs
  rw [cD_snoc]
  have h2 : Paired (fun q (kv : Key × V) => (upd (upd H T (.tup [.str y, .int n])) E o) q = some (.tup [kV kv.1, kv.2]) ∧ q ≠ p ∧ q ≠ E) ps (cD l) := Paired.mono (fun q kv z => ⟨by
    rw [upd_ne z.2.2, upd_ne (ne_of_none z.1 nT)]
    exact z.1, z.2⟩) h
  refine Paired.snoc h2 ⟨?_, Tp, TE⟩
  rw [upd_ne TE, upd_same]
  rfl
theorem Prs.sqt {K : Frag} {H : Hp} {p E : Addr} {ps : List Addr} {l : Num} (h : Prs H p E ps l) : Paired (fun q (kv : Key × V) => SqT K H q [kV kv.1, kv.2]) ps (cD l) := Paired.mono (fun q kv z => SqT.of z.1) h
theorem Prs.len {H : Hp} {p E : Addr} {ps : List Addr} {l : Num} (h : Prs H p E ps l) : ps.length = l.length := by
  have e := Paired.length h
  rw [cD_len] at e
  exact e
/-- all but p and E stays -/
def But2 (p E : Addr) (H H' : Hp) : Prop := ∀ b o, b ≠ p → b ≠ E → H b = some o → H' b = some o
theorem none_but {p b : Addr} {H H' : Hp} (h : But p H H') (hb : H' b = none) (ne : b ≠ p) : H b = none := but_none h hb ne
theorem ne_new {H : Hp} {a b : Addr} {o : HO} (ha : H a = some o) (hb : H b = none) : b ≠ a := fun z => by
  rw [z, ha] at hb
  cases hb
theorem none_back {Ha Hb : Hp} {b : Addr} (sm : Same Ha Hb) (hb : Hb b = none) : Ha b = none := by
  cases q : Ha b with
  | none => rfl
  | some o => rw [sm b o q] at hb; cases hb
theorem str_map_get {ys : List Str} {i : Nat} {x : V} (h : (ys.map V.str)[i]? = some x) : ∃ y, x = .str y ∧ ys[i]? = some y ∧ y ∈ ys := by
  obtain ⟨y, h1, h2, h3⟩ := at_str h
  exact ⟨y, h2, h1, h3⟩
theorem take_succ_of {ys : List Str} {i : Nat} {y : Str} (h : ys[i]? = some y) : ys.take (i + 1) = ys.take i ++ [y] := take_snoc h
end Fs
set_option Elab.async false
set_option linter.all false
set_option maxRecDepth 100000
set_option maxHeartbeats 8000000
/-! FtA: sets of texts from lists and tuples, their len -/
namespace Fs
open PySem PySem.Spec PyProof.Rows L2 Fh
open PySem.W (Frag)
section
variable {K : Type} [DecidableEq K] {P : Program} {w : World} {knd : PySem.KeyKind P w K} {A : Around} {E : Value → Shared → Prop} {s : Shared} {a : Addr} {l : List (Int × Value)}
/-- an element that is there already -/
theorem sr_have {k : K} {x : Value} {Q : Bool → Shared → Prop} (R : SR knd s.heap a l) (hkey : knd.is k x = true) (hsc : x.scannable = true) (yes : ∃ e ∈ l, knd.is k e.2 = true)
    (hQ : Q false s) : wpAny (model P w) A (setAddHashed a x (knd.hash k)) Q E s := by
  obtain ⟨o, ep, t, es, ho, hx, hd, pm, el, hb, hf, hr, hl⟩ := R
  have el0 : ElemsOf knd es.toList := fun e he => el e (pm.mem_iff.mp he)
  have size0 : es.size < scanBound := by rw [← Array.length_toList, pm.length_eq]; exact hb
  unfold setAddHashed setAddHashedIn
  refine wpAny_holding (wpAny_bind (wpAny_setState_of ho hd hf ?_))
  dsimp only
  rw [byScan_of hsc size0 el0]
  simp only [↓reduceIte]
  unfold setAddByScan
  refine wpAny_bind (wpAny_bind (wpAny_rule (wpAny_bind (wpAny_setScan_of hkey ho hd hf el0 ?_))))
  cases nf : List.findIdx? (fun e => knd.is k e.2) es.toList with
  | none =>
    obtain ⟨e, he, z⟩ := yes
    have := List.findIdx?_eq_none_iff.mp nf e (pm.mem_iff.mpr he)
    rw [z] at this
    cases this
  | some i =>
    dsimp only
    refine wpAny_pure ?_
    exact wpAny_pure hQ
end
/-- the elements in the order in which they are met -/
def addT (ks : List Str) (x : Str) : List Str := if x ∈ ks then ks else ks ++ [x]
def ded (xs : List Str) : List Str := xs.foldl addT []
theorem ded_snoc (xs : List Str) (x : Str) : ded (xs ++ [x]) = addT (ded xs) x := by unfold ded; rw [List.foldl_append]; rfl
theorem foldl_addT : ∀ (xs ks : List Str), ks.Nodup → (xs.foldl addT ks).Nodup ∧ (∀ y, y ∈ xs.foldl addT ks ↔ y ∈ ks ∨ y ∈ xs) ∧ (xs.foldl addT ks).length ≤ ks.length + xs.length
  | [], ks, nd => ⟨nd, fun y => by simp, Nat.le_refl _⟩
  | x :: xs, ks, nd => by
    have n1 : (addT ks x).Nodup := by
      unfold addT
      split
      · exact nd
      · rename_i h
        refine List.nodup_append.mpr ⟨nd, List.pairwise_singleton _ _, fun a ha b hb => ?_⟩
        rw [List.mem_singleton.mp hb]
        exact fun z => h (z ▸ ha)
    have m1 : ∀ y, y ∈ addT ks x ↔ y ∈ ks ∨ y = x := fun y => by
      unfold addT
      split
      · rename_i h
        exact ⟨.inl, fun z => z.elim id fun e => by rw [e]; exact h⟩
      · rw [List.mem_append, List.mem_singleton]
    have l1 : (addT ks x).length ≤ ks.length + 1 := by
      unfold addT
      split
      · omega
      · rw [List.length_append]; exact Nat.le_refl _
    obtain ⟨a1, a2, a3⟩ := foldl_addT xs (addT ks x) n1
    refine ⟨a1, fun y => ?_, ?_⟩
    · show y ∈ xs.foldl addT (addT ks x) ↔ _
      rw [a2, m1, List.mem_cons, or_assoc]
    · show (xs.foldl addT (addT ks x)).length ≤ _
      rw [List.length_cons]
      omega
theorem ded_nodup (xs : List Str) : (ded xs).Nodup := (foldl_addT xs [] List.nodup_nil).1
theorem ded_mem {xs : List Str} {y : Str} : y ∈ ded xs ↔ y ∈ xs := by
  have e := (foldl_addT xs [] List.nodup_nil).2.1 y
  show y ∈ xs.foldl addT [] ↔ y ∈ xs
  simpa using e
theorem ded_len (xs : List Str) : (ded xs).length ≤ xs.length := by
  have e := (foldl_addT xs [] List.nodup_nil).2.2
  show (xs.foldl addT []).length ≤ _
  simpa using e
theorem ded_self {xs : List Str} (nd : xs.Nodup) : ded xs = xs := by
  have go : ∀ (xs ks : List Str), (ks ++ xs).Nodup → xs.foldl addT ks = ks ++ xs := by
    intro xs
    induction xs with
    | nil => intro ks _; simp
    | cons x xs ih =>
      intro ks h
      have nx : x ∉ ks := fun z => (List.nodup_append.mp h).2.2 _ z _ List.mem_cons_self rfl
      show xs.foldl addT (addT ks x) = _
      have e : addT ks x = ks ++ [x] := by unfold addT; rw [if_neg nx]
      rw [e, ih _ (by simpa using h)]
      simp
  exact go xs [] (by simpa using nd)
/-- what stands at a: the texts ks, in some order -/
def SRt (P : Program) (w : World) (h : Heap) (a : Addr) (ks : List Str) : Prop := ∃ l, SR (mixKind P w) h a l ∧ (∀ e ∈ l, ∃ x t, e.2 = Value.str x t) ∧ (l.map fun e => strOf e.2) = ks
theorem SRt.move {P : Program} {w : World} {h h' : Heap} {a : Addr} {ks : List Str} (R : SRt P w h a ks) (k : ∀ o, h.get? a = some o → h'.get? a = some o) : SRt P w h' a ks :=
  let ⟨l, r, p, q⟩ := R
  ⟨l, r.move k, p, q⟩
section
variable {prog : Program} {w : World} {A : Around} {R : Result → Shared → Prop} {I : Addr} {fp wr : List Addr} {G : Array GenState → Array GenState → Prop} {n : Nat} {Pv : Nat → Value → Prop} {St : Nat → Shared → Prop}
theorem addTx {E : Value → Shared → Prop} {s : Shared} {S : Addr} {ks : List Str} {x : Str} {t : Tok} {Q : Bool → Shared → Prop} (R : SRt prog w s.heap S ks) (few : ks.length < 100)
    (hQ : ∀ b h' tk, s.toks ≤ tk → Heap.SameBut S s.heap h' → SRt prog w h' S (addT ks x) → Q b { s with heap := h', toks := tk }) : wpAny (model prog w) A (setAdd S (.str x t)) Q E s := by
  obtain ⟨l, r, pt, rfl⟩ := R
  rw [List.length_map] at few
  have hk : (mixKind prog w).is (Sum.inr x) (.str x t) = true := keyIs_str x t
  unfold setAdd
  refine wpAny_holding (wpAny_bind ((mixKind prog w).pyHash (k := Sum.inr x) hk ?_))
  by_cases hx : x ∈ l.map fun e => strOf e.2
  · obtain ⟨e, he, ee⟩ := List.mem_map.mp hx
    obtain ⟨y, u, ey⟩ := pt e he
    have exy : y = x := by rw [← ee, ey]; rfl
    refine sr_have (knd := mixKind prog w) (s := { s with toks := s.toks + 1 }) r hk rfl ⟨e, he, by rw [ey, exy]; exact keyIs_str x u⟩ ?_
    refine hQ false s.heap (s.toks + 1) (Nat.le_succ _) (Heap.SameBut.refl S s.heap) ⟨l, r, pt, ?_⟩
    unfold addT
    rw [if_pos hx]
  · refine sr_add (knd := mixKind prog w) (s := { s with toks := s.toks + 1 }) r hk rfl (fun e he => ?_) (by show l.length + 1 < 4096; omega) fun h' sb r2 => ?_
    · cases c : (mixKind prog w).is (Sum.inr x) e.2 with
      | false => rfl
      | true =>
        obtain ⟨u, ev⟩ := Value.isStrOf_shape (x := x) (v := e.2) c
        exact absurd (List.mem_map.mpr ⟨e, he, by rw [ev]; rfl⟩) hx
    · refine hQ true h' (s.toks + 1) (Nat.le_succ _) sb ⟨_, r2, fun e he => ?_, ?_⟩
      · rcases List.mem_append.mp he with z | z
        · exact pt e z
        · rw [List.mem_singleton.mp z]
          exact ⟨x, t, rfl⟩
      · rw [List.map_append]
        unfold addT
        rw [if_neg hx]
        rfl
theorem loopTx (Wk : WalksS prog w A.in1 I fp wr G n Pv St) (S : Addr) (far : S ∉ fp) (xs : List Str) (size : xs.length = n) (few : n < 64)
    (vals : ∀ i v, Pv i v → ∃ t, v = .str (xs.getD i Str.empty) t) :
    ∀ (k i : Nat) (s : Shared), n - i = k → i ≤ n → St i s → SRt prog w s.heap S (ded (xs.take i)) →
      (∀ s', Moved (S :: wr) G s s' → SRt prog w s'.heap S (ded xs) → R (.ok (.ret .none)) s') →
      codeAny (model prog w) A (.builtin "set.update.loop" ⟨[.ref S, .ref I], []⟩) R s := by
  have offw : S ∉ wr := fun h => far (Wk.sub _ h)
  have more : ∀ b ∈ wr, b ∈ S :: wr := fun b hb => List.mem_cons_of_mem _ hb
  intro k
  induction k with
  | zero =>
    intro i s hk hi st0 was fin
    have hin : i = n := by omega
    subst hin
    rw [List.take_of_length_le (by omega)] at was
    refine codeAny_builtin PyProof.Rows.F.entry_set_update_loop ?_
    rw [Around.under_plainId PyProof.Rows.F.plain_set_update_loop _]
    show wpAny _ A.in1 (pyNext (.ref I) >>= _) _ _ s
    refine wpAny_bind (Wk.done s _ _ st0 fun s' mv => ?_)
    show wpAny _ A.in1 (ret Value.none) _ _ s'
    exact wpAny_pure (fin s' (mv.mono more) (was.move fun o ho => mv.heap S _ offw ho))
  | succ k ih =>
    intro i s hk hi st0 was fin
    have below : i < n := by omega
    refine codeAny_builtin PyProof.Rows.F.entry_set_update_loop ?_
    rw [Around.under_plainId PyProof.Rows.F.plain_set_update_loop _]
    show wpAny _ A.in1 (pyNext (.ref I) >>= _) _ _ s
    refine wpAny_bind (Wk.item i s _ _ below st0 fun v s' isat st1 mv => ?_)
    obtain ⟨t, rfl⟩ := vals i v isat
    have was1 : SRt prog w s'.heap S (ded (xs.take i)) := was.move fun o ho => mv.heap S _ offw ho
    show wpAny _ A.in1 (holding [Value.str (xs.getD i Str.empty) t] (setAdd S (.str (xs.getD i Str.empty) t)) >>= _) _ _ s'
    have f1 := ded_len (xs.take i)
    rw [List.length_take] at f1
    have gx : xs[i]? = some (xs.getD i Str.empty) := by
      rw [List.getD_eq_getElem?_getD, List.getElem?_eq_getElem (by omega)]
      rfl
    refine wpAny_bind (wpAny_holding (addTx was1 (by omega) fun b h' tk htk hsb hS2 => ?_))
    have nowi : SRt prog w h' S (ded (xs.take (i + 1))) := by
      rw [take_snoc gx, ded_snoc]
      exact hS2
    refine wpAny_pure ⟨plainId_quiet PyProof.Rows.F.plain_set_update_loop _, ih (i + 1) _ (by omega) below (Wk.frame _ s' _ _ st1 htk fun b hb o e => ?_) nowi fun s'' mv2 hS'' => ?_⟩
    · rw [hsb.2 b (fun h : b = S => far (by rw [← h]; exact hb))]; exact e
    · refine fin s'' (Moved.trans Wk.gtrans ((mv.mono more).then_heap htk fun b o hb e => ?_) mv2) hS''
      rw [hsb.2 b (fun h : b = S => hb (by rw [h]; exact List.mem_cons_self))]; exact e
end

section
variable {prog : Program} {w : World} {A : Around} {E : Value → Shared → Prop} {s : Shared}
set_option maxHeartbeats 8000000 in
/-- set(a list of texts) -/
theorem set_list {d : Addr} {arr : Array Value} {ys : List Str} {Q : Value → Shared → Prop} (calm : A.handled = none) (src : s.heap.IsList d arr) (tx : PyProof.Rows.StrsAre arr.toList ys) (few : ys.length < 64)
    (hQ : ∀ (h2 : Heap) (tk : Nat), (∀ b u, s.heap.get? b = some u → h2.get? b = some u) → SRt prog w h2 s.heap.objs.size (ded ys) → Q (.ref s.heap.objs.size) { s with heap := h2, toks := tk }) :
    wpAny (model prog w) A (call (.type "set") [.ref d]) Q E s := by
  obtain ⟨c0, c1, c2⟩ := F.called_set.mro
  have c3 := F.called_set.made
  have c4 := F.called_set.sub
  have c5 := F.called_set.notType
  have c6 := F.called_set.canCreate
  have c7 := F.typeCall_set_1 (.ref d)
  have c8 := F.called_set.init.lookup
  have c9 := F.called_set.init.bind (.ref s.heap.objs.size)
  have new0 : (s.heap.push (noSet w)).get? s.heap.objs.size = some (noSet w) := Heap.get?_push_size _ rfl
  have ty0 : Shared.TypeIs { s with heap := s.heap.push (noSet w) } (.ref s.heap.objs.size) "set" := ⟨_, new0, rfl⟩
  refine wpAny_call (codeAny_of_tree ?_)
  show wpAny _ _ (callAny (.type "set") _) _ _ _
  refine wpAny_pure ⟨Code.quiet_builtin _ (by decide +kernel), codeAny_builtin F.entry_type_call ?_⟩
  rw [Around.under_plain (weight_type_call_type "set" [.ref d] []) rfl]
  repeat (any_goals (first | assumption | wp_step))
  refine codeAny_mono (code_set_led1 (.ref d) (E := E) (Q₁ := fun ob s1 => ob = .ref s.heap.objs.size ∧ s1 = { s with heap := s.heap.push (noSet w) }) ⟨rfl, rfl⟩) fun r s1 hr => ?_
  match r, hr with
  | .error e, hr => exact hr
  | .ok .next, hr => exact hr.elim
  | .ok .brk, hr => exact hr.elim
  | .ok .cont, hr => exact hr.elim
  | .ok (.ret ob), hr =>
    obtain ⟨rfl, rfl⟩ := hr
    repeat (any_goals (first | assumption | wp_step))
    refine codeAny_mono (codeAny_call_builtin (R := wants (fun r s2 => r = .none ∧ Q (.ref s.heap.objs.size) s2) E) F.called_set.init.plain F.entry_set_init (check_set_init_1 ty0 ?_)) fun r2 s2 hr2 => ?_
    · obtain ⟨ob, hob, cl, nl, dt⟩ := src
      obtain ⟨k1, k2, k3, k4⟩ := ob
      simp only at cl dt
      subst cl; subst dt
      have old0 : (s.heap.push (noSet w)).get? d = some { cls := .type "list", dict := k2, data := .seq arr nl, slots := k4 } := Heap.get?_push_of_some _ hob
      have u1 := F.sub_list_set
      have u2 := F.sub_list_frozenset
      have u3 : (Value.type "list" == Value.type "dict") = false := by decide
      have src1 : (s.heap.push (noSet w)).IsList d arr := ⟨_, old0, rfl, nl, rfl⟩
      unfold Builtin.«set.__init__» noKeywords Builtin.Frozenset.updateFrom
      generalize eP : pyIter = PI
      wp_walk
      subst eP
      refine wpAny_pyIter_list src1 ?_
      refine wpAny_bind (wpAny_runValue ?_)
      have dS : d < s.heap.objs.size := Heap.lt_size hob
      have calm3 : A.in1.in1.in1.handled = none := by simp [calm]
      have dne : d ≠ (s.heap.push (noSet w)).objs.size := by
        rw [Heap.size_push]; exact Nat.ne_of_lt (Nat.lt_succ_of_lt dS)
      have off0 : s.heap.objs.size ∉ [(s.heap.push (noSet w)).objs.size, d] := by
        rw [Heap.size_push]
        intro z
        rcases List.mem_cons.mp z with y | y
        · exact absurd y (Nat.ne_of_lt (Nat.lt_succ_self _))
        · exact absurd (List.mem_singleton.mp y) (Nat.ne_of_gt dS)
      have len0 : ys.length = arr.size := by rw [← StrsAre.len_eq tx, Array.length_toList]
      refine loopTx ((Walks.list calm3 _ d dne arr).toS) s.heap.objs.size off0 ys len0 (by rw [← len0]; exact few) (fun j v hv => SS.strs_at tx j v (by rw [Array.getElem?_toList]; exact hv)) (arr.size - 0) 0 _ (by omega) (Nat.zero_le _)
        ⟨⟨_, Heap.get?_push_size _ rfl, rfl, rfl⟩, (src1.push _)⟩ ⟨[], sr_new (Heap.get?_push_of_some _ new0), (fun _ z => nomatch z), rfl⟩ ?_
      intro s3 mv rr
      obtain ⟨h3, g3, d3, t3, o3⟩ := s3
      have e1 : g3 = s.gens := mv.gens
      have e2 : d3 = s.drawn := mv.drawn
      have e3 : o3 = s.os := mv.os
      subst e1; subst e2; subst e3
      show wpAny _ _ _ _ _ _
      refine wpAny_pure ?_
      show wpAny _ _ (ret Value.none) _ _ _
      refine wpAny_pure ⟨rfl, hQ h3 t3 (fun b u e => ?_) rr⟩
      have lb : b < s.heap.objs.size := Heap.lt_size e
      refine mv.heap b u (fun z => ?_) (Heap.get?_push_of_some _ (Heap.get?_push_of_some _ e))
      rcases List.mem_cons.mp z with y | y
      · exact absurd y (Nat.ne_of_lt lb)
      · rw [Heap.size_push] at y
        exact absurd (List.mem_singleton.mp y) (Nat.ne_of_lt (Nat.lt_succ_of_lt lb))
    · match r2, hr2 with
      | .error e, hr2 => exact hr2
      | .ok .next, hr2 => exact hr2.elim
      | .ok .brk, hr2 => exact hr2.elim
      | .ok .cont, hr2 => exact hr2.elim
      | .ok (.ret v), hr2 =>
        obtain ⟨rfl, hq⟩ := hr2
        repeat (any_goals (first | assumption | wp_step))
end

section
variable {prog : Program} {w : World} {A : Around} {E : Value → Shared → Prop} {s : Shared}
set_option maxHeartbeats 8000000 in
/-- set(a tuple of texts) -/
theorem set_tuple {d : Addr} {arr : Array Value} {ys : List Str} {Q : Value → Shared → Prop} (calm : A.handled = none) (src : s.heap.IsTuple d arr) (tx : PyProof.Rows.StrsAre arr.toList ys) (few : ys.length < 64)
    (hQ : ∀ (h2 : Heap) (tk : Nat), (∀ b u, s.heap.get? b = some u → h2.get? b = some u) → SRt prog w h2 s.heap.objs.size (ded ys) → Q (.ref s.heap.objs.size) { s with heap := h2, toks := tk }) :
    wpAny (model prog w) A (call (.type "set") [.ref d]) Q E s := by
  obtain ⟨c0, c1, c2⟩ := F.called_set.mro
  have c3 := F.called_set.made
  have c4 := F.called_set.sub
  have c5 := F.called_set.notType
  have c6 := F.called_set.canCreate
  have c7 := F.typeCall_set_1 (.ref d)
  have c8 := F.called_set.init.lookup
  have c9 := F.called_set.init.bind (.ref s.heap.objs.size)
  have new0 : (s.heap.push (noSet w)).get? s.heap.objs.size = some (noSet w) := Heap.get?_push_size _ rfl
  have ty0 : Shared.TypeIs { s with heap := s.heap.push (noSet w) } (.ref s.heap.objs.size) "set" := ⟨_, new0, rfl⟩
  refine wpAny_call (codeAny_of_tree ?_)
  show wpAny _ _ (callAny (.type "set") _) _ _ _
  refine wpAny_pure ⟨Code.quiet_builtin _ (by decide +kernel), codeAny_builtin F.entry_type_call ?_⟩
  rw [Around.under_plain (weight_type_call_type "set" [.ref d] []) rfl]
  repeat (any_goals (first | assumption | wp_step))
  refine codeAny_mono (code_set_led1 (.ref d) (E := E) (Q₁ := fun ob s1 => ob = .ref s.heap.objs.size ∧ s1 = { s with heap := s.heap.push (noSet w) }) ⟨rfl, rfl⟩) fun r s1 hr => ?_
  match r, hr with
  | .error e, hr => exact hr
  | .ok .next, hr => exact hr.elim
  | .ok .brk, hr => exact hr.elim
  | .ok .cont, hr => exact hr.elim
  | .ok (.ret ob), hr =>
    obtain ⟨rfl, rfl⟩ := hr
    repeat (any_goals (first | assumption | wp_step))
    refine codeAny_mono (codeAny_call_builtin (R := wants (fun r s2 => r = .none ∧ Q (.ref s.heap.objs.size) s2) E) F.called_set.init.plain F.entry_set_init (check_set_init_1 ty0 ?_)) fun r2 s2 hr2 => ?_
    · obtain ⟨ob, hob, cl, nl, dt⟩ := src
      obtain ⟨k1, k2, k3, k4⟩ := ob
      simp only at cl dt
      subst cl; subst dt
      have old0 : (s.heap.push (noSet w)).get? d = some { cls := .type "tuple", dict := k2, data := .seq arr nl, slots := k4 } := Heap.get?_push_of_some _ hob
      have u1 := F.sub_tuple_set
      have u2 := F.sub_tuple_frozenset
      have u3 : (Value.type "tuple" == Value.type "dict") = false := by decide
      have src1 : (s.heap.push (noSet w)).IsTuple d arr := ⟨_, old0, rfl, nl, rfl⟩
      unfold Builtin.«set.__init__» noKeywords Builtin.Frozenset.updateFrom
      generalize eP : pyIter = PI
      wp_walk
      subst eP
      refine wpAny_pyIter_tuple src1 ?_
      refine wpAny_bind (wpAny_runValue ?_)
      have dS : d < s.heap.objs.size := Heap.lt_size hob
      have calm3 : A.in1.in1.in1.handled = none := by simp [calm]
      have dne : d ≠ (s.heap.push (noSet w)).objs.size := by
        rw [Heap.size_push]; exact Nat.ne_of_lt (Nat.lt_succ_of_lt dS)
      have off0 : s.heap.objs.size ∉ [(s.heap.push (noSet w)).objs.size, d] := by
        rw [Heap.size_push]
        intro z
        rcases List.mem_cons.mp z with y | y
        · exact absurd y (Nat.ne_of_lt (Nat.lt_succ_self _))
        · exact absurd (List.mem_singleton.mp y) (Nat.ne_of_gt dS)
      have len0 : ys.length = arr.size := by rw [← StrsAre.len_eq tx, Array.length_toList]
      refine loopTx ((Walks.tuple calm3 _ d dne arr).toS) s.heap.objs.size off0 ys len0 (by rw [← len0]; exact few) (fun j v hv => SS.strs_at tx j v (by rw [Array.getElem?_toList]; exact hv)) (arr.size - 0) 0 _ (by omega) (Nat.zero_le _)
        ⟨⟨_, Heap.get?_push_size _ rfl, rfl, rfl⟩, (src1.push _)⟩ ⟨[], sr_new (Heap.get?_push_of_some _ new0), (fun _ z => nomatch z), rfl⟩ ?_
      intro s3 mv rr
      obtain ⟨h3, g3, d3, t3, o3⟩ := s3
      have e1 : g3 = s.gens := mv.gens
      have e2 : d3 = s.drawn := mv.drawn
      have e3 : o3 = s.os := mv.os
      subst e1; subst e2; subst e3
      show wpAny _ _ _ _ _ _
      refine wpAny_pure ?_
      show wpAny _ _ (ret Value.none) _ _ _
      refine wpAny_pure ⟨rfl, hQ h3 t3 (fun b u e => ?_) rr⟩
      have lb : b < s.heap.objs.size := Heap.lt_size e
      refine mv.heap b u (fun z => ?_) (Heap.get?_push_of_some _ (Heap.get?_push_of_some _ e))
      rcases List.mem_cons.mp z with y | y
      · exact absurd y (Nat.ne_of_lt lb)
      · rw [Heap.size_push] at y
        exact absurd (List.mem_singleton.mp y) (Nat.ne_of_lt (Nat.lt_succ_of_lt lb))
    · match r2, hr2 with
      | .error e, hr2 => exact hr2
      | .ok .next, hr2 => exact hr2.elim
      | .ok .brk, hr2 => exact hr2.elim
      | .ok .cont, hr2 => exact hr2.elim
      | .ok (.ret v), hr2 =>
        obtain ⟨rfl, hq⟩ := hr2
        repeat (any_goals (first | assumption | wp_step))
end

section
variable {X : Cx}
/-- set(xs), xs a list or tuple of texts -/
theorem cr_setL (hc : X.calm = true) : CallR X (.type "set") (fun xs H Q => ∃ (a : Addr) (ys : List Str), xs = [.ref a] ∧ (SqL X.K H a (ys.map V.str) ∨ SqT X.K H a (ys.map V.str)) ∧ ys.length < 64 ∧ ∀ p, H p = none → Q (.ref p) (upd H p (SetS X.prog X.w p (ded ys)))) := by
  intro pins s σ H xs us Q I r h
  obtain ⟨a, ys, rfl, hq, few, q⟩ := h
  rw [Vals.ref1 r]
  have fin : ∀ (h2 : Heap) (tk : Nat), (∀ b u, s.heap.get? b = some u → h2.get? b = some u) → SRt X.prog X.w h2 s.heap.objs.size (ded ys) → EP X pins σ Q (.ref s.heap.objs.size) { s with heap := h2, toks := tk } := fun h2 tk kp ⟨l, R, st, es⟩ =>
    ⟨.ref s.heap.objs.size, upd H s.heap.objs.size (SetS X.prog X.w s.heap.objs.size (ded ys)), I.laid (t' := tk) kp (Nat.le_refl _) ⟨⟨l, R, st, es⟩, let ⟨o, _, _, _, e, _⟩ := R; ⟨o, e⟩, fun h1 h2 ⟨l, r1, r2, r3⟩ k => ⟨l, r1.move k, r2, r3⟩⟩, rfl, q _ (I.hok.fresh (Nat.le_refl _))⟩
  rcases hq with hq | hq
  · obtain ⟨its, rv, pl, hz⟩ := I.list hq
    exact set_list (I.ok.hd hc) pl.isList (by simpa using strsAre_of rv) few fin
  · obtain ⟨its, rv, pl, hz⟩ := I.tuple hq
    exact set_tuple (I.ok.hd hc) pl (by simpa using strsAre_of rv) few fin
/-- len(s) -/
theorem cr_lenS : CallR X (.builtin "len") (fun xs H Q => ∃ (a : Addr) (ks : List Str), xs = [.ref a] ∧ H a = some (SetS X.prog X.w a ks) ∧ ks.length < 1000 ∧ Q (.int ks.length) H) := by
  intro pins s σ H xs us Q I r h
  obtain ⟨a, ks, rfl, ha, few, q⟩ := h
  obtain ⟨⟨l, R, st, rfl⟩, _⟩ := I.hok a _ ha
  rw [Vals.ref1 r]
  rw [List.length_map] at few q
  obtain ⟨o, ep, t, es, ho, hx, hd, pm, el, hb, hf, hr, hl⟩ := R
  have sz : es.size = l.length := by rw [← Array.length_toList, pm.length_eq]
  refine call_len_set ho hx hd hf (by rw [sz]; omega) ⟨.int l.length, H, I.tok _, ⟨_, by rw [sz]⟩, q⟩
end
end Fs
set_option Elab.async false
set_option linter.all false
set_option maxRecDepth 100000
set_option maxHeartbeats 8000000
/-! FtB: sorted of lists and tuples of texts, a walk over either, names = a list -/
namespace Fs
open PySem PySem.Spec PyProof.Rows L2 Fh
open PySem.W (Frag)
section
variable {P : Program} {w : World} {A : Around} {E : Value → Shared → Prop} {s : Shared} {d : Addr}
theorem sorted_seq {o : Obj} {T : String} {arr : Array Value} {nl : Nat} {ys : List Str} {Q : Value → Shared → Prop} (hT : T = "list" ∨ T = "tuple") (ho : s.heap.get? d = some o) (hc : o.cls = .type T) (hd : o.data = .seq arr nl) (tx : StrsAre arr.toList ys) (few : ys.length < 64)
    (hQ : ∀ (s' : Shared) (h1 : Heap) (out : Array Value) (c : Nat) (zs : List Str), (∀ b o, s.heap.get? b = some o → h1.get? b = some o) → (∀ b o, h1.get? b = some o → s'.heap.get? b = some o) → s'.gens = s.gens → s'.os = s.os → s'.heap.get? h1.objs.size = some (seqObj "list" out c) → StrsAre out.toList zs →
      zs.Perm ys → sortedS zs = true → Q (.ref h1.objs.size) s') : wpAny (model P w) A (call (.builtin "sorted") [.ref d]) Q E s := by
  have len0 : ys.length = arr.size := by rw [← StrsAre.len_eq tx, Array.length_toList]
  refine Calls.call_function_entry PyProof.Rows.kind_sorted PyProof.Rows.plain_sorted PyProof.Rows.entry_sorted (PyProof.Rows.args_sorted1 _) ?_
  unfold Builtin.«sorted»
  refine wpAny_bind (m := checkCount "sorted" 1 1 _) (wpAny_pure (wpAny_bind (wpAny_collect_seq d hT ho hc hd (fun h1 k1 => ?_) (by rw [sizeLine_eq]; omega))))
  have lv : arr.toList.length = ys.length := by rw [Array.length_toList, len0]
  refine wpAny_bind (wpAny_newList ?_ (by rw [lv, sizeLine_eq]; omega))
  have hoL : (h1.push (seqObj "list" arr.toList.toArray 0)).get? h1.objs.size = some (seqObj "list" arr.toList.toArray 0) := Heap.get?_push_size _ rfl
  refine wpAny_bind (wpAny_holding (wpAny_call_entry PyProof.Rows.slot_list_sort ⟨_, hoL, rfl⟩ PyProof.Rows.entry_list_sort
    (list_sort_treeK PyProof.Rows.strKind_oneLt (s := { s with heap := h1.push (seqObj "list" arr.toList.toArray 0) }) hoL tx.keysOf (fun v1 v2 rest e => keyKind_strs (by rw [← e]; exact tx)) (by rw [lv]; exact few) fun st' hp hs2 => ⟨_, rfl, ?_⟩)
    (PyProof.Rows.args_list_sort _)))
  obtain ⟨zs, q1, q2, q3⟩ := sorted_out_str tx hp hs2
  obtain ⟨c, hc2⟩ := PyProof.Rows.sortedHeap_at (vs := arr.toList) (out := (arrOf st').map (·.2)) hoL
  refine wpAny_pure ⟨_, rfl, hQ _ h1 _ c zs k1 (fun b u q => ?_) rfl rfl hc2 q1 q2 q3⟩
  have hlt := Heap.lt_size q
  show (PyProof.Rows.sortedHeap (h1.push (seqObj "list" arr.toList.toArray 0)) h1.objs.size arr.toList _).get? b = some u
  rw [PyProof.Rows.sortedHeap_old (Nat.ne_of_lt hlt) (by rw [size_push']; exact Nat.lt_succ_of_lt hlt)]
  exact Heap.get?_push_of_some _ q
end
section
variable {X : Cx}
/-- sorted(xs), xs a list or tuple of texts -/
theorem cr_sortedSeq : CallR X (.builtin "sorted") (fun xs H Q => ∃ (a : Addr) (ys : List Str), xs = [.ref a] ∧ (SqL X.K H a (ys.map V.str) ∨ SqT X.K H a (ys.map V.str)) ∧ ys.length < 64 ∧ ∀ zs p, zs.Perm ys → sortedS zs = true → H p = none → Q (.ref p) (upd H p (.lst (zs.map V.str)))) := by
  intro pins s σ H xs us Q I r h
  obtain ⟨a, ys, rfl, hq, few, q⟩ := h
  rw [Vals.ref1 r]
  have fin : ∀ (s' : Shared) (h1 : Heap) (out : Array Value) (c : Nat) (zs : List Str), (∀ b o, s.heap.get? b = some o → h1.get? b = some o) → (∀ b o, h1.get? b = some o → s'.heap.get? b = some o) → s'.gens = s.gens → s'.os = s.os → s'.heap.get? h1.objs.size = some (seqObj "list" out c) → StrsAre out.toList zs →
      zs.Perm ys → sortedS zs = true → EP X pins σ Q (.ref h1.objs.size) s' := fun s' h1 out c zs k1 k g o hg hi pm so => by
    have hlen : (zs.map V.str).length ≤ sizeLine := by rw [List.length_map, pm.length_eq, sizeLine_eq]; omega
    have I1 : Inv X pins σ H { s with heap := h1 } := I.kept (t' := s.toks) k1
    have hn : H h1.objs.size = none := I1.hok.fresh (Nat.le_refl _)
    have J : Inv X pins σ (upd H h1.objs.size (.lst (zs.map V.str))) s' :=
      I1.call' (ch := []) o (Un.laid (h := h1) k (Nat.le_refl _) hn) (I1.hok.laid (h := h1) k (Nat.le_refl _) ⟨hlen, out.toList, c, vals_of_strs hi, hg⟩) (by rw [g]; exact I.bare) (fun _ z => nomatch z)
    exact ⟨.ref h1.objs.size, _, J, rfl, q zs _ pm so hn⟩
  rcases hq with hq | hq
  · obtain ⟨its, rv, ⟨o, n, ho, hc, _, hd⟩, hz⟩ := I.list hq
    exact sorted_seq (.inl rfl) ho hc hd (by simpa using strsAre_of rv) few fin
  · obtain ⟨its, rv, ⟨o, ho, hc, n, hd⟩, hz⟩ := I.tuple hq
    exact sorted_seq (.inr rfl) ho hc hd (by simpa using strsAre_of rv) few fin
/-- over a list or a tuple -/
def iSeq (K : Frag) (tl : TE) : TI := fun σ H R => tl σ H fun x H1 => ∃ a, x = .ref a ∧ (((∃ xs, SqL K H1 a xs) ∧ R (Itl K a) H1) ∨ ((∃ xs, SqT K H1 a xs) ∧ R (Itt K a) H1))
theorem iSeq_l {K : Frag} {H : Hp} {a : Addr} {xs : List V} {R : It → Hp → Prop} (h : SqL K H a xs) (r : R (Itl K a) H) : ((∃ xs, SqL K H a xs) ∧ R (Itl K a) H) ∨ ((∃ xs, SqT K H a xs) ∧ R (Itt K a) H) := .inl ⟨⟨xs, h⟩, r⟩
theorem iSeq_t {K : Frag} {H : Hp} {a : Addr} {xs : List V} {R : It → Hp → Prop} (h : SqT K H a xs) (r : R (Itt K a) H) : ((∃ xs, SqL K H a xs) ∧ R (Itl K a) H) ∨ ((∃ xs, SqT K H a xs) ∧ R (Itt K a) H) := .inr ⟨⟨xs, h⟩, r⟩
theorem ty_l {K : Frag} {H : Hp} {a : Addr} {xs : List V} (h : SqL K H a xs) : TyX K H (.ref a) (.type "list") := by
  rcases h with (h | ⟨o, h⟩) | ⟨o, its, n, hk, hc, _⟩
  · exact .base (.lst h)
  · exact .base (.frz h)
  · exact .kList hk hc
theorem ty_t {K : Frag} {H : Hp} {a : Addr} {xs : List V} (h : SqT K H a xs) : TyX K H (.ref a) (.type "tuple") := by
  rcases h with (h | ⟨o, h⟩) | ⟨o, its, n, hk, hc, _⟩
  · exact .base (.tup h)
  · exact .fTuple h
  · exact .kTuple hk hc
end
section
variable {X : Cx} {tg e : Expr} {tl : TE}
theorem pi_seq (he : PE X e tl) : PI X tg e (iSeq X.K tl) := by
  refine ⟨fun pins s σ H R I h => thn (he.run pins s σ H _ I h) fun u s2 ⟨x, H2, I2, rx, d, ex, q⟩ => ?_⟩
  subst ex
  obtain rfl : u = Value.ref d := rx
  have it0 := I2.hok.fresh (Nat.le_refl s2.heap.objs.size)
  have one : ∀ c ∈ [s2.heap.objs.size], c = s2.heap.objs.size := fun c hc => List.mem_singleton.mp hc
  rcases q with ⟨⟨xs, hq⟩, q⟩ | ⟨⟨xs, hq⟩, q⟩
  · obtain ⟨us, ru, pu, _⟩ := I2.list hq
    exact wpAny_pyIter_list pu.isList ⟨_, [s2.heap.objs.size], _, _, H2, rfl, I2.kept (t' := s2.toks) (fun c o z => Heap.get?_push_of_some _ z), turn_list d _, ⟨_, Heap.get?_push_size _ rfl, rfl, rfl⟩, fun c hc => by rw [one c hc]; exact I2.fpOk (Nat.le_refl _) it0, q⟩
  · obtain ⟨us, ru, pu, _⟩ := I2.tuple hq
    exact wpAny_pyIter_tuple (show s2.heap.IsTuple d us.toArray from pu) ⟨_, [s2.heap.objs.size], _, _, H2, rfl, I2.kept (t' := s2.toks) (fun c o z => Heap.get?_push_of_some _ z), turn_tuple d _, ⟨_, Heap.get?_push_size _ rfl, rfl, rfl⟩, fun c hc => by rw [one c hc]; exact I2.fpOk (Nat.le_refl _) it0, q⟩
theorem sqT_same {K : Frag} {H H' : Hp} {a : Addr} {xs : List V} (s : Same H H') (h : SqT K H a xs) : SqT K H' a xs := by
  rcases h with (h | ⟨o, h⟩) | h
  · exact .inl (.inl (s _ _ h))
  · exact .inl (.inr ⟨o, s _ _ h⟩)
  · exact .inr h
theorem mpP {R G : Prop} (h : R → G) (r : R) : G := h r
end
/-! ### names = a list -/
section
variable {prog : Program} {w : World} {A : Around} {E : Value → Shared → Prop}
theorem draw_some {it d : Addr} (dne : d ≠ it) (calm : A.handled = none) (arr : Array Value) : ∀ (k i : Nat) (s : Shared) (Q : List Value → Shared → Prop), s.heap.IsListIter it d i → s.heap.IsList d arr → i + k = arr.size →
    (∀ h2 tk, h2.IsListIter it d arr.size → h2.IsList d arr → (∀ b o, b ≠ it → s.heap.get? b = some o → h2.get? b = some o) → Q (arr.toList.drop i) { s with heap := h2, toks := tk }) → wpAny (model prog w) A (draw (.ref it) k) Q E s
  | 0, i, s, Q, h1, h2, e, hQ => by
    have ei : i = arr.size := by omega
    subst ei
    show wpAny _ _ (pure []) Q E s
    have e2 : arr.toList.drop arr.size = [] := by rw [List.drop_eq_nil_iff]; rw [Array.length_toList]; exact Nat.le_refl _
    rw [e2] at hQ
    exact wpAny_pure (hQ s.heap s.toks h1 h2 fun b o _ z => z)
  | k + 1, i, s, Q, h1, h2, e, hQ => by
    have W := Walks.list (prog := prog) (w := w) calm it d dne arr
    show wpAny _ _ (pyNext (.ref it) >>= _) Q E s
    refine wpAny_bind (W.item i s _ _ (by omega) ⟨h1, h2⟩ fun v h3 tk hv st k3 => ?_)
    refine wpAny_bind (wpAny_holding (draw_some dne calm arr k (i + 1) _ _ st.1 st.2 (by omega) fun h4 tk4 a1 a2 k4 => wpAny_pure ?_))
    have hi : i < arr.toList.length := by rw [Array.length_toList]; omega
    have ev : v = arr.toList[i] := by
      rw [← Array.getElem?_toList, List.getElem?_eq_getElem hi] at hv
      exact (Option.some.inj hv).symm
    have z := hQ h4 tk4 a1 a2 fun b o nb q => k4 b o nb (k3 b o (fun y => nb (List.mem_singleton.mp y)) q)
    rw [List.drop_eq_getElem_cons hi, ← ev] at z
    exact z
theorem unpack_some {s : Shared} {d : Addr} {arr : Array Value} {Q : List Value → Shared → Prop} (calm : A.handled = none) (src : s.heap.IsList d arr)
    (hQ : ∀ h2 tk, (∀ b o, s.heap.get? b = some o → h2.get? b = some o) → Q arr.toList { s with heap := h2, toks := tk }) : wpAny (model prog w) A (unpackItems (.ref d) arr.size none) Q E s := by
  have dne : d ≠ s.heap.objs.size := by
    obtain ⟨o, ho, _⟩ := src
    exact Nat.ne_of_lt (Heap.lt_size ho)
  unfold unpackItems notIterableAtAll
  refine wpAny_bind (wpAny_bind (wpAny_specialOf src.typeIs F.slot_list_iter.lookup (wpAny_pure ?_)))
  simp only [Bool.false_eq_true, if_false]
  refine wpAny_bind (wpAny_holding (wpAny_pyIter_list src ?_))
  refine wpAny_bind (wpAny_holding (draw_some dne calm arr arr.size 0 _ _ ⟨_, Heap.get?_push_size _ rfl, rfl, rfl⟩ (src.push _) (by omega) fun h3 tk a1 a2 k3 => ?_))
  rw [List.drop_zero, if_neg (by rw [Array.length_toList]; omega)]
  have W := Walks.list (prog := prog) (w := w) calm s.heap.objs.size d dne arr
  refine wpAny_bind (wpAny_holding (W.done _ _ _ ⟨a1, a2⟩ fun h4 tk4 k4 => ?_))
  simp only [Option.isSome_none, Bool.false_eq_true, if_false]
  refine wpAny_pure (hQ h4 tk4 fun b o q => ?_)
  have nb : b ≠ s.heap.objs.size := Nat.ne_of_lt (Heap.lt_size q)
  exact k4 b o (fun y => nb (List.mem_singleton.mp y)) (k3 b o nb (Heap.get?_push_of_some _ q))
end
section
variable {X : Cx} {pos : Pos}
/-- a, b, .. = e, e a list -/
def gTupL (K : Frag) (n : Nat) (t : TGs) : TG := fun v σ H Q => ∃ a xs, v = .ref a ∧ SqL K H a xs ∧ xs.length = n ∧ t xs σ H Q
theorem pg_tupL {es : List Expr} {k : Nat} {t : TGs} {n : Nat} (hc : X.calm = true) (h : PGs X es t)
    (many : (assignEach es X.env).length = n := by rfl) (nostar : (assignEach es X.env).findIdx? (·.1) = none := by rfl) : PG X (.Tuple es k pos) (gTupL X.K n t) := by
  refine ⟨fun pins s σ H v u Q I r hw => ?_⟩
  obtain ⟨a, xs, rfl, hq, hl, hw⟩ := hw
  cases r
  obtain ⟨its, rv, pl, hz⟩ := I.list hq
  rw [assign_Tuple]
  refine wpAny_bind (wpAny_standAt ?_)
  unfold unpack
  have e : (assignEach es X.env).length = its.toArray.size := by rw [many, List.size_toArray, ← rv.length, hl]
  rw [e, nostar]
  refine wpAny_bind (wpAny_holding (unpack_some (I.ok.hd hc) pl.isList fun h2 tk kp => ?_))
  have I1 : Inv X pins σ H { s with heap := h2, toks := tk } := I.kept (t' := tk) kp
  exact h.run pins _ σ H xs _ Q I1 (by simpa using rv) hw
end
end Fs
set_option Elab.async false
set_option linter.all false
set_option maxRecDepth 100000
set_option maxHeartbeats 4000000
/-! FyA: the error InvalidText(field) over the layer: made and raised, read and asked for its class where it is caught -/
namespace PySem
namespace ErrN
open PySem.W PySem.Calls PyProof.Rows PySem.HandSPX
/-! ### the text of __init__ -/
def iA (p1 p2 : Pos) : Arguments := { posonlyargs := [], args := [{ arg := "self", annotation := none, pos := p1 }, { arg := "index", annotation := none, pos := p2 }], vararg := none, kwonlyargs := [], kw_defaults := [], kwarg := none, defaults := [] }
def iB (q1 q2 q3 q4 : Pos) : List Stmt := [.Assign [.Attribute (.Name "self" q1) "index" q2] (.Name "index" q3) q4]
def iS : Scope := { kind := .function, names := [(PySem.Str.ofString "self", .local), (PySem.Str.ofString "index", .local)], isGenerator := false, isCoroutine := false, more := [] }
/-- what the written part says of Low, at C, and of its __init__, at fI -/
structure ErrNxt (K : Frag) (mg : Str → Option Value) (C fI : Addr) : Prop where
  gC : mg "InvalidText" = some (.ref C)
  cls : ∃ nm q N bs bm sn sub ab col dd k0 k1 k2 k3 k5, K.lookup C = some (excClassObj nm q C N bs bm true sn sub ab col dd k0 k1 k2 k3 k5 "ValueError.__new__") ∧ refsVE bm = true
  sa : findIn K (.ref C) "__setattr__" = some (some (.builtin "object.__setattr__"))
  ga : findIn K (.ref C) "__getattribute__" = some (some (.builtin "BaseException.__getattribute__"))
  gg : findIn K (.ref C) "__getattr__" = some none
  noN : findIn K (.ref C) "index" = some none
  iC : findIn K (.ref C) "__init__" = some (some (.ref fI))
  tC : typeIn K (.ref fI) = some (.type "function")
  kC : keepIn K (.ref C) = true
  exC : subIn K (.ref C) (.type "BaseException") = some true
  tyC : typeIn K (.ref C) = some (.type "type")
  hdC : hasDictIn K C = true
  te : exmOne K (.ref C) (.ref C) = some true
  fn : ∃ (oc : Value) (od : Option Addr) (kV doc pm : Value) (an : Option Addr) (cdv ct : Value) (osl : Array (Option Value)) (p1 p2 q1 q2 q3 q4 : Pos),
    K.lookup fI = some ⟨oc, od, .func (fnOf "__init__" "InvalidText.__init__" (iA p1 p2) (iB q1 q2 q3 q4) iS .none kV doc pm an cdv ct), osl⟩ ∧ codeIn K cdv "InvalidText.__init__" = true
theorem one_size (v : Value) : [v].length ≤ sizeLine := by
  rw [sizeLine_eq]
  exact (by decide : 1 ≤ 16777216)
theorem kept_but {K : Frag} {h h' : Heap} {x : Addr} (X : K.In h) (hx : K.lookup x = none) (k : ∀ b o, b ≠ x → h.get? b = some o → h'.get? b = some o) : K.In h' := fun a o e =>
  k a o (fun z => by rw [z, hx] at e; cases e) (X a o e)
theorem ldC {M : Model} {s : Shared} {name : Str} {scope : Scope} {L a : Addr} {cd : Value} {m : Str → Option Value} {x : Str} {pos : Pos} {v : Value} {Q : Value → Shared → Prop} {A : Around} {E : Value → Shared → Prop} (hn : s.heap.Ns L m) (hv : m x = some v) (h : Q v s)
    (hk : scope.kind = .function := by rfl) (hl : (envOfC name scope L a cd).kindOf x = some .local := by rfl) (hd : (x == ("__debug__" : Str)) = false := by decide) :
    wpAny M A (eval (.Name x pos) (envOfC name scope L a cd)) Q E s := wpAny_Name (wpAny_loadName_local hk hl hn hv h) hd
/-- what __init__ leaves of a fresh exception at x -/
structure InitEnd (h h' : Heap) (x C dx t1 : Addr) (v : Value) : Prop where
  keep : ∀ b o, b ≠ x → h.get? b = some o → h'.get? b = some o
  obj : h'.get? x = some { cls := .ref C, dict := some dx, data := .fields #[.ref t1, .none, .none, .none, .bool false, .none] }
  dbig : h.objs.size ≤ dx
  dne : dx ≠ x
  ns : h'.Ns1 dx (fun y => if y = "index" then some v else none)
/-- a made Low -/
structure OwnMade (h h' : Heap) (e C d : Addr) (v : Value) : Prop where
  keep : ∀ b o, h.get? b = some o → h'.get? b = some o
  new : h.objs.size ≤ e
  obj : ∃ oe vs, h'.get? e = some oe ∧ oe.cls = .ref C ∧ oe.dict = some d ∧ oe.data = .fields vs ∧ vs[1]? = some .none
  dbig : h.objs.size ≤ d
  dne : d ≠ e
  ns : h'.Ns1 d (fun y => if y = "index" then some v else none)
section
variable {prog : Program} {w : World} {A : Around} {E : Value → Shared → Prop} {R : Result → Shared → Prop} {s : Shared} {K : Frag} {mg : Str → Option Value} {C fI : Addr}
theorem errN_init (T : ErrNxt K mg C fI) {x t0 : Addr} {v : Value} (X : K.In s.heap) (hlim : s.heap.NoLimit) (hx : s.heap.get? x = some (excO C t0)) (hnx : K.lookup x = none) (hroom : A.depth < recursionLimit)
    (hq : ∀ h' tk dx, InitEnd s.heap h' x C dx t0 v → R (.ok (.ret .none)) { s with heap := h', toks := tk }) :
    codeAny (model prog w) A (.call (.ref fI) ⟨[.ref x, v], []⟩) R s := by
  obtain ⟨oc, od, kV, doc, pm, an, cdv, ct, osl, p1, p2, q1, q2, q3, q4, ho, hcd⟩ := T.fn
  obtain ⟨nm, q, N, bs, bm, sn, sub, ab, col, dd, k0, k1, k2, k3, k5, hC, hbm⟩ := T.cls
  have hcl : clsIn K C = some { name := nm, bases := bs, mro := .ref C :: bm, ns := N, qualname := q, hasDict := true, slotNames := sn, subclasses := sub, abstract := ab, collection := col, hasDel := false } := by unfold clsIn; rw [hC] <;> rfl
  refine Att.call_fn (binds := [("self", .ref x), ("index", v)]) X hlim ho hcd hroom (BindsTo.of_eq (by first | rfl | with_unfolding_all rfl)) (by first | rfl | decide | with_unfolding_all rfl) (fun s₁ IC => ?_) rfl rfl rfl
  obtain ⟨h₁, tk₁, rfl⟩ := IC.toInCall.same
  have k : ∀ b o, s.heap.get? b = some o → h₁.get? b = some o := IC.toInCall.keep
  have hn := IC.toInCall.ns
  have hxL : s.heap.objs.size ≠ x := Nat.ne_of_gt (Heap.lt_size hx)
  have X₁ : K.In h₁ := X.keeps k
  have hx₁ := k _ _ hx
  -- self.by = by
  show wpAny _ _ (execs _ _) _ _ _
  refine wpAny_execs_cons (plainObj_wpAny_Assign_Attribute ?_)
  refine ldC (v := v) hn (by first | rfl | with_unfolding_all rfl | kernel_rfl) (ldC (v := .ref x) hn (by first | rfl | with_unfolding_all rfl | kernel_rfl) ?_)
  refine set_plain X₁ (ox := excO C t0) (od := none) ⟨hx₁, rfl, rfl, trivial⟩ T.sa ?_
  refine exc_osa X₁ hx₁ hcl (show refsVE (.ref C :: bm) = true from hbm) rfl T.noN (fun h₃ tk₃ dx k₃ dn dne hx₃ hn₃ => ?_)
  show wpAny _ _ (execs _ _) _ _ _
  have z : s.heap.objs.size < h₁.objs.size := hn.lt
  exact wpAny_execs_nil (hq h₃ tk₃ dx ⟨fun b o hb e => k₃ b o hb (k b o e), hx₃, Nat.le_of_lt (Nat.lt_of_lt_of_le z dn), dne, hn₃⟩)
theorem errN_made (T : ErrNxt K mg C fI) {v : Value} (X : K.In s.heap) (hlim : s.heap.NoLimit) (hroom : A.depth + 1 < recursionLimit)
    (hq : ∀ h' tk e d, OwnMade s.heap h' e C d v → R (.ok (.ret (.ref e))) { s with heap := h', toks := tk }) :
    codeAny (model prog w) A (.call (.ref C) ⟨[v], []⟩) R s := by
  obtain ⟨nm, q, N, bs, bm, sn, sub, ab, col, dd, k0, k1, k2, k3, k5, hC, hbm⟩ := T.cls
  obtain ⟨hp, g, dr, tk, os⟩ := s
  have k : ∀ b o, hp.get? b = some o → ((hp.push (kdv_tup [v])).push (excO C hp.objs.size)).get? b = some o := fun b o e => Heap.get?_push_of_some _ (Heap.get?_push_of_some _ e)
  have hget : ((hp.push (kdv_tup [v])).push (excO C hp.objs.size)).get? (hp.objs.size + 1) = some (excO C hp.objs.size) := by heap_get
  have hnx : K.lookup (hp.objs.size + 1) = none := by
    cases e : K.lookup (hp.objs.size + 1) with
    | none => rfl
    | some o =>
      have z : hp.get? (hp.objs.size + 1) = some o := X _ _ e
      exact absurd (Nat.lt_of_succ_lt (Heap.lt_size z)) (Nat.lt_irrefl _)
  refine call_own F.excBase_ValueError (fun X => refsVE_contains X bm hbm) (X _ _ hC) (looks_findIn X T.iC) (fun self => bind_fn X self T.tC) (one_size v) ?_
  refine errN_init (s := ⟨(hp.push (kdv_tup [v])).push (excO C hp.objs.size), g, dr, tk, os⟩) T (X.keeps k) (hlim.keeps k) hget hnx ?_ fun h' tk' dx ⟨k', hx, dn, dne, hns⟩ => ?_
  · show A.depth + 1 < recursionLimit
    exact hroom
  · have old : ∀ b o, hp.get? b = some o → h'.get? b = some o := fun b o e => k' b o (Nat.ne_of_lt (Nat.lt_succ_of_lt (Heap.lt_size e))) (k b o e)
    have z : hp.objs.size + 1 + 1 ≤ dx := by
      first
        | (simpa only [Heap.size_push] using dn)
        | exact dn
        | (have q := dn; rw [Heap.size_push, Heap.size_push] at q; exact q)
    exact ⟨rfl, hq h' tk' (hp.objs.size + 1) dx ⟨old, Nat.le_succ _, ⟨_, _, hx, rfl, rfl, rfl, rfl⟩, Nat.le_trans (Nat.le_trans (Nat.le_succ _) (Nat.le_succ _)) z, dne, hns⟩⟩
end
end ErrN
end PySem
namespace L2
open PySem PySem.Spec PyProof.Rows
theorem relO_errN {v : V} {v' : Value} (r : RelV v v') (f : Str) : RelO (List.lookup f [(("index" : Str), v)]) (if f = "index" then some v' else none) := by
  by_cases hw : f = "index"
  · subst hw
    rw [if_pos rfl]
    have q : List.lookup ("index" : Str) [(("index" : Str), v)] = some v := by simp [List.lookup]
    rw [q]
    exact r
  · rw [if_neg hw]
    have qw : (f == ("index" : Str)) = false := by simpa using hw
    have q2 : List.lookup f [(("index" : Str), v)] = none := by simp [List.lookup, qw]
    rw [q2]
    trivial
section
variable {X : Cx} {C fI : Addr}
/-- Low(e) -/
def tMkErrN (C : Addr) (ta : TA) : St → Hp → XK → Prop := fun σ H Q => ta σ H fun vs H1 => ∃ v, vs = [v] ∧ ∀ d, H1 d = none → Q (.ref C) (some d) (upd H1 d (.xd [(("index" : Str), v)]))
theorem pmk_errN {a : Expr} {ta : TA} {p pos : Pos} {k : Nat} (T : PySem.ErrN.ErrNxt X.K X.mg C fI) (hr : Room k X.A) (ha : PA X [a] ta) (hg : Gl X "InvalidText" := by rfl)
    (he : starEach (a :: []) X.env = (false, eval a X.env) :: starEach [] X.env := by rfl) (hpl : (backTo pos (starEach [] X.env)).any (·.1) = false := by rfl) :
    PMk X (.Call (.Name "InvalidText" p) [a] [] pos) (tMkErrN C ta) := by
  intro pins s σ H Q I h
  refine wpAny_Call_Name_kw (ld_glob I hg T.gC ?_)
  refine PySem.W.callWith_K (h₀ := X.base) I.ok.mod.kin T.kC (thn (ha.run pos pins s σ H _ I h) fun us s1 hh => ?_) he hpl
  obtain ⟨vs, H1, I1, r1, v, ev, q1⟩ := hh
  subst ev
  refine ⟨I1.kIn, ?_⟩
  cases r1 with
  | cons rv rn =>
    rename_i v' us'
    cases rn
    show wpAny _ _ (call (.ref C) [v']) _ _ _
    have hlim := I1.nolimit
    obtain ⟨hp, g, dr, tk, os⟩ := s1
    refine wpAny_call (PySem.ErrN.errN_made T I1.kIn hlim (by have := hr.dp; omega) fun h' tk' e d M => ?_)
    show MkP X pins σ Q (.ref e) ⟨h', g, dr, tk', os⟩
    obtain ⟨oe, fv, hoe, hc, hd, hdat, h1⟩ := M.obj
    have hns := M.ns
    obtain ⟨G', g1, g2⟩ := restrict h' fun b => decide (b ≠ e)
    have gk : ∀ b, b ≠ e → G'.get? b = h'.get? b := fun b hb => g1 b (decide_eq_true hb)
    have ge : G'.get? e = none := g2 e (by simp)
    have old : ∀ b o, hp.get? b = some o → G'.get? b = some o := fun b o q => (gk b (Nat.ne_of_lt (Nat.lt_of_lt_of_le (Heap.lt_size q) M.new))).trans (M.keep b o q)
    have ob : ObjOk X.prog X.w (upd H1 d (.xd [(("index" : Str), v)])) G' d (.xd [(("index" : Str), v)]) :=
      ⟨_, hns.at (fun o q => (gk d M.dne).trans q), fun f => relO_errN rv f⟩
    have J : Inv X pins σ (upd H1 d (.xd [(("index" : Str), v)])) ⟨G', g, dr, tk', os⟩ := I1.laid (t' := tk') old M.dbig ob
    refine ⟨e, oe, fv, ⟨G', g, dr, tk', os⟩, _, .ref C, some d, rfl, J, fun b o q => ?_, ge, hoe, ⟨hc, hd⟩, hdat, h1, ?_, rfl, I1.bare, raises_own T.exC T.tyC, q1 d (I1.hok.fresh M.dbig)⟩
    · by_cases hb : b = e
      · have q' : G'.get? b = some o := q
        rw [hb, ge] at q'; cases q'
      · exact (gk b hb).symm.trans q
    · rw [upd_ne (Ne.symm M.dne)]
      exact I1.hok.fresh M.new
/-- raise Low(e) -/
def tRaiseErrN (C : Addr) (W : WX) (ta : TA) : TS := fun _ σ H => tMkErrN C ta σ H fun cls d H' => W cls d σ H'
theorem ps_raiseErrN {a : Expr} {ta : TA} {W : WX} {p pos pos2 : Pos} {k : Nat} (hc : X.calm = true) (T : PySem.ErrN.ErrNxt X.K X.mg C fI) (hr : Room k X.A) (tk : Takes X W) (ha : PA X [a] ta) (hg : Gl X "InvalidText" := by rfl)
    (he : starEach (a :: []) X.env = (false, eval a X.env) :: starEach [] X.env := by rfl) (hpl : (backTo pos (starEach [] X.env)).any (·.1) = false := by rfl) :
    PS X (.Raise (some (.Call (.Name "InvalidText" p) [a] [] pos)) none pos2) (tRaiseErrN C W ta) := ps_raise hc tk (pmk_errN T hr ha hg he hpl)
/-- low.by, low the exception that the suite holds (at a; its class cls, its dict d) -/
def tErrNField (C : Addr) (a : Addr) (cls : Value) (d : Option Addr) (te : TE) : TE := fun σ H Q => te σ H fun x H1 => x = .ref a ∧ cls = .ref C ∧ ∃ (dd : Addr) (v : V), d = some dd ∧ H1 dd = some (.xd [(("index" : Str), v)]) ∧ Q v H1
theorem pe_errNField {a : Addr} {oe : Obj} {cls : Value} {d : Option Addr} {pn : List (Addr × Obj)} {e : Expr} {te : TE} {pos : Pos} (T : PySem.ErrN.ErrNxt X.K X.mg C fI) (hz : Zc cls d oe) (hf : ∃ vs, oe.data = .fields vs) (he : PE (X.suite a ((a, oe) :: pn)) e te)
    (hb : attributeBase e "index" X.env (eval e X.env) = eval e X.env := by rfl) :
    PE (X.suite a ((a, oe) :: pn)) (.Attribute e "index" pos) (tErrNField C a cls d te) := by
  refine ⟨fun pins s σ H Q I h => ?_⟩
  refine attr_of hb (thn (he.run pins s σ H _ I h) fun u s1 hh => ?_)
  obtain ⟨x, H1, I1, rx, ex, ec, dd, v, ed, ea, q⟩ := hh
  subst ex
  obtain rfl : u = Value.ref a := rx
  subst ec
  subst ed
  obtain ⟨ha, _⟩ := I1.pin (a, oe) (List.mem_append_left _ List.mem_cons_self)
  obtain ⟨vs, hd⟩ := hf
  have hx : ObjOk X.prog X.w H1 s1.heap dd (.xd [(("index" : Str), v)]) := I1.hok dd _ ea
  obtain ⟨mA, hns, hr⟩ := hx
  obtain ⟨od, ho, hl⟩ := lookIn_ns hns
  have l : List.lookup ("index" : Str) [(("index" : Str), v)] = some v := by simp [List.lookup]
  obtain ⟨u, hu, ru⟩ := RelO.some_of (v := v) (o := mA "index") (by rw [← l]; exact hr "index")
  have J : PySem.W.InstAt s1.heap a oe C (some od) := ⟨ha, hz.1, by unfold PySem.W.notCls; rw [hd] <;> rfl, by rw [hz.2]; exact ho⟩
  exact HandSPX.exc_get I1.kIn J T.ga T.gg T.exC (PySem.W.findObj_own T.hdC T.noN rfl (by rw [hl, hu])) (handed_of ru) ⟨v, H1, I1.tok _, ru, q⟩
end
end L2
set_option Elab.async false
set_option linter.all false
set_option maxRecDepth 100000
set_option maxHeartbeats 4000000
/-! FyB: d.get(k, x) of a dict of the written part -/
namespace Fs
open PySem PySem.Spec PyProof.Rows L2 Fh
open PySem.W (Frag)
def tKGet (K : Frag) (w : World) (td ty tx : TE) : TE := fun σ H Q => td σ H fun x H1 => ∃ (d : Addr) (es : Array DictEntry) (n : Nat), x = .ref d ∧ KDict K w d es n ∧ ty σ H1 fun y H2 => tx σ H2 fun z H3 =>
  ∃ (q : Str) (r : Option Value) (v : V), y = .str q ∧ PySem.W.nsIn K d q = some r ∧ (match r with | none => v = z | some u => RelV v u) ∧ Q v H3
section
variable {X : Cx} {o e f : Expr} {apos cpos : Pos} {td ty tx : TE}
theorem pe_kget (ho : PE X o td) (he : PE X e ty) (hf : PE X f tx) (m : M2 X o "get" apos e f cpos) : PE X (.Call (.Attribute o "get" apos) [e, f] [] cpos) (tKGet X.K X.w td ty tx) := by
  refine ⟨fun pins s σ H Q I h => ?_⟩
  refine wpAny_Call_method m.base m.few m.line PySem.F.plainAttrs_dict PySem.F.slot_dict_get PySem.F.type_dict_get (thn (ho.run pins s σ H _ I h) fun u s1 ⟨x, H1, I1, rx, d, es, n, ex, D, q1⟩ => ?_)
  subst ex
  obtain rfl : u = Value.ref d := rx
  refine ⟨kd_type D I1, fun b q => ?_, ?_⟩
  · cases q
    exact ⟨_, I1.kIn _ _ D.at_, rfl⟩
  rw [m.trees]
  refine Calls.callWith_builtin rfl (Calls.evalArgs_plain (Calls.spliced_cons (thn (he.run pins s1 σ H1 _ I1 q1) fun iv s2 ⟨y, H2, I2, ry, q2⟩ =>
    Calls.spliced_cons (thn (hf.run pins s2 σ H2 _ I2 q2) fun fv s3 ⟨z, H3, I3, rz, q, r, v, ey, hr, hv, q3⟩ => Calls.spliced_nil ?_))))
  subst ey
  obtain ⟨t, rfl⟩ := (show ∃ t, iv = Value.str q t from ry)
  refine call_meetsIn PySem.F.slot_dict_get (kd_type D I3) PySem.F.entry_dict_get (PySem.F.args_dict_get_3 _ _ _) (meets_dict_get_default (strKind X.prog X.w) d (strKind_is X.prog X.w q t) D.low fv) ⟨_, PySem.W.mapOf_K (prog := X.prog) I3.kIn D.at_ D.lit, ?_⟩
  rw [PySem.W.find_K D.at_ hr]
  refine ⟨v, H3, I3.tok _, ?_, q3⟩
  cases r with
  | none => rw [hv]; exact rz
  | some u => exact hv
end
end Fs
set_option Elab.async false
set_option linter.all false
set_option maxRecDepth 100000
set_option maxHeartbeats 4000000
/-! FtD: the error InvalidTask(field) over the layer: made and raised, read and asked for its class where it is caught -/
namespace PySem
namespace ErrT
open PySem.W PySem.Calls PyProof.Rows PySem.HandSPX
/-! ### the text of __init__ -/
def iA (p1 p2 : Pos) : Arguments := { posonlyargs := [], args := [{ arg := "self", annotation := none, pos := p1 }, { arg := "field", annotation := none, pos := p2 }], vararg := none, kwonlyargs := [], kw_defaults := [], kwarg := none, defaults := [] }
def iB (q1 q2 q3 q4 : Pos) : List Stmt := [.Assign [.Attribute (.Name "self" q1) "field" q2] (.Name "field" q3) q4]
def iS : Scope := { kind := .function, names := [(PySem.Str.ofString "self", .local), (PySem.Str.ofString "field", .local)], isGenerator := false, isCoroutine := false, more := [] }
/-- what the written part says of Low, at C, and of its __init__, at fI -/
structure ErrTxt (K : Frag) (mg : Str → Option Value) (C fI : Addr) : Prop where
  gC : mg "InvalidTask" = some (.ref C)
  cls : ∃ nm q N bs bm sn sub ab col dd k0 k1 k2 k3 k5, K.lookup C = some (excClassObj nm q C N bs bm true sn sub ab col dd k0 k1 k2 k3 k5 "ValueError.__new__") ∧ refsVE bm = true
  sa : findIn K (.ref C) "__setattr__" = some (some (.builtin "object.__setattr__"))
  ga : findIn K (.ref C) "__getattribute__" = some (some (.builtin "BaseException.__getattribute__"))
  gg : findIn K (.ref C) "__getattr__" = some none
  noN : findIn K (.ref C) "field" = some none
  iC : findIn K (.ref C) "__init__" = some (some (.ref fI))
  tC : typeIn K (.ref fI) = some (.type "function")
  kC : keepIn K (.ref C) = true
  exC : subIn K (.ref C) (.type "BaseException") = some true
  tyC : typeIn K (.ref C) = some (.type "type")
  hdC : hasDictIn K C = true
  te : exmOne K (.ref C) (.ref C) = some true
  fn : ∃ (oc : Value) (od : Option Addr) (kV doc pm : Value) (an : Option Addr) (cdv ct : Value) (osl : Array (Option Value)) (p1 p2 q1 q2 q3 q4 : Pos),
    K.lookup fI = some ⟨oc, od, .func (fnOf "__init__" "InvalidTask.__init__" (iA p1 p2) (iB q1 q2 q3 q4) iS .none kV doc pm an cdv ct), osl⟩ ∧ codeIn K cdv "InvalidTask.__init__" = true
theorem one_size (v : Value) : [v].length ≤ sizeLine := by
  rw [sizeLine_eq]
  exact (by decide : 1 ≤ 16777216)
theorem kept_but {K : Frag} {h h' : Heap} {x : Addr} (X : K.In h) (hx : K.lookup x = none) (k : ∀ b o, b ≠ x → h.get? b = some o → h'.get? b = some o) : K.In h' := fun a o e =>
  k a o (fun z => by rw [z, hx] at e; cases e) (X a o e)
theorem ldC {M : Model} {s : Shared} {name : Str} {scope : Scope} {L a : Addr} {cd : Value} {m : Str → Option Value} {x : Str} {pos : Pos} {v : Value} {Q : Value → Shared → Prop} {A : Around} {E : Value → Shared → Prop} (hn : s.heap.Ns L m) (hv : m x = some v) (h : Q v s)
    (hk : scope.kind = .function := by rfl) (hl : (envOfC name scope L a cd).kindOf x = some .local := by rfl) (hd : (x == ("__debug__" : Str)) = false := by decide) :
    wpAny M A (eval (.Name x pos) (envOfC name scope L a cd)) Q E s := wpAny_Name (wpAny_loadName_local hk hl hn hv h) hd
/-- what __init__ leaves of a fresh exception at x -/
structure InitEnd (h h' : Heap) (x C dx t1 : Addr) (v : Value) : Prop where
  keep : ∀ b o, b ≠ x → h.get? b = some o → h'.get? b = some o
  obj : h'.get? x = some { cls := .ref C, dict := some dx, data := .fields #[.ref t1, .none, .none, .none, .bool false, .none] }
  dbig : h.objs.size ≤ dx
  dne : dx ≠ x
  ns : h'.Ns1 dx (fun y => if y = "field" then some v else none)
/-- a made Low -/
structure OwnMade (h h' : Heap) (e C d : Addr) (v : Value) : Prop where
  keep : ∀ b o, h.get? b = some o → h'.get? b = some o
  new : h.objs.size ≤ e
  obj : ∃ oe vs, h'.get? e = some oe ∧ oe.cls = .ref C ∧ oe.dict = some d ∧ oe.data = .fields vs ∧ vs[1]? = some .none
  dbig : h.objs.size ≤ d
  dne : d ≠ e
  ns : h'.Ns1 d (fun y => if y = "field" then some v else none)
section
variable {prog : Program} {w : World} {A : Around} {E : Value → Shared → Prop} {R : Result → Shared → Prop} {s : Shared} {K : Frag} {mg : Str → Option Value} {C fI : Addr}
theorem errT_init (T : ErrTxt K mg C fI) {x t0 : Addr} {v : Value} (X : K.In s.heap) (hlim : s.heap.NoLimit) (hx : s.heap.get? x = some (excO C t0)) (hnx : K.lookup x = none) (hroom : A.depth < recursionLimit)
    (hq : ∀ h' tk dx, InitEnd s.heap h' x C dx t0 v → R (.ok (.ret .none)) { s with heap := h', toks := tk }) :
    codeAny (model prog w) A (.call (.ref fI) ⟨[.ref x, v], []⟩) R s := by
  obtain ⟨oc, od, kV, doc, pm, an, cdv, ct, osl, p1, p2, q1, q2, q3, q4, ho, hcd⟩ := T.fn
  obtain ⟨nm, q, N, bs, bm, sn, sub, ab, col, dd, k0, k1, k2, k3, k5, hC, hbm⟩ := T.cls
  have hcl : clsIn K C = some { name := nm, bases := bs, mro := .ref C :: bm, ns := N, qualname := q, hasDict := true, slotNames := sn, subclasses := sub, abstract := ab, collection := col, hasDel := false } := by unfold clsIn; rw [hC] <;> rfl
  refine Att.call_fn (binds := [("self", .ref x), ("field", v)]) X hlim ho hcd hroom (BindsTo.of_eq (by first | rfl | with_unfolding_all rfl)) (by first | rfl | decide | with_unfolding_all rfl) (fun s₁ IC => ?_) rfl rfl rfl
  obtain ⟨h₁, tk₁, rfl⟩ := IC.toInCall.same
  have k : ∀ b o, s.heap.get? b = some o → h₁.get? b = some o := IC.toInCall.keep
  have hn := IC.toInCall.ns
  have hxL : s.heap.objs.size ≠ x := Nat.ne_of_gt (Heap.lt_size hx)
  have X₁ : K.In h₁ := X.keeps k
  have hx₁ := k _ _ hx
  -- self.by = by
  show wpAny _ _ (execs _ _) _ _ _
  refine wpAny_execs_cons (plainObj_wpAny_Assign_Attribute ?_)
  refine ldC (v := v) hn (by first | rfl | with_unfolding_all rfl | kernel_rfl) (ldC (v := .ref x) hn (by first | rfl | with_unfolding_all rfl | kernel_rfl) ?_)
  refine set_plain X₁ (ox := excO C t0) (od := none) ⟨hx₁, rfl, rfl, trivial⟩ T.sa ?_
  refine exc_osa X₁ hx₁ hcl (show refsVE (.ref C :: bm) = true from hbm) rfl T.noN (fun h₃ tk₃ dx k₃ dn dne hx₃ hn₃ => ?_)
  show wpAny _ _ (execs _ _) _ _ _
  have z : s.heap.objs.size < h₁.objs.size := hn.lt
  exact wpAny_execs_nil (hq h₃ tk₃ dx ⟨fun b o hb e => k₃ b o hb (k b o e), hx₃, Nat.le_of_lt (Nat.lt_of_lt_of_le z dn), dne, hn₃⟩)
theorem errT_made (T : ErrTxt K mg C fI) {v : Value} (X : K.In s.heap) (hlim : s.heap.NoLimit) (hroom : A.depth + 1 < recursionLimit)
    (hq : ∀ h' tk e d, OwnMade s.heap h' e C d v → R (.ok (.ret (.ref e))) { s with heap := h', toks := tk }) :
    codeAny (model prog w) A (.call (.ref C) ⟨[v], []⟩) R s := by
  obtain ⟨nm, q, N, bs, bm, sn, sub, ab, col, dd, k0, k1, k2, k3, k5, hC, hbm⟩ := T.cls
  obtain ⟨hp, g, dr, tk, os⟩ := s
  have k : ∀ b o, hp.get? b = some o → ((hp.push (kdv_tup [v])).push (excO C hp.objs.size)).get? b = some o := fun b o e => Heap.get?_push_of_some _ (Heap.get?_push_of_some _ e)
  have hget : ((hp.push (kdv_tup [v])).push (excO C hp.objs.size)).get? (hp.objs.size + 1) = some (excO C hp.objs.size) := by heap_get
  have hnx : K.lookup (hp.objs.size + 1) = none := by
    cases e : K.lookup (hp.objs.size + 1) with
    | none => rfl
    | some o =>
      have z : hp.get? (hp.objs.size + 1) = some o := X _ _ e
      exact absurd (Nat.lt_of_succ_lt (Heap.lt_size z)) (Nat.lt_irrefl _)
  refine call_own F.excBase_ValueError (fun X => refsVE_contains X bm hbm) (X _ _ hC) (looks_findIn X T.iC) (fun self => bind_fn X self T.tC) (one_size v) ?_
  refine errT_init (s := ⟨(hp.push (kdv_tup [v])).push (excO C hp.objs.size), g, dr, tk, os⟩) T (X.keeps k) (hlim.keeps k) hget hnx ?_ fun h' tk' dx ⟨k', hx, dn, dne, hns⟩ => ?_
  · show A.depth + 1 < recursionLimit
    exact hroom
  · have old : ∀ b o, hp.get? b = some o → h'.get? b = some o := fun b o e => k' b o (Nat.ne_of_lt (Nat.lt_succ_of_lt (Heap.lt_size e))) (k b o e)
    have z : hp.objs.size + 1 + 1 ≤ dx := by
      first
        | (simpa only [Heap.size_push] using dn)
        | exact dn
        | (have q := dn; rw [Heap.size_push, Heap.size_push] at q; exact q)
    exact ⟨rfl, hq h' tk' (hp.objs.size + 1) dx ⟨old, Nat.le_succ _, ⟨_, _, hx, rfl, rfl, rfl, rfl⟩, Nat.le_trans (Nat.le_trans (Nat.le_succ _) (Nat.le_succ _)) z, dne, hns⟩⟩
end
end ErrT
end PySem
namespace L2
open PySem PySem.Spec PyProof.Rows
theorem relO_errT {v : V} {v' : Value} (r : RelV v v') (f : Str) : RelO (List.lookup f [(("field" : Str), v)]) (if f = "field" then some v' else none) := by
  by_cases hw : f = "field"
  · subst hw
    rw [if_pos rfl]
    have q : List.lookup ("field" : Str) [(("field" : Str), v)] = some v := by simp [List.lookup]
    rw [q]
    exact r
  · rw [if_neg hw]
    have qw : (f == ("field" : Str)) = false := by simpa using hw
    have q2 : List.lookup f [(("field" : Str), v)] = none := by simp [List.lookup, qw]
    rw [q2]
    trivial
section
variable {X : Cx} {C fI : Addr}
/-- Low(e) -/
def tMkErrT (C : Addr) (ta : TA) : St → Hp → XK → Prop := fun σ H Q => ta σ H fun vs H1 => ∃ v, vs = [v] ∧ ∀ d, H1 d = none → Q (.ref C) (some d) (upd H1 d (.xd [(("field" : Str), v)]))
theorem pmk_errT {a : Expr} {ta : TA} {p pos : Pos} {k : Nat} (T : PySem.ErrT.ErrTxt X.K X.mg C fI) (hr : Room k X.A) (ha : PA X [a] ta) (hg : Gl X "InvalidTask" := by rfl)
    (he : starEach (a :: []) X.env = (false, eval a X.env) :: starEach [] X.env := by rfl) (hpl : (backTo pos (starEach [] X.env)).any (·.1) = false := by rfl) :
    PMk X (.Call (.Name "InvalidTask" p) [a] [] pos) (tMkErrT C ta) := by
  intro pins s σ H Q I h
  refine wpAny_Call_Name_kw (ld_glob I hg T.gC ?_)
  refine PySem.W.callWith_K (h₀ := X.base) I.ok.mod.kin T.kC (thn (ha.run pos pins s σ H _ I h) fun us s1 hh => ?_) he hpl
  obtain ⟨vs, H1, I1, r1, v, ev, q1⟩ := hh
  subst ev
  refine ⟨I1.kIn, ?_⟩
  cases r1 with
  | cons rv rn =>
    rename_i v' us'
    cases rn
    show wpAny _ _ (call (.ref C) [v']) _ _ _
    have hlim := I1.nolimit
    obtain ⟨hp, g, dr, tk, os⟩ := s1
    refine wpAny_call (PySem.ErrT.errT_made T I1.kIn hlim (by have := hr.dp; omega) fun h' tk' e d M => ?_)
    show MkP X pins σ Q (.ref e) ⟨h', g, dr, tk', os⟩
    obtain ⟨oe, fv, hoe, hc, hd, hdat, h1⟩ := M.obj
    have hns := M.ns
    obtain ⟨G', g1, g2⟩ := restrict h' fun b => decide (b ≠ e)
    have gk : ∀ b, b ≠ e → G'.get? b = h'.get? b := fun b hb => g1 b (decide_eq_true hb)
    have ge : G'.get? e = none := g2 e (by simp)
    have old : ∀ b o, hp.get? b = some o → G'.get? b = some o := fun b o q => (gk b (Nat.ne_of_lt (Nat.lt_of_lt_of_le (Heap.lt_size q) M.new))).trans (M.keep b o q)
    have ob : ObjOk X.prog X.w (upd H1 d (.xd [(("field" : Str), v)])) G' d (.xd [(("field" : Str), v)]) :=
      ⟨_, hns.at (fun o q => (gk d M.dne).trans q), fun f => relO_errT rv f⟩
    have J : Inv X pins σ (upd H1 d (.xd [(("field" : Str), v)])) ⟨G', g, dr, tk', os⟩ := I1.laid (t' := tk') old M.dbig ob
    refine ⟨e, oe, fv, ⟨G', g, dr, tk', os⟩, _, .ref C, some d, rfl, J, fun b o q => ?_, ge, hoe, ⟨hc, hd⟩, hdat, h1, ?_, rfl, I1.bare, raises_own T.exC T.tyC, q1 d (I1.hok.fresh M.dbig)⟩
    · by_cases hb : b = e
      · have q' : G'.get? b = some o := q
        rw [hb, ge] at q'; cases q'
      · exact (gk b hb).symm.trans q
    · rw [upd_ne (Ne.symm M.dne)]
      exact I1.hok.fresh M.new
/-- raise Low(e) -/
def tRaiseErrT (C : Addr) (W : WX) (ta : TA) : TS := fun _ σ H => tMkErrT C ta σ H fun cls d H' => W cls d σ H'
theorem ps_raiseErrT {a : Expr} {ta : TA} {W : WX} {p pos pos2 : Pos} {k : Nat} (hc : X.calm = true) (T : PySem.ErrT.ErrTxt X.K X.mg C fI) (hr : Room k X.A) (tk : Takes X W) (ha : PA X [a] ta) (hg : Gl X "InvalidTask" := by rfl)
    (he : starEach (a :: []) X.env = (false, eval a X.env) :: starEach [] X.env := by rfl) (hpl : (backTo pos (starEach [] X.env)).any (·.1) = false := by rfl) :
    PS X (.Raise (some (.Call (.Name "InvalidTask" p) [a] [] pos)) none pos2) (tRaiseErrT C W ta) := ps_raise hc tk (pmk_errT T hr ha hg he hpl)
/-- low.by, low the exception that the suite holds (at a; its class cls, its dict d) -/
def tErrTField (C : Addr) (a : Addr) (cls : Value) (d : Option Addr) (te : TE) : TE := fun σ H Q => te σ H fun x H1 => x = .ref a ∧ cls = .ref C ∧ ∃ (dd : Addr) (v : V), d = some dd ∧ H1 dd = some (.xd [(("field" : Str), v)]) ∧ Q v H1
theorem pe_errTField {a : Addr} {oe : Obj} {cls : Value} {d : Option Addr} {pn : List (Addr × Obj)} {e : Expr} {te : TE} {pos : Pos} (T : PySem.ErrT.ErrTxt X.K X.mg C fI) (hz : Zc cls d oe) (hf : ∃ vs, oe.data = .fields vs) (he : PE (X.suite a ((a, oe) :: pn)) e te)
    (hb : attributeBase e "field" X.env (eval e X.env) = eval e X.env := by rfl) :
    PE (X.suite a ((a, oe) :: pn)) (.Attribute e "field" pos) (tErrTField C a cls d te) := by
  refine ⟨fun pins s σ H Q I h => ?_⟩
  refine attr_of hb (thn (he.run pins s σ H _ I h) fun u s1 hh => ?_)
  obtain ⟨x, H1, I1, rx, ex, ec, dd, v, ed, ea, q⟩ := hh
  subst ex
  obtain rfl : u = Value.ref a := rx
  subst ec
  subst ed
  obtain ⟨ha, _⟩ := I1.pin (a, oe) (List.mem_append_left _ List.mem_cons_self)
  obtain ⟨vs, hd⟩ := hf
  have hx : ObjOk X.prog X.w H1 s1.heap dd (.xd [(("field" : Str), v)]) := I1.hok dd _ ea
  obtain ⟨mA, hns, hr⟩ := hx
  obtain ⟨od, ho, hl⟩ := lookIn_ns hns
  have l : List.lookup ("field" : Str) [(("field" : Str), v)] = some v := by simp [List.lookup]
  obtain ⟨u, hu, ru⟩ := RelO.some_of (v := v) (o := mA "field") (by rw [← l]; exact hr "field")
  have J : PySem.W.InstAt s1.heap a oe C (some od) := ⟨ha, hz.1, by unfold PySem.W.notCls; rw [hd] <;> rfl, by rw [hz.2]; exact ho⟩
  exact HandSPX.exc_get I1.kIn J T.ga T.gg T.exC (PySem.W.findObj_own T.hdC T.noN rfl (by rw [hl, hu])) (handed_of ru) ⟨v, H1, I1.tok _, ru, q⟩
end
end L2
set_option Elab.async false
set_option linter.all false
set_option maxRecDepth 100000
set_option maxHeartbeats 4000000
/-! FtC: own == of an instance beside a tuple, a text, None -/
namespace Fs
open PySem PySem.Spec PyProof.Rows L2 Fh
open PySem.W (Frag)
section
variable {X : Cx} {CX : CXT} {n : Nat} {g C : Addr} {sp : Sp} {E : XK}
/-- what a right operand of another type is -/
def OthT (H : Hp) (y : V) (t : Value) : Prop := (∃ b xs, y = .ref b ∧ H b = some (.tup xs) ∧ t = .type "tuple") ∨ (∃ z, y = .str z ∧ t = .type "str") ∨ (y = .non ∧ t = .type "NoneType")
theorem OthT.looks {pins : List (Addr × Obj)} {s : Shared} {σ : L2.St} {H : Hp} {y : V} {u t : Value} (o : OthT H y t) (I : Inv X pins σ H s) (ry : RelV y u) : PySem.W.Looks (model X.prog X.w) s.heap (typeOf u) t := by
  rcases o with ⟨b, xs, rfl, eb, rfl⟩ | ⟨z, rfl, rfl⟩ | ⟨rfl, rfl⟩
  · obtain rfl : u = Value.ref b := ry
    obtain ⟨its, rv, ⟨ob, ho, hc, m, hd⟩, hz⟩ := I.tuple (SqT.of eb)
    intro A Q E s k q
    refine wpAny_typeOf_ref (k _ _ ho) ?_
    rw [hc]
    exact q
  · obtain ⟨tk, rfl⟩ := ry
    intro A Q E s k q
    exact wpAny_pure q
  · obtain rfl : u = Value.none := ry
    intro A Q E s k q
    exact wpAny_pure q
def rEqT (K : Frag) (C : Addr) (sp : Sp) (E : XK) : R2 := fun x y H Q => ∃ a dx fs t, x = .ref a ∧ H a = some (.ins C dx fs) ∧ OthT H y t ∧ PySem.W.notFirst K C t = true ∧ sp [x, y] H Q E
theorem op_eqT (hs : PySem.W.findIn X.K (.ref C) "__eq__" = some (some (.ref g))) (hf : PySem.W.isFn X.K (.ref g) = true) (F : FnR X.prog X.w X.K X.mg X.base CX n g sp) (hr : Room n X.A) (hx : Passes CX X E) : OpR X (compareOp .Eq) (rEqT X.K C sp E) := by
  intro pins s σ H x y v u Q I rx ry h
  obtain ⟨a, dx, fs, t, rfl, ea, o, hn, q⟩ := h
  cases (show v = Value.ref a from rx)
  obtain ⟨mA, O, _, _, _, _⟩ := ins_get I.hok ea
  obtain ⟨od, J, _⟩ := O.look
  obtain ⟨m, hF⟩ := I.fr
  have ht := o.looks I ry
  show wpAny _ _ (richCompare .Eq _ _) _ _ _
  refine PySem.W.cmp_K (op := .Eq) (tb := t) hr.units0 hF I.ok.mod.kin J ht hn hs hf ?_
  refine wpAny_mono (wpAny_call (run_fnR (us := [.ref a, u]) (vs := [.ref a, y]) F hr hx I (.cons rfl (.cons ry .nil)) q)) (fun w s' z => ?_) fun _ _ x => x
  obtain ⟨z', H', I', rz, qz⟩ := z
  exact SlX.cmpback rz ⟨z', H', I', rz, qz⟩
end
end Fs
set_option Elab.async false
set_option linter.all false
set_option maxRecDepth 100000
set_option maxHeartbeats 4000000
/-! FtE: values of any kind, as data, at the top loosely held; what isinstance tells of them -/
namespace Fs
open PySem PySem.Spec PyProof.Rows L2 Fh
open PySem.W (Frag)
/-! ### isinstance of the error that a suite holds -/
structure ErrC (K : Frag) (C : Addr) : Prop where
  is : (PySem.W.clsIn K C).isSome = true
  cl : PySem.W.findIn K (.ref C) "__class__" = some (some (.builtin "object.__class__"))
  hn : PySem.W.specialIn K (.builtin "object.__class__") "__get__" = some (some (.builtin "getset_descriptor.__get__"))
  ht : PySem.W.takesIn K (.builtin "object.__class__") = some true
  hm : PySem.W.mroIn K C (.type "object") = some true
def rIsED (K : Frag) (C a : Addr) (cls : Value) (d : Option Addr) : List V → Hp → VK → Prop := fun xs H Q => ∃ (dd : Addr) (fs : List (Str × V)) (c : V) (cv : Value) (b : Bool), xs = [.ref a, c] ∧ cls = .ref C ∧ d = some dd ∧ H dd = some (.xd fs) ∧ ClsV c cv ∧ PySem.W.kitOne K (.ref C) cv = some b ∧ Q (.bl b) H
theorem call_isED {X : Cx} {a C fI : Addr} {oe : Obj} {cls : Value} {d : Option Addr} {pn : List (Addr × Obj)} (T : PySem.ErrT.ErrTxt X.K X.mg C fI) (U : ErrC X.K C) (hz : Zc cls d oe) (hf : ∃ vs, oe.data = .fields vs) : CallR (X.suite a ((a, oe) :: pn)) (.builtin "isinstance") (rIsED X.K C a cls d) := by
  intro pins s σ H xs us Q I r h
  obtain ⟨dd, fs, c, cv, b, rfl, ec, ed, hd, hc, e, q⟩ := h
  obtain ⟨u1, u2, rfl, r1, r2⟩ := vals2 r
  have e1 : u1 = Value.ref a := r1
  rw [e1, hc.eq r2]
  subst ec ed
  obtain ⟨ha, _⟩ := I.pin (a, oe) (List.mem_append_left _ List.mem_cons_self)
  obtain ⟨vs, hv⟩ := hf
  have hx : ObjOk X.prog X.w H s.heap dd (.xd fs) := I.hok dd _ hd
  obtain ⟨mA, hns, hr⟩ := hx
  obtain ⟨od, ho, hl⟩ := lookIn_ns hns
  have J : PySem.W.InstAt s.heap a oe C (some od) := ⟨ha, hz.1, by unfold PySem.W.notCls; rw [hv] <;> rfl, by rw [hz.2]; exact ho⟩
  exact PySem.W.kia_one (PySem.W.kitx_exc (od := some od) U.is T.ga T.gg T.exC U.cl U.hn U.ht U.hm) I.kIn J e (fun z => nomatch z) fun tk => ⟨.bl b, H, I.tok tk, rfl, q⟩
/-! ### values of any kind -/
def IsD (N : Addr → Prop) (H : Hp) (v : V) : PyData → Prop
  | .none => v = .non
  | .bool b => v = .bl b
  | .int i => v = .int i
  | .str x => v = .str x
  | .list ds => ∃ a xs, v = .ref a ∧ ¬ N a ∧ H a = some (.lst xs) ∧ DAs N H xs ds
  | .tuple ds => ∃ a xs, v = .ref a ∧ ¬ N a ∧ H a = some (.tup xs) ∧ DAs N H xs ds
  | .dict _ => ∃ a es, v = .ref a ∧ ¬ N a ∧ H a = some (.dK es)
theorem IsD.of {N : Addr → Prop} {H : Hp} {v : V} {d : PyData} (h : DA N H v d) : IsD N H v d := by
  cases h with
  | non => exact rfl
  | bl b => exact rfl
  | int i => exact rfl
  | str x => exact rfl
  | lst h1 h2 h3 h4 => exact ⟨_, _, rfl, h3, h1, h4⟩
  | tup h1 h3 h4 => exact ⟨_, _, rfl, h3, h1, h4⟩
  | dK h1 h3 _ => exact ⟨_, _, rfl, h3, h1⟩
theorem IsD.same {N : Addr → Prop} {H H' : Hp} {v : V} {d : PyData} (s : Same H H') (h : IsD N H v d) : IsD N H' v d := by
  cases d with
  | none => exact h
  | bool b => exact h
  | int i => exact h
  | str x => exact h
  | list ds => obtain ⟨a, xs, e, n, z, r⟩ := h; exact ⟨a, xs, e, n, s _ _ z, DAs.same s r⟩
  | tuple ds => obtain ⟨a, xs, e, n, z, r⟩ := h; exact ⟨a, xs, e, n, s _ _ z, DAs.same s r⟩
  | dict kvs => obtain ⟨a, es, e, n, z⟩ := h; exact ⟨a, es, e, n, s _ _ z⟩
theorem IsD.but {N : Addr → Prop} {p : Addr} {H H' : Hp} {v : V} {d : PyData} (s : But p H H') (hp : N p) (h : IsD N H v d) : IsD N H' v d := by
  have ne : ∀ {a : Addr}, ¬ N a → a ≠ p := fun n e => n (e ▸ hp)
  cases d with
  | none => exact h
  | bool b => exact h
  | int i => exact h
  | str x => exact h
  | list ds => obtain ⟨a, xs, e, n, z, r⟩ := h; exact ⟨a, xs, e, n, s _ _ (ne n) z, DAs.but s hp r⟩
  | tuple ds => obtain ⟨a, xs, e, n, z, r⟩ := h; exact ⟨a, xs, e, n, s _ _ (ne n) z, DAs.but s hp r⟩
  | dict kvs => obtain ⟨a, es, e, n, z⟩ := h; exact ⟨a, es, e, n, s _ _ (ne n) z⟩
def tyn : PyData → String
  | .none => "NoneType"
  | .bool _ => "bool"
  | .int _ => "int"
  | .str _ => "str"
  | .list _ => "list"
  | .tuple _ => "tuple"
  | .dict _ => "dict"
theorem IsD.ty {K : Frag} {N : Addr → Prop} {H : Hp} {v : V} {d : PyData} (h : IsD N H v d) : TyX K H v (.type (tyn d)) := by
  cases d with
  | none => rw [show v = .non from h]; exact .base .non
  | bool b => rw [show v = .bl b from h]; exact .base (.bl b)
  | int i => rw [show v = .int i from h]; exact .base (.int i)
  | str x => rw [show v = .str x from h]; exact .base (.str x)
  | list ds => obtain ⟨a, xs, e, n, z, r⟩ := h; rw [e]; exact ty_l (SqL.of z)
  | tuple ds => obtain ⟨a, xs, e, n, z, r⟩ := h; rw [e]; exact ty_t (SqT.of z)
  | dict kvs => obtain ⟨a, es, e, n, z⟩ := h; rw [e]; exact .base (.dK z)
def isStr : PyData → Bool
  | .str _ => true
  | _ => false
def isInt : PyData → Bool
  | .int _ => true
  | .bool _ => true
  | _ => false
def isBool : PyData → Bool
  | .bool _ => true
  | _ => false
def isSeq : PyData → Bool
  | .list _ => true
  | .tuple _ => true
  | _ => false
theorem kit_str (K : Frag) (d : PyData) : PySem.W.kitOne K (.type (tyn d)) (.type "str") = some (isStr d) := by cases d <;> rfl
theorem kit_int (K : Frag) (d : PyData) : PySem.W.kitOne K (.type (tyn d)) (.type "int") = some (isInt d) := by cases d <;> rfl
theorem kit_bool (K : Frag) (d : PyData) : PySem.W.kitOne K (.type (tyn d)) (.type "bool") = some (isBool d) := by cases d <;> rfl
theorem kit_seq (K : Frag) (d : PyData) : PySem.W.kitAny K (.type (tyn d)) [.type "list", .type "tuple"] = some (isSeq d) := by cases d <;> rfl
/-! ### words, names, whole numbers -/
def abcN : List Nat := (Str.ofString "abcdefghijklmnopqrstuvwxyz").cps.toList
def sgB (x : Str) : List Bool := x.cps.toList.map fun c => decide (c ∈ abcN)
def wordB (x : Str) : Bool := decide (1 ≤ x.length) && (decide (x.length ≤ 8) && (sgB x).all id)
def wordD : PyData → Bool
  | .str x => wordB x
  | _ => false
def txts : List PyData → List Str
  | [] => []
  | .str x :: ds => x :: txts ds
  | _ :: ds => txts ds
def namesB (ds : List PyData) : Bool := (ds.map wordD).all id && decide ((txts ds).length = (ded (txts ds)).length)
def namesD : PyData → Bool
  | .list ds => namesB ds
  | .tuple ds => namesB ds
  | _ => false
def wholeD (lo hi : Int) : PyData → Bool
  | .int i => decide (lo ≤ i) && decide (i ≤ hi)
  | _ => false
def smS (d : PyData) : Prop := ∀ x, d = .str x → x.length ≤ 1000
def Sm : PyData → Prop
  | .str x => x.length ≤ 1000
  | .list ds => ds.length ≤ 50 ∧ ∀ d ∈ ds, smS d
  | .tuple ds => ds.length ≤ 50 ∧ ∀ d ∈ ds, smS d
  | _ => True
theorem Sm.str {d : PyData} (h : Sm d) : smS d := fun x e => by rw [e] at h; exact h
theorem txts_words : ∀ {ds : List PyData}, (ds.map wordD).all id = true → ds = (txts ds).map PyData.str ∧ (∀ x ∈ txts ds, wordB x = true)
  | [], _ => ⟨rfl, (fun _ z => nomatch z)⟩
  | d :: ds, h => by
    rw [List.map_cons, List.all_cons] at h
    obtain ⟨h1, h2⟩ := (Bool.and_eq_true _ _ ▸ h : id (wordD d) = true ∧ (ds.map wordD).all id = true)
    obtain ⟨i1, i2⟩ := txts_words h2
    cases d with
    | str x =>
      refine ⟨?_, fun y hy => ?_⟩
      · show PyData.str x :: ds = PyData.str x :: (txts ds).map PyData.str
        rw [← i1]
      · rcases List.mem_cons.mp (show y ∈ x :: txts ds from hy) with z | z
        · rw [z]; exact h1
        · exact i2 y z
    | _ => cases h1
theorem das_vals {N : Addr → Prop} {H : Hp} : ∀ {xs : List V} {ws : List Str}, DAs N H xs (ws.map PyData.str) → xs = ws.map V.str
  | _, [], .nil => rfl
  | _, w :: ws, .cons h r => by
    cases h
    rw [das_vals r]
    rfl
theorem ded_nodup_len {xs : List Str} (h : xs.length = (ded xs).length) : xs.Nodup := by
  have h2 : ∀ (xs ks : List Str), ks.Nodup → (xs.foldl addT ks).length = ks.length + xs.length → (ks ++ xs).Nodup := by
    intro xs
    induction xs with
    | nil => intro ks nd _; rw [List.append_nil]; exact nd
    | cons x xs ih =>
      intro ks nd e
      rw [List.foldl_cons] at e
      have l := (foldl_addT xs (addT ks x) (by
        unfold addT
        split
        · exact nd
        · rename_i hx
          exact List.nodup_append.mpr ⟨nd, List.nodup_cons.mpr ⟨List.not_mem_nil, List.nodup_nil⟩, fun a ha b hb e => hx (by rw [List.mem_singleton.mp hb] at e; rw [← e]; exact ha)⟩)).2.2
      by_cases hx : x ∈ ks
      · have e1 : addT ks x = ks := if_pos hx
        rw [e1] at l e
        rw [List.length_cons] at e
        omega
      · have e1 : addT ks x = ks ++ [x] := if_neg hx
        rw [e1] at e
        have nd2 : (ks ++ [x]).Nodup := List.nodup_append.mpr ⟨nd, List.nodup_cons.mpr ⟨List.not_mem_nil, List.nodup_nil⟩, fun a ha b hb e => hx (by rw [List.mem_singleton.mp hb] at e; rw [← e]; exact ha)⟩
        have z := ih (ks ++ [x]) nd2 (by rw [e, List.length_append, List.length_cons, List.length_singleton]; omega)
        rw [List.append_assoc] at z
        exact z
  have z := h2 xs [] List.nodup_nil (by rw [List.length_nil, Nat.zero_add]; exact h.symm)
  exact z
end Fs
namespace Fs
open PySem PySem.Spec PyProof.Rows L2 Fh
open PySem.W (Frag)
/-! ### what stays when one instance is filled -/
def KeepD (H H' : Hp) : Prop := ∀ b o, H b = some o → (∀ C dx fs, o ≠ .ins C dx fs) → H' b = some o
mutual
theorem DA.keep {N : Addr → Prop} {H H' : Hp} (s : KeepD H H') : ∀ {v : V} {d : PyData}, DA N H v d → DA N H' v d
  | _, _, .non => .non
  | _, _, .bl b => .bl b
  | _, _, .int i => .int i
  | _, _, .str x => .str x
  | _, _, .lst h n m r => .lst (s _ _ h (fun _ _ _ z => nomatch z)) n m (DAs.keep s r)
  | _, _, .tup h m r => .tup (s _ _ h (fun _ _ _ z => nomatch z)) m (DAs.keep s r)
  | _, _, .dK h m r => .dK (s _ _ h (fun _ _ _ z => nomatch z)) m (DKs.keep s r)
theorem DAs.keep {N : Addr → Prop} {H H' : Hp} (s : KeepD H H') : ∀ {v : List V} {d : List PyData}, DAs N H v d → DAs N H' v d
  | _, _, .nil => .nil
  | _, _, .cons h r => .cons (DA.keep s h) (DAs.keep s r)
theorem DKs.keep {N : Addr → Prop} {H H' : Hp} (s : KeepD H H') : ∀ {v : List (Key × V)} {d : List (PyData × PyData)}, DKs N H v d → DKs N H' v d
  | _, _, .nil => .nil
  | _, _, .cons h r => .cons (DA.keep s h) (DKs.keep s r)
end
theorem IsD.keep {N : Addr → Prop} {H H' : Hp} {v : V} {d : PyData} (s : KeepD H H') (h : IsD N H v d) : IsD N H' v d := by
  cases d with
  | none => exact h
  | bool b => exact h
  | int i => exact h
  | str x => exact h
  | list ds => obtain ⟨a, xs, e, n, z, r⟩ := h; exact ⟨a, xs, e, n, s _ _ z (fun _ _ _ z => nomatch z), DAs.keep s r⟩
  | tuple ds => obtain ⟨a, xs, e, n, z, r⟩ := h; exact ⟨a, xs, e, n, s _ _ z (fun _ _ _ z => nomatch z), DAs.keep s r⟩
  | dict kvs => obtain ⟨a, es, e, n, z⟩ := h; exact ⟨a, es, e, n, s _ _ z (fun _ _ _ z => nomatch z)⟩
end Fs
set_option Elab.async false
set_option linter.all false
set_option maxRecDepth 100000
set_option maxHeartbeats 4000000
/-! FtF: a list beside [] -/
namespace Fs
open PySem PySem.Spec PyProof.Rows L2 Fh
open PySem.W (Frag)
section
variable {X : Cx}
def rEqE (K : Frag) : R2 := fun x y H Q => ∃ (a b : Addr) (xs : List V), x = .ref a ∧ y = .ref b ∧ SqL K H a xs ∧ SqL K H b [] ∧ Q (.bl xs.isEmpty) H
def rNeE (K : Frag) : R2 := fun x y H Q => ∃ (a b : Addr) (xs : List V), x = .ref a ∧ y = .ref b ∧ SqL K H a xs ∧ SqL K H b [] ∧ Q (.bl (!xs.isEmpty)) H
theorem op_eqE (hu : X.A.units < cLine) : OpR X (compareOp .Eq) (rEqE X.K) := by
  intro pins s σ H x y v u Q I rx ry h
  obtain ⟨a, b, xs, rfl, rfl, ha, hb, q⟩ := h
  cases (show v = Value.ref a from rx)
  cases (show u = Value.ref b from ry)
  obtain ⟨i1, r1, p1, _⟩ := I.list ha
  obtain ⟨i2, r2, p2, _⟩ := I.list hb
  have l2 : i2 = [] := by cases r2; rfl
  subst l2
  cases xs with
  | nil =>
    have l1 : i1 = [] := by cases r1; rfl
    subst l1
    exact SeqAt.eq_listAt (e := fun _ => true) p1.isList p2.isList rfl hu (fun j h1 _ => absurd h1 (Nat.not_lt_zero _)) ⟨.bl true, H, I, rfl, q⟩
  | cons z zs =>
    cases r1 with
    | cons rz rr => exact SeqAt.eq_list_lengthsAt p1.isList p2.isList (by simp) hu ⟨.bl false, H, I, rfl, q⟩
theorem op_neE (hu : X.A.units < cLine) : OpR X (compareOp .NotEq) (rNeE X.K) := by
  intro pins s σ H x y v u Q I rx ry h
  obtain ⟨a, b, xs, rfl, rfl, ha, hb, q⟩ := h
  cases (show v = Value.ref a from rx)
  cases (show u = Value.ref b from ry)
  obtain ⟨i1, r1, p1, _⟩ := I.list ha
  obtain ⟨i2, r2, p2, _⟩ := I.list hb
  have l2 : i2 = [] := by cases r2; rfl
  subst l2
  cases xs with
  | nil =>
    have l1 : i1 = [] := by cases r1; rfl
    subst l1
    exact SeqAt.RcNeAt.lists (e := fun _ => true) p1.isList p2.isList rfl hu (fun j h1 _ => absurd h1 (Nat.not_lt_zero _)) _ _ _ _ ⟨.bl false, H, I, rfl, q⟩
  | cons z zs =>
    cases r1 with
    | cons rz rr => exact SeqAt.RcNeAt.lists_lengths p1.isList p2.isList (by simp) hu _ _ _ _ ⟨.bl true, H, I, rfl, q⟩
end
end Fs
namespace Fs
open PySem PySem.Spec PyProof.Rows L2 Fh
open PySem.W (Frag)
mutual
theorem DA.weak {N N' : Addr → Prop} {H : Hp} (h : ∀ a, N' a → N a) : ∀ {v : V} {d : PyData}, DA N H v d → DA N' H v d
  | _, _, .non => .non
  | _, _, .bl b => .bl b
  | _, _, .int i => .int i
  | _, _, .str x => .str x
  | _, _, .lst e n m r => .lst e n (fun z => m (h _ z)) (DAs.weak h r)
  | _, _, .tup e m r => .tup e (fun z => m (h _ z)) (DAs.weak h r)
  | _, _, .dK e m r => .dK e (fun z => m (h _ z)) (DKs.weak h r)
theorem DAs.weak {N N' : Addr → Prop} {H : Hp} (h : ∀ a, N' a → N a) : ∀ {v : List V} {d : List PyData}, DAs N H v d → DAs N' H v d
  | _, _, .nil => .nil
  | _, _, .cons e r => .cons (DA.weak h e) (DAs.weak h r)
theorem DKs.weak {N N' : Addr → Prop} {H : Hp} (h : ∀ a, N' a → N a) : ∀ {v : List (Key × V)} {d : List (PyData × PyData)}, DKs N H v d → DKs N' H v d
  | _, _, .nil => .nil
  | _, _, .cons e r => .cons (DA.weak h e) (DKs.weak h r)
end
theorem IsD.weak {N N' : Addr → Prop} {H : Hp} {v : V} {d : PyData} (w : ∀ a, N' a → N a) (h : IsD N H v d) : IsD N' H v d := by
  cases d with
  | none => exact h
  | bool b => exact h
  | int i => exact h
  | str x => exact h
  | list ds => obtain ⟨a, xs, e, n, z, r⟩ := h; exact ⟨a, xs, e, fun q => n (w _ q), z, DAs.weak w r⟩
  | tuple ds => obtain ⟨a, xs, e, n, z, r⟩ := h; exact ⟨a, xs, e, fun q => n (w _ q), z, DAs.weak w r⟩
  | dict kvs => obtain ⟨a, es, e, n, z⟩ := h; exact ⟨a, es, e, fun q => n (w _ q), z⟩
/-- what a drawn value of any kind may be: apart from all of N -/
def spAnyN (ds : List PyData) : Sp := fun vs H Q _ => ∃ (N : Addr → Prop) (p c : Addr) (n : Nat), vs = [.ref p] ∧ N p ∧ Kept N H ∧ PenAt H p c n ∧ n ≤ 1000000 ∧
  ∀ (d : PyData) (x : V) (H' : Hp), d ∈ ds → DA N H' x d → PenAt H' p c (n + 1) → But p H H' → Q x H'
theorem kept_but {N : Addr → Prop} {H H' : Hp} {p c : Addr} {m : Nat} (k : Kept N H) (b : But p H H') (P : PenAt H' p c m) : Kept N H' := fun a n z => by
  by_cases e : a = p
  · obtain ⟨_, cs, sp, re, hp, _⟩ := P
    rw [e, hp] at z
    cases z
  · cases q : H a with
    | none => exact k a n q
    | some o =>
      rw [b a o e q] at z
      cases z
def IsDs (N : Addr → Prop) (H : Hp) : List V → List PyData → Prop
  | [], [] => True
  | v :: vs, d :: ds => (IsD N H v d ∧ Sm d) ∧ IsDs N H vs ds
  | _, _ => False
theorem IsDs.keep {N : Addr → Prop} {H H' : Hp} (k : ∀ v d, IsD N H v d → IsD N H' v d) : ∀ {vs : List V} {ds : List PyData}, IsDs N H vs ds → IsDs N H' vs ds
  | [], [], _ => trivial
  | v :: vs, d :: ds, h => ⟨⟨k _ _ h.1.1, h.1.2⟩, IsDs.keep k h.2⟩
  | [], _ :: _, h => h.elim
  | _ :: _, [], h => h.elim
theorem IsDs.snoc {N : Addr → Prop} {H : Hp} {v : V} {d : PyData} (e : IsD N H v d) (m : Sm d) : ∀ {vs : List V} {ds : List PyData}, IsDs N H vs ds → IsDs N H (vs ++ [v]) (ds ++ [d])
  | [], [], _ => ⟨⟨e, m⟩, trivial⟩
  | v :: vs, d :: ds, h => ⟨h.1, IsDs.snoc e m h.2⟩
  | [], _ :: _, h => h.elim
  | _ :: _, [], h => h.elim
theorem IsDs.len {N : Addr → Prop} {H : Hp} : ∀ {vs : List V} {ds : List PyData}, IsDs N H vs ds → vs.length = ds.length
  | [], [], _ => rfl
  | v :: vs, d :: ds, h => congrArg (· + 1) h.2.len
  | [], _ :: _, h => h.elim
  | _ :: _, [], h => h.elim
end Fs
set_option Elab.async false
set_option linter.all false
set_option maxRecDepth 100000
set_option maxHeartbeats 4000000
/-! FhY: a head by facts with getters and classmethods, the statics among what is looked at -/
namespace FhY
open PySem PySem.Spec PyProof.Rows L2 Fh
open PySem.W (Frag)
/-- the def in a property's, a classmethod's record -/
def getA (K : Frag) (T : String) (p : Addr) : Addr := match PySem.W.recIn K p T with
  | some (.ref g :: _) => g
  | _ => 0
def recB (K : Frag) (T : String) (p : Addr) : Bool := match PySem.W.recIn K p T with
  | some (.ref _ :: _) => true
  | _ => false
theorem recB_ok {K : Frag} {T : String} {p : Addr} (h : recB K T p = true) : ∃ rest, PySem.W.recIn K p T = some (.ref (getA K T p) :: rest) := by
  unfold recB at h
  unfold getA
  split at h
  · rename_i g r e
    exact ⟨r, by rw [e]⟩
  · cases h
def propB (K : Frag) (C : Addr) (f : Str) : Bool := He.eqO (PySem.W.findIn K (.ref C) f) (some (some (.ref (He.ma K C f)))) && (He.eqO (PySem.W.specialIn K (.ref (He.ma K C f)) "__get__") (some (some (.builtin "property.__get__"))) &&
  (decide (PySem.W.takesIn K (.ref (He.ma K C f)) = some true) && recB K "property" (He.ma K C f)))
theorem propB_ok {K : Frag} {C : Addr} {f : Str} (h : propB K C f = true) : PropOf K C f (He.ma K C f) (getA K "property" (He.ma K C f)) := by
  obtain ⟨h1, h⟩ := He.ba h
  obtain ⟨h2, h⟩ := He.ba h
  obtain ⟨h3, h4⟩ := He.ba h
  exact ⟨He.eqO_ok h1, He.eqO_ok h2, of_decide_eq_true h3, recB_ok h4⟩
def cmFound (r : Option PySem.W.CFound) (p C : Addr) : Bool := match r with
  | some (.get (.builtin s) (.ref q) .none (.ref D)) => decide (s = "classmethod.__get__") && (decide (q = p) && decide (D = C))
  | _ => false
theorem cmFound_ok {r : Option PySem.W.CFound} {p C : Addr} (h : cmFound r p C = true) : r = some (.get (.builtin "classmethod.__get__") (.ref p) .none (.ref C)) := by
  unfold cmFound at h
  split at h
  · obtain ⟨h1, h2⟩ := He.ba h
    obtain ⟨h3, h4⟩ := He.ba h2
    rw [of_decide_eq_true h1, of_decide_eq_true h3, of_decide_eq_true h4]
  · cases h
def cmB (K : Frag) (C : Addr) (m : Str) : Bool := cmFound (PySem.W.findCls K (.ref C) (.type "type") m) (He.ma K C m) C && (recB K "classmethod" (He.ma K C m) && PySem.W.fnIn K (getA K "classmethod" (He.ma K C m)))
theorem cmB_ok {K : Frag} {C : Addr} {m : Str} (h : cmB K C m = true) : ClX.CMet K C (.type "type") m (He.ma K C m) (getA K "classmethod" (He.ma K C m)) := by
  obtain ⟨h1, h⟩ := He.ba h
  obtain ⟨h2, h3⟩ := He.ba h
  exact ⟨cmFound_ok h1, recB_ok h2, h3⟩
def crB (K : Frag) (C : Addr) : Bool := PySem.W.readsIn K C (.type "type") && He.eqO (PySem.W.specialIn K (.ref C) "__getattribute__") (some (some (.builtin "type.__getattribute__")))
theorem crB_ok {K : Frag} {C : Addr} (h : crB K C = true) : ClX.CRead K C (.type "type") := by
  obtain ⟨h1, h2⟩ := He.ba h
  exact ⟨h1, He.eqO_ok h2⟩
/-! ### a def that stands in such a record -/
structure GDef where
  at_ : Frag → Addr
  name : Str
  qual : Str
  params : Arguments
  body : List Stmt
  scope : Scope
def gW (K : Frag) (a : Addr) : He.FnW := match K.lookup a with
  | some ⟨_, _, .func fd, _⟩ => some (fd.name, fd.qualname, fd.params, fd.body, fd.scope, fd.globals, fd.closure, fd.builtins)
  | _ => none
def GDef.val (d : GDef) : He.FnW := some (d.name, d.qual, d.params, .stmts d.body, d.scope, mainGlobals, [], builtinsNs)
def GDef.ok (K : Frag) (d : GDef) : Bool := PySem.W.keepIn K (.ref (d.at_ K)) && (match K.lookup (d.at_ K) with
  | some ⟨_, _, .func fd, _⟩ => PySem.W.codeIn K fd.code d.qual && (He.dflB K fd.defaults [] && He.kwdB K fd.kwdefaults [])
  | _ => false)
theorem GDef.funD {K : Frag} {d : GDef} (e : gW K (d.at_ K) = d.val) (c : d.ok K = true) : ∃ fd, FunD K d.name d.qual d.params d.body d.scope [] [] (d.at_ K) fd := by
  obtain ⟨kp, c2⟩ := He.ba c
  unfold gW at e
  cases q : K.lookup (d.at_ K) with
  | none =>
    rw [q] at c2
    cases c2
  | some o =>
    obtain ⟨oc, od, dt, osl⟩ := o
    rw [q] at c2 e
    cases dt with
    | func fd =>
      obtain ⟨n1, n2, n3, n4, n5, n6, n7, n8, n9, n10, n11, n12, n13, n14, n15⟩ := fd
      have e2 : (some (n1, n2, n3, n4, n5, n6, n7, n15) : He.FnW) = some (d.name, d.qual, d.params, .stmts d.body, d.scope, mainGlobals, [], builtinsNs) := e
      simp only [Option.some.injEq, Prod.mk.injEq] at e2
      obtain ⟨h1, h2, h3, h4, h5, h6, h7, h8⟩ := e2
      subst h1 h2 h3 h4 h5 h6 h7 h8
      have c3 : (PySem.W.codeIn K n13 d.qual && (He.dflB K n8 [] && He.kwdB K n9 [])) = true := c2
      obtain ⟨k1, k2⟩ := He.ba c3
      obtain ⟨k3, k4⟩ := He.ba k2
      exact ⟨_, ⟨oc, od, n8, n9, n10, n11, n12, n13, n14, osl, rfl, q, k1, He.dflB_ok k3, He.kwdB_ok k4⟩, kp⟩
    | _ => cases c2
/-! ### the Hook -/
abbrev AlY : Type := (He.AlD × List He.FnW) × Bool
def obsK (fa : List He.Fa) (fn : List He.DefD) (gs : List GDef) (ex : Frag → Bool) (K : Frag) : AlY := ((He.obsD fa fn K, gs.map fun d => gW K (d.at_ K)), ex K && gs.all fun d => d.ok K)
def valY (fn : List He.DefD) (gs : List GDef) : AlY := ((He.valD fn, gs.map GDef.val), true)
def asY (n : Nat) (g : Addr → Option Obj) : List Addr := cStatics :: He.asD g n
def obsY (n : Nat) (fa : List He.Fa) (fn : List He.DefD) (gs : List GDef) (ex : Frag → Bool) (g : Addr → Option Obj) : AlY := obsK fa fn gs ex (He.frT g (asY n g))
def hookY (n : Nat) (fa : List He.Fa) (fn : List He.DefD) (gs : List GDef) (ex : Frag → Bool) : PySem.W.Hook where
  α := AlY
  obs := fun s => obsY n fa fn gs ex s.heap.get?
  val := fun _ => valY fn gs
  says := fun _ h => ∃ K : Frag, K.In h ∧ obsK fa fn gs ex K = valY fn gs
  of := fun _ _ e => ⟨_, He.frT_in, e⟩
  keeps := fun _ _ _ ⟨K, hK, c⟩ k => ⟨K, PySem.W.Frag.In.keeps hK k, c⟩
theorem obsY_eq {n : Nat} {fa : List He.Fa} {fn : List He.DefD} {gs : List GDef} {ex : Frag → Bool} {g : Addr → Option Obj} {s : Shared} (h : ∀ a, g a = s.heap.get? a) : obsY n fa fn gs ex g = (hookY n fa fn gs ex).obs s := by
  have e : g = s.heap.get? := funext h
  rw [e] <;> rfl
section
variable {fa : List He.Fa} {fn : List He.DefD} {gs : List GDef} {ex : Frag → Bool} {K : Frag}
theorem says_d (c : obsK fa fn gs ex K = valY fn gs) : He.SaysD fa fn K := congrArg (fun z : AlY => z.1.1) c
theorem says_more (c : obsK fa fn gs ex K = valY fn gs) : ex K = true := (He.ba (show (ex K && gs.all fun d => d.ok K) = true from congrArg (fun z : AlY => z.2) c)).1
theorem says_get (c : obsK fa fn gs ex K = valY fn gs) (i : Nat) {d : GDef} (h : gs[i]? = some d := by rfl) : ∃ fd, FunD K d.name d.qual d.params d.body d.scope [] [] (d.at_ K) fd := by
  have c2 := (He.ba (show (ex K && gs.all fun d => d.ok K) = true from congrArg (fun z : AlY => z.2) c)).2
  have e : gs.map (fun d => gW K (d.at_ K)) = gs.map GDef.val := congrArg (fun z : AlY => z.1.2) c
  have e2 : (gs.map fun d => gW K (d.at_ K))[i]? = (gs.map GDef.val)[i]? := by rw [e]
  rw [List.getElem?_map, List.getElem?_map, h] at e2
  exact GDef.funD (Option.some.inj e2) (List.all_eq_true.mp c2 d (List.mem_of_getElem? h))
end
end FhY
set_option Elab.async false
set_option linter.all false
set_option maxRecDepth 100000
set_option maxHeartbeats 4000000
/-! FhZ: errors' classes by the head's facts, a law's end -/
namespace Fh
open PySem PySem.Spec PyProof.Rows L2
open PySem.W (Frag)
/-! ### a def by the head's facts -/
theorem funD {K : Frag} {x qual : Str} {st : Stmt} {f : Addr} {fd : FuncData} (F : FunD K x qual (defArgs st) (defBody st) (defScope st) [] [] f fd) : Fun K x qual st f fd := by
  obtain ⟨oc, od, dV, kV, doc, pm, an, cdv, ct, osl, rfl, lk, hcd, hd, _⟩ := F.ex
  rcases hd with ⟨_, rfl⟩ | ⟨h, _⟩
  · exact ⟨⟨oc, od, kV, doc, pm, an, cdv, ct, osl, rfl, lk, hcd⟩, F.kp⟩
  · exact absurd rfl h
def dDef (x : Str) (st : Stmt) : He.DefD := ⟨(x, none), x, x, defArgs st, defBody st, defScope st, [], []⟩
def dMeth (c m q : Str) (st : Stmt) : He.DefD := ⟨(c, some m), m, q, defArgs st, defBody st, defScope st, [], []⟩
/-! ### an error's class by the head's facts -/
def eqT (a b : Option Value) : Bool := decide (a = b)
def eiB (K : Frag) (C : Addr) (b : BK) : Bool := PySem.W.excInitIn K C b.bm b.nw && (decide ((PySem.W.clsIn K C).map (·.mro) = some (.ref C :: b.bm)) && (PySem.W.hasDictIn K C && (eqT (PySem.W.typeIn K (.ref C)) (some (.type "type")) &&
  (He.eqO (PySem.W.findIn K (.ref C) "__setattr__") (some (some (.builtin "object.__setattr__"))) && (He.eqO (PySem.W.findIn K (.ref C) "__getattribute__") (some (some (.builtin "BaseException.__getattribute__"))) &&
  (He.eqO (PySem.W.findIn K (.ref C) "__getattr__") (some none) && (He.eqO (PySem.W.findIn K (.ref C) "__class__") (some (some (.builtin "object.__class__"))) && (PySem.W.keepIn K (.ref C) &&
  (He.eqO (PySem.W.specialIn K (.builtin "object.__class__") "__get__") (some (some (.builtin "getset_descriptor.__get__"))) && decide (PySem.W.takesIn K (.builtin "object.__class__") = some true))))))))))
theorem eiB_ok {K : Frag} {C : Addr} {b : BK} (h : eiB K C b = true) : EK K C b := by
  obtain ⟨h1, h⟩ := He.ba h
  obtain ⟨h2, h⟩ := He.ba h
  obtain ⟨h3, h⟩ := He.ba h
  obtain ⟨h4, h⟩ := He.ba h
  obtain ⟨h5, h⟩ := He.ba h
  obtain ⟨h6, h⟩ := He.ba h
  obtain ⟨h7, h⟩ := He.ba h
  obtain ⟨h8, h⟩ := He.ba h
  obtain ⟨h9, h⟩ := He.ba h
  obtain ⟨h10, h11⟩ := He.ba h
  exact ⟨h1, of_decide_eq_true h2, h3, of_decide_eq_true h4, He.eqO_ok h5, He.eqO_ok h6, He.eqO_ok h7, He.eqO_ok h8, h9, He.eqO_ok h10, of_decide_eq_true h11⟩
abbrev ClR : Type := Str × BK × List Str
def clB (K : Frag) (r : ClR) : Bool := eiB K (He.ga K r.1) r.2.1 && (match r.2.2 with
  | [] => PySem.W.excIn K (He.ga K r.1) r.2.1.bm r.2.1.nw
  | fs => He.eqO (PySem.W.findIn K (.ref (He.ga K r.1)) "__init__") (some (some (.ref (He.ma K (He.ga K r.1) "__init__")))) && (eqT (PySem.W.typeIn K (.ref (He.ma K (He.ga K r.1) "__init__"))) (some (.type "function")) &&
    fs.all fun f => He.eqO (PySem.W.findIn K (.ref (He.ga K r.1)) f) (some none)))
def clsB (rs : List ClR) (K : Frag) : Bool := rs.all (clB K) && decide ((rs.map fun r => He.ga K r.1).Nodup)
structure ClI (K : Frag) (r : ClR) : Prop where
  ei : EK K (He.ga K r.1) r.2.1
  iC : PySem.W.findIn K (.ref (He.ga K r.1)) "__init__" = some (some (.ref (He.ma K (He.ga K r.1) "__init__")))
  tI : PySem.W.typeIn K (.ref (He.ma K (He.ga K r.1) "__init__")) = some (.type "function")
  no : ∀ f ∈ r.2.2, PySem.W.findIn K (.ref (He.ga K r.1)) f = some none
theorem clB_one {K : Frag} {n : Str} {b : BK} {f : Str} {fs : List Str} (h : clB K (n, b, f :: fs) = true) : ClI K (n, b, f :: fs) := by
  obtain ⟨h1, h⟩ := He.ba h
  obtain ⟨h2, h⟩ := He.ba h
  obtain ⟨h3, h4⟩ := He.ba h
  exact ⟨eiB_ok h1, He.eqO_ok h2, of_decide_eq_true h3, fun g hg => He.eqO_ok (List.all_eq_true.mp h4 g hg)⟩
theorem clB_none {K : Frag} {n : Str} {b : BK} (h : clB K (n, b, []) = true) : EK K (He.ga K n) b ∧ PySem.W.excIn K (He.ga K n) b.bm b.nw = true := by
  obtain ⟨h1, h2⟩ := He.ba h
  exact ⟨eiB_ok h1, h2⟩
theorem clsB_at {K : Frag} {rs : List ClR} (h : clsB rs K = true) {r : ClR} (i : Nat) (e : rs[i]? = some r) : clB K r = true :=
  List.all_eq_true.mp (He.ba h).1 r (List.mem_of_getElem? e)
theorem clsB_apart {K : Frag} {rs : List ClR} (h : clsB rs K = true) {i j : Nat} (hi : i < rs.length) (hj : j < rs.length) (d : ClR) (e : He.ga K (rs.getD i d).1 = He.ga K (rs.getD j d).1) : i = j := by
  have nd : (rs.map fun r => He.ga K r.1).Pairwise (· ≠ ·) := of_decide_eq_true (He.ba h).2
  have p := List.pairwise_iff_getElem.mp nd
  have gi : rs.getD i d = rs[i] := by rw [List.getD_eq_getElem?_getD, List.getElem?_eq_getElem hi]; rfl
  have gj : rs.getD j d = rs[j] := by rw [List.getD_eq_getElem?_getD, List.getElem?_eq_getElem hj]; rfl
  rw [gi, gj] at e
  rcases Nat.lt_trichotomy i j with q | q | q
  · exact absurd (by rw [List.getElem_map, List.getElem_map]; exact e) (p i j (by rw [List.length_map]; exact hi) (by rw [List.length_map]; exact hj) q)
  · exact q
  · exact absurd (by rw [List.getElem_map, List.getElem_map]; exact e.symm) (p j i (by rw [List.length_map]; exact hj) (by rw [List.length_map]; exact hi) q)
/-- a law's end: the head's facts in hand -/
theorem walk_ofGE {l : PySem.W.OpenLaw} {n k : Nat} {q : Program} {loose : List Str} {XP : (Str → Option Value) → Heap → Prop} {YP : World → Heap → Prop} {d : DefRec} {CX : CXT} {x : Str}
    (hn : l.most = some n) (hn2 : n ≤ sizeLine) (hdf : d.params.defaults = []) (hr : Room k callerA)
    (F : ∀ (w : World) (mg : Str → Option Value) (fa : Addr) (h : Heap), YP w h → h.Ns mainGlobals mg → mg d.name = some (.ref fa) →
      ∃ (K : Frag) (fd : FuncData) (sp : Sp), K.In h ∧ (∀ (s : Shared) (u : Value), BindsTo s fd ⟨[u], []⟩ [(x, u)]) ∧
        (∀ (H : Hp) (a : Addr) (ns : List Int), ns.length ≤ n → (∀ z ∈ ns, Builtin.Int.intBits z ≤ 1048576) → Only H → SqL K H a (ns.map V.int) → sp [.ref a] H (fun v _ => v = .bl true) fun _ _ _ => False) ∧
        ∀ base : Heap, K.In base → base.Ns mainGlobals mg → FnG l.prog w K mg base CX k fa fd [x] sp)
    (hCX : ∀ (H : Hp) (s : Shared) (e : Value) (s' : Shared), CX [] H s (fun _ _ _ => False) e s' → False) :
    PySem.W.WalkO q loose XP YP l.row.toRowW d [] (fun f vs => PySem.call f vs) := by
  refine Att.attach_callB hn hdf fun w s0 s1 mg mb fa o pm cd doc a vs ns G Y ho hd hcd hmg hobj hints hlen hbits hg => ?_
  obtain ⟨K, fd, sp, KX, hb, hsp, hF⟩ := F w mg fa _ Y G.T.g hmg
  exact law_callG KX G.T.g G.T.b G.T.builtins G.T.nolimit hg hobj hints (Nat.le_trans hlen hn2) hr hF hb (fun H hO hS => hsp H a ns hlen hbits hO hS) (fun H e s' => hCX H s1 e s')
end Fh
namespace FhY
open PySem PySem.Spec PyProof.Rows L2 Fh
open PySem.W (Frag)
theorem funM {fa : List He.Fa} {fn : List He.DefD} {K : Frag} (c : He.SaysD fa fn K) (i : Nat) {cn m q : Str} {st : Stmt} (h : fn[i]? = some (dMeth cn m q st)) : ∃ fd, Fun K m q st (He.ma K (He.ga K cn) m) fd := by
  obtain ⟨fd, F⟩ := c.def_ i h
  exact ⟨fd, funD F⟩
theorem funT {fa : List He.Fa} {fn : List He.DefD} {K : Frag} (c : He.SaysD fa fn K) (i : Nat) {x : Str} {st : Stmt} (h : fn[i]? = some (dDef x st)) : ∃ fd, Fun K x x st (He.ga K x) fd := by
  obtain ⟨fd, F⟩ := c.def_ i h
  exact ⟨fd, funD F⟩
/-- a getter, a classmethod's def -/
def gDef (c m q : Str) (T : String) (st : Stmt) : GDef := ⟨fun K => getA K T (He.ma K (He.ga K c) m), m, q, defArgs st, defBody st, defScope st⟩
theorem funG {fa : List He.Fa} {fn : List He.DefD} {gs : List GDef} {ex : Frag → Bool} {K : Frag} (c : obsK fa fn gs ex K = valY fn gs) (i : Nat) {cn m q : Str} {T : String} {st : Stmt} (h : gs[i]? = some (gDef cn m q T st)) :
    ∃ fd, Fun K m q st (getA K T (He.ma K (He.ga K cn) m)) fd := by
  obtain ⟨fd, F⟩ := says_get c i h
  exact ⟨fd, funD F⟩
end FhY
set_option Elab.async false
set_option linter.all false
set_option maxRecDepth 100000
set_option maxHeartbeats 4000000
/-! FtG: the error's row of facts by the head's Bools -/
namespace Fs
open PySem PySem.Spec PyProof.Rows L2 Fh
open PySem.W (Frag)
theorem ei_obj {K : Frag} {C : Addr} {bmB : List Value} {nw : String} (T : EI K C bmB nw) : ∃ nm q N bs sn sub ab col dd k0 k1 k2 k3 k5, K.lookup C = some (excClassObj nm q C N bs bmB true sn sub ab col dd k0 k1 k2 k3 k5 nw) := by
  have q := T.q
  have m := T.mro
  have hd := T.hd
  unfold PySem.W.hasDictIn at hd
  unfold PySem.W.clsIn at m hd
  unfold PySem.W.excInitIn at q
  split at q
  · rename_i dd cd sl ho
    rw [ho] at m hd
    split at q
    · rename_i C' bm k0 k1 k2 k3 n k5 hm hs
      simp only [Bool.and_eq_true, beq_iff_eq, Bool.not_eq_true'] at q
      obtain ⟨⟨⟨rfl, rfl⟩, hdel⟩, ht⟩ := q
      obtain ⟨nm, bs, mro, ns, qn, hdc, sn, sub, ab, col, del⟩ := cd
      dsimp only at hm hdel
      subst hm hdel
      have m2 : some (Value.ref C' :: bm) = some (Value.ref C' :: bmB) := m
      injection m2 with m3
      injection m3 with _ m4
      subst m4
      have hd2 : hdc = true := hd
      subst hd2
      have hsl : sl = #[k0, k1, k2, k3, some (.builtin n), k5] := by
        obtain ⟨l⟩ := sl
        simp only at hs
        rw [hs]
      subst hsl
      exact ⟨nm, qn, ns, bs, sn, sub, ab, col, dd, k0, k1, k2, k3, k5, ho⟩
    · cases q
  · cases q
theorem errT_of {K : Frag} {mg : Str → Option Value} {C : Addr} (gC : mg "InvalidTask" = some (.ref C)) (T : EK K C .ve) {fI : Addr} (no : PySem.W.findIn K (.ref C) "field" = some none) (iC : PySem.W.findIn K (.ref C) "__init__" = some (some (.ref fI))) (tI : PySem.W.typeIn K (.ref fI) = some (.type "function"))
    (fn : ∃ (oc : Value) (od : Option Addr) (kV doc pm : Value) (an : Option Addr) (cdv ct : Value) (osl : Array (Option Value)) (p1 p2 q1 q2 q3 q4 : Pos),
      K.lookup fI = some ⟨oc, od, .func (PySem.W.fnOf "__init__" "InvalidTask.__init__" (PySem.ErrT.iA p1 p2) (PySem.ErrT.iB q1 q2 q3 q4) PySem.ErrT.iS .none kV doc pm an cdv ct), osl⟩ ∧ PySem.W.codeIn K cdv "InvalidTask.__init__" = true) : PySem.ErrT.ErrTxt K mg C fI := by
  obtain ⟨nm, q, N, bs, sn, sub, ab, col, dd, k0, k1, k2, k3, k5, ho⟩ := ei_obj T
  have sB : PySem.W.subIn K (.ref C) (.type "BaseException") = some true := by rw [T.sub]; rfl
  have sC : PySem.W.subIn K (.ref C) (.ref C) = some true := by rw [T.sub, List.contains_cons]; simp
  exact { gC := gC, cls := ⟨nm, q, N, bs, _, sn, sub, ab, col, dd, k0, k1, k2, k3, k5, ho, by decide +kernel⟩, sa := T.sa, ga := T.ga, gg := T.gg, noN := no, iC := iC, tC := tI, kC := T.kC, exC := sB, tyC := T.ty, hdC := T.hd, te := PySem.W.exm_ref sB T.hd T.ty sC, fn := fn }
theorem errC_of {K : Frag} {C : Addr} (T : EK K C .ve) : ErrC K C := by
  obtain ⟨cd, h1, _⟩ := T.cls
  exact ⟨by rw [h1]; rfl, T.cl, T.hn, T.ht, by rw [T.mroI]; rfl⟩
theorem errV_of {K : Frag} {C : Addr} (T : EK K C .ve) : PySem.W.kitOne K (.ref C) (.type "ValueError") = some true := by
  rw [T.kitT (by decide +kernel)]
  rfl
end Fs
set_option Elab.async false
set_option linter.all false
set_option maxRecDepth 100000
set_option maxHeartbeats 4000000
/-! FxF: the error InvalidStaff(value) over the layer: made and raised, read and asked for its class where it is caught -/
namespace PySem
namespace ErrS
open PySem.W PySem.Calls PyProof.Rows PySem.HandSPX
/-! ### the text of __init__ -/
def iA (p1 p2 : Pos) : Arguments := { posonlyargs := [], args := [{ arg := "self", annotation := none, pos := p1 }, { arg := "value", annotation := none, pos := p2 }], vararg := none, kwonlyargs := [], kw_defaults := [], kwarg := none, defaults := [] }
def iB (q1 q2 q3 q4 : Pos) : List Stmt := [.Assign [.Attribute (.Name "self" q1) "value" q2] (.Name "value" q3) q4]
def iS : Scope := { kind := .function, names := [(PySem.Str.ofString "self", .local), (PySem.Str.ofString "value", .local)], isGenerator := false, isCoroutine := false, more := [] }
/-- what the written part says of Low, at C, and of its __init__, at fI -/
structure ErrSxt (K : Frag) (mg : Str → Option Value) (C fI : Addr) : Prop where
  gC : mg "InvalidStaff" = some (.ref C)
  cls : ∃ nm q N bs bm sn sub ab col dd k0 k1 k2 k3 k5, K.lookup C = some (excClassObj nm q C N bs bm true sn sub ab col dd k0 k1 k2 k3 k5 "ValueError.__new__") ∧ refsVE bm = true
  sa : findIn K (.ref C) "__setattr__" = some (some (.builtin "object.__setattr__"))
  ga : findIn K (.ref C) "__getattribute__" = some (some (.builtin "BaseException.__getattribute__"))
  gg : findIn K (.ref C) "__getattr__" = some none
  noN : findIn K (.ref C) "value" = some none
  iC : findIn K (.ref C) "__init__" = some (some (.ref fI))
  tC : typeIn K (.ref fI) = some (.type "function")
  kC : keepIn K (.ref C) = true
  exC : subIn K (.ref C) (.type "BaseException") = some true
  tyC : typeIn K (.ref C) = some (.type "type")
  hdC : hasDictIn K C = true
  te : exmOne K (.ref C) (.ref C) = some true
  fn : ∃ (oc : Value) (od : Option Addr) (kV doc pm : Value) (an : Option Addr) (cdv ct : Value) (osl : Array (Option Value)) (p1 p2 q1 q2 q3 q4 : Pos),
    K.lookup fI = some ⟨oc, od, .func (fnOf "__init__" "InvalidStaff.__init__" (iA p1 p2) (iB q1 q2 q3 q4) iS .none kV doc pm an cdv ct), osl⟩ ∧ codeIn K cdv "InvalidStaff.__init__" = true
theorem one_size (v : Value) : [v].length ≤ sizeLine := by
  rw [sizeLine_eq]
  exact (by decide : 1 ≤ 16777216)
theorem kept_but {K : Frag} {h h' : Heap} {x : Addr} (X : K.In h) (hx : K.lookup x = none) (k : ∀ b o, b ≠ x → h.get? b = some o → h'.get? b = some o) : K.In h' := fun a o e =>
  k a o (fun z => by rw [z, hx] at e; cases e) (X a o e)
theorem ldC {M : Model} {s : Shared} {name : Str} {scope : Scope} {L a : Addr} {cd : Value} {m : Str → Option Value} {x : Str} {pos : Pos} {v : Value} {Q : Value → Shared → Prop} {A : Around} {E : Value → Shared → Prop} (hn : s.heap.Ns L m) (hv : m x = some v) (h : Q v s)
    (hk : scope.kind = .function := by rfl) (hl : (envOfC name scope L a cd).kindOf x = some .local := by rfl) (hd : (x == ("__debug__" : Str)) = false := by decide) :
    wpAny M A (eval (.Name x pos) (envOfC name scope L a cd)) Q E s := wpAny_Name (wpAny_loadName_local hk hl hn hv h) hd
/-- what __init__ leaves of a fresh exception at x -/
structure InitEnd (h h' : Heap) (x C dx t1 : Addr) (v : Value) : Prop where
  keep : ∀ b o, b ≠ x → h.get? b = some o → h'.get? b = some o
  obj : h'.get? x = some { cls := .ref C, dict := some dx, data := .fields #[.ref t1, .none, .none, .none, .bool false, .none] }
  dbig : h.objs.size ≤ dx
  dne : dx ≠ x
  ns : h'.Ns1 dx (fun y => if y = "value" then some v else none)
/-- a made Low -/
structure OwnMade (h h' : Heap) (e C d : Addr) (v : Value) : Prop where
  keep : ∀ b o, h.get? b = some o → h'.get? b = some o
  new : h.objs.size ≤ e
  obj : ∃ oe vs, h'.get? e = some oe ∧ oe.cls = .ref C ∧ oe.dict = some d ∧ oe.data = .fields vs ∧ vs[1]? = some .none
  dbig : h.objs.size ≤ d
  dne : d ≠ e
  ns : h'.Ns1 d (fun y => if y = "value" then some v else none)
section
variable {prog : Program} {w : World} {A : Around} {E : Value → Shared → Prop} {R : Result → Shared → Prop} {s : Shared} {K : Frag} {mg : Str → Option Value} {C fI : Addr}
theorem errS_init (T : ErrSxt K mg C fI) {x t0 : Addr} {v : Value} (X : K.In s.heap) (hlim : s.heap.NoLimit) (hx : s.heap.get? x = some (excO C t0)) (hnx : K.lookup x = none) (hroom : A.depth < recursionLimit)
    (hq : ∀ h' tk dx, InitEnd s.heap h' x C dx t0 v → R (.ok (.ret .none)) { s with heap := h', toks := tk }) :
    codeAny (model prog w) A (.call (.ref fI) ⟨[.ref x, v], []⟩) R s := by
  obtain ⟨oc, od, kV, doc, pm, an, cdv, ct, osl, p1, p2, q1, q2, q3, q4, ho, hcd⟩ := T.fn
  obtain ⟨nm, q, N, bs, bm, sn, sub, ab, col, dd, k0, k1, k2, k3, k5, hC, hbm⟩ := T.cls
  have hcl : clsIn K C = some { name := nm, bases := bs, mro := .ref C :: bm, ns := N, qualname := q, hasDict := true, slotNames := sn, subclasses := sub, abstract := ab, collection := col, hasDel := false } := by unfold clsIn; rw [hC] <;> rfl
  refine Att.call_fn (binds := [("self", .ref x), ("value", v)]) X hlim ho hcd hroom (BindsTo.of_eq (by first | rfl | with_unfolding_all rfl)) (by first | rfl | decide | with_unfolding_all rfl) (fun s₁ IC => ?_) rfl rfl rfl
  obtain ⟨h₁, tk₁, rfl⟩ := IC.toInCall.same
  have k : ∀ b o, s.heap.get? b = some o → h₁.get? b = some o := IC.toInCall.keep
  have hn := IC.toInCall.ns
  have hxL : s.heap.objs.size ≠ x := Nat.ne_of_gt (Heap.lt_size hx)
  have X₁ : K.In h₁ := X.keeps k
  have hx₁ := k _ _ hx
  -- self.by = by
  show wpAny _ _ (execs _ _) _ _ _
  refine wpAny_execs_cons (plainObj_wpAny_Assign_Attribute ?_)
  refine ldC (v := v) hn (by first | rfl | with_unfolding_all rfl | kernel_rfl) (ldC (v := .ref x) hn (by first | rfl | with_unfolding_all rfl | kernel_rfl) ?_)
  refine set_plain X₁ (ox := excO C t0) (od := none) ⟨hx₁, rfl, rfl, trivial⟩ T.sa ?_
  refine exc_osa X₁ hx₁ hcl (show refsVE (.ref C :: bm) = true from hbm) rfl T.noN (fun h₃ tk₃ dx k₃ dn dne hx₃ hn₃ => ?_)
  show wpAny _ _ (execs _ _) _ _ _
  have z : s.heap.objs.size < h₁.objs.size := hn.lt
  exact wpAny_execs_nil (hq h₃ tk₃ dx ⟨fun b o hb e => k₃ b o hb (k b o e), hx₃, Nat.le_of_lt (Nat.lt_of_lt_of_le z dn), dne, hn₃⟩)
theorem errS_made (T : ErrSxt K mg C fI) {v : Value} (X : K.In s.heap) (hlim : s.heap.NoLimit) (hroom : A.depth + 1 < recursionLimit)
    (hq : ∀ h' tk e d, OwnMade s.heap h' e C d v → R (.ok (.ret (.ref e))) { s with heap := h', toks := tk }) :
    codeAny (model prog w) A (.call (.ref C) ⟨[v], []⟩) R s := by
  obtain ⟨nm, q, N, bs, bm, sn, sub, ab, col, dd, k0, k1, k2, k3, k5, hC, hbm⟩ := T.cls
  obtain ⟨hp, g, dr, tk, os⟩ := s
  have k : ∀ b o, hp.get? b = some o → ((hp.push (kdv_tup [v])).push (excO C hp.objs.size)).get? b = some o := fun b o e => Heap.get?_push_of_some _ (Heap.get?_push_of_some _ e)
  have hget : ((hp.push (kdv_tup [v])).push (excO C hp.objs.size)).get? (hp.objs.size + 1) = some (excO C hp.objs.size) := by heap_get
  have hnx : K.lookup (hp.objs.size + 1) = none := by
    cases e : K.lookup (hp.objs.size + 1) with
    | none => rfl
    | some o =>
      have z : hp.get? (hp.objs.size + 1) = some o := X _ _ e
      exact absurd (Nat.lt_of_succ_lt (Heap.lt_size z)) (Nat.lt_irrefl _)
  refine call_own F.excBase_ValueError (fun X => refsVE_contains X bm hbm) (X _ _ hC) (looks_findIn X T.iC) (fun self => bind_fn X self T.tC) (one_size v) ?_
  refine errS_init (s := ⟨(hp.push (kdv_tup [v])).push (excO C hp.objs.size), g, dr, tk, os⟩) T (X.keeps k) (hlim.keeps k) hget hnx ?_ fun h' tk' dx ⟨k', hx, dn, dne, hns⟩ => ?_
  · show A.depth + 1 < recursionLimit
    exact hroom
  · have old : ∀ b o, hp.get? b = some o → h'.get? b = some o := fun b o e => k' b o (Nat.ne_of_lt (Nat.lt_succ_of_lt (Heap.lt_size e))) (k b o e)
    have z : hp.objs.size + 1 + 1 ≤ dx := by
      first
        | (simpa only [Heap.size_push] using dn)
        | exact dn
        | (have q := dn; rw [Heap.size_push, Heap.size_push] at q; exact q)
    exact ⟨rfl, hq h' tk' (hp.objs.size + 1) dx ⟨old, Nat.le_succ _, ⟨_, _, hx, rfl, rfl, rfl, rfl⟩, Nat.le_trans (Nat.le_trans (Nat.le_succ _) (Nat.le_succ _)) z, dne, hns⟩⟩
end
end ErrS
end PySem
namespace L2
open PySem PySem.Spec PyProof.Rows
theorem relO_errS {v : V} {v' : Value} (r : RelV v v') (f : Str) : RelO (List.lookup f [(("value" : Str), v)]) (if f = "value" then some v' else none) := by
  by_cases hw : f = "value"
  · subst hw
    rw [if_pos rfl]
    have q : List.lookup ("value" : Str) [(("value" : Str), v)] = some v := by simp [List.lookup]
    rw [q]
    exact r
  · rw [if_neg hw]
    have qw : (f == ("value" : Str)) = false := by simpa using hw
    have q2 : List.lookup f [(("value" : Str), v)] = none := by simp [List.lookup, qw]
    rw [q2]
    trivial
section
variable {X : Cx} {C fI : Addr}
/-- Low(e) -/
def tMkErrS (C : Addr) (ta : TA) : St → Hp → XK → Prop := fun σ H Q => ta σ H fun vs H1 => ∃ v, vs = [v] ∧ ∀ d, H1 d = none → Q (.ref C) (some d) (upd H1 d (.xd [(("value" : Str), v)]))
theorem pmk_errS {a : Expr} {ta : TA} {p pos : Pos} {k : Nat} (T : PySem.ErrS.ErrSxt X.K X.mg C fI) (hr : Room k X.A) (ha : PA X [a] ta) (hg : Gl X "InvalidStaff" := by rfl)
    (he : starEach (a :: []) X.env = (false, eval a X.env) :: starEach [] X.env := by rfl) (hpl : (backTo pos (starEach [] X.env)).any (·.1) = false := by rfl) :
    PMk X (.Call (.Name "InvalidStaff" p) [a] [] pos) (tMkErrS C ta) := by
  intro pins s σ H Q I h
  refine wpAny_Call_Name_kw (ld_glob I hg T.gC ?_)
  refine PySem.W.callWith_K (h₀ := X.base) I.ok.mod.kin T.kC (thn (ha.run pos pins s σ H _ I h) fun us s1 hh => ?_) he hpl
  obtain ⟨vs, H1, I1, r1, v, ev, q1⟩ := hh
  subst ev
  refine ⟨I1.kIn, ?_⟩
  cases r1 with
  | cons rv rn =>
    rename_i v' us'
    cases rn
    show wpAny _ _ (call (.ref C) [v']) _ _ _
    have hlim := I1.nolimit
    obtain ⟨hp, g, dr, tk, os⟩ := s1
    refine wpAny_call (PySem.ErrS.errS_made T I1.kIn hlim (by have := hr.dp; omega) fun h' tk' e d M => ?_)
    show MkP X pins σ Q (.ref e) ⟨h', g, dr, tk', os⟩
    obtain ⟨oe, fv, hoe, hc, hd, hdat, h1⟩ := M.obj
    have hns := M.ns
    obtain ⟨G', g1, g2⟩ := restrict h' fun b => decide (b ≠ e)
    have gk : ∀ b, b ≠ e → G'.get? b = h'.get? b := fun b hb => g1 b (decide_eq_true hb)
    have ge : G'.get? e = none := g2 e (by simp)
    have old : ∀ b o, hp.get? b = some o → G'.get? b = some o := fun b o q => (gk b (Nat.ne_of_lt (Nat.lt_of_lt_of_le (Heap.lt_size q) M.new))).trans (M.keep b o q)
    have ob : ObjOk X.prog X.w (upd H1 d (.xd [(("value" : Str), v)])) G' d (.xd [(("value" : Str), v)]) :=
      ⟨_, hns.at (fun o q => (gk d M.dne).trans q), fun f => relO_errS rv f⟩
    have J : Inv X pins σ (upd H1 d (.xd [(("value" : Str), v)])) ⟨G', g, dr, tk', os⟩ := I1.laid (t' := tk') old M.dbig ob
    refine ⟨e, oe, fv, ⟨G', g, dr, tk', os⟩, _, .ref C, some d, rfl, J, fun b o q => ?_, ge, hoe, ⟨hc, hd⟩, hdat, h1, ?_, rfl, I1.bare, raises_own T.exC T.tyC, q1 d (I1.hok.fresh M.dbig)⟩
    · by_cases hb : b = e
      · have q' : G'.get? b = some o := q
        rw [hb, ge] at q'; cases q'
      · exact (gk b hb).symm.trans q
    · rw [upd_ne (Ne.symm M.dne)]
      exact I1.hok.fresh M.new
/-- raise Low(e) -/
def tRaiseErrS (C : Addr) (W : WX) (ta : TA) : TS := fun _ σ H => tMkErrS C ta σ H fun cls d H' => W cls d σ H'
theorem ps_raiseErrS {a : Expr} {ta : TA} {W : WX} {p pos pos2 : Pos} {k : Nat} (hc : X.calm = true) (T : PySem.ErrS.ErrSxt X.K X.mg C fI) (hr : Room k X.A) (tk : Takes X W) (ha : PA X [a] ta) (hg : Gl X "InvalidStaff" := by rfl)
    (he : starEach (a :: []) X.env = (false, eval a X.env) :: starEach [] X.env := by rfl) (hpl : (backTo pos (starEach [] X.env)).any (·.1) = false := by rfl) :
    PS X (.Raise (some (.Call (.Name "InvalidStaff" p) [a] [] pos)) none pos2) (tRaiseErrS C W ta) := ps_raise hc tk (pmk_errS T hr ha hg he hpl)
/-- low.by, low the exception that the suite holds (at a; its class cls, its dict d) -/
def tErrSField (C : Addr) (a : Addr) (cls : Value) (d : Option Addr) (te : TE) : TE := fun σ H Q => te σ H fun x H1 => x = .ref a ∧ cls = .ref C ∧ ∃ (dd : Addr) (v : V), d = some dd ∧ H1 dd = some (.xd [(("value" : Str), v)]) ∧ Q v H1
theorem pe_errSField {a : Addr} {oe : Obj} {cls : Value} {d : Option Addr} {pn : List (Addr × Obj)} {e : Expr} {te : TE} {pos : Pos} (T : PySem.ErrS.ErrSxt X.K X.mg C fI) (hz : Zc cls d oe) (hf : ∃ vs, oe.data = .fields vs) (he : PE (X.suite a ((a, oe) :: pn)) e te)
    (hb : attributeBase e "value" X.env (eval e X.env) = eval e X.env := by rfl) :
    PE (X.suite a ((a, oe) :: pn)) (.Attribute e "value" pos) (tErrSField C a cls d te) := by
  refine ⟨fun pins s σ H Q I h => ?_⟩
  refine attr_of hb (thn (he.run pins s σ H _ I h) fun u s1 hh => ?_)
  obtain ⟨x, H1, I1, rx, ex, ec, dd, v, ed, ea, q⟩ := hh
  subst ex
  obtain rfl : u = Value.ref a := rx
  subst ec
  subst ed
  obtain ⟨ha, _⟩ := I1.pin (a, oe) (List.mem_append_left _ List.mem_cons_self)
  obtain ⟨vs, hd⟩ := hf
  have hx : ObjOk X.prog X.w H1 s1.heap dd (.xd [(("value" : Str), v)]) := I1.hok dd _ ea
  obtain ⟨mA, hns, hr⟩ := hx
  obtain ⟨od, ho, hl⟩ := lookIn_ns hns
  have l : List.lookup ("value" : Str) [(("value" : Str), v)] = some v := by simp [List.lookup]
  obtain ⟨u, hu, ru⟩ := RelO.some_of (v := v) (o := mA "value") (by rw [← l]; exact hr "value")
  have J : PySem.W.InstAt s1.heap a oe C (some od) := ⟨ha, hz.1, by unfold PySem.W.notCls; rw [hd] <;> rfl, by rw [hz.2]; exact ho⟩
  exact HandSPX.exc_get I1.kIn J T.ga T.gg T.exC (PySem.W.findObj_own T.hdC T.noN rfl (by rw [hl, hu])) (handed_of ru) ⟨v, H1, I1.tok _, ru, q⟩
end
end L2
set_option Elab.async false
set_option linter.all false
set_option maxRecDepth 100000
set_option maxHeartbeats 4000000
/-! FtH: the error TooFew(kind), over OverflowError, over the layer -/
namespace PySem
namespace ErrF
open PySem.W PySem.Calls PyProof.Rows PySem.HandSPX
/-! ### the text of __init__ -/
def iA (p1 p2 : Pos) : Arguments := { posonlyargs := [], args := [{ arg := "self", annotation := none, pos := p1 }, { arg := "kind", annotation := none, pos := p2 }], vararg := none, kwonlyargs := [], kw_defaults := [], kwarg := none, defaults := [] }
def iB (q1 q2 q3 q4 : Pos) : List Stmt := [.Assign [.Attribute (.Name "self" q1) "kind" q2] (.Name "kind" q3) q4]
def iS : Scope := { kind := .function, names := [(PySem.Str.ofString "self", .local), (PySem.Str.ofString "kind", .local)], isGenerator := false, isCoroutine := false, more := [] }
/-- what the written part says of TooFew, at C, and of its __init__, at fI -/
structure ErrFxt (K : Frag) (mg : Str → Option Value) (C fI : Addr) : Prop where
  gC : mg "TooFew" = some (.ref C)
  ei : Fh.EK K C .oe
  sa : findIn K (.ref C) "__setattr__" = some (some (.builtin "object.__setattr__"))
  ga : findIn K (.ref C) "__getattribute__" = some (some (.builtin "BaseException.__getattribute__"))
  gg : findIn K (.ref C) "__getattr__" = some none
  noN : findIn K (.ref C) "kind" = some none
  iC : findIn K (.ref C) "__init__" = some (some (.ref fI))
  tC : typeIn K (.ref fI) = some (.type "function")
  kC : keepIn K (.ref C) = true
  exC : subIn K (.ref C) (.type "BaseException") = some true
  tyC : typeIn K (.ref C) = some (.type "type")
  hdC : hasDictIn K C = true
  te : exmOne K (.ref C) (.ref C) = some true
  fn : ∃ (oc : Value) (od : Option Addr) (kV doc pm : Value) (an : Option Addr) (cdv ct : Value) (osl : Array (Option Value)) (p1 p2 q1 q2 q3 q4 : Pos),
    K.lookup fI = some ⟨oc, od, .func (fnOf "__init__" "TooFew.__init__" (iA p1 p2) (iB q1 q2 q3 q4) iS .none kV doc pm an cdv ct), osl⟩ ∧ codeIn K cdv "TooFew.__init__" = true
theorem one_size (v : Value) : [v].length ≤ sizeLine := by
  rw [sizeLine_eq]
  exact (by decide : 1 ≤ 16777216)
theorem kept_but {K : Frag} {h h' : Heap} {x : Addr} (X : K.In h) (hx : K.lookup x = none) (k : ∀ b o, b ≠ x → h.get? b = some o → h'.get? b = some o) : K.In h' := fun a o e =>
  k a o (fun z => by rw [z, hx] at e; cases e) (X a o e)
theorem ldC {M : Model} {s : Shared} {name : Str} {scope : Scope} {L a : Addr} {cd : Value} {m : Str → Option Value} {x : Str} {pos : Pos} {v : Value} {Q : Value → Shared → Prop} {A : Around} {E : Value → Shared → Prop} (hn : s.heap.Ns L m) (hv : m x = some v) (h : Q v s)
    (hk : scope.kind = .function := by rfl) (hl : (envOfC name scope L a cd).kindOf x = some .local := by rfl) (hd : (x == ("__debug__" : Str)) = false := by decide) :
    wpAny M A (eval (.Name x pos) (envOfC name scope L a cd)) Q E s := wpAny_Name (wpAny_loadName_local hk hl hn hv h) hd
/-- what __init__ leaves of a fresh exception at x -/
structure InitEnd (h h' : Heap) (x C dx t1 : Addr) (v : Value) : Prop where
  keep : ∀ b o, b ≠ x → h.get? b = some o → h'.get? b = some o
  obj : h'.get? x = some { cls := .ref C, dict := some dx, data := .fields #[.ref t1, .none, .none, .none, .bool false, .none] }
  dbig : h.objs.size ≤ dx
  dne : dx ≠ x
  ns : h'.Ns1 dx (fun y => if y = "kind" then some v else none)
/-- a made TooFew -/
structure OwnMade (h h' : Heap) (e C d : Addr) (v : Value) : Prop where
  keep : ∀ b o, h.get? b = some o → h'.get? b = some o
  new : h.objs.size ≤ e
  obj : ∃ oe vs, h'.get? e = some oe ∧ oe.cls = .ref C ∧ oe.dict = some d ∧ oe.data = .fields vs ∧ vs[1]? = some .none
  dbig : h.objs.size ≤ d
  dne : d ≠ e
  ns : h'.Ns1 d (fun y => if y = "kind" then some v else none)
section
variable {prog : Program} {w : World} {A : Around} {E : Value → Shared → Prop} {R : Result → Shared → Prop} {s : Shared} {K : Frag} {mg : Str → Option Value} {C fI : Addr}
theorem errF_init (T : ErrFxt K mg C fI) {x t0 : Addr} {v : Value} (X : K.In s.heap) (hlim : s.heap.NoLimit) (hx : s.heap.get? x = some (excO C t0)) (hnx : K.lookup x = none) (hroom : A.depth < recursionLimit)
    (hq : ∀ h' tk dx, InitEnd s.heap h' x C dx t0 v → R (.ok (.ret .none)) { s with heap := h', toks := tk }) :
    codeAny (model prog w) A (.call (.ref fI) ⟨[.ref x, v], []⟩) R s := by
  obtain ⟨oc, od, kV, doc, pm, an, cdv, ct, osl, p1, p2, q1, q2, q3, q4, ho, hcd⟩ := T.fn
  obtain ⟨nm, q, N, bs, sn, sub, ab, col, dd, k0, k1, k2, k3, k5, hC⟩ := Fs.ei_obj T.ei
  refine Att.call_fn (binds := [("self", .ref x), ("kind", v)]) X hlim ho hcd hroom (BindsTo.of_eq (by first | rfl | with_unfolding_all rfl)) (by first | rfl | decide | with_unfolding_all rfl) (fun s₁ IC => ?_) rfl rfl rfl
  obtain ⟨h₁, tk₁, rfl⟩ := IC.toInCall.same
  have k : ∀ b o, s.heap.get? b = some o → h₁.get? b = some o := IC.toInCall.keep
  have hn := IC.toInCall.ns
  have hxL : s.heap.objs.size ≠ x := Nat.ne_of_gt (Heap.lt_size hx)
  have X₁ : K.In h₁ := X.keeps k
  have hx₁ := k _ _ hx
  -- self.by = by
  show wpAny _ _ (execs _ _) _ _ _
  refine wpAny_execs_cons (plainObj_wpAny_Assign_Attribute ?_)
  refine ldC (v := v) hn (by first | rfl | with_unfolding_all rfl | kernel_rfl) (ldC (v := .ref x) hn (by first | rfl | with_unfolding_all rfl | kernel_rfl) ?_)
  refine set_plain X₁ (ox := excO C t0) (od := none) ⟨hx₁, rfl, rfl, trivial⟩ T.sa ?_
  refine Fh.osaG_new T.ei (Fh.BK.sf .oe) X₁ hx₁ T.noN (fun h₃ tk₃ dx k₃ dn dne hx₃ hn₃ => ?_)
  show wpAny _ _ (execs _ _) _ _ _
  have z : s.heap.objs.size < h₁.objs.size := hn.lt
  exact wpAny_execs_nil (hq h₃ tk₃ dx ⟨fun b o hb e => k₃ b o hb (k b o e), hx₃, Nat.le_of_lt (Nat.lt_of_lt_of_le z dn), dne, hn₃⟩)
theorem errF_made (T : ErrFxt K mg C fI) {v : Value} (X : K.In s.heap) (hlim : s.heap.NoLimit) (hroom : A.depth + 1 < recursionLimit)
    (hq : ∀ h' tk e d, OwnMade s.heap h' e C d v → R (.ok (.ret (.ref e))) { s with heap := h', toks := tk }) :
    codeAny (model prog w) A (.call (.ref C) ⟨[v], []⟩) R s := by
  obtain ⟨nm, q, N, bs, sn, sub, ab, col, dd, k0, k1, k2, k3, k5, hC⟩ := Fs.ei_obj T.ei
  obtain ⟨hp, g, dr, tk, os⟩ := s
  have k : ∀ b o, hp.get? b = some o → ((hp.push (kdv_tup [v])).push (excO C hp.objs.size)).get? b = some o := fun b o e => Heap.get?_push_of_some _ (Heap.get?_push_of_some _ e)
  have hget : ((hp.push (kdv_tup [v])).push (excO C hp.objs.size)).get? (hp.objs.size + 1) = some (excO C hp.objs.size) := by heap_get
  have hnx : K.lookup (hp.objs.size + 1) = none := by
    cases e : K.lookup (hp.objs.size + 1) with
    | none => rfl
    | some o =>
      have z : hp.get? (hp.objs.size + 1) = some o := X _ _ e
      exact absurd (Nat.lt_of_succ_lt (Heap.lt_size z)) (Nat.lt_irrefl _)
  refine call_own (Fh.BK.fb .oe) (fun _ => rfl) (X _ _ hC) (looks_findIn X T.iC) (fun self => bind_fn X self T.tC) (one_size v) ?_
  refine errF_init (s := ⟨(hp.push (kdv_tup [v])).push (excO C hp.objs.size), g, dr, tk, os⟩) T (X.keeps k) (hlim.keeps k) hget hnx ?_ fun h' tk' dx ⟨k', hx, dn, dne, hns⟩ => ?_
  · show A.depth + 1 < recursionLimit
    exact hroom
  · have old : ∀ b o, hp.get? b = some o → h'.get? b = some o := fun b o e => k' b o (Nat.ne_of_lt (Nat.lt_succ_of_lt (Heap.lt_size e))) (k b o e)
    have z : hp.objs.size + 1 + 1 ≤ dx := by
      first
        | (simpa only [Heap.size_push] using dn)
        | exact dn
        | (have q := dn; rw [Heap.size_push, Heap.size_push] at q; exact q)
    exact ⟨rfl, hq h' tk' (hp.objs.size + 1) dx ⟨old, Nat.le_succ _, ⟨_, _, hx, rfl, rfl, rfl, rfl⟩, Nat.le_trans (Nat.le_trans (Nat.le_succ _) (Nat.le_succ _)) z, dne, hns⟩⟩
end
end ErrF
end PySem
namespace L2
open PySem PySem.Spec PyProof.Rows
theorem relO_errF {v : V} {v' : Value} (r : RelV v v') (f : Str) : RelO (List.lookup f [(("kind" : Str), v)]) (if f = "kind" then some v' else none) := by
  by_cases hw : f = "kind"
  · subst hw
    rw [if_pos rfl]
    have q : List.lookup ("kind" : Str) [(("kind" : Str), v)] = some v := by simp [List.lookup]
    rw [q]
    exact r
  · rw [if_neg hw]
    have qw : (f == ("kind" : Str)) = false := by simpa using hw
    have q2 : List.lookup f [(("kind" : Str), v)] = none := by simp [List.lookup, qw]
    rw [q2]
    trivial
section
variable {X : Cx} {C fI : Addr}
/-- TooFew(e) -/
def tMkErrF (C : Addr) (ta : TA) : St → Hp → XK → Prop := fun σ H Q => ta σ H fun vs H1 => ∃ v, vs = [v] ∧ ∀ d, H1 d = none → Q (.ref C) (some d) (upd H1 d (.xd [(("kind" : Str), v)]))
theorem pmk_errF {a : Expr} {ta : TA} {p pos : Pos} {k : Nat} (T : PySem.ErrF.ErrFxt X.K X.mg C fI) (hr : Room k X.A) (ha : PA X [a] ta) (hg : Gl X "TooFew" := by rfl)
    (he : starEach (a :: []) X.env = (false, eval a X.env) :: starEach [] X.env := by rfl) (hpl : (backTo pos (starEach [] X.env)).any (·.1) = false := by rfl) :
    PMk X (.Call (.Name "TooFew" p) [a] [] pos) (tMkErrF C ta) := by
  intro pins s σ H Q I h
  refine wpAny_Call_Name_kw (ld_glob I hg T.gC ?_)
  refine PySem.W.callWith_K (h₀ := X.base) I.ok.mod.kin T.kC (thn (ha.run pos pins s σ H _ I h) fun us s1 hh => ?_) he hpl
  obtain ⟨vs, H1, I1, r1, v, ev, q1⟩ := hh
  subst ev
  refine ⟨I1.kIn, ?_⟩
  cases r1 with
  | cons rv rn =>
    rename_i v' us'
    cases rn
    show wpAny _ _ (call (.ref C) [v']) _ _ _
    have hlim := I1.nolimit
    obtain ⟨hp, g, dr, tk, os⟩ := s1
    refine wpAny_call (PySem.ErrF.errF_made T I1.kIn hlim (by have := hr.dp; omega) fun h' tk' e d M => ?_)
    show MkP X pins σ Q (.ref e) ⟨h', g, dr, tk', os⟩
    obtain ⟨oe, fv, hoe, hc, hd, hdat, h1⟩ := M.obj
    have hns := M.ns
    obtain ⟨G', g1, g2⟩ := restrict h' fun b => decide (b ≠ e)
    have gk : ∀ b, b ≠ e → G'.get? b = h'.get? b := fun b hb => g1 b (decide_eq_true hb)
    have ge : G'.get? e = none := g2 e (by simp)
    have old : ∀ b o, hp.get? b = some o → G'.get? b = some o := fun b o q => (gk b (Nat.ne_of_lt (Nat.lt_of_lt_of_le (Heap.lt_size q) M.new))).trans (M.keep b o q)
    have ob : ObjOk X.prog X.w (upd H1 d (.xd [(("kind" : Str), v)])) G' d (.xd [(("kind" : Str), v)]) :=
      ⟨_, hns.at (fun o q => (gk d M.dne).trans q), fun f => relO_errF rv f⟩
    have J : Inv X pins σ (upd H1 d (.xd [(("kind" : Str), v)])) ⟨G', g, dr, tk', os⟩ := I1.laid (t' := tk') old M.dbig ob
    refine ⟨e, oe, fv, ⟨G', g, dr, tk', os⟩, _, .ref C, some d, rfl, J, fun b o q => ?_, ge, hoe, ⟨hc, hd⟩, hdat, h1, ?_, rfl, I1.bare, raises_own T.exC T.tyC, q1 d (I1.hok.fresh M.dbig)⟩
    · by_cases hb : b = e
      · have q' : G'.get? b = some o := q
        rw [hb, ge] at q'; cases q'
      · exact (gk b hb).symm.trans q
    · rw [upd_ne (Ne.symm M.dne)]
      exact I1.hok.fresh M.new
/-- raise TooFew(e) -/
def tRaiseErrF (C : Addr) (W : WX) (ta : TA) : TS := fun _ σ H => tMkErrF C ta σ H fun cls d H' => W cls d σ H'
theorem ps_raiseErrF {a : Expr} {ta : TA} {W : WX} {p pos pos2 : Pos} {k : Nat} (hc : X.calm = true) (T : PySem.ErrF.ErrFxt X.K X.mg C fI) (hr : Room k X.A) (tk : Takes X W) (ha : PA X [a] ta) (hg : Gl X "TooFew" := by rfl)
    (he : starEach (a :: []) X.env = (false, eval a X.env) :: starEach [] X.env := by rfl) (hpl : (backTo pos (starEach [] X.env)).any (·.1) = false := by rfl) :
    PS X (.Raise (some (.Call (.Name "TooFew" p) [a] [] pos)) none pos2) (tRaiseErrF C W ta) := ps_raise hc tk (pmk_errF T hr ha hg he hpl)
/-- low.by, low the exception that the suite holds (at a; its class cls, its dict d) -/
def tErrFField (C : Addr) (a : Addr) (cls : Value) (d : Option Addr) (te : TE) : TE := fun σ H Q => te σ H fun x H1 => x = .ref a ∧ cls = .ref C ∧ ∃ (dd : Addr) (v : V), d = some dd ∧ H1 dd = some (.xd [(("kind" : Str), v)]) ∧ Q v H1
theorem pe_errFField {a : Addr} {oe : Obj} {cls : Value} {d : Option Addr} {pn : List (Addr × Obj)} {e : Expr} {te : TE} {pos : Pos} (T : PySem.ErrF.ErrFxt X.K X.mg C fI) (hz : Zc cls d oe) (hf : ∃ vs, oe.data = .fields vs) (he : PE (X.suite a ((a, oe) :: pn)) e te)
    (hb : attributeBase e "kind" X.env (eval e X.env) = eval e X.env := by rfl) :
    PE (X.suite a ((a, oe) :: pn)) (.Attribute e "kind" pos) (tErrFField C a cls d te) := by
  refine ⟨fun pins s σ H Q I h => ?_⟩
  refine attr_of hb (thn (he.run pins s σ H _ I h) fun u s1 hh => ?_)
  obtain ⟨x, H1, I1, rx, ex, ec, dd, v, ed, ea, q⟩ := hh
  subst ex
  obtain rfl : u = Value.ref a := rx
  subst ec
  subst ed
  obtain ⟨ha, _⟩ := I1.pin (a, oe) (List.mem_append_left _ List.mem_cons_self)
  obtain ⟨vs, hd⟩ := hf
  have hx : ObjOk X.prog X.w H1 s1.heap dd (.xd [(("kind" : Str), v)]) := I1.hok dd _ ea
  obtain ⟨mA, hns, hr⟩ := hx
  obtain ⟨od, ho, hl⟩ := lookIn_ns hns
  have l : List.lookup ("kind" : Str) [(("kind" : Str), v)] = some v := by simp [List.lookup]
  obtain ⟨u, hu, ru⟩ := RelO.some_of (v := v) (o := mA "kind") (by rw [← l]; exact hr "kind")
  have J : PySem.W.InstAt s1.heap a oe C (some od) := ⟨ha, hz.1, by unfold PySem.W.notCls; rw [hd] <;> rfl, by rw [hz.2]; exact ho⟩
  exact HandSPX.exc_get I1.kIn J T.ga T.gg T.exC (PySem.W.findObj_own T.hdC T.noN rfl (by rw [hl, hu])) (handed_of ru) ⟨v, H1, I1.tok _, ru, q⟩
end
end L2
set_option Elab.async false
set_option linter.all false
set_option maxRecDepth 100000
set_option maxHeartbeats 4000000
/-! FxA: dicts whose keys are None, ints, texts and tuples of these, mixed: a key sought, an item stored -/
namespace Fs
open PySem PySem.Spec PyProof.Rows L2 Fh
open PySem.W (Frag)
inductive MK where
  | non | key (k : Key) | tup (ks : List Key)
  deriving DecidableEq
section
variable (P : Program) (w : World)
def MIs (h : Heap) : MK → Value → Prop
  | .non, u => u = .none
  | .key k, u => keyIs k u = true
  | .tup ks, u => ∃ a, u = .ref a ∧ IsTupleKey (mixKind P w) h ks a
def mHash : MK → Int
  | .non => reduceHash 0xFCA86420
  | .key k => keyH w k
  | .tup ks => tupleKeyHash (mixKind P w) ks
def mEnt (x : MK × Value × Value) : DictEntry := ⟨mHash P w x.1, x.2.1, x.2.2⟩
def mStored (xs : List (MK × Value × Value)) (k : MK) (u v : Value) : List (MK × Value × Value) :=
  if k ∈ xs.map (·.1) then xs.map (fun x => if x.1 = k then (x.1, x.2.1, v) else x) else xs ++ [(k, u, v)]
end
section
variable {P : Program} {w : World} {A : Around} {E : Value → Shared → Prop} {s : Shared}
theorem mis_inj {h : Heap} {x y : MK} {u : Value} (hx : MIs P w h x u) (hy : MIs P w h y u) : x = y := by
  have no : ∀ {k : Key}, keyIs k u = true → u ≠ .none ∧ ∀ a, u ≠ .ref a := fun {k} q => by
    rcases keyIs_shape q with ⟨i, t, rfl, rfl⟩ | ⟨x, t, rfl, rfl⟩ <;> exact ⟨(fun z => nomatch z), (fun a z => nomatch z)⟩
  cases x with
  | non =>
    have e : u = .none := hx
    cases y with
    | non => rfl
    | key k => exact absurd e (no (k := k) hy).1
    | tup ks => obtain ⟨a, q, _⟩ := hy; rw [e] at q; cases q
  | key k =>
    cases y with
    | non => exact absurd hy (no (k := k) hx).1
    | key j => exact congrArg MK.key ((mixKind P w).inj u k j hx hy)
    | tup ks => obtain ⟨a, q, _⟩ := hy; exact absurd q ((no (k := k) hx).2 a)
  | tup ks =>
    obtain ⟨a, q, r⟩ := hx
    cases y with
    | non => rw [show u = .none from hy] at q; cases q
    | key k => exact absurd q ((no (k := k) hy).2 a)
    | tup js =>
      obtain ⟨b, q2, r2⟩ := hy
      rw [q] at q2
      cases q2
      exact congrArg MK.tup (r.inj r2)
theorem mis_move {h h' : Heap} {k : MK} {u : Value} {d : Addr} {o : Obj} {es ep} (x : MIs P w h k u) (ho : h.get? d = some o) (hd : o.data = .dict es ep) (hs : Heap.SameBut d h h') : MIs P w h' k u := by
  cases k with
  | non => exact x
  | key k => exact x
  | tup ks =>
    obtain ⟨a, q, r⟩ := x
    exact ⟨a, q, r.keeps ho hd hs⟩
theorem mis_hash {k : MK} {u : Value} {Q : Int → Shared → Prop} (hu : A.units < cLine) (hk : MIs P w s.heap k u) (h : ∀ t, Q (mHash P w k) { s with toks := t }) : wpAny (model P w) A (pyHash u) Q E s := by
  cases k with
  | non =>
    have e : u = .none := hk
    subst e
    exact (noneKind P w).pyHash (k := none) rfl (h _)
  | key k => exact (mixKind P w).pyHash (k := k) hk (h _)
  | tup ks =>
    obtain ⟨a, e, r⟩ := hk
    subst e
    exact wpAny_pyHash_tuple hu r (h _)
theorem tk_tuple {h : Heap} {ks : List Key} {a : Addr} (x : IsTupleKey (mixKind P w) h ks a) : ∃ its, h.IsTuple a its := by
  obtain ⟨o, its, n, ho, hc, hd, _⟩ := x
  exact ⟨its, o, ho, hc, n, hd⟩
theorem mis_eq {x y : MK} {u v : Value} {Q : Bool → Shared → Prop} (hu : A.units < cLine) (hx : MIs P w s.heap x u) (hy : MIs P w s.heap y v) (h : Q (decide (x = y)) s) : wpAny (model P w) A (eqBool u v) Q E s := by
  cases x with
  | non =>
    have e : u = .none := hx
    subst e
    cases y with
    | non =>
      have e : v = .none := hy
      subst e
      rw [decide_eq_true rfl] at h
      exact SeqAt.EqAt.same _ _ _ _ _ h
    | key k =>
      rw [decide_eq_false (fun z => nomatch z)] at h
      rcases keyIs_shape hy with ⟨j, t, rfl, rfl⟩ | ⟨y, t, rfl, rfl⟩
      · exact SeqAt.EqAt.none_int j t _ _ _ _ h
      · exact SeqAt.EqAt.none_str y t _ _ _ _ h
    | tup ks =>
      rw [decide_eq_false (fun z => nomatch z)] at h
      obtain ⟨a, e, r⟩ := hy
      subst e
      obtain ⟨its, hl⟩ := tk_tuple r
      exact SeqAt.EqAt.none_tuple hl hu _ _ _ _ h
  | key k =>
    cases y with
    | non =>
      have e : v = .none := hy
      subst e
      rw [decide_eq_false (fun z => nomatch z)] at h
      rcases keyIs_shape hx with ⟨j, t, rfl, rfl⟩ | ⟨y, t, rfl, rfl⟩
      · exact SeqAt.EqAt.int_none j t _ _ _ _ h
      · exact SeqAt.EqAt.str_none y t _ _ _ _ h
    | key j =>
      have e : decide (MK.key k = MK.key j) = decide (k = j) := decide_eq_decide.mpr ⟨fun z => by injection z, fun z => by rw [z]⟩
      rw [e] at h
      exact (mixKind P w).eqBool (a := k) (b := j) hx hy h
    | tup ks =>
      rw [decide_eq_false (fun z => nomatch z)] at h
      obtain ⟨a, e, r⟩ := hy
      subst e
      obtain ⟨its, hl⟩ := tk_tuple r
      rcases keyIs_shape hx with ⟨j, t, rfl, rfl⟩ | ⟨y, t, rfl, rfl⟩
      · exact SeqAt.EqAt.int_tuple j t hl hu _ _ _ _ h
      · exact SeqAt.EqAt.str_tuple y t hl hu _ _ _ _ h
  | tup ks =>
    obtain ⟨a, e, r⟩ := hx
    subst e
    obtain ⟨its, hl⟩ := tk_tuple r
    cases y with
    | non =>
      have e : v = .none := hy
      subst e
      rw [decide_eq_false (fun z => nomatch z)] at h
      exact SeqAt.EqAt.tuple_none hl hu _ _ _ _ h
    | key k =>
      rw [decide_eq_false (fun z => nomatch z)] at h
      rcases keyIs_shape hy with ⟨j, t, rfl, rfl⟩ | ⟨y, t, rfl, rfl⟩
      · exact SeqAt.EqAt.tuple_int j t hl hu _ _ _ _ h
      · exact SeqAt.EqAt.tuple_str y t hl hu _ _ _ _ h
    | tup js =>
      obtain ⟨b, e, r2⟩ := hy
      subst e
      have e : decide (MK.tup ks = MK.tup js) = decide (ks = js) := decide_eq_decide.mpr ⟨fun z => by injection z, fun z => by rw [z]⟩
      rw [e] at h
      exact wpAny_eqBool_tuple hu r r2 h
theorem mis_quiet {k : MK} {u : Value} {Q : Bool → Shared → Prop} (hk : MIs P w s.heap k u) (h : Q true s) : wpAny (model P w) A (eqIsQuiet 8 u) Q E s := by
  cases k with
  | non =>
    have e : u = .none := hk
    subst e
    rw [eqIsQuiet_byValue 8 rfl]
    exact wpAny_pure h
  | key k =>
    rw [eqIsQuiet_byValue 8 ((mixKind P w).byValue k u hk)]
    exact wpAny_pure h
  | tup ks =>
    obtain ⟨a, e, r⟩ := hk
    subst e
    exact wpAny_eqIsQuiet_tuple r h
theorem m_tells {u : Value} {k : MK} {stored : List Value} {Q : Bool → Shared → Prop} (hkey : MIs P w s.heap k u) (hst : ∀ v ∈ stored, ∃ k', MIs P w s.heap k' v) (h : Q false s) : wpAny (model P w) A (tableMayTell u stored) Q E s := by
  unfold tableMayTell
  split
  · exact wpAny_pure h
  · refine wpAny_bind (mis_quiet hkey ?_)
    simp only [Bool.not_true, Bool.false_eq_true, if_false]
    refine wpAny_bind ?_
    refine wpAny_forIn_list _ (fun rest r s' => s' = s ∧ r = (none, ()) ∧ ∀ v ∈ rest, ∃ k', MIs P w s.heap k' v) _ ?_ ?_ _ _ ⟨rfl, rfl, hst⟩
    · rintro x rest r s' ⟨rfl, rfl, hr⟩
      obtain ⟨k', hb⟩ := hr x List.mem_cons_self
      refine wpAny_bind (mis_quiet hb ?_)
      simp only [Bool.not_true, Bool.false_eq_true, if_false]
      exact wpAny_pure ⟨rfl, rfl, fun v hv => hr v (List.mem_cons_of_mem _ hv)⟩
    · rintro r s' ⟨rfl, rfl, _⟩
      exact wpAny_pure h
end
end Fs
set_option Elab.async false
set_option linter.all false
set_option maxRecDepth 100000
set_option maxHeartbeats 4000000
/-! FxB: a key sought in a mixed dict -/
namespace Fs
open PySem PySem.Spec PyProof.Rows L2 Fh
open PySem.W (Frag)
def DictM (P : Program) (w : World) (h : Heap) (d : Addr) (xs : List (MK × Value × Value)) : Prop :=
  ∃ o es ep, h.get? d = some o ∧ o.ExactDict ∧ o.data = .dict es ep ∧ es.toList = xs.map (mEnt P w) ∧ (xs.map (·.1)).Nodup
theorem m_uniq {xs : List (MK × Value × Value)} (hn : (xs.map (·.1)).Nodup) {i j : Nat} {k : MK} {p q : Value × Value} (hi : xs[i]? = some (k, p)) (hj : xs[j]? = some (k, q)) : i = j := by
  have a : (xs.map (·.1))[i]? = some k := by rw [List.getElem?_map, hi]; rfl
  have b : (xs.map (·.1))[j]? = some k := by rw [List.getElem?_map, hj]; rfl
  exact (List.getElem?_inj (List.getElem?_eq_some_iff.mp a).1 hn).mp (a.trans b.symm)
/-- what is left to look at, and what has been found of the key k -/
structure Left (xs : List (MK × Value × Value)) (k : MK) (rest : List Nat) (hit : Option Nat) : Prop where
  all : ∀ j p, xs[j]? = some (k, p) → j ∈ rest ∨ hit = some j
  got : ∀ j, hit = some j → j ∉ rest ∧ ∃ p, xs[j]? = some (k, p)
  nd : rest.Nodup
  there : ∀ j ∈ rest, ∃ y, xs[j]? = some y
section
variable {xs : List (MK × Value × Value)} {k : MK} {rest : List Nat} {hit : Option Nat} {x : Nat}
theorem Left.miss (L : Left xs k (x :: rest) hit) (h : ∀ p, xs[x]? ≠ some (k, p)) : Left xs k rest hit := by
  refine ⟨fun j p e => ?_, fun j e => ?_, (List.nodup_cons.mp L.nd).2, fun j m => L.there j (List.mem_cons_of_mem _ m)⟩
  · rcases L.all j p e with z | z
    · rcases List.mem_cons.mp z with q | q
      · rw [q] at e
        exact absurd e (h p)
      · exact .inl q
    · exact .inr z
  · obtain ⟨a, b⟩ := L.got j e
    exact ⟨fun z => a (List.mem_cons_of_mem _ z), b⟩
theorem Left.first (L : Left xs k (x :: rest) hit) (hn : (xs.map (·.1)).Nodup) {p : Value × Value} (h : xs[x]? = some (k, p)) : hit = none := by
  cases e : hit with
  | none => rfl
  | some j =>
    obtain ⟨a, q, b⟩ := L.got j e
    exact absurd (m_uniq hn b h ▸ List.mem_cons_self) a
theorem Left.take (L : Left xs k (x :: rest) none) {p : Value × Value} (h : xs[x]? = some (k, p)) : Left xs k rest (some x) := by
  obtain ⟨a, b⟩ := List.nodup_cons.mp L.nd
  refine ⟨fun j q e => ?_, fun j e => ?_, b, fun j m => L.there j (List.mem_cons_of_mem _ m)⟩
  · rcases L.all j q e with z | z
    · rcases List.mem_cons.mp z with y | y
      · exact .inr (congrArg some y.symm)
      · exact .inl y
    · cases z
  · cases e
    exact ⟨a, p, h⟩
theorem Left.fin (L : Left xs k [] hit) : (hit = none ∧ ∀ (j : Nat) (p : Value × Value), xs[j]? ≠ some (k, p)) ∨ ∃ j p, hit = some j ∧ xs[j]? = some (k, p) := by
  cases e : hit with
  | none =>
    refine .inl ⟨rfl, fun j p q => ?_⟩
    rcases L.all j p q with z | z
    · cases z
    · rw [e] at z; cases z
  | some j =>
    obtain ⟨_, p, q⟩ := L.got j e
    exact .inr ⟨j, p, rfl, q⟩
end
section
variable {P : Program} {w : World} {A : Around} {E : Value → Shared → Prop} {s : Shared}
theorem m_find {d : Addr} {o : Obj} {es ep} {xs : List (MK × Value × Value)} {k : MK} {key : Value} {Q : Option Nat → Shared → Prop} (hu : A.units < cLine) (hkey : MIs P w s.heap k key)
    (ho : s.heap.get? d = some o) (hd : o.data = .dict es ep) (he : es.toList = xs.map (mEnt P w)) (his : ∀ x ∈ xs, MIs P w s.heap x.1 x.2.1) (hn : (xs.map (·.1)).Nodup)
    (hodd : (∀ x t, key ≠ .str x t) ∨ ¬ (es.all fun e => isExactStrKey e.key) = true)
    (hnone : (∀ (j : Nat) (p : Value × Value), xs[j]? ≠ some (k, p)) → Q none s) (hsome : ∀ (j : Nat) (p : Value × Value), xs[j]? = some (k, p) → Q (some j) s) :
    wpAny (model P w) A (dictFind d key (mHash P w k)) Q E s := by
  have size : es.size = xs.length := by rw [← Array.length_toList, he, List.length_map]
  have ent : ∀ j : Nat, es[j]? = (xs[j]?).map (mEnt P w) := fun j => by rw [← Array.getElem?_toList, he, List.getElem?_map]
  have from_ : ∀ e ∈ es, ∃ x ∈ xs, mEnt P w x = e := fun e h => List.mem_map.mp (he ▸ Array.mem_toList_iff.mpr h)
  have start : Left xs k (placesWithHash es.size (fun i => es[i]?.map (·.hash)) (mHash P w k)) none := by
    have mem : ∀ j, j ∈ placesWithHash es.size (fun i => es[i]?.map (·.hash)) (mHash P w k) ↔ j < es.size ∧ (es[j]?.map (·.hash) == some (mHash P w k)) = true := fun j => by
      rw [placesWithHash, List.mem_filter, List.mem_range]
    refine ⟨fun j p e => .inl ((mem j).mpr ⟨?_, ?_⟩), fun j e => (nomatch e), ?_, fun j m => ?_⟩
    · rw [size]
      exact (List.getElem?_eq_some_iff.mp e).1
    · rw [ent j, e]
      exact beq_self_eq_true _
    · rw [placesWithHash]
      exact List.nodup_range.filter _
    · exact ⟨_, List.getElem?_eq_getElem (size ▸ ((mem j).mp m).1)⟩
  have kinds : ∀ v ∈ (placesWithHash es.size (fun i => es[i]?.map (·.hash)) (mHash P w k)).filterMap (fun i => es[i]?.map (·.key)), ∃ k', MIs P w s.heap k' v := by
    intro v hv
    obtain ⟨i, m, hi⟩ := List.mem_filterMap.mp hv
    obtain ⟨y, hy⟩ := start.there i m
    rw [ent i, hy] at hi
    cases hi
    exact ⟨y.1, his y (List.mem_of_getElem? hy)⟩
  have known : ∀ a, key = .ref a → ¬ (es.any fun e => e.key == Value.ref a && e.hash != mHash P w k) = true := by
    intro a ea z
    rw [← Array.any_toList, List.any_eq_true] at z
    obtain ⟨e, m, z⟩ := z
    obtain ⟨x, hx, rfl⟩ := from_ e (Array.mem_toList_iff.mp m)
    obtain ⟨z1, z2⟩ := (Bool.and_eq_true _ _ ▸ z : ((mEnt P w x).key == Value.ref a) = true ∧ ((mEnt P w x).hash != mHash P w k) = true)
    have same : MIs P w s.heap x.1 key := by
      rw [ea, ← eq_of_beq z1]
      exact his x hx
    have z3 : (mHash P w x.1 != mHash P w k) = true := z2
    rw [mis_inj same hkey, bne_self_eq_false] at z3
    cases z3
  have plain : wpAny (model P w) A (dictWalkPlain d key (mHash P w k) es (placesWithHash es.size (fun i => es[i]?.map (·.hash)) (mHash P w k))) Q E s := by
    generalize placesWithHash es.size (fun i => es[i]?.map (·.hash)) (mHash P w k) = ps at start
    refine wpAny_bind (wpAny_forIn_list _ (fun rest b s' => s' = s ∧ b = (none, ()) ∧ Left xs k rest none) _ ?_ ?_ _ _ ⟨rfl, rfl, start⟩)
    · rintro x rest b s' ⟨rfl, rfl, L⟩
      obtain ⟨⟨k', u, v'⟩, hx⟩ := L.there x List.mem_cons_self
      have ex : es[x]? = some ⟨mHash P w k', u, v'⟩ := by rw [ent x, hx]; rfl
      have go : k' ≠ k → Left xs k rest none := fun ne => L.miss fun p z => by
        rw [hx] at z
        cases z
        exact ne rfl
      rw [ex]
      dsimp only
      split
      · refine wpAny_bind (wpAny_dictEpoch ho hd (wpAny_bind (mis_eq hu (his _ (List.mem_of_getElem? hx)) hkey (wpAny_bind (wpAny_dictEpoch ho hd ?_)))))
        show wpAny _ _ (if (ep != ep) = true then _ else _) _ E _
        rw [bne_self_eq_false]
        refine (if_neg Bool.false_ne_true).symm ▸ ?_
        by_cases e : k' = k
        · subst e
          rw [decide_eq_true rfl]
          exact wpAny_bind (wpAny_rule (wpAny_pure (wpAny_pure (hsome x _ hx))))
        · rw [decide_eq_false e]
          exact wpAny_bind (wpAny_rule (wpAny_pure ⟨rfl, rfl, go e⟩))
      · rename_i nh
        exact wpAny_pure ⟨rfl, rfl, go fun e => nh (by rw [e]; exact beq_self_eq_true _)⟩
    · rintro b s' ⟨rfl, rfl, L⟩
      rcases L.fin with ⟨_, z⟩ | ⟨j, p, z, _⟩
      · exact wpAny_pure (hnone z)
      · cases z
  have shape : key = .none ∨ (∃ i t, key = .int i t) ∨ (∃ x t, key = .str x t) ∨ ∃ a, key = .ref a := by
    cases k with
    | non => exact .inl hkey
    | key k =>
      rcases keyIs_shape hkey with ⟨i, t, _, e⟩ | ⟨x, t, _, e⟩
      · exact .inr (.inl ⟨_, _, e⟩)
      · exact .inr (.inr (.inl ⟨_, _, e⟩))
    | tup ks =>
      obtain ⟨a, e, _⟩ := hkey
      exact .inr (.inr (.inr ⟨a, e⟩))
  unfold dictFind
  try with_reducible refine wpAny_holding ?_
  refine wpAny_bind (wpAny_dictEntries ho hd ?_)
  rcases shape with rfl | ⟨i, t, rfl⟩ | ⟨x, t, rfl⟩ | ⟨a, rfl⟩
  case inl =>
    dsimp only
    generalize placesWithHash es.size (fun i => es[i]?.map (·.hash)) (mHash P w k) = ps at start kinds plain ⊢
    by_cases all : ((Value.none :: ps.filterMap (fun i => es[i]?.map (·.key))).all carriedByValue) = true
    · rw [if_pos all]
      exact plain
    rw [if_neg all]
    by_cases one : (ps.filterMap (fun i => es[i]?.map (·.key)) == [Value.none]) = true <;> (first | rw [if_pos one] | rw [if_neg one]) <;> (first | refine wpAny_bind (wpAny_pure ?_) | refine wpAny_bind (m_tells hkey kinds ?_)) <;> (
      rw [Bool.false_and]
      refine (if_neg Bool.false_ne_true).symm ▸ ?_
      refine wpAny_bind (wpAny_forIn_list _ (fun rest b s' => s' = s ∧ ∃ hit, b = (none, hit) ∧ Left xs k rest hit) _ ?_ ?_ _ _ ⟨rfl, none, rfl, start⟩)
      · rintro x rest b s' ⟨rfl, hit, rfl, L⟩
        obtain ⟨⟨k', u, v'⟩, hx⟩ := L.there x List.mem_cons_self
        have ex : es[x]? = some ⟨mHash P w k', u, v'⟩ := by rw [ent x, hx]; rfl
        have go : k' ≠ k → Left xs k rest hit := fun ne => L.miss fun p z => by
          rw [hx] at z
          cases z
          exact ne rfl
        rw [ex]
        dsimp only
        by_cases hh : (mHash P w k' == mHash P w k) = true
        · rw [if_pos hh]
          refine wpAny_bind (wpAny_dictEpoch ho hd (wpAny_bind (mis_eq hu (his _ (List.mem_of_getElem? hx)) hkey (wpAny_bind (wpAny_dictEpoch ho hd ?_)))))
          show wpAny _ _ (if (ep != ep) = true then _ else _) _ E _
          rw [if_neg (by rw [bne_self_eq_false]; exact Bool.false_ne_true)]
          by_cases e : k' = k
          · subst e
            have z := L.first hn hx
            subst z
            rw [decide_eq_true rfl]
            simp only [if_true, Option.isSome_none, Bool.false_eq_true, if_false]
            refine wpAny_bind (wpAny_rule ?_)
            split
            · exact wpAny_pure (wpAny_pure (hsome x _ hx))
            · exact wpAny_pure ⟨rfl, some x, rfl, L.take hx⟩
          · rw [decide_eq_false e]
            simp only [Bool.false_eq_true, if_false, Bool.false_and]
            exact wpAny_bind (wpAny_rule (wpAny_pure ⟨rfl, hit, rfl, go e⟩))
        · rw [if_neg hh]
          exact wpAny_pure ⟨rfl, hit, rfl, go fun e => hh (by rw [e]; exact beq_self_eq_true _)⟩
      · rintro b s' ⟨rfl, hit, rfl, L⟩
        rcases L.fin with ⟨z, y⟩ | ⟨j, p, z, y⟩
        · subst z
          exact wpAny_pure (hnone y)
        · subst z
          exact wpAny_pure (hsome j p y))
  case inr.inl =>
    dsimp only
    generalize placesWithHash es.size (fun i => es[i]?.map (·.hash)) (mHash P w k) = ps at start kinds plain ⊢
    by_cases all : (((Value.int i t) :: ps.filterMap (fun i => es[i]?.map (·.key))).all carriedByValue) = true
    · rw [if_pos all]
      exact plain
    rw [if_neg all]
    by_cases one : (ps.filterMap (fun i => es[i]?.map (·.key)) == [(Value.int i t)]) = true <;> (first | rw [if_pos one] | rw [if_neg one]) <;> (first | refine wpAny_bind (wpAny_pure ?_) | refine wpAny_bind (m_tells hkey kinds ?_)) <;> (
      rw [Bool.false_and]
      refine (if_neg Bool.false_ne_true).symm ▸ ?_
      refine wpAny_bind (wpAny_forIn_list _ (fun rest b s' => s' = s ∧ ∃ hit, b = (none, hit) ∧ Left xs k rest hit) _ ?_ ?_ _ _ ⟨rfl, none, rfl, start⟩)
      · rintro x rest b s' ⟨rfl, hit, rfl, L⟩
        obtain ⟨⟨k', u, v'⟩, hx⟩ := L.there x List.mem_cons_self
        have ex : es[x]? = some ⟨mHash P w k', u, v'⟩ := by rw [ent x, hx]; rfl
        have go : k' ≠ k → Left xs k rest hit := fun ne => L.miss fun p z => by
          rw [hx] at z
          cases z
          exact ne rfl
        rw [ex]
        dsimp only
        by_cases hh : (mHash P w k' == mHash P w k) = true
        · rw [if_pos hh]
          refine wpAny_bind (wpAny_dictEpoch ho hd (wpAny_bind (mis_eq hu (his _ (List.mem_of_getElem? hx)) hkey (wpAny_bind (wpAny_dictEpoch ho hd ?_)))))
          show wpAny _ _ (if (ep != ep) = true then _ else _) _ E _
          rw [if_neg (by rw [bne_self_eq_false]; exact Bool.false_ne_true)]
          by_cases e : k' = k
          · subst e
            have z := L.first hn hx
            subst z
            rw [decide_eq_true rfl]
            simp only [if_true, Option.isSome_none, Bool.false_eq_true, if_false]
            refine wpAny_bind (wpAny_rule ?_)
            split
            · exact wpAny_pure (wpAny_pure (hsome x _ hx))
            · exact wpAny_pure ⟨rfl, some x, rfl, L.take hx⟩
          · rw [decide_eq_false e]
            simp only [Bool.false_eq_true, if_false, Bool.false_and]
            exact wpAny_bind (wpAny_rule (wpAny_pure ⟨rfl, hit, rfl, go e⟩))
        · rw [if_neg hh]
          exact wpAny_pure ⟨rfl, hit, rfl, go fun e => hh (by rw [e]; exact beq_self_eq_true _)⟩
      · rintro b s' ⟨rfl, hit, rfl, L⟩
        rcases L.fin with ⟨z, y⟩ | ⟨j, p, z, y⟩
        · subst z
          exact wpAny_pure (hnone y)
        · subst z
          exact wpAny_pure (hsome j p y))
  case inr.inr.inl =>
    dsimp only
    rw [if_neg (hodd.resolve_left fun z => z x t rfl)]
    generalize placesWithHash es.size (fun i => es[i]?.map (·.hash)) (mHash P w k) = ps at start kinds plain ⊢
    by_cases all : (((Value.str x t) :: ps.filterMap (fun i => es[i]?.map (·.key))).all carriedByValue) = true
    · rw [if_pos all]
      exact plain
    rw [if_neg all]
    by_cases one : (ps.filterMap (fun i => es[i]?.map (·.key)) == [(Value.str x t)]) = true <;> (first | rw [if_pos one] | rw [if_neg one]) <;> (first | refine wpAny_bind (wpAny_pure ?_) | refine wpAny_bind (m_tells hkey kinds ?_)) <;> (
      rw [Bool.false_and]
      refine (if_neg Bool.false_ne_true).symm ▸ ?_
      refine wpAny_bind (wpAny_forIn_list _ (fun rest b s' => s' = s ∧ ∃ hit, b = (none, hit) ∧ Left xs k rest hit) _ ?_ ?_ _ _ ⟨rfl, none, rfl, start⟩)
      · rintro x rest b s' ⟨rfl, hit, rfl, L⟩
        obtain ⟨⟨k', u, v'⟩, hx⟩ := L.there x List.mem_cons_self
        have ex : es[x]? = some ⟨mHash P w k', u, v'⟩ := by rw [ent x, hx]; rfl
        have go : k' ≠ k → Left xs k rest hit := fun ne => L.miss fun p z => by
          rw [hx] at z
          cases z
          exact ne rfl
        rw [ex]
        dsimp only
        by_cases hh : (mHash P w k' == mHash P w k) = true
        · rw [if_pos hh]
          refine wpAny_bind (wpAny_dictEpoch ho hd (wpAny_bind (mis_eq hu (his _ (List.mem_of_getElem? hx)) hkey (wpAny_bind (wpAny_dictEpoch ho hd ?_)))))
          show wpAny _ _ (if (ep != ep) = true then _ else _) _ E _
          rw [if_neg (by rw [bne_self_eq_false]; exact Bool.false_ne_true)]
          by_cases e : k' = k
          · subst e
            have z := L.first hn hx
            subst z
            rw [decide_eq_true rfl]
            simp only [if_true, Option.isSome_none, Bool.false_eq_true, if_false]
            refine wpAny_bind (wpAny_rule ?_)
            split
            · exact wpAny_pure (wpAny_pure (hsome x _ hx))
            · exact wpAny_pure ⟨rfl, some x, rfl, L.take hx⟩
          · rw [decide_eq_false e]
            simp only [Bool.false_eq_true, if_false, Bool.false_and]
            exact wpAny_bind (wpAny_rule (wpAny_pure ⟨rfl, hit, rfl, go e⟩))
        · rw [if_neg hh]
          exact wpAny_pure ⟨rfl, hit, rfl, go fun e => hh (by rw [e]; exact beq_self_eq_true _)⟩
      · rintro b s' ⟨rfl, hit, rfl, L⟩
        rcases L.fin with ⟨z, y⟩ | ⟨j, p, z, y⟩
        · subst z
          exact wpAny_pure (hnone y)
        · subst z
          exact wpAny_pure (hsome j p y))
  case inr.inr.inr =>
    dsimp only
    generalize placesWithHash es.size (fun i => es[i]?.map (·.hash)) (mHash P w k) = ps at start kinds plain ⊢
    by_cases all : (((Value.ref a) :: ps.filterMap (fun i => es[i]?.map (·.key))).all carriedByValue) = true
    · rw [if_pos all]
      exact plain
    rw [if_neg all]
    rw [if_neg (known a rfl)]
    by_cases one : (ps.filterMap (fun i => es[i]?.map (·.key)) == [(Value.ref a)]) = true <;> (first | rw [if_pos one] | rw [if_neg one]) <;> (first | refine wpAny_bind (wpAny_pure ?_) | refine wpAny_bind (m_tells hkey kinds ?_)) <;> (
      rw [Bool.false_and]
      refine (if_neg Bool.false_ne_true).symm ▸ ?_
      refine wpAny_bind (wpAny_forIn_list _ (fun rest b s' => s' = s ∧ ∃ hit, b = (none, hit) ∧ Left xs k rest hit) _ ?_ ?_ _ _ ⟨rfl, none, rfl, start⟩)
      · rintro x rest b s' ⟨rfl, hit, rfl, L⟩
        obtain ⟨⟨k', u, v'⟩, hx⟩ := L.there x List.mem_cons_self
        have ex : es[x]? = some ⟨mHash P w k', u, v'⟩ := by rw [ent x, hx]; rfl
        have go : k' ≠ k → Left xs k rest hit := fun ne => L.miss fun p z => by
          rw [hx] at z
          cases z
          exact ne rfl
        rw [ex]
        dsimp only
        by_cases hh : (mHash P w k' == mHash P w k) = true
        · rw [if_pos hh]
          refine wpAny_bind (wpAny_dictEpoch ho hd (wpAny_bind (mis_eq hu (his _ (List.mem_of_getElem? hx)) hkey (wpAny_bind (wpAny_dictEpoch ho hd ?_)))))
          show wpAny _ _ (if (ep != ep) = true then _ else _) _ E _
          rw [if_neg (by rw [bne_self_eq_false]; exact Bool.false_ne_true)]
          by_cases e : k' = k
          · subst e
            have z := L.first hn hx
            subst z
            rw [decide_eq_true rfl]
            simp only [if_true, Option.isSome_none, Bool.false_eq_true, if_false]
            refine wpAny_bind (wpAny_rule ?_)
            split
            · exact wpAny_pure (wpAny_pure (hsome x _ hx))
            · exact wpAny_pure ⟨rfl, some x, rfl, L.take hx⟩
          · rw [decide_eq_false e]
            simp only [Bool.false_eq_true, if_false, Bool.false_and]
            exact wpAny_bind (wpAny_rule (wpAny_pure ⟨rfl, hit, rfl, go e⟩))
        · rw [if_neg hh]
          exact wpAny_pure ⟨rfl, hit, rfl, go fun e => hh (by rw [e]; exact beq_self_eq_true _)⟩
      · rintro b s' ⟨rfl, hit, rfl, L⟩
        rcases L.fin with ⟨z, y⟩ | ⟨j, p, z, y⟩
        · subst z
          exact wpAny_pure (hnone y)
        · subst z
          exact wpAny_pure (hsome j p y))
end
end Fs
set_option Elab.async false
set_option linter.all false
set_option maxRecDepth 100000
set_option maxHeartbeats 4000000
/-! FxC: d[k] = v of a mixed dict; as an own object of the abstract heap -/
namespace Fs
open PySem PySem.Spec PyProof.Rows L2 Fh
open PySem.W (Frag)
section
variable {P : Program} {w : World} {A : Around} {E : Value → Shared → Prop} {s : Shared}
theorem DictM.typeIs {d : Addr} {xs : List (MK × Value × Value)} (hm : DictM P w s.heap d xs) : s.TypeIs (.ref d) "dict" :=
  let ⟨o, _, _, ho, hc, _⟩ := hm; ⟨o, ho, hc.1⟩
theorem m_get_mem {xs : List (MK × Value × Value)} {k : MK} (h : ∀ (j : Nat) (p : Value × Value), xs[j]? ≠ some (k, p)) : k ∉ xs.map (·.1) := by
  intro hm
  obtain ⟨x, hx, rfl⟩ := List.mem_map.mp hm
  obtain ⟨j, hj⟩ := List.mem_iff_getElem?.mp hx
  exact h j x.2 hj
theorem m_map_no (xs : List (MK × Value × Value)) (k : MK) (v : Value) (hn : k ∉ xs.map (·.1)) : xs.map (fun x => if x.1 = k then (x.1, x.2.1, v) else x) = xs := by
  induction xs with
  | nil => rfl
  | cons x xs ih =>
    simp only [List.map_cons, List.mem_cons, not_or] at hn ⊢
    rw [if_neg (fun e => hn.1 e.symm), ih hn.2]
theorem m_map_keys (xs : List (MK × Value × Value)) (k : MK) (v : Value) : (xs.map (fun x => if x.1 = k then (x.1, x.2.1, v) else x)).map (·.1) = xs.map (·.1) := by
  induction xs with
  | nil => rfl
  | cons x xs ih =>
    simp only [List.map_cons, ih]
    by_cases hk : x.1 = k <;> simp [hk]
theorem m_modify (k : MK) (v : Value) : ∀ {xs : List (MK × Value × Value)} {j : Nat} {p : Value × Value}, (xs.map (·.1)).Nodup → xs[j]? = some (k, p) →
    (xs.map (mEnt P w)).modify j (fun e : DictEntry => { e with val := v }) = (xs.map (fun x => if x.1 = k then (x.1, x.2.1, v) else x)).map (mEnt P w) := by
  intro xs
  induction xs with
  | nil => intro j p _ hj; simp at hj
  | cons x rest ih =>
    intro j p hn hj
    rw [List.map_cons, List.nodup_cons] at hn
    cases j with
    | zero =>
      simp only [List.getElem?_cons_zero, Option.some.injEq] at hj
      subst hj
      rw [List.map_cons, List.map_cons, m_map_no rest k v hn.1, if_pos rfl, List.map_cons]
      rfl
    | succ j =>
      simp only [List.getElem?_cons_succ] at hj
      have hmem : k ∈ rest.map (·.1) := List.mem_map.mpr ⟨(k, p), List.mem_of_getElem? hj, rfl⟩
      have hne : ¬ x.1 = k := fun e => hn.1 (e ▸ hmem)
      rw [List.map_cons, List.map_cons, if_neg hne, List.map_cons]
      show mEnt P w x :: (rest.map (mEnt P w)).modify j _ = _
      rw [ih hn.2 hj]
theorem m_set {d : Addr} {xs : List (MK × Value × Value)} {k : MK} {key v : Value} {Q : Unit → Shared → Prop} (hu : A.units < cLine) (hkey : MIs P w s.heap k key) (hm : DictM P w s.heap d xs) (his : ∀ x ∈ xs, MIs P w s.heap x.1 x.2.1)
    (hodd : (∀ x t, key ≠ .str x t) ∨ ∃ x ∈ xs, ∀ y t, x.2.1 ≠ .str y t)
    (hQ : ∀ h' t, DictM P w h' d (mStored xs k key v) → Heap.SameBut d s.heap h' → Q () { s with heap := h', toks := t }) (hsz : xs.length ≤ sizeLine) :
    wpAny (model P w) A (dictSet d key v) Q E s := by
  obtain ⟨o, es, ep, ho, hc, hd, he, hn⟩ := hm
  have hodd2 : (∀ x t, key ≠ .str x t) ∨ ¬ (es.all fun e => isExactStrKey e.key) = true := by
    rcases hodd with z | ⟨x, hx, z⟩
    · exact .inl z
    · refine .inr fun y => ?_
      rw [← Array.all_toList, he, List.all_eq_true] at y
      have q := y _ (List.mem_map.mpr ⟨x, hx, rfl⟩)
      have q2 : isExactStrKey x.2.1 = true := q
      cases e : x.2.1 with
      | str a t => exact z a t e
      | _ => rw [e] at q2; exact nomatch (show false = true from q2)
  unfold dictSet
  try with_reducible refine wpAny_holding ?_
  refine wpAny_bind (mis_hash hu hkey fun tk => ?_)
  unfold dictSetHashed
  try with_reducible refine wpAny_holding ?_
  have hes : es.size ≤ sizeLine := by
    have e : es.size = xs.length := by rw [← Array.length_toList, he, List.length_map]
    omega
  refine wpAny_bind (m_find (s := { s with toks := tk }) hu hkey ho hd he his hn hodd2 ?_ ?_)
  · intro hno
    have hnot : k ∉ xs.map (·.1) := m_get_mem hno
    have est : mStored xs k key v = xs ++ [(k, key, v)] := if_neg hnot
    refine wpAny_bind (wpAny_rule (wpAny_updateDictKeys (hz := hes) (s := { s with toks := tk }) ho hd (hQ _ _ ⟨_, _, ep + 1, Heap.get?_update_self _ ho (Obj.isFreed_of_dict (Obj.data_mapDictKeys hd _)),
      hc.mapDictKeys _, Obj.data_mapDictKeys hd _, ?_, ?_⟩ (Heap.SameBut.update ..))))
    · rw [est]
      simp [he, mEnt]
    · rw [est, List.map_append, List.nodup_append]
      refine ⟨hn, by simp, ?_⟩
      intro x hx y hy
      simp only [List.map_cons, List.map_nil, List.mem_singleton] at hy
      subst hy
      exact fun e => hnot (e ▸ hx)
  · intro j p hj
    have hmem : k ∈ xs.map (·.1) := List.mem_map.mpr ⟨(k, p), List.mem_of_getElem? hj, rfl⟩
    have est : mStored xs k key v = xs.map (fun x => if x.1 = k then (x.1, x.2.1, v) else x) := if_pos hmem
    refine wpAny_bind (wpAny_rule (wpAny_bind (wpAny_updateDict (s := { s with toks := tk }) ho hd (wpAny_point (hQ _ _ ⟨_, _, ep, Heap.get?_update_self _ ho (Obj.isFreed_of_dict (Obj.data_mapDict hd _)),
      hc.mapDict _, Obj.data_mapDict hd _, ?_, ?_⟩ (Heap.SameBut.update ..))))))
    · rw [est]
      have := m_modify (P := P) (w := w) k v hn hj
      rw [← he] at this
      obtain ⟨l⟩ := es
      simpa using this
    · rw [est, m_map_keys]; exact hn
theorem m_setItem {d : Addr} {xs : List (MK × Value × Value)} {k : MK} {key v : Value} {Q : Unit → Shared → Prop} (hu : A.in1.units < cLine) (hkey : MIs P w s.heap k key) (hm : DictM P w s.heap d xs) (his : ∀ x ∈ xs, MIs P w s.heap x.1 x.2.1)
    (hodd : (∀ x t, key ≠ .str x t) ∨ ∃ x ∈ xs, ∀ y t, x.2.1 ≠ .str y t)
    (hQ : ∀ h' t, DictM P w h' d (mStored xs k key v) → Heap.SameBut d s.heap h' → Q () { s with heap := h', toks := t }) (hsz : xs.length ≤ sizeLine) :
    wpAny (model P w) A (setItem (.ref d) key v) Q E s := by
  unfold setItem
  try with_reducible refine wpAny_holding ?_
  refine wpAny_bind (wpAny_sequenceKey hm.typeIs (by decide) ?_)
  refine wpAny_bind (wpAny_callSpecial?_slot (name := Str.ofString "__setitem__") hm.typeIs PySem.F.slot_dict_setitem
    (wpAny_call_entry PySem.F.slot_dict_setitem hm.typeIs PySem.F.entry_dict_setitem ?_ (PySem.F.args_dict_setitem_3 _ _ _)))
  show wpAny _ _ (Builtin.Dict.notOrdered "__setitem__" ⟨[.ref d, key, v], []⟩ >>= _) _ _ s
  refine wpAny_bind (wpAny_notOrdered_dict hm.typeIs ?_)
  show wpAny _ _ (dictSet d key v >>= _) _ _ s
  exact wpAny_bind (m_set hu hkey hm his hodd (fun h' t hm' hs' => wpAny_pure ⟨.none, rfl, wpAny_pure (hQ h' t hm' hs')⟩) hsz)
end
end Fs
set_option Elab.async false
set_option linter.all false
set_option maxRecDepth 100000
set_option maxHeartbeats 4000000
/-! FxD: a mixed dict as an own object: an item stored, its keys walked, its repr, its class -/
namespace Fs
open PySem PySem.Spec PyProof.Rows L2 Fh
open PySem.W (Frag)
abbrev ME : Type := MK × V × V
def OD (P : Program) (w : World) (a : Addr) (xs : List ME) : HO := .ext fun h => xs.length ≤ sizeLine ∧ (a == sysModules) = false ∧ ∃ ys : List (MK × Value × Value), Paired (fun x y => x.1 = y.1 ∧ RelV x.2.1 y.2.1 ∧ RelV x.2.2 y.2.2) xs ys ∧ DictM P w h a ys
/-- the key's value is the key -/
def KOk (H : Hp) (x : ME) : Prop := match x.1 with
  | .non => x.2.1 = .non
  | .key k => x.2.1 = kV k
  | .tup ks => ∃ q, x.2.1 = .ref q ∧ H q = some (.tup (ks.map kV))
def oddK : MK → Bool
  | .key _ => false
  | _ => true
def vStored (xs : List ME) (k : MK) (u v : V) : List ME := if k ∈ xs.map (·.1) then xs.map (fun x => if x.1 = k then (x.1, x.2.1, v) else x) else xs ++ [(k, u, v)]
def ofK (kvs : List (Key × V)) : List ME := kvs.map fun q => (MK.key q.1, kV q.1, q.2)
abbrev RelM (x : ME) (y : MK × Value × Value) : Prop := x.1 = y.1 ∧ RelV x.2.1 y.2.1 ∧ RelV x.2.2 y.2.2
section
variable {P : Program} {w : World} {H : Hp} {h : Heap} {a : Addr}
theorem od_new {ys : List (MK × Value × Value)} {xs : List ME} (z : xs.length ≤ sizeLine) (hd : (a == sysModules) = false) (rel : Paired RelM xs ys) (dd : DictM P w h a ys) : ObjOk P w H h a (OD P w a xs) := by
  refine ⟨⟨z, hd, ys, rel, dd⟩, ?_, ?_⟩
  · obtain ⟨o, _, _, ho, _⟩ := dd
    exact ⟨o, ho⟩
  · rintro h1 h2 ⟨z, hd, ys, rel, o, es, ep, ho, r⟩ k
    exact ⟨z, hd, ys, rel, o, es, ep, k o ho, r⟩
theorem od_of {xs : List ME} (ok : HOk P w H h) (e : H a = some (OD P w a xs)) : xs.length ≤ sizeLine ∧ (a == sysModules) = false ∧ ∃ ys, Paired RelM xs ys ∧ DictM P w h a ys := (ok a _ e).1
theorem mis_of {x : ME} {u : Value} (ok : HOk P w H h) (hk : KOk H x) (r : RelV x.2.1 u) : MIs P w h x.1 u := by
  obtain ⟨k, v, y⟩ := x
  cases k with
  | non =>
    have e : v = .non := hk
    rw [e] at r
    exact r
  | key k =>
    have e : v = kV k := hk
    rw [e] at r
    exact kV_is (P := P) (w := w) r
  | tup ks =>
    obtain ⟨q, e, hq⟩ := (show ∃ q, v = .ref q ∧ H q = some (.tup (ks.map kV)) from hk)
    rw [e] at r
    have e2 : u = Value.ref q := r
    exact ⟨q, e2, key_of ok hq⟩
theorem ofK_len (kvs : List (Key × V)) : (ofK kvs).length = kvs.length := List.length_map _
theorem ofK_ok (kvs : List (Key × V)) : ∀ x ∈ ofK kvs, KOk H x := fun x hx => by
  obtain ⟨q, _, rfl⟩ := List.mem_map.mp hx
  exact rfl
/-- a dict of ints and texts as a mixed one -/
theorem m_ofK {kvs : List (Key × V)} (ok : HOk P w H h) (e : H a = some (.dK kvs)) : (ofK kvs).length ≤ sizeLine ∧ (a == sysModules) = false ∧ ∃ ys, Paired RelM (ofK kvs) ys ∧ DictM P w h a ys := by
  obtain ⟨z, hd, vs, rel, o, es, ep, ho, hx, hdt, hk, hp, hn⟩ := dk_of ok e
  have key : ∀ {des : List DictEntry} {us : List (Key × Value)} {kvs : List (Key × V)}, (∀ e ∈ des, ∃ k, (mixKind P w).is k e.key = true ∧ e.hash = (mixKind P w).hash k) → Pairs (mixKind P w) des us → KV kvs us →
      ∃ ys : List (MK × Value × Value), Paired RelM (ofK kvs) ys ∧ des = ys.map (mEnt P w) ∧ ys.map (·.1) = us.map (fun q => MK.key q.1) := by
    intro des us kvs hk p
    induction p generalizing kvs with
    | nil =>
      intro r
      cases r
      exact ⟨[], .nil, rfl, rfl⟩
    | @cons en q des us h1 h2 p ih =>
      intro r
      cases r with
      | @cons x _ kvs' _ r1 r2 =>
        obtain ⟨ys, a1, a2, a3⟩ := ih (fun e he => hk e (List.mem_cons_of_mem _ he)) r2
        obtain ⟨k, b1, b2⟩ := hk en List.mem_cons_self
        have ek : k = q.1 := (mixKind P w).inj _ _ _ b1 h1
        refine ⟨(MK.key q.1, en.key, en.val) :: ys, .cons ⟨congrArg MK.key r1.1, ?_, ?_⟩ a1, ?_, ?_⟩
        · show RelV (kV x.1) en.key
          rw [r1.1]
          exact relV_key h1
        · show RelV x.2 en.val
          rw [h2]
          exact r1.2
        · rw [List.map_cons, ← a2]
          congr 1
          obtain ⟨eh, ekk, ev⟩ := en
          show DictEntry.mk eh ekk ev = ⟨mHash P w (.key q.1), ekk, ev⟩
          rw [← ek]
          have b2 : eh = (mixKind P w).hash k := b2
          rw [b2]
          rfl
        · rw [List.map_cons, List.map_cons, a3]
  obtain ⟨ys, a1, a2, a3⟩ := key (fun e he => hk e (Array.mem_toList_iff.mp he)) hp rel
  refine ⟨by rw [ofK_len]; exact z, hd, ys, a1, o, es, ep, ho, hx, hdt, a2, ?_⟩
  rw [a3]
  have e : (vs.map fun q => MK.key q.1) = (vs.map (·.1)).map MK.key := by rw [List.map_map]; rfl
  rw [e]
  exact List.pairwise_map.mpr (List.Pairwise.imp (fun {x y} h z => h (by injection z)) hn)
theorem relM_keys {xs : List ME} {ys : List (MK × Value × Value)} (r : Paired RelM xs ys) : xs.map (·.1) = ys.map (·.1) := by
  induction r with
  | nil => rfl
  | cons h _ ih => rw [List.map_cons, List.map_cons, h.1, ih]
theorem relM_snoc {xs : List ME} {ys : List (MK × Value × Value)} {x : ME} {y : MK × Value × Value} (r : Paired RelM xs ys) (h : RelM x y) : Paired RelM (xs ++ [x]) (ys ++ [y]) := by
  induction r with
  | nil => exact .cons h .nil
  | cons q _ ih => exact .cons q ih
theorem relM_put {xs : List ME} {ys : List (MK × Value × Value)} {k : MK} {v : V} {v' : Value} (r : Paired RelM xs ys) (h : RelV v v') : Paired RelM (xs.map fun x => if x.1 = k then (x.1, x.2.1, v) else x) (ys.map fun x => if x.1 = k then (x.1, x.2.1, v') else x) := by
  induction r with
  | nil => exact .nil
  | @cons x y _ _ q _ ih =>
    refine .cons ?_ ih
    dsimp only
    by_cases e : x.1 = k
    · rw [if_pos e, if_pos (by rw [← q.1]; exact e)]
      exact ⟨q.1, q.2.1, h⟩
    · rw [if_neg e, if_neg (by rw [← q.1]; exact e)]
      exact q
theorem relM_stored {xs : List ME} {ys : List (MK × Value × Value)} {k : MK} {u v : V} {u' v' : Value} (r : Paired RelM xs ys) (hu : RelV u u') (hv : RelV v v') : Paired RelM (vStored xs k u v) (mStored ys k u' v') := by
  unfold vStored mStored
  rw [relM_keys r]
  split
  · exact relM_put r hv
  · exact relM_snoc r ⟨rfl, hu, hv⟩
theorem vStored_len (xs : List ME) (k : MK) (u v : V) : (vStored xs k u v).length ≤ xs.length + 1 := by
  unfold vStored
  split
  · rw [List.length_map]; omega
  · rw [List.length_append]; exact Nat.le_refl _
theorem mis_all {xs : List ME} {ys : List (MK × Value × Value)} (ok : HOk P w H h) (r : Paired RelM xs ys) (hk : ∀ x ∈ xs, KOk H x) : ∀ y ∈ ys, MIs P w h y.1 y.2.1 := by
  induction r with
  | nil => intro y hy; cases hy
  | @cons x y _ _ q _ ih =>
    intro z hz
    rcases List.mem_cons.mp hz with e | e
    · rw [e, ← q.1]
      exact mis_of ok (hk x List.mem_cons_self) q.2.1
    · exact ih (fun x hx => hk x (List.mem_cons_of_mem _ hx)) z e
theorem mis_odd {k : MK} {u : Value} (hk : MIs P w h k u) (o : oddK k = true) : ∀ y t, u ≠ .str y t := by
  intro y t e
  cases k with
  | non => rw [show u = .none from hk] at e; cases e
  | key k => cases o
  | tup ks => obtain ⟨a, q, _⟩ := hk; rw [q] at e; cases e
theorem odd_all {xs : List ME} {ys : List (MK × Value × Value)} (ok : HOk P w H h) (r : Paired RelM xs ys) (hk : ∀ x ∈ xs, KOk H x) (o : ∃ x ∈ xs, oddK x.1 = true) : ∃ y ∈ ys, ∀ z t, y.2.1 ≠ .str z t := by
  induction r with
  | nil => obtain ⟨x, hx, _⟩ := o; cases hx
  | @cons x y _ _ q _ ih =>
    obtain ⟨x', hx, ho⟩ := o
    rcases List.mem_cons.mp hx with e | e
    · subst e
      exact ⟨y, List.mem_cons_self, mis_odd (mis_of ok (hk _ List.mem_cons_self) q.2.1) ho⟩
    · obtain ⟨y', hy, hz⟩ := ih (fun x hx => hk x (List.mem_cons_of_mem _ hx)) ⟨x', e, ho⟩
      exact ⟨y', List.mem_cons_of_mem _ hy, hz⟩
end
/-- d[i] = v, d a mixed dict, or one that becomes so -/
def rSetO (P : Program) (w : World) : TSet := fun o i v H Q => ∃ (a : Addr) (xs : List ME) (k : MK), o = .ref a ∧ (H a = some (OD P w a xs) ∨ ∃ kvs, H a = some (.dK kvs) ∧ xs = ofK kvs) ∧ KOk H (k, i, v) ∧ (∀ x ∈ xs, KOk H x) ∧ (oddK k = true ∨ ∃ x ∈ xs, oddK x.1 = true) ∧ xs.length < 1000 ∧
  Q (upd H a (OD P w a (vStored xs k i v)))
theorem set_odd {X : Cx} (hu : X.A.units + 1 < cLine) : PSet X (rSetO X.prog X.w) := by
  intro pins s σ H o i v ov iv u Q I ro ri rv h
  obtain ⟨a, xs, k, rfl, he, hk, hks, ho, hl, q⟩ := h
  cases (show ov = Value.ref a from ro)
  obtain ⟨z, hd, ys, rel, dd⟩ : xs.length ≤ sizeLine ∧ (a == sysModules) = false ∧ ∃ ys, Paired RelM xs ys ∧ DictM X.prog X.w s.heap a ys := by
    rcases he with he | ⟨kvs, he, rfl⟩
    · exact od_of I.hok he
    · exact m_ofK I.hok he
  have mu : Mut (H a) := by
    rcases he with he | ⟨kvs, he, _⟩ <;> rw [he] <;> exact True.intro
  have lz : (1000 : Nat) + 1 ≤ sizeLine := by rw [sizeLine_eq]; decide
  have hki : MIs X.prog X.w s.heap k iv := mis_of (x := (k, i, v)) I.hok hk ri
  refine m_setItem (tupleKind_room_in1 (knd := mixKind X.prog X.w) hu) hki dd (mis_all I.hok rel hks) ?_ (fun h' t dd' hs => ?_) (by rw [← rel.length]; exact z)
  · rcases ho with ho | ho
    · exact .inl (mis_odd hki ho)
    · exact .inr (odd_all I.hok rel hks ho)
  · have hx : ∃ q, h'.get? a = some q := let ⟨q, _, _, hq, _⟩ := dd'; ⟨q, hq⟩
    refine ⟨_, d_write I mu hs hx (od_new ?_ hd (relM_stored rel ri rv) dd'), q⟩
    have := vStored_len xs k i v
    omega
end Fs
set_option Elab.async false
set_option linter.all false
set_option maxRecDepth 100000
set_option maxHeartbeats 4000000
/-! FxE: a mixed dict: its keys walked, its class, its repr -/
namespace Fs
open PySem PySem.Spec PyProof.Rows L2 Fh
open PySem.W (Frag)
section
variable {X : Cx} {pins : List (Addr × Obj)} {σ : L2.St} {H : Hp} {s : Shared} {d : Addr} {o : Obj}
theorem frzO {xs : List ME} (I : Inv X pins σ H s) (h : H d = some (.frz o (OD X.prog X.w d xs))) :
    (d == sysModules) = false ∧ s.heap.get? d = some o ∧ o.ExactDict ∧ ∃ (es : Array DictEntry) (ep : Nat), o.data = .dict es ep ∧ es.size = xs.length ∧
      ∀ (i : Nat) (x : ME), xs[i]? = some x → ∃ en : DictEntry, es[i]? = some en ∧ RelV x.2.1 en.key := by
  obtain ⟨hd, ⟨z, hs, ys, rel, o', es, ep, ho, hx, hdt, he, _⟩, _⟩ := I.hok d _ h
  rw [hd] at ho
  cases ho
  refine ⟨hs, hd, hx, es, ep, hdt, ?_, fun i x e => ?_⟩
  · rw [← Array.length_toList, he, List.length_map, rel.length]
  · obtain ⟨y, hy, _, ry, _⟩ := paired_get rel e
    refine ⟨mEnt X.prog X.w y, ?_, ry⟩
    rw [← Array.getElem?_toList, he, List.getElem?_map, hy]
    rfl
end
def ItO (P : Program) (w : World) (d : Addr) (o : Obj) (xs : List ME) : It :=
  ⟨fun i H => H d = some (.frz o (OD P w d xs)) ∧ i < xs.length, fun i H x H' => H' = H ∧ ∃ y : ME, xs[i]? = some y ∧ x = y.2.1, fun i H => H d = some (.frz o (OD P w d xs)) ∧ xs.length ≤ i⟩
section
variable {P : Program} {w : World} {K : Frag} {tg : Expr} {d : Addr} {o : Obj} {es : Array DictEntry} {ep : Nat}
theorem turn_keysO {xs : List ME} (it : Addr) (hod : o.data = .dict es ep) : Turn P w K tg (ItO P w d o xs) [it] it (fun i h => h.IsKeyIter it d i xs.length ep) where
  mem := by simp
  obj := fun i h st b hb => by
    have e : b = it := by simpa using hb
    subst e
    obtain ⟨oi, e, c, dd⟩ := st
    exact ⟨oi, e, fun v z => by rw [dd] at z; cases z⟩
  keep := fun i h h' st k => st.at fun oi e => k it (by simp) oi e
  item := by
    intro X hP hw hK hc i pins s σ H E I hf st hg
    subst hP hw hK
    obtain ⟨hd, hi⟩ := hg
    obtain ⟨f0, f1, f2, f3, f4, f5⟩ := hf it (by simp)
    obtain ⟨hs, hgd, hx, es', ep', hdt, hsz, ent⟩ := frzO I hd
    obtain ⟨rfl, rfl⟩ := dict_ep hod hdt
    obtain ⟨y, hkv⟩ : ∃ p, xs[i]? = some p := ⟨xs[i], List.getElem?_eq_getElem hi⟩
    obtain ⟨en, hen, hkey⟩ := ent i y hkv
    refine next_key_item st hgd hdt hsz hen fun h' st' sb => ?_
    have I1 : Inv X pins σ H { s with heap := h' } := I.turned (t' := s.toks) (fun b ob hb e => (sb.2 b hb).trans e) f0 f1 f3 f4 f5
    obtain ⟨oi, e, c, dd⟩ := id st'
    exact ⟨en.key, rfl, go_of (s := { s with heap := h' }) e c dd (by decide) ⟨y.2.1, H, I1, hkey, ⟨rfl, y, hkv, rfl⟩, st', fun b hb => (hf b hb).1⟩⟩
  done := by
    intro X hP hw hK hc i pins s σ H E I hf st hg
    subst hP hw hK
    obtain ⟨hd, hi⟩ := hg
    obtain ⟨f0, f1, f2, f3, f4, f5⟩ := hf it (by simp)
    obtain ⟨hs, hgd, hx, es', ep', hdt, hsz, ent⟩ := frzO I hd
    obtain ⟨rfl, rfl⟩ := dict_ep hod hdt
    exact next_key_end (I.ok.hd hc) st hgd hdt hsz hi fun h' eb => ⟨rfl, I.turned (t' := s.toks) (fun b ob hb e => eb b ob hb e) f0 f1 f3 f4 f5⟩
  self := fun A i s Q E st h => by
    refine wpAny_pyIter_slot st.typeIs PySem.F.slot_dict_keyiterator_iter (wpAny_call_entry PySem.F.slot_dict_keyiterator_iter st.typeIs PySem.F.entry_dict_keyiterator_iter ?_ (PySem.F.args_dict_keyiterator_iter_1 _))
    show wpAny _ _ (ret (.ref it)) _ _ s
    exact wpAny_pure ⟨_, rfl, "dict_keyiterator", _, st.typeIs, PySem.F.slot_dict_keyiterator_next.lookup, h⟩
theorem walk_keysO {xs : List ME} : Walk (ItO P w d o xs) xs.length (fun H => H d = some (.frz o (OD P w d xs))) (fun i H x H' => H' = H ∧ ∃ y : ME, xs[i]? = some y ∧ x = y.2.1) :=
  ⟨fun _ _ hi q => ⟨q, hi⟩, fun _ q => ⟨q, Nat.le_refl _⟩, fun _ _ _ _ _ _ y => y⟩
end
/-- the keys of a locked dict, of ints and texts or mixed -/
def iKeysO (P : Program) (w : World) (td : TE) : TI := fun σ H R => td σ H fun x H1 => ∃ d o, x = .ref d ∧ ((∃ kvs, H1 d = some (.frz o (.dK kvs)) ∧ R (Itk d o kvs) H1) ∨ ∃ xs, H1 d = some (.frz o (OD P w d xs)) ∧ R (ItO P w d o xs) H1)
theorem pi_keysO {X : Cx} {tg e : Expr} {td : TE} (he : PE X e td) : PI X tg e (iKeysO X.prog X.w td) := by
  refine ⟨fun pins s σ H R I h => ?_⟩
  refine thn (he.run pins s σ H _ I h) fun u s1 ⟨x, H1, I1, rx, d, o, ex, q⟩ => ?_
  subst ex
  obtain rfl : u = Value.ref d := rx
  rcases q with ⟨kvs, hd, q⟩ | ⟨kvs, hd, q⟩
  · obtain ⟨hs, hgd, hx, es, ep, vs, hdt, hsz, kv, hm⟩ := I1.frzK hd
    refine iter_keys hs hgd hx hdt (pi_one (tk := s1.toks) I1 _ (turn_keys _ hdt) ⟨_, Heap.get?_push_size _ rfl, rfl, ?_⟩ q)
    rw [hsz] <;> rfl
  · obtain ⟨hs, hgd, hx, es, ep, hdt, hsz, ent⟩ := frzO I1 hd
    refine iter_keys hs hgd hx hdt (pi_one (tk := s1.toks) I1 _ (turn_keysO _ hdt) ⟨_, Heap.get?_push_size _ rfl, rfl, ?_⟩ q)
    rw [hsz] <;> rfl
/-! ### isinstance -/
def rIsiO (K : Frag) (P : Program) (w : World) : List V → Hp → VK → Prop := fun xs H Q => rIsi K xs H Q ∨ ∃ (a : Addr) (ms : List ME) (c : V) (u : Value) (b : Bool), xs = [.ref a, c] ∧ H a = some (OD P w a ms) ∧ ClsV c u ∧ PySem.W.kitOne K (.type "dict") u = some b ∧ Q (.bl b) H
theorem call_isiO {X : Cx} : CallR X (.builtin "isinstance") (rIsiO X.K X.prog X.w) := by
  intro pins s σ H xs us Q I r h
  rcases h with h | ⟨a, ms, c, u, b, rfl, ha, k, e, q⟩
  · exact call_isi pins s σ H xs us Q I r h
  · obtain ⟨u1, u2, rfl, r1, r2⟩ := vals2 r
    have e2 := k.eq r2
    subst e2
    cases (show u1 = Value.ref a from r1)
    obtain ⟨_, _, ys, _, o, es, ep, h1, h2, _⟩ := od_of I.hok ha
    exact PySem.W.kia_one PySem.W.kitx_dict I.kIn ⟨o, h1, h2.1⟩ e (fun z => nomatch z) fun tk => ⟨.bl b, H, I.tok tk, rfl, q⟩
/-! ### repr -/
def mP : MK → PyData
  | .non => .none
  | .key k => kP k
  | .tup ks => .tuple (ks.map kP)
/-- the entries are data -/
inductive MDs (N : Addr → Prop) (H : Hp) : List ME → List (PyData × PyData) → Prop where
  | nil : MDs N H [] []
  | cons {x : ME} {d : PyData} {xs : List ME} {ds : List (PyData × PyData)} : KOk H x → DA N H x.2.2 d → MDs N H xs ds → MDs N H (x :: xs) ((mP x.1, d) :: ds)
section
variable {P : Program} {w : World} {N : Addr → Prop} {H H' : Hp} {h : Heap}
theorem KOk.same (s : Same H H') {x : ME} (k : KOk H x) : KOk H' x := by
  obtain ⟨m, u, v⟩ := x
  cases m with
  | non => exact k
  | key k => assumption
  | tup ks =>
    obtain ⟨q, e, hq⟩ := (show ∃ q, u = .ref q ∧ H q = some (.tup (ks.map kV)) from k)
    exact ⟨q, e, s _ _ hq⟩
theorem MDs.same (s : Same H H') {xs : List ME} {ds : List (PyData × PyData)} (m : MDs N H xs ds) : MDs N H' xs ds := by
  induction m with
  | nil => exact .nil
  | cons k d _ ih => exact .cons (k.same s) (DA.same s d) ih
theorem tup_reads (P : Program) (w : World) {ks : List Key} {vs : List Value} (r : Vals (ks.map kV) vs) : ReadsAll h vs (ks.map kP) [] := by
  induction ks generalizing vs with
  | nil => cases r; exact .nil
  | cons k ks ih =>
    cases r with
    | cons r1 r2 =>
      have z := key_reads (h := h) (kV_is (P := P) (w := w) r1)
      exact .cons z (ih r2)
theorem mk_reads (ok : HOk P w H h) {x : ME} {u : Value} (hk : KOk H x) (r : RelV x.2.1 u) : Reads h u (mP x.1) [] := by
  obtain ⟨k, v, y⟩ := x
  cases k with
  | non =>
    have e : v = .non := hk
    rw [e] at r
    rw [show u = Value.none from r]
    exact .none
  | key k =>
    have e : v = kV k := hk
    rw [e] at r
    exact key_reads (kV_is (P := P) (w := w) r)
  | tup ks =>
    obtain ⟨q, e, hq⟩ := (show ∃ q, v = .ref q ∧ H q = some (.tup (ks.map kV)) from hk)
    rw [e] at r
    rw [show u = Value.ref q from r]
    obtain ⟨_, its, rv, o, ho, hc, m, hd⟩ := (show ObjOk P w H h q (.tup (ks.map kV)) from ok q _ hq)
    exact .tuple ho hc hd (by simpa using tup_reads P w rv)
theorem MDs.reads (ok : HOk P w H h) {xs : List ME} {ds : List (PyData × PyData)} (m : MDs N H xs ds) : ∀ {ys : List (MK × Value × Value)}, Paired RelM xs ys →
    ∃ bs, ReadsAll h ((ys.map (mEnt P w)).map (·.key)) (ds.map (·.1)) [] ∧ ReadsAll h ((ys.map (mEnt P w)).map (·.val)) (ds.map (·.2)) bs ∧ sysModules ∉ bs := by
  induction m with
  | nil => intro ys r; cases r; exact ⟨[], .nil, .nil, List.not_mem_nil⟩
  | @cons x d xs ds k da _ ih =>
    intro ys r
    cases r with
    | @cons _ y _ ys r1 r2 =>
      obtain ⟨bs, a1, b1, n1⟩ := ih r2
      obtain ⟨cs, c1, c2⟩ := DA.reads ok da r1.2.2
      exact ⟨cs ++ bs, .cons (mk_reads ok k r1.2.1) a1, .cons c1 b1, fun z => (List.mem_append.mp z).elim c2 n1⟩
end
def rReprO (P : Program) (w : World) : List V → Hp → VK → Prop := fun xs H Q => rRepr xs H Q ∨ ∃ (N : Addr → Prop) (a : Addr) (ms : List ME) (ds : List (PyData × PyData)), xs = [.ref a] ∧ H a = some (OD P w a ms) ∧ MDs N H ms ds ∧
  (PyData.dict ds).showable = true ∧ (PyData.dict ds).depth ≤ 60 ∧ (PyData.dict ds).shown.length ≤ sizeLine ∧ Q (.str (PyData.dict ds).shown) H
theorem call_reprO {X : Cx} (hg : X.A.guards = some []) (hu : X.A.units + 64 < cLine) : CallR X (.builtin "repr") (rReprO X.prog X.w) := by
  intro pins s σ H xs us Q I r h
  rcases h with h | ⟨N, a, ms, ds, rfl, ha, hm, hs, hz, hl, q⟩
  · exact call_repr hg hu pins s σ H xs us Q I r h
  · obtain ⟨u, rfl, ru⟩ := vals1 r
    cases (show u = Value.ref a from ru)
    obtain ⟨_, hsm, ys, rel, o, es, ep, ho, hx, hdt, he, _⟩ := od_of I.hok ha
    obtain ⟨bs, r1, r2, n2⟩ := hm.reads I.hok rel
    rw [← he] at r1 r2
    have ns : sysModules ∉ a :: ([] : List Addr) ++ bs := fun z => by
      rcases List.mem_append.mp z with y | y
      · rcases List.mem_cons.mp y with x | x
        · exact absurd x.symm (beq_eq_false_iff_ne.mp hsm)
        · cases x
      · exact n2 y
    exact PySem.repr_of_reads' (.dict ho hx.1 hdt r1 r2) hs (fun _ => ns) hg (by omega) (fun _ _ z => z) (fun h' t tk k => ⟨.str _, H, I.kept (t' := tk) k, ⟨_, rfl⟩, q⟩) hl
end Fs
set_option Elab.async false
set_option linter.all false
set_option maxRecDepth 100000
set_option maxHeartbeats 4000000
/-! FvA: a method whose last row is super().__init__(e, .., k = v, ..) -/
namespace SuX
open PySem PySem.Spec PyProof.Rows L2 Fh NdefX
open PySem.W (Frag)
/-- what of the text such a method must have: it stands at f, closes over the cell at cc, which holds its class C; f2 is the __init__ above C -/
structure Sup (P : Program) (K : Frag) (F : NF) (f C f2 cc : Addr) (ar : Arg) : Prop where
  fn : ∃ (oc : Value) (od : Option Addr) (fd : FuncData) (osl : Array (Option Value)), K.lookup f = some ⟨oc, od, .func fd, osl⟩ ∧ (fd.params.posonlyargs ++ fd.params.args).head? = some ar
  code : ∃ (ccl : Value) (cdd : Option Addr) (vs : Array Value) (ccs : Array (Option Value)) (file : Str) (tf : Tok), K.lookup F.c = some ⟨ccl, cdd, .fields vs, ccs⟩ ∧ vs[2]? = some (.str file tf) ∧ ((P.main.file : Str) == file) = true
  cl : F.cl = [(("__class__" : Str), cc)]
  cell : ∃ (cl : Value) (cld : Option Addr) (csl : Array (Option Value)), K.lookup cc = some ⟨cl, cld, .cell (some (.ref C)), csl⟩
  cls : ∃ cd, PySem.W.clsIn K C = some cd
  sub : PySem.W.mroIn K C (.ref C) = some true
  stat : PySem.W.nsIn K cStatics "thirdparty.any" = some none
  up : PySem.W.ks_superIn K C C "__init__" = some (some (.ref f2))
  ty : PySem.W.typeIn K (.ref f2) = some (.type "function")
  fi : PySem.W.fnIn K f2 = true
  sups : F.scope.names.lookup ("super" : Str) = some .globalImplicit
  clss : F.scope.names.lookup ("__class__" : Str) = some .free
  slf : F.scope.names.lookup ar.arg = some .local
  top : (P.main.scope.names.lookup ("super" : Str)).isSome = false
theorem wpAt_callKw {M : Model} {A : Around} {c : Code} {E : Value → Shared → Prop} {s : Shared} {env : Env} {o : Expr} {name : Str} {apos pos : Pos} {args : List Expr} {kws : List Keyword} {pl : Sem Bool} {Q : Value → Shared → Prop}
    (h : _root_.PySem.wpAt M A c (attributeBase o name env (eval o env)) (fun ov s₁ => wpAny M A (getMethod ov name pl) (fun fx s₂ => wpAny M A (callWith pos fx.1 fx.2 (backTo pos (starEach args env)) (backToKw pos (keywordEach kws env))) Q E s₂) E s₁) E s)
    (he : eval (.Call (.Attribute o name apos) args kws pos) env = (do
      let ov ← attributeBase o name env (eval o env)
      standAt apos.atName
      let (f, first) ← holding [ov] (getMethod ov name pl)
      callWith pos f first (backTo pos (starEach args env)) (backToKw pos (keywordEach kws env))) := by rfl) :
    _root_.PySem.wpAt M A c (eval (.Call (.Attribute o name apos) args kws pos) env) Q E s := by
  rw [he]
  refine _root_.PySem.wpAt_bind (_root_.PySem.wpAt_mono h (fun ov s₁ h₁ => _root_.PySem.wpAt_of_wpAny (wpAny_bind (wpAny_standAt (wpAny_bind (wpAny_holding (wpAny_mono h₁ (fun fx s₂ h₂ => ?_) fun _ _ x => x)))))) fun _ _ x => x)
  exact h₂
/-- super().__init__(e, .., k = v, ..): n values behind self, keywords ks -/
def tSup (C : Addr) (n m : Nat) (sp : Sp) (gV : List V → List V → List V) (E : XK) (t tk : TA) : TE := fun σ H Q => ∃ a dx fs, σ[0]? = some (some (.ref a)) ∧ H a = some (.ins C dx fs) ∧ t σ H fun vs H1 => tk σ H1 fun zs H2 => vs.length = n ∧ zs.length = m ∧ sp (gV (.ref a :: vs) zs) H2 Q E
section
variable {CX CX2 : CXT} {P : Program} {w : World} {K : Frag} {mg : Str → Option Value} {base : Heap} {N : List Str} {F : NF} {f C f2 cc : Addr} {ar : Arg} {A : Around} {outer : List Env} {s0 : Shared} {H0 : Hp} {E E2 : XK} {k n : Nat} {fd2 : FuncData} {ps2 ks : List Str} {sp : Sp}
  {g : List Value → List Value → List Value} {gV : List V → List V → List V} {t tk : TA} {p0 p1 p2 p3 p4 : Pos} {e : Expr} {es : List Expr} {kws : List Keyword} {body : List Stmt}
theorem cell_ref {h : Heap} {c D : Addr} {cl : Value} {cld : Option Addr} {csl : Array (Option Value)} (X : K.In h) (e : K.lookup c = some ⟨cl, cld, .cell (some (.ref D)), csl⟩) : h.IsCell c (some (.ref D)) := ⟨_, X _ _ e, rfl⟩
theorem run_sup {pl : Sem Bool} (S : Sup P K F f C f2 cc ar) (hN : N[0]? = some ar.arg) (gs : mg "super" = none) {pins : List (Addr × Obj)} {σ : L2.St} {H : Hp} {s : Shared} {Q : VK}
    (I : Inv (ncx CX P w K mg base N F f A outer s0 H0 E) pins σ H s) (F2 : FnOk P w K mg base CX2 k f2 fd2 ps2 sp) (hr : Room k (ncx CX P w K mg base N F f A outer s0 H0 E).A) (hb : KBn K fd2 ps2 (n + 1) ks g gV) (hx : Passes CX2 (ncx CX P w K mg base N F f A outer s0 H0 E) E2)
    (ha : PA (ncx CX P w K mg base N F f A outer s0 H0 E) (e :: es) t) (hkw : PK (ncx CX P w K mg base N F f A outer s0 H0 E) kws tk) (h : tSup C n ks.length sp gV E2 t tk σ H Q)
    (hall : (backToKw p3 (keywordEach kws (envF F f s0.heap.objs.size))).all (·.1.isSome) = true := by rfl) (hks : (backToKw p3 (keywordEach kws (envF F f s0.heap.objs.size))).filterMap (·.1) = ks := by rfl)
    (he : starEach (e :: es) (envF F f s0.heap.objs.size) = (false, eval e (envF F f s0.heap.objs.size)) :: starEach es (envF F f s0.heap.objs.size) := by rfl)
    (hpl : ((backTo p3 (starEach (e :: es) (envF F f s0.heap.objs.size))).any (·.1) || (backToKw p3 (keywordEach kws (envF F f s0.heap.objs.size))).any (·.1.isNone)) = false := by rfl)
    (ht : eval (.Call (.Attribute (.Call (.Name "super" p0) [] [] p1) "__init__" p2) (e :: es) kws p3) (envF F f s0.heap.objs.size) = (do
      let ov ← attributeBase (.Call (.Name "super" p0) [] [] p1) "__init__" (envF F f s0.heap.objs.size) (eval (.Call (.Name "super" p0) [] [] p1) (envF F f s0.heap.objs.size))
      standAt p2.atName
      let (fv, first) ← holding [ov] (getMethod ov "__init__" pl)
      callWith p3 fv first (backTo p3 (starEach (e :: es) (envF F f s0.heap.objs.size))) (backToKw p3 (keywordEach kws (envF F f s0.heap.objs.size)))) := by rfl) :
    _root_.PySem.wpAt (model P w) (ncx CX P w K mg base N F f A outer s0 H0 E).A (.func body (envF F f s0.heap.objs.size)) (eval (.Call (.Attribute (.Call (.Name "super" p0) [] [] p1) "__init__" p2) (e :: es) kws p3) (envF F f s0.heap.objs.size))
      (EP (ncx CX P w K mg base N F f A outer s0 H0 E) pins σ Q) (ncx CX P w K mg base N F f A outer s0 H0 E).xe s := by
  obtain ⟨a, dx, fs, hσ, hi, h⟩ := h
  obtain ⟨oc, od, fd, osl, hf, hp⟩ := S.fn
  obtain ⟨ccl, cdd, vs, ccs, file, tf, hcode, hvs, hfile⟩ := S.code
  obtain ⟨cl, cld, csl, hcell⟩ := S.cell
  obtain ⟨cd, hcd⟩ := S.cls
  have X := I.kIn
  obtain ⟨oD, hD1, hD2⟩ : ∃ oD, s.heap.get? C = some oD ∧ oD.data = .cls cd := by
    have hD := hcd
    unfold PySem.W.clsIn at hD
    split at hD
    · rename_i c d cd' sl ho
      cases hD
      exact ⟨_, X _ _ ho, rfl⟩
    · cases hD
  obtain ⟨mA, O, _⟩ := ins_get I.hok hi
  obtain ⟨odx, J, _⟩ := O.look
  have hxC : a ≠ C := PySem.W.ks_ne X J hcd
  obtain ⟨mb, bl1, bl2⟩ := I.mod.blt
  refine wpAt_callKw (pl := pl) ?_ ht
  refine PySem.ks_wpAt_super_base (env := envF F f s0.heap.objs.size) S.sups S.clss (by decide) rfl (X _ _ hf) rfl hp rfl (X _ _ hcode) rfl hvs hfile S.top ?_
  refine PySem.W.ks_loadName_global I.ok.kind S.sups (Calls.loadGlobal_builtin (by show s.heap.Ns mainGlobals mg; exact I.mod.glob.keeps I.bk) gs (by show s.heap.Ns builtinsNs mb; exact bl1.keeps I.bk) ((bl2 _ (by decide +kernel)).trans (by first | rfl | kernel_rfl)) ⟨rfl, ?_⟩)
  refine wpAny_loadName_free I.ok.kind S.clss (by show List.lookup _ F.cl = some cc; rw [S.cl]; rfl) (cell_ref X hcell) ?_
  obtain ⟨m, hn, hl⟩ := I.loc
  obtain ⟨u, ru, lk⟩ := hl 0 ar.arg (.ref a) hN hσ (.inl S.slf)
  obtain rfl : u = Value.ref a := ru
  rcases lk with ⟨hk, hm⟩ | ⟨hk, _⟩
  rotate_left 1
  · have hk2 : F.scope.names.lookup ar.arg = some .cell ∨ F.scope.names.lookup ar.arg = some .free := hk
    rw [S.slf] at hk2
    rcases hk2 with z | z <;> cases z
  refine wpAny_loadName_local I.ok.kind hk hn hm ?_
  refine PySem.ks_wpAny_isType_cls hD1 hD2 ⟨rfl, ?_⟩
  obtain ⟨hh, gn, dr, tk', os⟩ := s
  refine PySem.ks_wpAny_call_super hD1 hD2 J.at_ J.cls (fun c e => ?_) (PySem.W.looks_mroIn X S.sub) (fun h' e k => ?_)
  · have := J.no
    unfold PySem.W.notCls at this
    rw [e] at this
    exact Bool.noConfusion this
  have I1 := ClX.pin_new (t' := tk') I k (Nat.le_refl _) e (fun v z => nomatch z)
  have X1 : K.In h' := I1.kIn
  obtain ⟨of, hof, hofc⟩ : ∃ of, h'.get? f2 = some of ∧ of.cls = .type "function" := by
    have ht' : (K.lookup f2).map (·.cls) = some (.type "function") := S.ty
    cases z : K.lookup f2 with
    | none => rw [z] at ht'; cases ht'
    | some of => rw [z] at ht'; exact ⟨of, X1 _ _ z, Option.some.inj ht'⟩
  have hm2 := S.up
  unfold PySem.W.ks_superIn at hm2
  rw [hcd] at hm2
  refine PySem.ks_wpAny_getMethod_super e (PySem.W.looks_opaque X1 S.stat) (l₀ := cd.mro) (fun A Q E s k q => wpAny_bind ((PySem.W.looks_clsIn X1 hcd) A _ E s k (wpAny_pure q))) rfl X1 hm2 hof hofc hxC (by decide) ?_
  have I2 := ClX.pin_new (t' := tk' + 1) (o := PySem.W.methodObj (.ref f2) (.ref a)) I1 (fun b u z => Heap.get?_push_of_some _ z) (Nat.le_refl _) (Heap.get?_push_size _ rfl) (fun v z => nomatch z)
  refine PySem.W.callWith_of hpl (PySem.W.keeps_M (K := K) (q := h'.objs.size) (self := .ref a) S.fi) (evalArgs_kw2 hall ?_ he)
  refine thn (ha.run p3 _ _ σ H _ I2 h) fun us s1 ⟨vs, H1, I3, r, q⟩ => ?_
  refine thn (hkw.run p3 _ s1 σ H1 _ I3 q) fun ws s2 ⟨zs, H2, I4, rz, l1, l2, q2⟩ => ⟨⟨ClX.pin_at I4, I4.kIn⟩, ?_⟩
  rw [hks]
  have r1 : Vals (V.ref a :: vs) (Value.ref a :: us) := .cons rfl r
  have r2 := hb.rel r1 rz
  have n1 : (Value.ref a :: us).length = n + 1 := by rw [List.length_cons, ← r.length, l1]
  refine wpAny_call (codeAny_mono (PySem.W.method_call (ClX.pin_at I4) (F2.run _ _ _ _ ⟨.ref a :: us, ks.zip ws⟩ (g (.ref a :: us) ws) _ _ E2 hr I4.env0 (hb.to _ (.ref a :: us) ws I4.kIn n1 (rz.length.symm.trans l2)) r2 q2)) ?_)
  intro res s' z
  match res, z with
  | .error er, z => exact hx _ _ _ _ er s' I4 z
  | .ok (.ret u), z => exact ClX.unpinE (ClX.unpinE (I4.after z))
/-- the row itself -/
theorem rows_sup {pl : Sem Bool} (S : Sup P K F f C f2 cc ar) (hN : N[0]? = some ar.arg) (gs : mg "super" = none) {pins : List (Addr × Obj)} {σ : L2.St} {H : Hp} {s : Shared} {D : Ends}
    (I : Inv (ncx CX P w K mg base N F f A outer s0 H0 E) pins σ H s) (F2 : FnOk P w K mg base CX2 k f2 fd2 ps2 sp) (hr : Room k (ncx CX P w K mg base N F f A outer s0 H0 E).A) (hb : KBn K fd2 ps2 (n + 1) ks g gV) (hx : Passes CX2 (ncx CX P w K mg base N F f A outer s0 H0 E) E2)
    (ha : PA (ncx CX P w K mg base N F f A outer s0 H0 E) (e :: es) t) (hkw : PK (ncx CX P w K mg base N F f A outer s0 H0 E) kws tk) (h : tSup C n ks.length sp gV E2 t tk σ H (fun _ H' => D.nx σ H'))
    (hall : (backToKw p3 (keywordEach kws (envF F f s0.heap.objs.size))).all (·.1.isSome) = true := by rfl) (hks : (backToKw p3 (keywordEach kws (envF F f s0.heap.objs.size))).filterMap (·.1) = ks := by rfl)
    (he : starEach (e :: es) (envF F f s0.heap.objs.size) = (false, eval e (envF F f s0.heap.objs.size)) :: starEach es (envF F f s0.heap.objs.size) := by rfl)
    (hpl : ((backTo p3 (starEach (e :: es) (envF F f s0.heap.objs.size))).any (·.1) || (backToKw p3 (keywordEach kws (envF F f s0.heap.objs.size))).any (·.1.isNone)) = false := by rfl)
    (ht : eval (.Call (.Attribute (.Call (.Name "super" p0) [] [] p1) "__init__" p2) (e :: es) kws p3) (envF F f s0.heap.objs.size) = (do
      let ov ← attributeBase (.Call (.Name "super" p0) [] [] p1) "__init__" (envF F f s0.heap.objs.size) (eval (.Call (.Name "super" p0) [] [] p1) (envF F f s0.heap.objs.size))
      standAt p2.atName
      let (fv, first) ← holding [ov] (getMethod ov "__init__" pl)
      callWith p3 fv first (backTo p3 (starEach (e :: es) (envF F f s0.heap.objs.size))) (backToKw p3 (keywordEach kws (envF F f s0.heap.objs.size)))) := by rfl)
    (hi : interactive (envF F f s0.heap.objs.size) = false := by rfl) (hs : swapsWith (.Call (.Attribute (.Call (.Name "super" p0) [] [] p1) "__init__" p2) (e :: es) kws p3) none p4.line (envF F f s0.heap.objs.size) = pure false := by rfl) :
    _root_.PySem.wpAt (model P w) (ncx CX P w K mg base N F f A outer s0 H0 E).A (.func body (envF F f s0.heap.objs.size)) (execs [.Expr (.Call (.Attribute (.Call (.Name "super" p0) [] [] p1) "__init__" p2) (e :: es) kws p3) p4] (envF F f s0.heap.objs.size))
      (SP (ncx CX P w K mg base N F f A outer s0 H0 E) pins D) (ncx CX P w K mg base N F f A outer s0 H0 E).xe s := by
  refine PySem.ks_wpAt_execs_cons (PySem.ks_wpAt_Expr_any (PySem.ks_wpAt_mono (run_sup (pl := pl) S hN gs I F2 hr hb hx ha hkw h hall hks he hpl ht) (fun v s' hv => ?_) fun _ _ z => z) hi hs)
  obtain ⟨_, H', J, _, q⟩ := hv
  exact _root_.PySem.wpAt_of_wpAny (wpAny_execs_nil ⟨σ, H', J, q⟩)
/-- the def: it is entered, its rows are gone through at its own activation -/
theorem fn_sup {oc dV kV doc pm ct : Value} {od an : Option Addr} {osl : Array (Option Value)} {ps : List Str} {args : Args} {s : Shared} {H : Hp} {Q : VK} {G : List V → Hp → Prop} (S : Sup P K F f C f2 cc ar) (NS : NScope N ps ["__class__"] F.scope)
    (lk : K.lookup f = some ⟨oc, od, .func (PySem.W.fnX F.name F.qual F.params F.body F.scope F.cl dV kV doc pm an (.ref F.c) ct), osl⟩) (hcd : PySem.W.codeIn K (.ref F.c) F.qual = true) (hr : Room (k + 1) A) (e0 : Env0 P w K mg base A outer s H)
    (hb : StX.Bnd CX P w K mg base (PySem.W.fnX F.name F.qual F.params F.body F.scope F.cl dV kV doc pm an (.ref F.c) ct) args ps A outer s H E G)
    (hbody : ∀ (s2 : Shared) (H2 : Hp) (vs : List V) (s3 : Shared), G vs H2 → Room k (A.deeper (envF F f s2.heap.objs.size)) → Inv (ncx CX P w K mg base N F f A outer s2 H2 E) [] (startF N vs [none]) H2 s3 →
      _root_.PySem.wpAt (model P w) (A.deeper (envF F f s2.heap.objs.size)) (.func F.body (envF F f s2.heap.objs.size)) (execs F.body (envF F f s2.heap.objs.size)) (SP (ncx CX P w K mg base N F f A outer s2 H2 E) [] { nx := fun _ H' => Q .non H', rt := Q }) (ncx CX P w K mg base N F f A outer s2 H2 E).xe s3) :
    codeAny (model P w) A (.call (.ref f) args) (CR CX outer P w H s Q E) s := by
  have KX : K.In s.heap := e0.mod.kin.keeps fun b o e => (e0.bs b o e).1
  obtain ⟨cl, cld, csl, hcell⟩ := S.cell
  refine codeAny_call_function hr.depth (KX _ _ lk) rfl NS.co NS.gen rfl (PySem.W.codeRec_of KX hcd) ?_
  refine hb _ _ _ fun s2 H2 vs us e2 un ho hx r hl gG => ?_
  have lim : s2.heap.NoLimit := e0.mod.nolimit.keeps fun b o e => (e2.bs b o e).1
  refine wpAny_newFunctionEnv (s := s2) NS.nocell (fun ⟨y, _⟩ hy => NS.par y (List.of_mem_zip hy).1) (fun h₁ hns hsb => ⟨lim.fresh _ hsb, ?_⟩) NS.kind
  show codeAny _ _ (.func F.body (envF F f s2.heap.objs.size)) _ _
  refine PySem.ks_codeAny_funcAt ?_
  have kp : ∀ b o, s2.heap.get? b = some o → h₁.get? b = some o := fun b o e => hsb.extBut b o (Nat.ne_of_lt (Heap.lt_size e)) (Heap.get?_push_of_some _ e)
  have bc := e0.mod.kin _ _ hcell
  have CA : CellsAt F.cl ["__class__"] [none] s2.heap H2 := by
    have one : ∀ y c, F.cl.lookup y = some c → y = ("__class__" : Str) ∧ c = cc := fun y c h => by
      rw [S.cl] at h
      have m := PySem.mem_of_lookup h
      rw [List.mem_singleton] at m
      cases m
      exact ⟨rfl, rfl⟩
    refine ⟨rfl, fun y c h => ?_, fun x y c h1 h2 => (one x c h1).1.trans (one y c h2).1.symm, fun i y h => ?_⟩
    · obtain ⟨_, rfl⟩ := one y c h
      exact ⟨(e2.bs _ _ bc).2, _, _, (e2.bs _ _ bc).1, rfl⟩
    · match i, h with
      | 0, h =>
        cases h
        exact ⟨cc, by rw [S.cl]; rfl, fun v z => nomatch z⟩
      | i + 1, h => cases h
  have I : Inv (ncx CX P w K mg base N F f A outer s2 H2 E) [] (startF N vs [none]) H2 { s2 with heap := h₁, toks := s2.toks + (ps.zip us).length } := inv_startN NS hr.hd e2 hl r CA hns kp
  refine PySem.ks_wpAt_mono (hbody s2 H2 vs _ gG (hr.deeper _) I) (fun fl s' hs => ?_) fun e s' hs => ?_
  · have fin : ∀ {σ' : L2.St} {H' : Hp} {v' : V} {u' : Value}, Inv (ncx CX P w K mg base N F f A outer s2 H2 E) [] σ' H' s' → RelV v' u' → Q v' H' → CE outer P w H s Q u' s' :=
      fun {σ' H' v' u'} J rv' q => ⟨v', H', J.os.trans ho, J.bare, un.trans J.base, J.hok, rv', q⟩
    cases fl with
    | ret u' =>
      obtain ⟨v', σ', H', J, rv', q⟩ := hs
      exact fin J rv' q
    | next =>
      obtain ⟨σ', H', J, q⟩ := hs
      exact fin (v' := V.non) (u' := Value.none) J rfl q
    | brk =>
      obtain ⟨_, _, _, q⟩ := hs
      exact False.elim q
    | cont =>
      obtain ⟨_, _, _, q⟩ := hs
      exact False.elim q
  · exact wpAny_mono hs (fun _ s'' z => hx e s'' z) fun e' s'' z => hx e' s'' z
/-- what binds without new objects -/
theorem bnd_of {ps : List Str} {fd : FuncData} {args : Args} {us : List Value} {vs : List V} {s : Shared} {H : Hp} (e0 : Env0 P w K mg base A outer s H) (hb : BindsTo s fd args (ps.zip us)) (r : Vals vs us) (hl : vs.length = ps.length) :
    StX.Bnd CX P w K mg base fd args ps A outer s H E (fun vs' H' => vs' = vs ∧ H' = H) := fun A' Ex Q h => hb _ _ _ _ (h s H vs us e0 Un.refl rfl (fun _ _ z => z) r hl ⟨rfl, rfl⟩)
end
end SuX
set_option Elab.async false
set_option linter.all false
set_option maxRecDepth 100000
set_option maxHeartbeats 4000000
/-! FvB: such methods as promises: plain ones, ones of *names and a keyword; defaults; the class made by positions and a keyword -/
namespace SuX
open PySem PySem.Spec PyProof.Rows L2 Fh Fs NdefX
open PySem.W (Frag)
/-- a def as it stands behind the top that closes over cells: dvs its defaults, kws its keyword-only defaults -/
structure FunC (K : Frag) (F : NF) (dvs : List V) (kws : List (Str × V)) (f : Addr) (fd : FuncData) : Prop where
  ex : ∃ (oc : Value) (od : Option Addr) (dV kV doc pm : Value) (an : Option Addr) (ct : Value) (osl : Array (Option Value)),
    fd = PySem.W.fnX F.name F.qual F.params F.body F.scope F.cl dV kV doc pm an (.ref F.c) ct ∧ K.lookup f = some ⟨oc, od, .func fd, osl⟩ ∧ PySem.W.codeIn K (.ref F.c) F.qual = true ∧ DflV K dV dvs ∧ KwdV K kV kws
section
variable {CX CX2 : CXT} {P : Program} {w : World} {K : Frag} {mg : Str → Option Value} {base : Heap} {N : List Str} {F : NF} {f C f2 cc : Addr} {ar : Arg} {A : Around} {outer : List Env} {s0 : Shared} {H0 : Hp} {E E2 : XK} {k n : Nat} {fd fd2 : FuncData} {ps ps2 ks : List Str} {sp sp2 : Sp}
  {g : List Value → List Value → List Value} {gV : List V → List V → List V} {t tk : TA} {p0 p1 p2 p3 p4 : Pos} {e : Expr} {es : List Expr} {kws : List Keyword} {body : List Stmt} {dvs : List V} {kwd : List (Str × V)}
theorem FunC.kbinds (FF : FunC K F dvs kwd f fd) (n : Nat) (ks : List Str) (ms : List (Str × V)) (g : {α : Type} → List α → List α → List α → List α → List α) (hd : dvs ≠ []) (hk : kwd ≠ []) (hms : ∀ q ∈ ms, q ∈ kwd)
    (hrel : ∀ {vs ds mz zs : List V} {us its mv ws : List Value}, Vals vs us → Vals ds its → Vals mz mv → Vals zs ws → Vals (g vs ds mz zs) (g us its mv ws))
    (h : ∀ (T D : Addr) (doc pm : Value) (an : Option Addr) (ct : Value) (us its mv ws : List Value), us.length = n → its.length = dvs.length → mv.length = ms.length → ws.length = ks.length →
      ∃ k, bindArgs (PySem.W.fnX F.name F.qual F.params F.body F.scope F.cl (.ref T) (.ref D) doc pm an (.ref F.c) ct) ⟨us, ks.zip ws⟩ = seqItems? (.ref T) >>= k ∧ KwChain D ((ms.map (·.1)).zip mv) (k (some its.toArray)) (ps.zip (g us its mv ws))) :
    ∃ its mv : List Value, KBn K fd ps n ks (fun us ws => g us its mv ws) (fun vs zs => g vs dvs (ms.map (·.2)) zs) := by
  obtain ⟨oc, od, dV, kV, doc, pm, an, ct, osl, rfl, lk, hcd, hD, hK⟩ := FF.ex
  rcases hD with ⟨e, _⟩ | ⟨_, T, o, its, m, rfl, lT, oT, rT⟩
  · exact absurd e hd
  · rcases hK with e | ⟨D, rfl, hq⟩
    · exact absurd e hk
    · obtain ⟨mv, hl, rk, hks⟩ := kwd_vals (ms := ms) fun q hm => hq q (hms q hm)
      refine ⟨its, mv, ⟨fun s us ws X l1 l2 => ?_, fun r1 r2 => hrel r1 rT rk r2⟩⟩
      obtain ⟨k, e1, e2⟩ := h T D doc pm an ct us its mv ws l1 rT.length.symm hl l2
      refine BindsTo.of_looks fun M => ?_
      rw [e1]
      exact looks_items X lT oT (KwChain.looks X hks e2)
/-- the wish of a body, at its activation -/
def AtRows (CX : CXT) (P : Program) (w : World) (K : Frag) (mg : Str → Option Value) (base : Heap) (N : List Str) (F : NF) (f : Addr) (k : Nat) (sp : Sp) : Prop :=
  ∀ (A : Around) (outer : List Env) (s2 : Shared) (H2 : Hp) (vs : List V) (Q : VK) (E : XK) (s3 : Shared), sp vs H2 Q E → Room k (A.deeper (envF F f s2.heap.objs.size)) → Inv (ncx CX P w K mg base N F f A outer s2 H2 E) [] (startF N vs [none]) H2 s3 →
      _root_.PySem.wpAt (model P w) (A.deeper (envF F f s2.heap.objs.size)) (.func F.body (envF F f s2.heap.objs.size)) (execs F.body (envF F f s2.heap.objs.size)) (SP (ncx CX P w K mg base N F f A outer s2 H2 E) [] { nx := fun _ H' => Q .non H', rt := Q }) (ncx CX P w K mg base N F f A outer s2 H2 E).xe s3
theorem ok_sup (S : Sup P K F f C f2 cc ar) (NS : NScope N ps ["__class__"] F.scope) (FF : FunC K F dvs kwd f fd) (len : ∀ vs H Q E, sp vs H Q E → vs.length = ps.length) (hbody : AtRows CX P w K mg base N F f k sp) : FnOk P w K mg base CX (k + 1) f fd ps sp := by
  obtain ⟨oc, od, dV, kV, doc, pm, an, ct, osl, rfl, lk, hcd, _, _⟩ := FF.ex
  refine ⟨len, fun A outer s H args us vs Q E hr e0 hb r hsp => ?_⟩
  exact fn_sup S NS lk hcd hr e0 (bnd_of e0 hb r (len _ _ _ _ hsp)) fun s2 H2 vs2 s3 ⟨e1, e2⟩ hr2 I => hbody A outer s2 H2 vs2 Q E s3 (by rw [e1, e2]; exact hsp) hr2 I
/-- def f(self, *nm, kw = ..), the keyword given -/
def spVar (sp : Sp) : Sp := fun vs H Q E => ∃ x xs z, vs = x :: (xs ++ [z]) ∧ xs.length ≤ sizeLine ∧ ∀ p, H p = none → sp [x, z, .ref p] (upd H p (.tup xs)) Q E
theorem ok_var {sf kw nm : Str} (hCX : StX.CXUp CX) (S : Sup P K F f C f2 cc ar) (NS : NScope N [sf, kw, nm] ["__class__"] F.scope) (FF : FunC K F dvs kwd f fd)
    (hb : ∀ (dV kV doc pm : Value) (an : Option Addr) (ct : Value) (x z : Value) (xs : List Value), DflV K dV dvs → bindArgs (PySem.W.fnX F.name F.qual F.params F.body F.scope F.cl dV kV doc pm an (.ref F.c) ct) ⟨x :: xs, [(kw, z)]⟩ = (newTuple xs >>= fun t => pure [(sf, x), (kw, z), (nm, t)]))
    (hbody : AtRows CX P w K mg base N F f k sp) : FnKw P w K mg base CX (k + 1) f [kw] (spVar sp) := by
  obtain ⟨oc, od, dV, kV, doc, pm, an, ct, osl, rfl, lk, hcd, hD, _⟩ := FF.ex
  intro A outer s H us ws vs zs Q E hr e0 r rz hl hsp
  obtain ⟨x, xs, z, ev, hz, hq⟩ := hsp
  obtain ⟨z', rfl⟩ : ∃ z', zs = [z'] := by
    match zs, hl with
    | [z'], _ => exact ⟨z', rfl⟩
  have e1 : vs = x :: xs ∧ z' = z := by
    have q : vs ++ [z'] = (x :: xs) ++ [z] := ev
    obtain ⟨a, b⟩ := List.append_inj' q rfl
    cases b
    exact ⟨a, rfl⟩
  obtain ⟨rfl, rfl⟩ := e1
  match us, ws, r, rz with
  | u :: un, [wz], .cons rx rs, .cons rw' .nil =>
    have hn : H s.heap.objs.size = Option.none := e0.hok.fresh (Nat.le_refl _)
    have hl2 : un.length ≤ sizeLine := by rw [← rs.length]; exact hz
    refine fn_sup S NS lk hcd hr e0 (G := fun ys H2 => ∃ p, H p = Option.none ∧ ys = [x, z', V.ref p] ∧ H2 = upd H p (.tup xs)) (fun A' Ex Q' h => ?_) fun s2 H2 ys s3 ⟨p, hp, ex, eH⟩ hr' I => ?_
    · show wpAny _ _ (bindArgs _ ⟨u :: un, [(kw, wz)]⟩) _ _ _
      rw [hb _ _ _ _ _ _ u wz un hD]
      refine wpAny_bind (wpAny_newTuple (wpAny_pure ?_) hl2)
      have new : ObjOk P w (upd H s.heap.objs.size (.tup xs)) (s.heap.push ({ cls := .type "tuple", data := .seq un.toArray } : Obj)) s.heap.objs.size (.tup xs) := ⟨hz, un, rs, ⟨_, Heap.get?_push_size _ rfl, rfl, _, rfl⟩⟩
      have un' := StX.un_laid (fs := frs outer) (s := s) (o := ({ cls := .type "tuple", data := .seq un.toArray } : Obj)) (u := .tup xs) hn
      exact h _ _ [x, z', V.ref s.heap.objs.size] [u, wz, Value.ref s.heap.objs.size] (StX.env0_laid e0 new) un' rfl (fun e s' => hCX outer s H _ _ E e s' un' (fun b o q => Heap.get?_push_of_some _ q) rfl) (.cons rx (.cons rw' (.cons rfl .nil))) rfl ⟨_, hn, rfl, rfl⟩
    · subst ex eH
      exact hbody A outer s2 _ _ Q E s3 (hq p hp) hr' I
/-- rows ahead of the last one -/
theorem rows_st_sup {pl : Sem Bool} {st : Stmt} {ts : TS} (S : Sup P K F f C f2 cc ar) (hN : N[0]? = some ar.arg) (gs : mg "super" = none) {pins : List (Addr × Obj)} {σ : L2.St} {H : Hp} {s : Shared} {D : Ends}
    (I : Inv (ncx CX P w K mg base N F f A outer s0 H0 E) pins σ H s) (F2 : FnOk P w K mg base CX2 k f2 fd2 ps2 sp2) (hr : Room k (ncx CX P w K mg base N F f A outer s0 H0 E).A) (hb : KBn K fd2 ps2 (n + 1) ks g gV) (hx : Passes CX2 (ncx CX P w K mg base N F f A outer s0 H0 E) E2)
    (hst : PS (ncx CX P w K mg base N F f A outer s0 H0 E) st ts) (ha : PA (ncx CX P w K mg base N F f A outer s0 H0 E) (e :: es) t) (hkw : PK (ncx CX P w K mg base N F f A outer s0 H0 E) kws tk)
    (h : ts { nx := fun σ' H' => tSup C n ks.length sp2 gV E2 t tk σ' H' (fun _ H'' => D.nx σ' H''), rt := D.rt } σ H)
    (hall : (backToKw p3 (keywordEach kws (envF F f s0.heap.objs.size))).all (·.1.isSome) = true := by rfl) (hks : (backToKw p3 (keywordEach kws (envF F f s0.heap.objs.size))).filterMap (·.1) = ks := by rfl)
    (he : starEach (e :: es) (envF F f s0.heap.objs.size) = (false, eval e (envF F f s0.heap.objs.size)) :: starEach es (envF F f s0.heap.objs.size) := by rfl)
    (hpl : ((backTo p3 (starEach (e :: es) (envF F f s0.heap.objs.size))).any (·.1) || (backToKw p3 (keywordEach kws (envF F f s0.heap.objs.size))).any (·.1.isNone)) = false := by rfl)
    (ht : eval (.Call (.Attribute (.Call (.Name "super" p0) [] [] p1) "__init__" p2) (e :: es) kws p3) (envF F f s0.heap.objs.size) = (do
      let ov ← attributeBase (.Call (.Name "super" p0) [] [] p1) "__init__" (envF F f s0.heap.objs.size) (eval (.Call (.Name "super" p0) [] [] p1) (envF F f s0.heap.objs.size))
      standAt p2.atName
      let (fv, first) ← holding [ov] (getMethod ov "__init__" pl)
      callWith p3 fv first (backTo p3 (starEach (e :: es) (envF F f s0.heap.objs.size))) (backToKw p3 (keywordEach kws (envF F f s0.heap.objs.size)))) := by rfl)
    (hi : interactive (envF F f s0.heap.objs.size) = false := by rfl) (hs : swapsWith (.Call (.Attribute (.Call (.Name "super" p0) [] [] p1) "__init__" p2) (e :: es) kws p3) none p4.line (envF F f s0.heap.objs.size) = pure false := by rfl) :
    _root_.PySem.wpAt (model P w) (ncx CX P w K mg base N F f A outer s0 H0 E).A (.func body (envF F f s0.heap.objs.size)) (execs [st, .Expr (.Call (.Attribute (.Call (.Name "super" p0) [] [] p1) "__init__" p2) (e :: es) kws p3) p4] (envF F f s0.heap.objs.size))
      (SP (ncx CX P w K mg base N F f A outer s0 H0 E) pins D) (ncx CX P w K mg base N F f A outer s0 H0 E).xe s := by
  refine PySem.ks_wpAt_execs_cons (_root_.PySem.wpAt_of_wpAny (wpAny_mono (hst.run pins s σ H _ I h) (fun fl s' hv => ?_) fun _ _ z => z))
  cases fl with
  | ret u => exact hv
  | next =>
    obtain ⟨σ', H', J, q⟩ := hv
    exact rows_sup (pl := pl) S hN gs J F2 hr hb hx ha hkw q hall hks he hpl ht hi hs
  | brk =>
    obtain ⟨_, _, _, q⟩ := hv
    exact False.elim q
  | cont =>
    obtain ⟨_, _, _, q⟩ := hv
    exact False.elim q
end
/-! ### C(e, .., k = v, ..), C's __init__ of *names -/
section
variable {X : Cx} {CX : CXT} {k n : Nat} {f C : Addr} {ks : List Str} {sp : Sp} {E : XK} {x : Str} {p pos : Pos} {e : Expr} {es : List Expr} {kws : List Keyword} {t tk : TA}
theorem run_makeVW {pins : List (Addr × Obj)} {σ : L2.St} {H : Hp} {s : Shared} {Q : VK} {us ws : List Value} {vs zs : List V} (M : Mk X.K C f) (F : FnKw X.prog X.w X.K X.mg X.base CX k f ks sp) (hr : Room (k + 1) X.A) (hx : Passes CX X E)
    (I : Inv X pins σ H s) (r : Vals vs us) (rz : Vals zs ws) (l2 : zs.length = ks.length)
    (h : ∀ x dx, H x = none → H dx = none → dx ≠ x → sp (.ref x :: (vs ++ zs)) (upd (upd H dx (.own x)) x (.ins C dx [])) (fun v H2 => v = .non ∧ Q (.ref x) H2) E) :
    wpAny (model X.prog X.w) X.A (call (.ref C) us (ks.zip ws)) (EP X pins σ Q) X.xe s := by
  have hq := h (s.heap.objs.size + 1) s.heap.objs.size (I.hok.fresh (Nat.le_succ _)) (I.hok.fresh (Nat.le_refl _)) (Nat.ne_of_lt (Nat.lt_succ_self _))
  have I2 := Inv.made (C := C) I
  refine wpAny_call (make_map (f := f) I.kIn M.makes M.init (beq_iff_eq.mp M.fn) (codeAny_mono (F _ X.stack _ _ (Value.ref (s.heap.objs.size + 1) :: us) ws (V.ref (s.heap.objs.size + 1) :: vs) zs _ E (hr.make C us (ks.zip ws))
    (I2.env0.make C us (ks.zip ws)) (.cons rfl r) rz l2 hq) fun r s' hq' => ?_))
  cases r with
  | error e => exact hx pins σ _ _ e s' I2 hq'
  | ok fl =>
    cases fl with
    | ret u =>
      obtain ⟨v, H', I3, rv, ev, q3⟩ := I2.after hq'
      subst ev
      exact ⟨rv, ⟨V.ref (s.heap.objs.size + 1), H', I3, rfl, q3⟩⟩
    | next => exact False.elim hq'
    | brk => exact False.elim hq'
    | cont => exact False.elim hq'
def tMakeVW (C : Addr) (m : Nat) (sp : Sp) (E : XK) (t tk : TA) : TE := fun σ H Q => t σ H fun vs H1 => tk σ H1 fun zs H2 => zs.length = m ∧ ∀ x dx, H2 x = none → H2 dx = none → dx ≠ x →
  sp (.ref x :: (vs ++ zs)) (upd (upd H2 dx (.own x)) x (.ins C dx [])) (fun v H3 => v = .non ∧ Q (.ref x) H3) E
theorem pe_makeVW (M : Mk X.K C f) (F : FnKw X.prog X.w X.K X.mg X.base CX k f ks sp) (hr : Room (k + 1) X.A) (hg : Gl X x) (hm : X.mg x = some (.ref C)) (hx : Passes CX X E) (ha : PA X (e :: es) t) (hkw : PK X kws tk)
    (hall : (backToKw pos (keywordEach kws X.env)).all (·.1.isSome) = true := by rfl) (hks : (backToKw pos (keywordEach kws X.env)).filterMap (·.1) = ks := by rfl) (hdb : (x == ("__debug__" : Str)) = false := by decide)
    (he : starEach (e :: es) X.env = (false, eval e X.env) :: starEach es X.env := by rfl) (hpl : ((backTo pos (starEach (e :: es) X.env)).any (·.1) || (backToKw pos (keywordEach kws X.env)).any (·.1.isNone)) = false := by rfl) :
    PE X (.Call (.Name x p) (e :: es) kws pos) (tMakeVW C ks.length sp E t tk) := by
  refine ⟨fun pins s σ H Q I h => ?_⟩
  refine wpAny_Call_Name_kw (ld_glob I hg hm ?_ hdb)
  refine PySem.W.callWith_KW (h₀ := X.base) I.ok.mod.kin M.kp hall (thn (ha.run pos pins s σ H _ I h) fun us s1 ⟨vs, H1, I1, r, q⟩ => ?_) hpl he
  refine thn (hkw.run pos pins s1 σ H1 _ I1 q) fun ws s2 ⟨zs, H2, I2, rz, l2, q2⟩ => ⟨I2.kIn, ?_⟩
  rw [hks]
  exact run_makeVW M F hr hx I2 r rz l2 q2
end
end SuX
set_option Elab.async false
set_option linter.all false
set_option maxRecDepth 100000
set_option maxHeartbeats 4000000
/-! FvC: own == and != between instances of several classes, a class below the left one's first -/
namespace PySem
namespace FsX
open Builtin
section
variable {prog : Program} {w : World} {A : Around} {E : Value → Shared → Prop} {s : Shared} {K : PySem.W.Frag} {x y C D f : Addr} {oy : Obj} {od : Option Obj}
theorem cmpNe_sub {Q : Value → Shared → Prop} (hu : A.units + 1 < cLine) (X : K.In s.heap) (ha : PySem.W.Looks (model prog w) s.heap (typeOf (.ref x)) (.ref C)) (I : PySem.W.InstAt s.heap y oy D od) (hne' : D ≠ C) (hsub : PySem.W.subIn K (.ref D) (.ref C) = some true)
    (hs : PySem.W.findIn K (.ref D) "__eq__" = some (some (.ref f))) (hf : PySem.W.isFn K (.ref f) = true) (hne : PySem.W.findIn K (.ref D) "__ne__" = some (some (.builtin "object.__ne__"))) (hob : PySem.W.subIn K (.ref D) (.type "object") = some true)
    (hcall : wpAny (model prog w) A.in1 (call (.ref f) [.ref y, .ref x]) (fun v s' => ∃ c, v = .bool c ∧ Q (.bool (!c)) s') E s) : wpAny (model prog w) A (richCompare .NotEq (.ref x) (.ref y)) Q E s := by
  have one : wpAny (model prog w) A (tryCompare (.ref y) "__ne__" (.ref x)) (fun r s' => ∃ v, r = some v ∧ Q v s') E s :=
    tryNe_K hu X I hs hf hne hob (wpAny_mono hcall (fun v s' ⟨c, e, hq⟩ => ⟨c, e, _, rfl, hq⟩) fun _ _ e => e)
  unfold richCompare
  simp only [oneThing_ref]
  refine wpAny_holding (wpAny_bind (wpAny_cRoomFor (Nat.lt_of_succ_lt hu) ?_))
  rw [cmpInfo_NotEq]
  dsimp only
  refine wpAny_bind (ha.here (wpAny_bind (I.type.here ?_)))
  have q : (Value.ref C != Value.ref D) = true := by
    rw [bne_iff_ne]
    intro e
    injection e with e
    exact hne' e.symm
  rw [if_pos q]
  refine wpAny_bind ((PySem.W.looks_subIn X hsub).here ?_)
  rw [if_pos rfl]
  refine wpAny_bind (wpAny_mono one (fun r s' z => ?_) fun _ _ e => e)
  obtain ⟨v, rfl, hq⟩ := z
  first
    | exact wpAny_pure hq
    | exact wpAny_bind (wpAny_rule (wpAny_pure hq))
    | (dsimp only; exact wpAny_bind (wpAny_rule (wpAny_pure hq)))
end
end FsX
end PySem
namespace Fs
open PySem PySem.Spec PyProof.Rows L2
open PySem.W (Frag)
/-- what a class has of == -/
structure NeC (K : Frag) (C g : Addr) : Prop where
  hs : PySem.W.findIn K (.ref C) "__eq__" = some (some (.ref g))
  hf : PySem.W.isFn K (.ref g) = true
  hne : PySem.W.findIn K (.ref C) "__ne__" = some (some (.builtin "object.__ne__"))
  hob : PySem.W.subIn K (.ref C) (.type "object") = some true
section
variable {X : Cx} {CX : CXT} {k n : Nat} {g : Addr} {sp : Sp} {E : XK}
def rEqG (K : Frag) (g : Addr) (sp : Sp) (E : XK) : R2 := fun x y H Q => ∃ a b C D dx dy fs ys, x = .ref a ∧ y = .ref b ∧ H a = some (.ins C dx fs) ∧ H b = some (.ins D dy ys) ∧ NeC K C g ∧ PySem.W.notFirst K C (.ref D) = true ∧ sp [x, y] H Q E
theorem op_eqG (F : FnR X.prog X.w X.K X.mg X.base CX n g sp) (hr : Room n X.A) (hx : Passes CX X E) : OpR X (compareOp .Eq) (rEqG X.K g sp E) := by
  intro pins s σ H x y v u Q I rx ry h
  obtain ⟨a, b, C, D, dx, dy, fs, ys, rfl, rfl, ea, eb, c, hn, q⟩ := h
  cases (show v = Value.ref a from rx)
  cases (show u = Value.ref b from ry)
  obtain ⟨mA, O, _, _, _, _⟩ := ins_get I.hok ea
  obtain ⟨od, J, _⟩ := O.look
  obtain ⟨mB, O2, _, _, _, _⟩ := ins_get I.hok eb
  obtain ⟨od2, J2, _⟩ := O2.look
  obtain ⟨m, hF⟩ := I.fr
  show wpAny _ _ (richCompare .Eq _ _) _ _ _
  refine PySem.W.cmp_K (op := .Eq) (tb := .ref D) hr.units0 hF I.ok.mod.kin J J2.type hn c.hs c.hf ?_
  refine wpAny_mono (wpAny_call (run_fnR (us := [.ref a, .ref b]) (vs := [.ref a, .ref b]) F hr hx I (.cons rfl (.cons rfl .nil)) q)) (fun w s' z => ?_) fun _ _ x => x
  obtain ⟨z', H', I', rz, qz⟩ := z
  exact SlX.cmpback rz ⟨z', H', I', rz, qz⟩
def rNeG (K : Frag) (g : Addr) (sp : Sp) (E : XK) : R2 := fun x y H Q => ∃ a b C D dx dy fs ys, x = .ref a ∧ y = .ref b ∧ H a = some (.ins C dx fs) ∧ H b = some (.ins D dy ys) ∧
  ((NeC K C g ∧ PySem.W.notFirst K C (.ref D) = true ∧ sp [x, y] H (fun v H' => ∃ c, v = .bl c ∧ Q (.bl (!c)) H') E) ∨
    (NeC K D g ∧ D ≠ C ∧ PySem.W.subIn K (.ref D) (.ref C) = some true ∧ sp [y, x] H (fun v H' => ∃ c, v = .bl c ∧ Q (.bl (!c)) H') E))
theorem op_neG (F : FnR X.prog X.w X.K X.mg X.base CX n g sp) (hr : Room (n + 1) X.A) (hx : Passes CX X E) : OpR X (compareOp .NotEq) (rNeG X.K g sp E) := by
  intro pins s σ H x y v u Q I rx ry h
  obtain ⟨a, b, C, D, dx, dy, fs, ys, rfl, rfl, ea, eb, h⟩ := h
  cases (show v = Value.ref a from rx)
  cases (show u = Value.ref b from ry)
  obtain ⟨mA, O, _, _, _, _⟩ := ins_get I.hok ea
  obtain ⟨od, J, _⟩ := O.look
  obtain ⟨mB, O2, _, _, _, _⟩ := ins_get I.hok eb
  obtain ⟨od2, J2, _⟩ := O2.look
  have hu : X.A.units + 1 < cLine := by have := hr.un; omega
  show wpAny _ _ (richCompare .NotEq _ _) _ _ _
  rcases h with ⟨c, hn, q⟩ | ⟨c, hd, hsub, q⟩
  · refine PySem.FsX.cmpNe_K hu I.kIn J J2.type hn c.hs c.hf c.hne c.hob ?_
    refine wpAny_mono (wpAny_call (SlX.run_at (us := [.ref a, .ref b]) (ws := [.ref a, .ref b]) F hr.in1 I.env0.in1 hx I (.cons rfl (.cons rfl .nil)) q)) (fun w s' z => ?_) fun _ _ x => x
    obtain ⟨z', H', I', rz, c', ec, qz⟩ := z
    subst ec
    cases (show w = Value.bool c' from rz)
    exact ⟨c', rfl, .bl (!c'), H', I', rfl, qz⟩
  · refine PySem.FsX.cmpNe_sub hu I.kIn J.type J2 hd hsub c.hs c.hf c.hne c.hob ?_
    refine wpAny_mono (wpAny_call (SlX.run_at (us := [.ref b, .ref a]) (ws := [.ref b, .ref a]) F hr.in1 I.env0.in1 hx I (.cons rfl (.cons rfl .nil)) q)) (fun w s' z => ?_) fun _ _ x => x
    obtain ⟨z', H', I', rz, c', ec, qz⟩ := z
    subst ec
    cases (show w = Value.bool c' from rz)
    exact ⟨c', rfl, .bl (!c'), H', I', rfl, qz⟩
end
/-- one of two promises -/
theorem fnOk_or {P : Program} {w : World} {K : Frag} {mg : Str → Option Value} {base : Heap} {CX : CXT} {k : Nat} {f : Addr} {fd : FuncData} {ps : List Str} {sp sp' : Sp} (F : FnOk P w K mg base CX k f fd ps sp) (F' : FnOk P w K mg base CX k f fd ps sp') :
    FnOk P w K mg base CX k f fd ps (fun vs H Q E => sp vs H Q E ∨ sp' vs H Q E) :=
  ⟨fun vs H Q E h => h.elim (F.len vs H Q E) (F'.len vs H Q E), fun A outer s H args us vs Q E hr e0 hb r h => h.elim (F.run A outer s H args us vs Q E hr e0 hb r) (F'.run A outer s H args us vs Q E hr e0 hb r)⟩
end Fs
set_option Elab.async false
set_option linter.all false
set_option maxRecDepth 100000
set_option maxHeartbeats 4000000
/-! FvD: a lambda without parameters handed to a def that tells the field of InvalidTask; a law's end with tables -/
namespace LamY
open PySem PySem.Spec PyProof.Rows L2 LamX
theorem takes_len {X : Cx} {W : WX} (tk : Takes X W) : Takes X (fun cls d σ H => σ.length = X.N.length → W cls d σ H) := fun u s' ⟨a, B, sI, pins, σ, H, cls, d, e, I, nb, up, sky, na, os, ag, w⟩ =>
  tk u s' ⟨a, B, sI, pins, σ, H, cls, d, e, I, nb, up, sky, na, os, ag, w I.len⟩
/-- told: try: a(); return None / except InvalidTask as e: return e.field -/
def TTold (CE : Addr) : (XK → Hp → VK → Prop) → Hp → VK → Prop := fun tl H Q =>
  tl (fun cls d H' => cls = .ref CE ∧ ∃ (dd : Addr) (f : Str), d = some dd ∧ H' dd = some (.xd [("field", .str f)]) ∧ Q (.str f) H') H (fun _ H' => Q .non H')
theorem told_gives {X : Cx} {x q : Str} {sg : Scope} {g CE aE : Addr} {cdg : Value} {j : Nat} {p1 p2 p3 p4 p5 p6 p7 p8 p9 p10 p11 : Pos} (ET : PySem.ErrT.ErrTxt X.K X.mg CE aE) (hge : sg.names.lookup ("InvalidTask" : Str) = some .globalImplicit) (hle : sg.names.lookup ("e" : Str) = some .local) :
    GivesTo X ["_law_call", "e"] x sg g cdg [.Try [.Expr (.Call (.Name "_law_call" p1) [] [] p2) p3, .Return (some (.Constant .none j p4)) p5] [.ExceptHandler (some (.Name "InvalidTask" p6)) (some "e") [.Return (some (.Attribute (.Name "e" p7) "field" p8)) p9] p10] [] [] p11] "_law_call" q (TTold CE) := by
  intro f c' s H Q tl act hc h
  have hgl : Gl (cxOf C8.CX0 X.prog X.w X.K X.mg X.base ["_law_call", "e"] x sg g cdg X.A X.stack s H C8.E0).nox "InvalidTask" := hge
  refine ⟨_, pss_one (ps_try_as (X := (cxOf C8.CX0 X.prog X.w X.K X.mg X.base ["_law_call", "e"] x sg g cdg X.A X.stack s H C8.E0).nox) (i := 1) (n := "e") (c := .ref CE) (Wout := fun _ _ _ _ => False)
      (tb := fun W D σ H => ∃ Ech : XK, (∀ cls d σ' H', σ'.length = 2 → Ech cls d H' → W cls d σ' H') ∧ σ[0]? = some (some (.ref f)) ∧ H c' = some (CodeO c' q) ∧ tl Ech H (fun _ H' => D.rt .non H'))
      rfl rfl (show (["_law_call", "e"] : List Str).Nodup by decide +kernel) rfl hle ⟨hgl, by decide, .inl ET.gC⟩ L2.takes0 (fun W pn xe tk _ => ?_)
      (fun a oe cls d pn hz hf => pss_one (ps_ret (pe_errTField ET hz hf (pe_var (i := 1) rfl (Or.inl hle)))))), ?_⟩
  · refine ⟨fun pins s' σ H' D I h' => ?_⟩
    obtain ⟨Ech, hW, h1, h2, h3⟩ := h'
    have hp := act (fun cls d σ H => σ.length = 2 → W cls d σ H) pn xe Ech p1 p2 (takes_len tk) (fun cls d σ' H' e l => hW cls d σ' H' l e)
    have hq := pss_cons (ps_expr (pos := p3) hp) (pss_one (ps_ret (pos := p5) (pe_non (j := j) (pos := p4))))
    exact hq.run pins s' σ H' D I ⟨h1, h2, h3⟩
  · refine ⟨fun cls d H' => cls = .ref CE ∧ ∃ (dd : Addr) (f : Str), d = some dd ∧ H' dd = some (.xd [("field", .str f)]) ∧ Q (.str f) H', fun cls d σ' H' hl ⟨e1, dd, fn, e2, e3, e4⟩ => ⟨true, by rw [e1]; exact ET.te, fun _ a0 _ => ?_, fun q => nomatch q⟩, rfl, hc, h⟩
    exact ⟨_, List.getElem?_set_self (by omega), rfl, e1, dd, _, e2, e3, e4⟩
/-- a law's end with tables, the head's facts in hand -/
theorem walk_ofTE {l : PySem.W.OpenLaw} {n k : Nat} {q : Program} {loose : List Str} {XP : (Str → Option Value) → Heap → Prop} {YP : World → Heap → Prop} {d : DefRec} {CX : CXT} {x : Str}
    (hn : l.most = some n) (hn2 : n ≤ sizeLine) (hdf : d.params.defaults = []) (hr : Room k callerA)
    (F : ∀ (w : World) (mg : Str → Option Value) (fa : Addr) (h : Heap), YP w h → h.Ns mainGlobals mg → mg d.name = some (.ref fa) → ∃ K : PySem.W.Frag, K.In h ∧ LawAtS l w K CX k n x mg fa h)
    (hCX : ∀ (H : Hp) (s : Shared) (e : Value) (s' : Shared), CX [] H s (fun _ _ _ => False) e s' → False) :
    PySem.W.WalkO q loose XP YP l.row.toRowW d [] (fun f vs => PySem.call f vs) := by
  refine Att.attach_callB hn hdf fun w s₀ s₁ mg mb fa o pm cd doc a vs ns G Y ho hd hcd hmg hobj hints hlen hbits hg => ?_
  obtain ⟨K, KX, fd, cs, sp, hT, nT, C, hb, hsp, hF⟩ := F w mg fa _ Y G.T.g hmg
  exact law_callTs KX G.T.g G.T.b G.T.builtins G.T.nolimit hg hT nT C G.T.bmain hobj hints (Nat.le_trans hlen hn2) hr hF hb (fun H hH hS => hsp H a ns hlen hbits hH hS) fun H e s' => hCX H s₁ e s'
end LamY
set_option Elab.async false
set_option linter.all false
set_option maxRecDepth 100000
set_option maxHeartbeats 4000000
/-! FvE: a head by facts with getters, methods that close over their class, and tables of code objects -/
namespace FhV
open PySem PySem.Spec PyProof.Rows L2 Fh Fs NdefX SuX FhY
open PySem.W (Frag)
/-- an __init__ that closes over its class -/
structure CDef where
  cls : Str
  qual : Str
  params : Arguments
  body : List Stmt
  scope : Scope
  dfl : List He.Dv
  kwd : List (Str × He.Dv)
  ar : Arg
abbrev CW : Type := Option (Str × Str × Arguments × FuncBody × Scope × Addr × Addr)
def cW (K : Frag) (a : Addr) : CW := match K.lookup a with
  | some ⟨_, _, .func fd, _⟩ => some (fd.name, fd.qualname, fd.params, fd.body, fd.scope, fd.globals, fd.builtins)
  | _ => none
def CDef.at_ (K : Frag) (d : CDef) : Addr := He.ma K (He.ga K d.cls) "__init__"
def CDef.val (d : CDef) : CW := some ("__init__", d.qual, d.params, .stmts d.body, d.scope, mainGlobals, builtinsNs)
def CDef.dvs (K : Frag) (d : CDef) : List V := d.dfl.map (He.Dv.v K)
def CDef.kws (K : Frag) (d : CDef) : List (Str × V) := d.kwd.map fun q => (q.1, q.2.v K)
def cellOf : List (Str × Addr) → Addr
  | [(_, cc)] => cc
  | _ => 0
def codeA : Value → Addr
  | .ref c => c
  | _ => 0
def fileB (K : Frag) (c : Addr) (fl : Str) : Bool := match K.lookup c with
  | some ⟨_, _, .fields vs, _⟩ => (match (vs[2]? : Option Value) with
    | some (Value.str f _) => fl == f
    | _ => false)
  | _ => false
def cellB (K : Frag) (cc C : Addr) : Bool := match K.lookup cc with
  | some ⟨_, _, .cell (some v), _⟩ => decide (v = .ref C)
  | _ => false
/-- f2: the __init__ above -/
def supB (K : Frag) (C f2 : Addr) : Bool := (PySem.W.clsIn K C).isSome && (decide (PySem.W.mroIn K C (.ref C) = some true) && (He.eqO (PySem.W.nsIn K cStatics "thirdparty.any") (some none) && (He.eqO (PySem.W.ks_superIn K C C "__init__") (some (some (.ref f2))) && (Fh.eqT (PySem.W.typeIn K (.ref f2)) (some (.type "function")) && PySem.W.fnIn K f2))))
def CDef.ok (fl : Str) (up : Str) (K : Frag) (d : CDef) : Bool := (match K.lookup (d.at_ K) with
  | some ⟨_, _, .func fd, _⟩ => PySem.W.codeIn K fd.code d.qual && (He.dflB K fd.defaults (d.dvs K) && (He.kwdB K fd.kwdefaults (d.kws K) && (decide (fd.closure = [(("__class__" : Str), cellOf fd.closure)]) && (fileB K (codeA fd.code) fl && cellB K (cellOf fd.closure) (He.ga K d.cls)))))
  | _ => false) && supB K (He.ga K d.cls) (He.ma K (He.ga K up) "__init__")
theorem CDef.get {P : Program} {K : Frag} {d : CDef} {fl up : Str} (e : cW K (d.at_ K) = d.val) (c : d.ok fl up K = true) (hfl : P.main.file = fl) (har : (d.params.posonlyargs ++ d.params.args).head? = some d.ar)
    (h1 : d.scope.names.lookup ("super" : Str) = some .globalImplicit) (h2 : d.scope.names.lookup ("__class__" : Str) = some .free) (h3 : d.scope.names.lookup d.ar.arg = some .local) (h4 : (P.main.scope.names.lookup ("super" : Str)).isSome = false) :
    ∃ (fd : FuncData) (cd cc : Addr), FunC K ⟨"__init__", d.qual, d.params, d.body, d.scope, [(("__class__" : Str), cc)], cd⟩ (d.dvs K) (d.kws K) (d.at_ K) fd ∧ Sup P K ⟨"__init__", d.qual, d.params, d.body, d.scope, [(("__class__" : Str), cc)], cd⟩ (d.at_ K) (He.ga K d.cls) (He.ma K (He.ga K up) "__init__") cc d.ar := by
  obtain ⟨ca, cb⟩ := He.ba c
  unfold supB at cb
  obtain ⟨u1, cb⟩ := He.ba cb
  obtain ⟨u2, cb⟩ := He.ba cb
  obtain ⟨u3, cb⟩ := He.ba cb
  obtain ⟨u4, cb⟩ := He.ba cb
  obtain ⟨u5, u6⟩ := He.ba cb
  unfold cW at e
  cases q : K.lookup (d.at_ K) with
  | none =>
    rw [q] at ca
    cases ca
  | some o =>
    obtain ⟨oc, od, dt, osl⟩ := o
    rw [q] at ca e
    cases dt with
    | func fd =>
      obtain ⟨n1, n2, n3, n4, n5, n6, n7, n8, n9, n10, n11, n12, n13, n14, n15⟩ := fd
      have e2 : (some (n1, n2, n3, n4, n5, n6, n15) : CW) = (some ((Str.ofString "__init__"), d.qual, d.params, FuncBody.stmts d.body, d.scope, mainGlobals, builtinsNs) : CW) := e
      simp only [Option.some.injEq, Prod.mk.injEq] at e2
      obtain ⟨x1, x2, x3, x4, x5, x6, x8⟩ := e2
      subst x1 x2 x3 x4 x5 x6 x8
      obtain ⟨k1, c3⟩ := He.ba (show (PySem.W.codeIn K n13 d.qual && (He.dflB K n8 (d.dvs K) && (He.kwdB K n9 (d.kws K) && (decide (n7 = [(("__class__" : Str), cellOf n7)]) && (fileB K (codeA n13) fl && cellB K (cellOf n7) (He.ga K d.cls)))))) = true from ca)
      obtain ⟨k2, c3⟩ := He.ba c3
      obtain ⟨k3, c3⟩ := He.ba c3
      obtain ⟨k4, c3⟩ := He.ba c3
      obtain ⟨k5, k6⟩ := He.ba c3
      obtain ⟨cd, rfl⟩ := He.codeIn_ref k1
      have k4 := of_decide_eq_true k4
      generalize cellOf n7 = cc at k4 k6
      subst k4
      refine ⟨_, cd, cc, ⟨oc, od, n8, n9, n10, n11, n12, n14, osl, rfl, q, k1, He.dflB_ok k2, He.kwdB_ok k3⟩, ⟨⟨oc, od, _, osl, q, har⟩, ?_, rfl, ?_, ?_, of_decide_eq_true u2, He.eqO_ok u3, He.eqO_ok u4, of_decide_eq_true u5, u6, h1, h2, h3, h4⟩⟩
      · unfold fileB at k5
        show ∃ (ccl : Value) (cdd : Option Addr) (vs : Array Value) (ccs : Array (Option Value)) (file : Str) (tf : Tok), K.lookup cd = some ⟨ccl, cdd, .fields vs, ccs⟩ ∧ vs[2]? = some (.str file tf) ∧ ((P.main.file : Str) == file) = true
        cases q2 : K.lookup (codeA (.ref cd)) with
        | none => rw [q2] at k5; cases k5
        | some o =>
          obtain ⟨o1, o2, o3, o4⟩ := o
          rw [q2] at k5
          cases o3 with
          | fields vs =>
            have k5 : (match (vs[2]? : Option Value) with | some (Value.str f _) => fl == f | _ => false) = true := k5
            split at k5
            · rename_i f t e3
              exact ⟨_, _, vs, _, f, t, q2, e3, by rw [hfl]; exact k5⟩
            · cases k5
          | _ => cases k5
      · unfold cellB at k6
        show ∃ (cl : Value) (cld : Option Addr) (csl : Array (Option Value)), K.lookup cc = some ⟨cl, cld, .cell (some (.ref (He.ga K d.cls))), csl⟩
        cases q2 : K.lookup cc with
        | none => rw [q2] at k6; cases k6
        | some o =>
          obtain ⟨o1, o2, o3, o4⟩ := o
          rw [q2] at k6
          cases o3 with
          | cell v =>
            cases v with
            | none => cases k6
            | some v =>
              have k6 := of_decide_eq_true (show decide (v = Value.ref (He.ga K d.cls)) = true from k6)
              subst k6
              exact ⟨_, _, _, rfl⟩
          | _ => cases k6
      · cases q2 : PySem.W.clsIn K (He.ga K d.cls) with
        | none => rw [q2] at u1; cases u1
        | some cd => exact ⟨cd, rfl⟩
    | _ => cases ca
/-! ### the Hook -/
abbrev AlZ : Type := AlY × (List CW × Bool)
def obsZK (fa : List He.Fa) (fn : List He.DefD) (gs : List GDef) (cs : List CDef) (tf : List He.Defn) (fl up : Str) (ex : Frag → Bool) (g : Addr → Option Obj) (K : Frag) : AlZ := (obsK fa fn gs ex K, cs.map (fun d => cW K (d.at_ K)), (cs.all fun d => d.ok fl up K) && He.tabsB g tf K)
def valZ (fn : List He.DefD) (gs : List GDef) (cs : List CDef) : AlZ := (valY fn gs, cs.map CDef.val, true)
def obsZ (n : Nat) (fa : List He.Fa) (fn : List He.DefD) (gs : List GDef) (cs : List CDef) (tf : List He.Defn) (fl up : Str) (ex : Frag → Bool) (g : Addr → Option Obj) : AlZ := obsZK fa fn gs cs tf fl up ex g (He.frT g (asY n g))
structure SaysZ (fa : List He.Fa) (fn : List He.DefD) (gs : List GDef) (cs : List CDef) (tf : List He.Defn) (fl up : Str) (ex : Frag → Bool) (h : Heap) (K : Frag) : Prop where
  y : obsK fa fn gs ex K = valY fn gs
  c : cs.map (fun d => cW K (d.at_ K)) = cs.map CDef.val
  ok : ∀ d ∈ cs, d.ok fl up K = true
  hd : ∀ p ∈ tf, PySem.W.codeHdIn K (He.cT K p).1 (He.cT K p).2 = true
  out : ∀ p ∈ tf, K.lookup (He.cT K p).2 = none
  empty : ∀ p ∈ tf, h.get? (He.cT K p).2 = some { cls := .none, data := .fields #[] }
theorem saysZ_of {n : Nat} {fa : List He.Fa} {fn : List He.DefD} {gs : List GDef} {cs : List CDef} {tf : List He.Defn} {fl up : Str} {ex : Frag → Bool} {h : Heap} (e : obsZ n fa fn gs cs tf fl up ex h.get? = valZ fn gs cs) : SaysZ fa fn gs cs tf fl up ex h (He.frT h.get? (asY n h.get?)) := by
  have e1 : obsK fa fn gs ex (He.frT h.get? (asY n h.get?)) = valY fn gs := congrArg (fun z : AlZ => z.1) e
  have e2 : cs.map (fun d => cW (He.frT h.get? (asY n h.get?)) (d.at_ (He.frT h.get? (asY n h.get?)))) = cs.map CDef.val := congrArg (fun z : AlZ => z.2.1) e
  have e3 : ((cs.all fun d => d.ok fl up (He.frT h.get? (asY n h.get?))) && He.tabsB h.get? tf (He.frT h.get? (asY n h.get?))) = true := congrArg (fun z : AlZ => z.2.2) e
  obtain ⟨h1, h2⟩ := He.ba e3
  have key : ∀ p ∈ tf, PySem.W.codeHdIn (He.frT h.get? (asY n h.get?)) (He.cT (He.frT h.get? (asY n h.get?)) p).1 (He.cT (He.frT h.get? (asY n h.get?)) p).2 = true ∧ ∃ o, h.get? (He.cT (He.frT h.get? (asY n h.get?)) p).2 = some o ∧ He.emptyTab o = true := fun p hp => by
    obtain ⟨h3, h4⟩ := He.ba (List.all_eq_true.mp h2 p hp)
    refine ⟨h3, ?_⟩
    cases q : h.get? (He.cT (He.frT h.get? (asY n h.get?)) p).2 with
    | none =>
      rw [q] at h4
      cases h4
    | some o =>
      rw [q] at h4
      exact ⟨o, rfl, h4⟩
  exact ⟨e1, e2, fun d hd => List.all_eq_true.mp h1 d hd, fun p hp => (key p hp).1, fun p hp => by
    obtain ⟨_, o, q, z⟩ := key p hp
    exact He.frT_none q z, fun p hp => by
    obtain ⟨_, o, q, z⟩ := key p hp
    rw [q, He.emptyTab_eq z]⟩
def hookZ (n : Nat) (fa : List He.Fa) (fn : List He.DefD) (gs : List GDef) (cs : List CDef) (tf : List He.Defn) (fl up : Str) (ex : Frag → Bool) : PySem.W.Hook where
  α := AlZ
  obs := fun s => obsZ n fa fn gs cs tf fl up ex s.heap.get?
  val := fun _ => valZ fn gs cs
  says := fun _ h => ∃ K : Frag, K.In h ∧ SaysZ fa fn gs cs tf fl up ex h K
  of := fun _ _ e => ⟨_, He.frT_in, saysZ_of e⟩
  keeps := fun _ _ _ ⟨K, hK, c⟩ k => ⟨K, PySem.W.Frag.In.keeps hK k, ⟨c.y, c.c, c.ok, c.hd, c.out, fun p hp => k _ _ (c.empty p hp)⟩⟩
theorem obsZ_eq {n : Nat} {fa : List He.Fa} {fn : List He.DefD} {gs : List GDef} {cs : List CDef} {tf : List He.Defn} {fl up : Str} {ex : Frag → Bool} {g : Addr → Option Obj} {s : Shared} (h : ∀ a, g a = s.heap.get? a) : obsZ n fa fn gs cs tf fl up ex g = (hookZ n fa fn gs cs tf fl up ex).obs s := by
  have e : g = s.heap.get? := funext h
  rw [e] <;> rfl
theorem SaysZ.cdef {fa : List He.Fa} {fn : List He.DefD} {gs : List GDef} {cs : List CDef} {tf : List He.Defn} {fl up : Str} {ex : Frag → Bool} {h : Heap} {K : Frag} (c : SaysZ fa fn gs cs tf fl up ex h K) (i : Nat) {d : CDef} (e : cs[i]? = some d) : cW K (d.at_ K) = d.val ∧ d.ok fl up K = true := by
  have e2 : (cs.map fun d => cW K (d.at_ K))[i]? = (cs.map CDef.val)[i]? := by rw [c.c]
  rw [List.getElem?_map, List.getElem?_map, e] at e2
  exact ⟨Option.some.inj e2, c.ok d (List.mem_of_getElem? e)⟩
end FhV
set_option Elab.async false
set_option linter.all false
set_option maxRecDepth 100000
set_option maxHeartbeats 4000000
/-! FxG: a law's end with tables of code objects and a promise under no repr -/
namespace FhG
open PySem PySem.Spec PyProof.Rows L2 Fh
open PySem.W (Frag)
/-- the abstract heap at a law's start: the tables, and the script where the written part does not know it -/
def startH (a : Addr) (u : Option HO) (ts : List Addr) : Hp := fun b => if b ∈ ts then some (.tbl #[]) else if b = a then u else none
theorem startH_tab {a : Addr} {u : Option HO} {ts : List Addr} {b : Addr} (h : b ∈ ts) : startH a u ts b = some (.tbl #[]) := if_pos h
theorem startH_scr {a : Addr} {u : Option HO} {ts : List Addr} (h : a ∉ ts) : startH a u ts a = u := (if_neg h).trans (if_pos rfl)
theorem startH_no {a : Addr} {u : Option HO} {ts : List Addr} {b : Addr} (h : b ∉ ts) (n : b ≠ a) : startH a u ts b = none := (if_neg h).trans (if_neg n)
theorem startH_free {a : Addr} {u : Option HO} {ts : List Addr} {b : Addr} (h : b ∉ ts) (n : b = a → u = none) : startH a u ts b = none := by
  by_cases e : b = a
  · rw [e, startH_scr (e ▸ h)]
    exact n e
  · exact startH_no h e
section
variable {P : Program} {w : World} {K : Frag} {mg mb : Str → Option Value} {CX : CXT} {k : Nat} {fa a : Addr} {cs : List (Addr × Addr)} {fd : FuncData} {x : Str} {sp : Sp} {s1 : Shared} {vs : List Value} {ns : List Int}
theorem law_from (KX : K.In s1.heap) (hns : s1.heap.Ns mainGlobals mg) (hb : s1.heap.Ns builtinsNs mb) (hbb : ∀ x : Str, x ≠ "__name__" → mb x = bootBuiltins x) (hlim : s1.heap.NoLimit) (hg : s1.gens = #[])
    (hT : ∀ p ∈ cs, s1.heap.get? p.2 = some { cls := .none, data := .fields #[] }) (nT : ∀ p ∈ cs, K.lookup p.2 = none) (C : ∀ p ∈ cs, PySem.W.CodeHd s1.heap p.1 p.2)
    (hbm : ∃ (bm : Addr) (ob : Obj), mg "__builtins__" = some (.ref bm) ∧ bm ≠ builtinsNs ∧ s1.heap.get? bm = some ob ∧ ob.cls = .type "module" ∧ ob.dict = some builtinsNs ∧ ob.data = .plain)
    (ha : s1.heap.get? a = some { cls := .type "list", data := .seq vs.toArray }) (hr : Room k callerA)
    (F : ∀ base : Heap, K.In base → base.Ns mainGlobals mg → (∀ p ∈ cs, LamX.TabB base mg p.1 p.2) → FnG P w K mg base CX k fa fd [x] sp) (hbind : ∀ (s : Shared) (u : Value), BindsTo s fd ⟨[u], []⟩ [(x, u)])
    (hCX : ∀ H e s', CX [] H s1 (fun _ _ _ => False) e s' → False)
    {u : Option HO} (hu : u = none ∨ (u = some (.frz { cls := .type "list", data := .seq vs.toArray } (.lst (ns.map V.int))) ∧ K.lookup a = none)) (at_ : a ∉ cs.map (·.2)) (ok : HOk P w (startH a u (cs.map (·.2))) s1.heap)
    (hsp : sp [.ref a] (startH a u (cs.map (·.2))) (fun v _ => v = .bl true) fun _ _ _ => False) :
    codeAny (model P w) callerA (.call (.ref fa) ⟨[.ref a], []⟩) (fun r s' => r = .ok (.ret (.bool true)) ∧ OldK s1.heap s'.heap ∧ s'.os = s1.os ∧ AllBare s'.gens) s1 := by
  have tab : ∀ {b : Addr}, b ∈ cs.map (·.2) → s1.heap.get? b = some { cls := .none, data := .fields #[] } := fun {b} hb => by
    obtain ⟨p, hp, e⟩ := List.mem_map.mp hb
    exact e ▸ hT p hp
  have mem : ∀ {p : Addr × Addr}, p ∈ cs → p.2 ∈ cs.map (·.2) := fun hp => List.mem_map.mpr ⟨_, hp, rfl⟩
  -- what is no table and no list stays visible
  have seen : ∀ {b : Addr} {o : Obj}, s1.heap.get? b = some o → o.data ≠ .fields #[] → (∀ ys n, o.data ≠ .seq ys n) → (hidT s1.heap (startH a u (cs.map (·.2)))).get? b = some o := fun {b o} e h1 h2 => by
    refine hidT_get e (startH_free (fun z => ?_) fun z => ?_)
    · rw [tab z] at e
      cases e
      exact h1 rfl
    · rw [z, ha] at e
      cases e
      exact absurd rfl (h2 _ _)
  have seenD : ∀ {b : Addr} {o : Obj} {es : Array DictEntry} {ep : Nat}, s1.heap.get? b = some o → o.data = .dict es ep → (hidT s1.heap (startH a u (cs.map (·.2)))).get? b = some o := fun e d => seen e (by rw [d]; exact fun z => nomatch z) (by rw [d]; exact fun _ _ z => nomatch z)
  have nsU : ∀ {b : Addr} {m : Str → Option Value}, s1.heap.Ns b m → (hidT s1.heap (startH a u (cs.map (·.2)))).Ns b m := fun {b m} ⟨o, es, ep, e, d, r⟩ => ⟨o, es, ep, seenD e d, d, r⟩
  have kU : K.In (hidT s1.heap (startH a u (cs.map (·.2)))) := fun b o e => by
    refine hidT_get (KX b o e) (startH_free (fun z => ?_) fun z => ?_)
    · obtain ⟨p, hp, q⟩ := List.mem_map.mp z
      rw [← q, nT p hp] at e
      cases e
    · rcases hu with h | ⟨_, h⟩
      · exact h
      · rw [z, h] at e
        cases e
  have mU : L2.Mod K mg (hidT s1.heap (startH a u (cs.map (·.2)))) := ⟨kU, nsU hns, ⟨mb, nsU hb, hbb⟩, let ⟨mc, h1, h2⟩ := hlim; ⟨mc, nsU h1, h2⟩⟩
  have tU : ∀ p ∈ cs, LamX.TabB (hidT s1.heap (startH a u (cs.map (·.2)))) mg p.1 p.2 := fun p hp => by
    refine ⟨?_, ?_, fun z => ?_⟩
    · obtain ⟨o, us, file, tf, flags, tg, inF, text, tt, e1, r1, r2, r3, rr⟩ := C p hp
      refine ⟨o, us, file, tf, flags, tg, inF, text, tt, seen e1 (fun z => ?_) (fun ys n z => ?_), r1, r2, r3, rr⟩
      · rw [r2] at z
        cases z
        simp at r3
      · rw [r2] at z
        cases z
    · obtain ⟨bm, ob, b1, b2, b3, b4, b5, b6⟩ := hbm
      refine ⟨bm, ob, b1, b2, fun q => ?_, fun q => ?_, seen b3 (by rw [b6]; exact fun z => nomatch z) (by rw [b6]; exact fun _ _ z => nomatch z), b4, b5, b6⟩
      · obtain ⟨o, es, ep, e, hd, _⟩ := hns
        rw [q, e] at b3
        cases b3
        rw [hd] at b6
        cases b6
      · rw [q, hT p hp] at b3
        cases b3
        cases b6
    · obtain ⟨o, es, ep, e, hd, _⟩ := hns
      rw [z, hT p hp] at e
      cases e
      cases hd
  have e0 : Env0 P w K mg (hidT s1.heap (startH a u (cs.map (·.2)))) callerA [] s1 (startH a u (cs.map (·.2))) := ⟨rfl, mU, fun b o z => of_hidT z, Nat.le_of_eq (hidT_size _ _), trivial, fun b q => (nomatch (show b ∈ ([] : List Addr) from q)), ok, .of_eq hg⟩
  refine codeAny_mono ((F _ kU (nsU hns) tU).run callerA [] s1 _ ⟨[.ref a], []⟩ [.ref a] [.ref a] _ _ rfl hr e0 (hbind s1 (.ref a)) (.cons rfl .nil) hsp) ?_
  intro r s' q
  match r, q with
  | .error e, q => exact (hCX _ e s' q).elim
  | .ok (.ret y), q =>
    obtain ⟨v, H', os, bare, un, ok', ry, qv⟩ := q
    have qv : v = .bl true := qv
    rw [qv] at ry
    cases (show y = Value.bool true from ry)
    have more : ∀ p ∈ cs, ∃ more : Array Value, s'.heap.get? p.2 = some { cls := .none, data := .fields more } := fun p hp => by
      obtain ⟨m, z⟩ := un.tbls p.2 #[] (startH_tab (mem hp))
      exact ⟨_, ok' p.2 _ z⟩
    have kept : ∀ b o, b ∉ cs.map (·.2) → s1.heap.get? b = some o → s'.heap.get? b = some o := fun b o nb e => by
      by_cases hba : b = a ∧ u ≠ none
      · rcases hu with h | ⟨h, _⟩
        · exact absurd h hba.2
        · have z := un.frzs a _ _ ((startH_scr (u := u) at_).trans h)
          have z2 := (ok' a _ z).1
          rw [hba.1] at e ⊢
          rw [ha] at e
          cases e
          exact z2
      · have n : startH a u (cs.map (·.2)) b = none := startH_free nb fun z => Classical.byContradiction fun y => hba ⟨z, y⟩
        exact un.keep b o e n (fun z => (nomatch (show b ∈ ([] : List Addr) from z))) (fun z => (nomatch z))
    refine ⟨rfl, ⟨fun b o e => ?_, fun b o e => ?_⟩, os, bare⟩
    · by_cases hb : b ∈ cs.map (·.2)
      · obtain ⟨p, hp, rfl⟩ := List.mem_map.mp hb
        obtain ⟨m, hm⟩ := more p hp
        rw [hT p hp] at e
        cases e
        exact .inr (.inl ⟨((C p hp).tab (hT p hp)).isCodeTable, rfl, #[], m, rfl, by rw [Array.empty_append]; exact hm⟩)
      · exact .inl (kept b o hb e)
    · by_cases hb : b ∈ cs.map (·.2)
      · obtain ⟨p, hp, rfl⟩ := List.mem_map.mp hb
        obtain ⟨m, hm⟩ := more p hp
        exact ⟨_, hm⟩
      · exact ⟨o, kept b o hb e⟩
theorem law_callTG (KX : K.In s1.heap) (hns : s1.heap.Ns mainGlobals mg) (hb : s1.heap.Ns builtinsNs mb) (hbb : ∀ x : Str, x ≠ "__name__" → mb x = bootBuiltins x) (hlim : s1.heap.NoLimit) (hg : s1.gens = #[])
    (hT : ∀ p ∈ cs, s1.heap.get? p.2 = some { cls := .none, data := .fields #[] }) (nT : ∀ p ∈ cs, K.lookup p.2 = none) (C : ∀ p ∈ cs, PySem.W.CodeHd s1.heap p.1 p.2)
    (hbm : ∃ (bm : Addr) (ob : Obj), mg "__builtins__" = some (.ref bm) ∧ bm ≠ builtinsNs ∧ s1.heap.get? bm = some ob ∧ ob.cls = .type "module" ∧ ob.dict = some builtinsNs ∧ ob.data = .plain)
    (ha : s1.heap.get? a = some { cls := .type "list", data := .seq vs.toArray }) (hi : IntsAre vs ns) (hl : ns.length ≤ sizeLine) (hr : Room k callerA)
    (F : ∀ base : Heap, K.In base → base.Ns mainGlobals mg → (∀ p ∈ cs, LamX.TabB base mg p.1 p.2) → FnG P w K mg base CX k fa fd [x] sp) (hbind : ∀ (s : Shared) (u : Value), BindsTo s fd ⟨[u], []⟩ [(x, u)])
    (hsp : ∀ H : Hp, (∀ p ∈ cs, H p.2 = some (.tbl #[])) → SqL K H a (ns.map V.int) → sp [.ref a] H (fun v _ => v = .bl true) fun _ _ _ => False)
    (hCX : ∀ H e s', CX [] H s1 (fun _ _ _ => False) e s' → False) :
    codeAny (model P w) callerA (.call (.ref fa) ⟨[.ref a], []⟩) (fun r s' => r = .ok (.ret (.bool true)) ∧ OldK s1.heap s'.heap ∧ s'.os = s1.os ∧ AllBare s'.gens) s1 := by
  have rv := vals_ints hi
  have len := hi.length
  have at_ : a ∉ cs.map (·.2) := fun z => by
    obtain ⟨p, hp, e⟩ := List.mem_map.mp z
    have q := hT p hp
    rw [e, ha] at q
    injection q with q
    injection q with _ _ q _
    cases q
  have tabs : ∀ {u : Option HO}, ∀ p ∈ cs, startH a u (cs.map (·.2)) p.2 = some (.tbl #[]) := fun p hp => startH_tab (List.mem_map.mpr ⟨_, hp, rfl⟩)
  have okT : ∀ {u : Option HO} {b : Addr} {o : HO}, startH a u (cs.map (·.2)) b = some o → (o = .tbl #[] ∧ b ∈ cs.map (·.2)) ∨ (b = a ∧ u = some o) := fun {u b o} z => by
    by_cases hb : b ∈ cs.map (·.2)
    · rw [startH_tab hb] at z
      cases z
      exact .inl ⟨rfl, hb⟩
    · by_cases e : b = a
      · rw [e, startH_scr at_] at z
        exact .inr ⟨e, z⟩
      · rw [startH_no hb e] at z
        cases z
  have tb : ∀ b, b ∈ cs.map (·.2) → ∀ H, ObjOk P w H s1.heap b (.tbl #[]) := fun b hb H => by
    obtain ⟨p, hp, e⟩ := List.mem_map.mp hb
    exact e ▸ hT p hp
  cases hk : K.lookup a with
  | some o =>
    have e := KX a o hk
    rw [ha] at e
    cases e
    refine law_from (ns := ns) KX hns hb hbb hlim hg hT nT C hbm ha hr F hbind hCX (u := none) (.inl rfl) at_ (fun b o z => ?_) (hsp _ tabs (.inr ⟨_, vs.toArray, _, hk, rfl, rfl, rfl, by rw [List.size_toArray, len]; exact hl, by simpa using rv⟩))
    rcases okT z with ⟨rfl, hb⟩ | ⟨_, z⟩
    · exact tb b hb _
    · cases z
  | none =>
    have here := startH_scr (u := some (.frz { cls := .type "list", data := .seq vs.toArray } (.lst (ns.map V.int)))) at_
    refine law_from (ns := ns) KX hns hb hbb hlim hg hT nT C hbm ha hr F hbind hCX (u := some (.frz { cls := .type "list", data := .seq vs.toArray } (.lst (ns.map V.int)))) (.inr ⟨rfl, hk⟩) at_ (fun b o z => ?_) (hsp _ tabs (.inl (.inr ⟨_, here⟩)))
    rcases okT z with ⟨rfl, hb⟩ | ⟨e, y⟩
    · exact tb b hb _
    · clear z
      subst e
      cases y
      exact ⟨ha, by rw [List.length_map]; exact hl, vs, _, rv, ha⟩
end
/-- what is known of the law's promise at the head's heap, under no repr -/
def LawAtG (l : PySem.W.OpenLaw) (w : World) (K : Frag) (CX : CXT) (k n : Nat) (x : Str) (mg : Str → Option Value) (fa : Addr) (h : Heap) : Prop :=
  ∃ (fd : FuncData) (cs : List (Addr × Addr)) (sp : Sp), (∀ p ∈ cs, h.get? p.2 = some { cls := .none, data := .fields #[] }) ∧ (∀ p ∈ cs, K.lookup p.2 = none) ∧ (∀ p ∈ cs, PySem.W.CodeHd h p.1 p.2) ∧ (∀ (s : Shared) (u : Value), BindsTo s fd ⟨[u], []⟩ [(x, u)]) ∧
    (∀ (H : Hp) (a : Addr) (ns : List Int), ns.length ≤ n → (∀ p ∈ cs, H p.2 = some (.tbl #[])) → SqL K H a (ns.map V.int) → sp [.ref a] H (fun v _ => v = .bl true) fun _ _ _ => False) ∧
    ∀ base : Heap, K.In base → base.Ns mainGlobals mg → (∀ p ∈ cs, LamX.TabB base mg p.1 p.2) → FnG l.prog w K mg base CX k fa fd [x] sp
theorem walk_ofTG {l : PySem.W.OpenLaw} {n k : Nat} {q : Program} {loose : List Str} {XP : (Str → Option Value) → Heap → Prop} {YP : World → Heap → Prop} {d : DefRec} {CX : CXT} {x : Str}
    (hn : l.most = some n) (hn2 : n ≤ sizeLine) (hdf : d.params.defaults = []) (hr : Room k callerA)
    (F : ∀ (w : World) (mg : Str → Option Value) (fa : Addr) (h : Heap), YP w h → h.Ns mainGlobals mg → mg d.name = some (.ref fa) → ∃ K : Frag, K.In h ∧ LawAtG l w K CX k n x mg fa h)
    (hCX : ∀ (H : Hp) (s : Shared) (e : Value) (s' : Shared), CX [] H s (fun _ _ _ => False) e s' → False) :
    PySem.W.WalkO q loose XP YP l.row.toRowW d [] (fun f vs => PySem.call f vs) := by
  refine Att.attach_callB hn hdf fun w s0 s1 mg mb fa o pm cd doc a vs ns G Y ho hd hcd hmg hobj hints hlen hbits hg => ?_
  obtain ⟨K, KX, fd, cs, sp, hT, nT, C, hb, hsp, hF⟩ := F w mg fa _ Y G.T.g hmg
  exact law_callTG KX G.T.g G.T.b G.T.builtins G.T.nolimit hg hT nT C G.T.bmain hobj hints (Nat.le_trans hlen hn2) hr hF hb (fun H hH hS => hsp H a ns hlen hH hS) fun H e s' => hCX H s1 e s'
end FhG
set_option Elab.async false
set_option linter.all false
set_option maxRecDepth 100000
set_option maxHeartbeats 4000000
/-! FxH: what told tells of InvalidStaff: its value's repr, and whether it is a ValueError -/
namespace Fs
open PySem PySem.Spec PyProof.Rows L2 Fh LamX
open PySem.W (Frag)
/-- repr(v) is x -/
def RepIs (P : Program) (w : World) (H : Hp) (v : V) (x : Str) : Prop :=
  (∃ (N : Addr → Prop) (d : PyData), DA N H v d ∧ d.showable = true ∧ d.depth ≤ 60 ∧ d.shown.length ≤ sizeLine ∧ x = d.shown) ∨
  ∃ (N : Addr → Prop) (a : Addr) (ms : List ME) (ds : List (PyData × PyData)), v = .ref a ∧ H a = some (OD P w a ms) ∧ MDs N H ms ds ∧ (PyData.dict ds).showable = true ∧ (PyData.dict ds).depth ≤ 60 ∧ (PyData.dict ds).shown.length ≤ sizeLine ∧ x = (PyData.dict ds).shown
theorem RepIs.go {P : Program} {w : World} {H : Hp} {v : V} {x : Str} {Q : VK} (h : RepIs P w H v x) (q : Q (.str x) H) : rReprO P w [v] H Q := by
  rcases h with ⟨N, d, h1, h2, h3, h4, rfl⟩ | ⟨N, a, ms, ds, rfl, h1, h2, h3, h4, h5, rfl⟩
  · exact .inl ⟨N, v, d, rfl, h1, h2, h3, h4, q⟩
  · exact .inr ⟨N, a, ms, ds, rfl, h1, h2, h3, h4, h5, q⟩
theorem RepIs.same {P : Program} {w : World} {H H' : Hp} {v : V} {x : Str} (s : Same H H') (h : RepIs P w H v x) : RepIs P w H' v x := by
  rcases h with ⟨N, d, h1, h⟩ | ⟨N, a, ms, ds, e, h1, h2, h⟩
  · exact .inl ⟨N, d, DA.same s h1, h⟩
  · exact .inr ⟨N, a, ms, ds, e, s _ _ h1, h2.same s, h⟩
def rIsES (K : Frag) (C a : Addr) (cls : Value) (d : Option Addr) : List V → Hp → VK → Prop := fun xs H Q => ∃ (dd : Addr) (fs : List (Str × V)) (c : V) (cv : Value) (b : Bool), xs = [.ref a, c] ∧ cls = .ref C ∧ d = some dd ∧ H dd = some (.xd fs) ∧ ClsV c cv ∧ PySem.W.kitOne K (.ref C) cv = some b ∧ Q (.bl b) H
theorem call_isES {X : Cx} {a C fI : Addr} {oe : Obj} {cls : Value} {d : Option Addr} {pn : List (Addr × Obj)} (T : PySem.ErrS.ErrSxt X.K X.mg C fI) (U : ErrC X.K C) (hz : Zc cls d oe) (hf : ∃ vs, oe.data = .fields vs) : CallR (X.suite a ((a, oe) :: pn)) (.builtin "isinstance") (rIsES X.K C a cls d) := by
  intro pins s σ H xs us Q I r h
  obtain ⟨dd, fs, c, cv, b, rfl, ec, ed, hd, hc, e, q⟩ := h
  obtain ⟨u1, u2, rfl, r1, r2⟩ := vals2 r
  have e1 : u1 = Value.ref a := r1
  rw [e1, hc.eq r2]
  subst ec ed
  obtain ⟨ha, _⟩ := I.pin (a, oe) (List.mem_append_left _ List.mem_cons_self)
  obtain ⟨vs, hv⟩ := hf
  have hx : ObjOk X.prog X.w H s.heap dd (.xd fs) := I.hok dd _ hd
  obtain ⟨mA, hns, hr⟩ := hx
  obtain ⟨od, ho, hl⟩ := lookIn_ns hns
  have J : PySem.W.InstAt s.heap a oe C (some od) := ⟨ha, hz.1, by unfold PySem.W.notCls; rw [hv] <;> rfl, by rw [hz.2]; exact ho⟩
  exact PySem.W.kia_one (PySem.W.kitx_exc (od := some od) U.is T.ga T.gg T.exC U.cl U.hn U.ht U.hm) I.kIn J e (fun z => nomatch z) fun tk => ⟨.bl b, H, I.tok tk, rfl, q⟩
theorem errS_of {K : Frag} {mg : Str → Option Value} {C : Addr} (gC : mg "InvalidStaff" = some (.ref C)) (T : EK K C .ve) {fI : Addr} (no : PySem.W.findIn K (.ref C) "value" = some none) (iC : PySem.W.findIn K (.ref C) "__init__" = some (some (.ref fI))) (tI : PySem.W.typeIn K (.ref fI) = some (.type "function"))
    (fn : ∃ (oc : Value) (od : Option Addr) (kV doc pm : Value) (an : Option Addr) (cdv ct : Value) (osl : Array (Option Value)) (p1 p2 q1 q2 q3 q4 : Pos),
      K.lookup fI = some ⟨oc, od, .func (PySem.W.fnOf "__init__" "InvalidStaff.__init__" (PySem.ErrS.iA p1 p2) (PySem.ErrS.iB q1 q2 q3 q4) PySem.ErrS.iS .none kV doc pm an cdv ct), osl⟩ ∧ PySem.W.codeIn K cdv "InvalidStaff.__init__" = true) : PySem.ErrS.ErrSxt K mg C fI := by
  obtain ⟨nm, q, N, bs, sn, sub, ab, col, dd, k0, k1, k2, k3, k5, ho⟩ := ei_obj T
  have sB : PySem.W.subIn K (.ref C) (.type "BaseException") = some true := by rw [T.sub]; rfl
  have sC : PySem.W.subIn K (.ref C) (.ref C) = some true := by rw [T.sub, List.contains_cons]; simp
  exact { gC := gC, cls := ⟨nm, q, N, bs, _, sn, sub, ab, col, dd, k0, k1, k2, k3, k5, ho, by decide +kernel⟩, sa := T.sa, ga := T.ga, gg := T.gg, noN := no, iC := iC, tC := tI, kC := T.kC, exC := sB, tyC := T.ty, hdC := T.hd, te := PySem.W.exm_ref sB T.hd T.ty sC, fn := fn }
/-- told: try: a(); return None / except InvalidStaff as e: return (repr(e.value), isinstance(e, ValueError)) -/
def TToldS (P : Program) (w : World) (CE : Addr) : (XK → Hp → VK → Prop) → Hp → VK → Prop := fun tl H Q =>
  tl (fun cls d H' => cls = .ref CE ∧ ∃ (dd : Addr) (v : V) (x : Str), d = some dd ∧ H' dd = some (.xd [("value", v)]) ∧ RepIs P w H' v x ∧ ∀ t, H' t = none → Q (.ref t) (upd H' t (.tup [.str x, .bl true]))) H (fun _ H' => Q .non H')
theorem boot_repr : bootBuiltins "repr" = some (.builtin "repr") := by decide +kernel
theorem boot_isinst : bootBuiltins "isinstance" = some (.builtin "isinstance") := by decide +kernel
theorem boot_verr : bootBuiltins "ValueError" = some (.type "ValueError") := by decide +kernel
theorem told_givesS {X : Cx} {x q : Str} {sg : Scope} {g CE aE : Addr} {cdg : Value} {j k : Nat} {p1 p2 p3 p4 p5 p6 p7 p8 p9 p10 p11 q1 q2 q3 q4 q5 q6 q7 : Pos} (ET : PySem.ErrS.ErrSxt X.K X.mg CE aE) (EC : ErrC X.K CE) (ev : PySem.W.kitOne X.K (.ref CE) (.type "ValueError") = some true)
    (gd : X.A.guards = some []) (hu : Room 1 X.A) (mr : X.mg "repr" = none) (mi : X.mg "isinstance" = none) (mv : X.mg "ValueError" = none)
    (hge : sg.names.lookup ("InvalidStaff" : Str) = some .globalImplicit) (hgr : sg.names.lookup ("repr" : Str) = some .globalImplicit) (hgi : sg.names.lookup ("isinstance" : Str) = some .globalImplicit) (hgv : sg.names.lookup ("ValueError" : Str) = some .globalImplicit) (hle : sg.names.lookup ("e" : Str) = some .local) :
    LamX.GivesTo X ["_law_call", "e"] x sg g cdg [.Try [.Expr (.Call (.Name "_law_call" p1) [] [] p2) p3, .Return (some (.Constant .none j p4)) p5] [.ExceptHandler (some (.Name "InvalidStaff" p6)) (some "e")
      [.Return (some (.Tuple [.Call (.Name "repr" q1) [.Attribute (.Name "e" p7) "value" p8] [] q2, .Call (.Name "isinstance" q3) [.Name "e" q4, .Name "ValueError" q5] [] q6] k q7)) p9] p10] [] [] p11] "_law_call" q (TToldS X.prog X.w CE) := by
  intro f c' s H Q tl act hc h
  have hgl : Gl (cxOf C8.CX0 X.prog X.w X.K X.mg X.base ["_law_call", "e"] x sg g cdg X.A X.stack s H C8.E0).nox "InvalidStaff" := hge
  refine ⟨_, pss_one (ps_try_as (X := (cxOf C8.CX0 X.prog X.w X.K X.mg X.base ["_law_call", "e"] x sg g cdg X.A X.stack s H C8.E0).nox) (i := 1) (n := "e") (c := .ref CE) (Wout := fun _ _ _ _ => False)
      (tb := fun W D σ H => ∃ Ech : XK, (∀ cls d σ' H', σ'.length = 2 → Ech cls d H' → W cls d σ' H') ∧ σ[0]? = some (some (.ref f)) ∧ H c' = some (LamX.CodeO c' q) ∧ tl Ech H (fun _ H' => D.rt .non H'))
      rfl rfl (show (["_law_call", "e"] : List Str).Nodup by decide +kernel) rfl hle ⟨hgl, by decide, .inl ET.gC⟩ L2.takes0 (fun W pn xe tk _ => ?_)
      (fun a oe cls d pn hz hf => pss_one (ps_ret (pe_tup (pa_cons (pe_callB (r := rReprO X.prog X.w) (call_reprO ?gd ?hu) hgr mr boot_repr (pa_cons (pe_errSField ET hz hf (pe_var (i := 1) rfl (Or.inl hle))) pa_nil))
        (pa_cons (pe_callB (r := rIsES X.K CE a cls d) (call_isES ET EC hz hf) hgi mi boot_isinst (pa_cons (pe_var (i := 1) rfl (Or.inl hle)) (pa_cons (pe_bltn (v := .ty "ValueError") hgv mv boot_verr rfl (by decide) (by decide)) pa_nil))) pa_nil)))))), ?_⟩
  case gd =>
    refine Eq.trans (b := X.A.guards) ?_ gd
    first | rfl | simp [Around.mark, Around.deeper]
  case hu =>
    have z := (hu.deeper (envOfC x sg s.heap.objs.size g cdg)).units
    first | exact z | simpa [Around.mark] using z
  · refine ⟨fun pins s' σ H' D I h' => ?_⟩
    obtain ⟨Ech, hW, h1, h2, h3⟩ := h'
    have hp := act (fun cls d σ H => σ.length = 2 → W cls d σ H) pn xe Ech p1 p2 (LamY.takes_len tk) (fun cls d σ' H' e l => hW cls d σ' H' l e)
    have hq := pss_cons (ps_expr (pos := p3) hp) (pss_one (ps_ret (pos := p5) (pe_non (j := j) (pos := p4))))
    exact hq.run pins s' σ H' D I ⟨h1, h2, h3⟩
  · refine ⟨fun cls d H' => cls = .ref CE ∧ ∃ (dd : Addr) (v : V) (x : Str), d = some dd ∧ H' dd = some (.xd [("value", v)]) ∧ RepIs X.prog X.w H' v x ∧ ∀ t, H' t = none → Q (.ref t) (upd H' t (.tup [.str x, .bl true])),
      fun cls d σ' H' hl ⟨e1, dd, v, y, e2, e3, e4, e5⟩ => ⟨true, by rw [e1]; exact ET.te, fun _ a0 _ => ?_, fun q => nomatch q⟩, rfl, hc, h⟩
    have here : (σ'.set 1 (some (V.ref a0)))[1]? = some (some (V.ref a0)) := List.getElem?_set_self (by omega)
    exact ⟨_, here, rfl, e1, dd, v, e2, e3, e4.go ⟨_, here, dd, _, _, _, true, rfl, e1, e2, e3, .ty _, ev, (show 2 ≤ sizeLine by decide), e5⟩⟩
end Fs
set_option Elab.async false
set_option linter.all false
set_option maxRecDepth 100000
set_option maxHeartbeats 4000000
/-! FyC: InvalidText where it is caught, and from the head's facts -/
namespace Fs
open PySem PySem.Spec PyProof.Rows L2 Fh LamX
open PySem.W (Frag)
def rIsEN (K : Frag) (C a : Addr) (cls : Value) (d : Option Addr) : List V → Hp → VK → Prop := fun xs H Q => ∃ (dd : Addr) (fs : List (Str × V)) (c : V) (cv : Value) (b : Bool), xs = [.ref a, c] ∧ cls = .ref C ∧ d = some dd ∧ H dd = some (.xd fs) ∧ ClsV c cv ∧ PySem.W.kitOne K (.ref C) cv = some b ∧ Q (.bl b) H
theorem call_isEN {X : Cx} {a C fI : Addr} {oe : Obj} {cls : Value} {d : Option Addr} {pn : List (Addr × Obj)} (T : PySem.ErrN.ErrNxt X.K X.mg C fI) (U : ErrC X.K C) (hz : Zc cls d oe) (hf : ∃ vs, oe.data = .fields vs) : CallR (X.suite a ((a, oe) :: pn)) (.builtin "isinstance") (rIsEN X.K C a cls d) := by
  intro pins s σ H xs us Q I r h
  obtain ⟨dd, fs, c, cv, b, rfl, ec, ed, hd, hc, e, q⟩ := h
  obtain ⟨u1, u2, rfl, r1, r2⟩ := vals2 r
  have e1 : u1 = Value.ref a := r1
  rw [e1, hc.eq r2]
  subst ec ed
  obtain ⟨ha, _⟩ := I.pin (a, oe) (List.mem_append_left _ List.mem_cons_self)
  obtain ⟨vs, hv⟩ := hf
  have hx : ObjOk X.prog X.w H s.heap dd (.xd fs) := I.hok dd _ hd
  obtain ⟨mA, hns, hr⟩ := hx
  obtain ⟨od, ho, hl⟩ := lookIn_ns hns
  have J : PySem.W.InstAt s.heap a oe C (some od) := ⟨ha, hz.1, by unfold PySem.W.notCls; rw [hv] <;> rfl, by rw [hz.2]; exact ho⟩
  exact PySem.W.kia_one (PySem.W.kitx_exc (od := some od) U.is T.ga T.gg T.exC U.cl U.hn U.ht U.hm) I.kIn J e (fun z => nomatch z) fun tk => ⟨.bl b, H, I.tok tk, rfl, q⟩
theorem errN_of {K : Frag} {mg : Str → Option Value} {C : Addr} (gC : mg "InvalidText" = some (.ref C)) (T : EK K C .ve) {fI : Addr} (no : PySem.W.findIn K (.ref C) "index" = some none) (iC : PySem.W.findIn K (.ref C) "__init__" = some (some (.ref fI))) (tI : PySem.W.typeIn K (.ref fI) = some (.type "function"))
    (fn : ∃ (oc : Value) (od : Option Addr) (kV doc pm : Value) (an : Option Addr) (cdv ct : Value) (osl : Array (Option Value)) (p1 p2 q1 q2 q3 q4 : Pos),
      K.lookup fI = some ⟨oc, od, .func (PySem.W.fnOf "__init__" "InvalidText.__init__" (PySem.ErrN.iA p1 p2) (PySem.ErrN.iB q1 q2 q3 q4) PySem.ErrN.iS .none kV doc pm an cdv ct), osl⟩ ∧ PySem.W.codeIn K cdv "InvalidText.__init__" = true) : PySem.ErrN.ErrNxt K mg C fI := by
  obtain ⟨nm, q, N, bs, sn, sub, ab, col, dd, k0, k1, k2, k3, k5, ho⟩ := ei_obj T
  have sB : PySem.W.subIn K (.ref C) (.type "BaseException") = some true := by rw [T.sub]; rfl
  have sC : PySem.W.subIn K (.ref C) (.ref C) = some true := by rw [T.sub, List.contains_cons]; simp
  exact { gC := gC, cls := ⟨nm, q, N, bs, _, sn, sub, ab, col, dd, k0, k1, k2, k3, k5, ho, by decide +kernel⟩, sa := T.sa, ga := T.ga, gg := T.gg, noN := no, iC := iC, tC := tI, kC := T.kC, exC := sB, tyC := T.ty, hdC := T.hd, te := PySem.W.exm_ref sB T.hd T.ty sC, fn := fn }
end Fs
set_option Elab.async false
set_option linter.all false
set_option maxRecDepth 100000
set_option maxHeartbeats 4000000
/-! FzA: plans as data: texts and tuples, also of the written part; what stays where tuples stay; repr of them in a list -/
namespace Fs
open PySem PySem.Spec PyProof.Rows L2 Fh
open PySem.W (Frag)
mutual
/-- v is the plan d: a text, or a tuple of these -/
inductive Pl (K : Frag) (H : Hp) : V → PyData → Prop where
  | str (x : Str) : Pl K H (.str x) (.str x)
  | tup {a : Addr} {xs : List V} {ds : List PyData} : SqT K H a xs → Pls K H xs ds → Pl K H (.ref a) (.tuple ds)
inductive Pls (K : Frag) (H : Hp) : List V → List PyData → Prop where
  | nil : Pls K H [] []
  | cons {x : V} {d : PyData} {xs : List V} {ds : List PyData} : Pl K H x d → Pls K H xs ds → Pls K H (x :: xs) (d :: ds)
end
/-- what is a tuple stays it -/
def KeepT (H H' : Hp) : Prop := ∀ a xs, Rd H a (.tup xs) → Rd H' a (.tup xs)
theorem KeepT.refl (H : Hp) : KeepT H H := fun _ _ h => h
theorem KeepT.trans {H H1 H2 : Hp} (a : KeepT H H1) (b : KeepT H1 H2) : KeepT H H2 := fun x o h => b x o (a x o h)
theorem KeepT.of {H H' : Hp} (s : Same H H') : KeepT H H' := fun a xs h => h.elim (fun z => .inl (s _ _ z)) fun ⟨o, z⟩ => .inr ⟨o, s _ _ z⟩
theorem KeepT.upd {H : Hp} {p : Addr} {o : HO} (n : ∀ xs, ¬ Rd H p (.tup xs)) : KeepT H (L2.upd H p o) := fun a xs h => by
  have ne : a ≠ p := fun e => n xs (e ▸ h)
  rcases h with h | ⟨ob, h⟩
  · exact .inl (by rw [upd_ne ne]; exact h)
  · exact .inr ⟨ob, by rw [upd_ne ne]; exact h⟩
theorem no_tup {H : Hp} {p : Addr} {u : HO} (e : H p = some u) (h1 : ∀ xs, u ≠ .tup xs) (h2 : ∀ o xs, u ≠ .frz o (.tup xs)) : ∀ xs, ¬ Rd H p (.tup xs) := fun xs h => by
  rcases h with h | ⟨o, h⟩
  · rw [e] at h
    exact h1 xs (Option.some.inj h)
  · rw [e] at h
    exact h2 o xs (Option.some.inj h)
theorem KeepT.but {H H' : Hp} {p : Addr} (n : ∀ xs, ¬ Rd H p (.tup xs)) (b : But p H H') : KeepT H H' := fun a xs h => by
  have ne : a ≠ p := fun e => n xs (e ▸ h)
  rcases h with h | ⟨ob, h⟩
  · exact .inl (b _ _ ne h)
  · exact .inr ⟨ob, b _ _ ne h⟩
theorem KeepT.lst {H : Hp} {p : Addr} {xs : List V} {o : HO} (e : H p = some (.lst xs)) : KeepT H (L2.upd H p o) := KeepT.upd (no_tup e (fun _ z => nomatch z) fun _ _ z => nomatch z)
theorem KeepT.new {H : Hp} {p : Addr} {o : HO} (e : H p = none) : KeepT H (L2.upd H p o) := .of (Same.new e)
theorem KeepT.sqT {K : Frag} {H H' : Hp} (k : KeepT H H') {a : Addr} {xs : List V} (h : SqT K H a xs) : SqT K H' a xs := h.imp (k _ _) id
mutual
theorem Pl.keep {K : Frag} {H H' : Hp} (k : KeepT H H') : ∀ {v : V} {d : PyData}, Pl K H v d → Pl K H' v d
  | _, _, .str x => .str x
  | _, _, .tup h r => .tup (k.sqT h) (Pls.keep k r)
theorem Pls.keep {K : Frag} {H H' : Hp} (k : KeepT H H') : ∀ {v : List V} {d : List PyData}, Pls K H v d → Pls K H' v d
  | _, _, .nil => .nil
  | _, _, .cons h r => .cons (Pl.keep k h) (Pls.keep k r)
end
theorem Pl.same {K : Frag} {H H' : Hp} (s : Same H H') {v : V} {d : PyData} (h : Pl K H v d) : Pl K H' v d := h.keep (.of s)
theorem Pls.same {K : Frag} {H H' : Hp} (s : Same H H') {v : List V} {d : List PyData} (h : Pls K H v d) : Pls K H' v d := h.keep (.of s)
theorem Pls.len {K : Frag} {H : Hp} : ∀ {v : List V} {d : List PyData}, Pls K H v d → v.length = d.length
  | _, _, .nil => rfl
  | _, _, .cons _ r => congrArg (· + 1) (Pls.len r)
theorem Pls.append {K : Frag} {H : Hp} : ∀ {v v2 : List V} {d d2 : List PyData}, Pls K H v d → Pls K H v2 d2 → Pls K H (v ++ v2) (d ++ d2)
  | _, _, _, _, .nil, r => r
  | _, _, _, _, .cons h r, r2 => .cons h (Pls.append r r2)
theorem Pls.snoc {K : Frag} {H : Hp} {v : List V} {d : List PyData} {x : V} {e : PyData} (r : Pls K H v d) (h : Pl K H x e) : Pls K H (v ++ [x]) (d ++ [e]) := r.append (.cons h .nil)
theorem Pls.get {K : Frag} {H : Hp} : ∀ {v : List V} {d : List PyData}, Pls K H v d → ∀ {i : Nat} {x : V} {e : PyData}, v[i]? = some x → d[i]? = some e → Pl K H x e
  | _, _, .nil, i, _, _, h, _ => by cases i <;> cases h
  | _, _, .cons h r, 0, _, _, e1, e2 => by cases e1; cases e2; exact h
  | _, _, .cons h r, i + 1, _, _, e1, e2 => r.get (i := i) e1 e2
theorem Pls.at {K : Frag} {H : Hp} {v : List V} {d : List PyData} (r : Pls K H v d) {i : Nat} {x : V} (h : v[i]? = some x) : ∃ e, d[i]? = some e ∧ Pl K H x e := by
  have hi : i < v.length := by
    rcases Nat.lt_or_ge i v.length with z | z
    · exact z
    · rw [List.getElem?_eq_none z] at h; cases h
  have e2 : d[i]? = some (d[i]'(r.len ▸ hi)) := List.getElem?_eq_getElem _
  exact ⟨_, e2, r.get h e2⟩
theorem Pls.drop {K : Frag} {H : Hp} : ∀ (n : Nat) {v : List V} {d : List PyData}, Pls K H v d → Pls K H (v.drop n) (d.drop n)
  | 0, _, _, r => r
  | n + 1, _, _, .nil => .nil
  | n + 1, _, _, .cons _ r => Pls.drop n r
mutual
theorem Pl.dp {K : Frag} {H : Hp} : ∀ {v : V} {d : PyData}, Pl K H v d → Dp K H v d
  | _, _, .str x => .str x
  | _, _, .tup h r => .tup h (Pls.dp r)
theorem Pls.dp {K : Frag} {H : Hp} : ∀ {v : List V} {d : List PyData}, Pls K H v d → DpAll K H v d
  | _, _, .nil => .nil
  | _, _, .cons h r => .cons (Pl.dp h) (Pls.dp r)
end
section
variable {X : Cx} {pins : List (Addr × Obj)} {σ : L2.St} {H : Hp} {s : Shared}
mutual
theorem Pl.reads (I : Inv X pins σ H s) : ∀ {d : PyData} {v : V} {u : Value}, Pl X.K H v d → RelV v u → Reads s.heap u d []
  | _, _, u, .str x, r => by
    obtain ⟨t, e⟩ := (show ∃ t, u = Value.str x t from r)
    rw [e]
    exact .str x t
  | _, _, u, .tup h rs, r => by
    obtain ⟨its, rv, ⟨o, ho, hc, n, hd⟩, _⟩ := I.tuple h
    have e : u = Value.ref _ := r
    rw [e]
    exact .tuple ho hc hd (by simpa using Pls.reads I rs rv)
theorem Pls.reads (I : Inv X pins σ H s) : ∀ {ds : List PyData} {vs : List V} {us : List Value}, Pls X.K H vs ds → Vals vs us → ReadsAll s.heap us ds []
  | _, _, _, .nil, .nil => .nil
  | _, _, _, .cons h rs, .cons r1 r2 => .cons (as := []) (Pl.reads I h r1) (Pls.reads I rs r2)
end
end
/-! ### values of any kind, as parts of what may be a plan -/
mutual
inductive Gd (K : Frag) (H : Hp) : V → PyData → Prop where
  | non : Gd K H .non .none
  | bl (b : Bool) : Gd K H (.bl b) (.bool b)
  | int (i : Int) : Gd K H (.int i) (.int i)
  | str (x : Str) (h : x.length ≤ 1000) : Gd K H (.str x) (.str x)
  | lst {a : Addr} {xs : List V} {ds : List PyData} : SqL K H a xs → Gds K H xs ds → Gd K H (.ref a) (.list ds)
  | tup {a : Addr} {xs : List V} {ds : List PyData} : SqT K H a xs → Gds K H xs ds → Gd K H (.ref a) (.tuple ds)
  | dct {a : Addr} {es : List (Key × V)} {kvs : List (PyData × PyData)} : H a = some (.dK es) → Gd K H (.ref a) (.dict kvs)
inductive Gds (K : Frag) (H : Hp) : List V → List PyData → Prop where
  | nil : Gds K H [] []
  | cons {x : V} {d : PyData} {xs : List V} {ds : List PyData} : Gd K H x d → Gds K H xs ds → Gds K H (x :: xs) (d :: ds)
end
theorem sqL_same {K : Frag} {H H' : Hp} (s : Same H H') {a : Addr} {xs : List V} (h : SqL K H a xs) : SqL K H' a xs := h.imp (fun z => z.elim (fun z => .inl (s _ _ z)) fun ⟨o, z⟩ => .inr ⟨o, s _ _ z⟩) id
mutual
theorem Gd.same {K : Frag} {H H' : Hp} (s : Same H H') : ∀ {v : V} {d : PyData}, Gd K H v d → Gd K H' v d
  | _, _, .non => .non
  | _, _, .bl b => .bl b
  | _, _, .int i => .int i
  | _, _, .str x h => .str x h
  | _, _, .lst h r => .lst (sqL_same s h) (Gds.same s r)
  | _, _, .tup h r => .tup ((KeepT.of s).sqT h) (Gds.same s r)
  | _, _, .dct h => .dct (s _ _ h)
theorem Gds.same {K : Frag} {H H' : Hp} (s : Same H H') : ∀ {v : List V} {d : List PyData}, Gds K H v d → Gds K H' v d
  | _, _, .nil => .nil
  | _, _, .cons h r => .cons (Gd.same s h) (Gds.same s r)
end
theorem Gds.len {K : Frag} {H : Hp} : ∀ {v : List V} {d : List PyData}, Gds K H v d → v.length = d.length
  | _, _, .nil => rfl
  | _, _, .cons _ r => congrArg (· + 1) (Gds.len r)
theorem Gds.get {K : Frag} {H : Hp} : ∀ {v : List V} {d : List PyData}, Gds K H v d → ∀ {i : Nat} {x : V} {e : PyData}, v[i]? = some x → d[i]? = some e → Gd K H x e
  | _, _, .nil, i, _, _, h, _ => by cases i <;> cases h
  | _, _, .cons h r, 0, _, _, e1, e2 => by cases e1; cases e2; exact h
  | _, _, .cons h r, i + 1, _, _, e1, e2 => r.get (i := i) e1 e2
theorem Gds.drop {K : Frag} {H : Hp} : ∀ (n : Nat) {v : List V} {d : List PyData}, Gds K H v d → Gds K H (v.drop n) (d.drop n)
  | 0, _, _, r => r
  | n + 1, _, _, .nil => .nil
  | n + 1, _, _, .cons _ r => Gds.drop n r
theorem Gd.ty {K : Frag} {H : Hp} {v : V} {d : PyData} (h : Gd K H v d) : TyX K H v (.type (tyn d)) := by
  cases h with
  | non => exact .base .non
  | bl b => exact .base (.bl b)
  | int i => exact .base (.int i)
  | str x _ => exact .base (.str x)
  | lst h _ => exact ty_l h
  | tup h _ => exact ty_t h
  | dct h => exact .base (.dK h)
def isTup : PyData → Bool
  | .tuple _ => true
  | _ => false
theorem kit_tup (K : Frag) (d : PyData) : PySem.W.kitOne K (.type (tyn d)) (.type "tuple") = some (isTup d) := by cases d <;> rfl
mutual
def strsShort : PyData → Prop
  | .str x => x.length ≤ 1000
  | .tuple ds => strsShorts ds
  | _ => True
def strsShorts : List PyData → Prop
  | [] => True
  | d :: ds => strsShort d ∧ strsShorts ds
end
mutual
theorem Pl.gd {K : Frag} {H : Hp} : ∀ {v : V} {d : PyData}, Pl K H v d → strsShort d → Gd K H v d
  | _, _, .str x, h => .str x h
  | _, _, .tup h r, g => .tup h (Pls.gd r g)
theorem Pls.gd {K : Frag} {H : Hp} : ∀ {v : List V} {d : List PyData}, Pls K H v d → strsShorts d → Gds K H v d
  | _, _, .nil, _ => .nil
  | _, _, .cons h r, g => .cons (Pl.gd h g.1) (Pls.gd r g.2)
end
/-- repr of a list of plans -/
def rReprL (K : Frag) : List V → Hp → VK → Prop := fun xs H Q => ∃ (a : Addr) (vs : List V) (ds : List PyData), xs = [.ref a] ∧ a ≠ sysModules ∧ H a = some (.lst vs) ∧ Pls K H vs ds ∧ (PyData.list ds).showable = true ∧ (PyData.list ds).depth ≤ 60 ∧ (PyData.list ds).shown.length ≤ sizeLine ∧ Q (.str (PyData.list ds).shown) H
theorem call_reprL {X : Cx} (hg : X.A.guards = some []) (hu : X.A.units + 64 < cLine) : CallR X (.builtin "repr") (rReprL X.K) := by
  intro pins s σ H xs us Q I r h
  obtain ⟨a, vs, ds, rfl, na, ha, hp, hs, hz, hl, q⟩ := h
  obtain ⟨u, rfl, ru⟩ := vals1 r
  have e : u = Value.ref a := ru
  subst e
  obtain ⟨_, its, m, rv, ho⟩ := (show ObjOk X.prog X.w H s.heap a (.lst vs) from I.hok a _ ha)
  have ra := Pls.reads I hp rv
  exact PySem.repr_of_reads' (.list ho rfl rfl (by simpa using ra)) hs (fun _ z => (List.mem_cons.mp z).elim (fun y => na y.symm) (fun y => absurd y List.not_mem_nil)) hg (by omega) (fun _ _ z => z) (fun h' t tk k => ⟨.str _, H, I.kept (t' := tk) k, ⟨_, rfl⟩, q⟩) hl
end Fs
set_option Elab.async false
set_option linter.all false
set_option maxRecDepth 100000
set_option maxHeartbeats 4000000
/-! FxI: two that were told alike are compared; d[i] = v of a dict of either kind; dicts of small data are shown -/
namespace Fs
open PySem PySem.Spec PyProof.Rows L2 Fh
open PySem.W (Frag)
/-- both None, or both the pair (s, t) -/
def Alike (H : Hp) (x y : V) : Prop := (x = .non ∧ y = .non) ∨ ∃ (a b : Addr) (s : Str) (t : Bool), x = .ref a ∧ y = .ref b ∧ H a = some (.tup [.str s, .bl t]) ∧ H b = some (.tup [.str s, .bl t])
section
variable {X : Cx}
theorem pair_at {P : Program} {w : World} {H : Hp} {h : Heap} {a : Addr} {s : Str} {t : Bool} (ok : HOk P w H h) (e : H a = some (.tup [.str s, .bl t])) : ∃ u, h.IsTuple a #[.str s u, .bool t] := by
  obtain ⟨_, its, rv, o, ho, hc, m, hd⟩ := (show ObjOk P w H h a (.tup [.str s, .bl t]) from ok a _ e)
  cases rv with
  | cons r1 r =>
    cases r with
    | cons r2 r =>
      cases r
      obtain ⟨u, rfl⟩ := r1
      cases (show _ = Value.bool t from r2)
      exact ⟨u, o, ho, hc, m, hd⟩
theorem pair_eq {A : Around} {sh : Shared} (s : Str) (t : Bool) (u1 u2 : Tok) : ∀ j (h1 : j < (#[Value.str s u1, .bool t] : Array Value).size) (h2 : j < (#[Value.str s u2, .bool t] : Array Value).size), SeqAt.EqAt A sh (#[Value.str s u1, .bool t] : Array Value)[j] (#[Value.str s u2, .bool t] : Array Value)[j] ((fun _ => true) j) := by
  intro j h1 h2
  match j, h1, h2 with
  | 0, _, _ =>
    have z := SeqAt.EqAt.str_str (A := A) (s := sh) s u1 s u2
    rw [beq_self_eq_true] at z
    exact z
  | 1, _, _ => exact SeqAt.EqAt.same _
theorem op_neP (hu : X.A.units < cLine) : OpR X (compareOp .NotEq) (fun x y H Q => Alike H x y ∧ Q (.bl false) H) := by
  intro pins s σ H x y v u Q I rx ry h
  obtain ⟨h | ⟨a, b, z, t, rfl, rfl, ha, hb⟩, q⟩ := h
  · obtain ⟨rfl, rfl⟩ := h
    cases (show v = Value.none from rx)
    cases (show u = Value.none from ry)
    exact SeqAt.RcNeAt.none_none _ _ _ _ ⟨.bl false, H, I, rfl, q⟩
  · cases (show v = Value.ref a from rx)
    cases (show u = Value.ref b from ry)
    obtain ⟨u1, h1⟩ := pair_at I.hok ha
    obtain ⟨u2, h2⟩ := pair_at I.hok hb
    exact SeqAt.RcNeAt.tuples (e := fun _ => true) h1 h2 hu (pair_eq z t u1 u2) _ _ _ _ ⟨.bl false, H, I, rfl, q⟩
theorem op_eqP (hu : X.A.units < cLine) : OpR X (compareOp .Eq) (fun x y H Q => Alike H x y ∧ Q (.bl true) H) := by
  intro pins s σ H x y v u Q I rx ry h
  obtain ⟨h | ⟨a, b, z, t, rfl, rfl, ha, hb⟩, q⟩ := h
  · obtain ⟨rfl, rfl⟩ := h
    cases (show v = Value.none from rx)
    cases (show u = Value.none from ry)
    exact SeqAt.RcAt.none_none _ _ _ _ ⟨.bl true, H, I, rfl, q⟩
  · cases (show v = Value.ref a from rx)
    cases (show u = Value.ref b from ry)
    obtain ⟨u1, h1⟩ := pair_at I.hok ha
    obtain ⟨u2, h2⟩ := pair_at I.hok hb
    exact SeqAt.RcAt.tuples (e := fun _ => true) h1 h2 hu (pair_eq z t u1 u2) _ _ _ _ ⟨.bl true, H, I, rfl, q⟩
theorem set_any (hu : X.A.units + 1 < cLine) : PSet X (fun o i v H Q => rSetD o i v H Q ∨ rSetO X.prog X.w o i v H Q) := by
  intro pins s σ H o i v ov iv u Q I ro ri rv h
  rcases h with h | h
  · exact set_dict hu pins s σ H o i v ov iv u Q I ro ri rv h
  · exact set_odd hu pins s σ H o i v ov iv u Q I ro ri rv h
end
/-! ### small data -/
/-- small enough to be shown, among others -/
def smD (d : PyData) : Bool := d.showable && decide (d.depth ≤ 5) && PyData.leavesShort 70 d && decide (d.weight ≤ 400)
theorem smD_ok {d : PyData} (h : smD d = true) : d.showable = true ∧ d.depth ≤ 5 ∧ PyData.leavesShort 70 d = true ∧ d.weight ≤ 400 := by
  unfold smD at h
  simp only [Bool.and_eq_true, decide_eq_true_eq] at h
  exact ⟨h.1.1.1, h.1.1.2, h.1.2, h.2⟩
theorem rp_big {d : PyData} (h1 : d.showable = true) (h2 : d.depth ≤ 60) (h3 : d.leavesShort 70 = true) (h4 : d.weight ≤ 20000) : Rp d := by
  refine ⟨h1, h2, ?_⟩
  have e := PyData.shown_le 70 (by decide) d h3
  rw [sizeLine_eq]
  omega
theorem smD_rp {d : PyData} (h : smD d = true) : Rp d := by
  obtain ⟨h1, h2, h3, h4⟩ := smD_ok h
  exact rp_big h1 (by omega) h3 (by omega)
theorem smKv : ∀ {ds : List (PyData × PyData)}, (∀ q ∈ ds, smD q.1 = true ∧ smD q.2 = true) → PyData.showableKv ds = true ∧ PyData.leavesShortKv 70 ds = true ∧ PyData.weightKv ds ≤ 802 * ds.length ∧ PyData.depthKv ds ≤ 5
  | [], _ => ⟨rfl, rfl, Nat.le_refl _, Nat.zero_le _⟩
  | q :: ds, h => by
    obtain ⟨i1, i2, i3, i4⟩ := smKv (ds := ds) fun p hp => h p (List.mem_cons_of_mem _ hp)
    obtain ⟨a, b⟩ := h q List.mem_cons_self
    obtain ⟨a1, a2, a3, a4⟩ := smD_ok a
    obtain ⟨b1, b2, b3, b4⟩ := smD_ok b
    refine ⟨?_, ?_, ?_, ?_⟩
    · show (PyData.showable q.1 && PyData.showable q.2 && PyData.showableKv ds) = true
      rw [a1, b1, i1]; rfl
    · show (PyData.leavesShort 70 q.1 && PyData.leavesShort 70 q.2 && PyData.leavesShortKv 70 ds) = true
      rw [a3, b3, i2]; rfl
    · show PyData.weight q.1 + PyData.weight q.2 + 2 + PyData.weightKv ds ≤ _
      rw [List.length_cons]
      omega
    · show max (max (PyData.depth q.1) (PyData.depth q.2)) (PyData.depthKv ds) ≤ 5
      omega
theorem dict_rp {ds : List (PyData × PyData)} (h : ∀ q ∈ ds, smD q.1 = true ∧ smD q.2 = true) (l : ds.length ≤ 20) : Rp (.dict ds) := by
  obtain ⟨i1, i2, i3, i4⟩ := smKv h
  refine rp_big ?_ ?_ ?_ ?_
  · simp only [PyData.showable]; exact i1
  · simp only [PyData.depth]; omega
  · simp only [PyData.leavesShort]; exact i2
  · simp only [PyData.weight]; omega
theorem rep_data {P : Program} {w : World} {N : Addr → Prop} {H : Hp} {v : V} {d : PyData} (h : DA N H v d) (r : Rp d) : RepIs P w H v d.shown := .inl ⟨N, d, h, r.1, r.2.1, r.2.2, rfl⟩
/-- entries of small data -/
def Ent1 (N : Addr → Prop) (H : Hp) (q : Key × V) : Prop := smD (kP q.1) = true ∧ ∃ d, DA N H q.2 d ∧ smD d = true
def Ent2 (N : Addr → Prop) (H : Hp) (x : ME) : Prop := KOk H x ∧ smD (mP x.1) = true ∧ ∃ d, DA N H x.2.2 d ∧ smD d = true
theorem Ent1.same {N : Addr → Prop} {H H' : Hp} {q : Key × V} (s : Same H H') (h : Ent1 N H q) : Ent1 N H' q := ⟨h.1, h.2.imp fun d z => ⟨DA.same s z.1, z.2⟩⟩
theorem Ent2.same {N : Addr → Prop} {H H' : Hp} {q : ME} (s : Same H H') (h : Ent2 N H q) : Ent2 N H' q := ⟨h.1.same s, h.2.1, h.2.2.imp fun d z => ⟨DA.same s z.1, z.2⟩⟩
theorem rep_dK {P : Program} {w : World} {N : Addr → Prop} {H : Hp} {a : Addr} {kvs : List (Key × V)} (h : H a = some (.dK kvs)) (n : ¬ N a) (l : kvs.length ≤ 20) (e : ∀ q ∈ kvs, Ent1 N H q) : ∃ x, RepIs P w H (.ref a) x := by
  have key : ∀ {kvs : List (Key × V)}, (∀ q ∈ kvs, Ent1 N H q) → ∃ ds, DKs N H kvs ds ∧ (∀ q ∈ ds, smD q.1 = true ∧ smD q.2 = true) ∧ ds.length = kvs.length := by
    intro kvs
    induction kvs with
    | nil => intro _; exact ⟨[], .nil, (fun _ z => nomatch z), rfl⟩
    | cons q kvs ih =>
      intro g
      obtain ⟨ds, d1, d2, d3⟩ := ih fun p hp => g p (List.mem_cons_of_mem _ hp)
      obtain ⟨e1, d, e2, e3⟩ := g q List.mem_cons_self
      refine ⟨(kP q.1, d) :: ds, .cons e2 d1, fun p hp => ?_, by rw [List.length_cons, List.length_cons, d3]⟩
      rcases List.mem_cons.mp hp with z | z
      · rw [z]; exact ⟨e1, e3⟩
      · exact d2 p z
  obtain ⟨ds, d1, d2, d3⟩ := key e
  exact ⟨_, rep_data (.dK h n d1) (dict_rp d2 (by omega))⟩
theorem rep_OD {P : Program} {w : World} {N : Addr → Prop} {H : Hp} {a : Addr} {xs : List ME} (h : H a = some (OD P w a xs)) (l : xs.length ≤ 20) (e : ∀ q ∈ xs, Ent2 N H q) : ∃ x, RepIs P w H (.ref a) x := by
  have key : ∀ {xs : List ME}, (∀ q ∈ xs, Ent2 N H q) → ∃ ds, MDs N H xs ds ∧ (∀ q ∈ ds, smD q.1 = true ∧ smD q.2 = true) ∧ ds.length = xs.length := by
    intro xs
    induction xs with
    | nil => intro _; exact ⟨[], .nil, (fun _ z => nomatch z), rfl⟩
    | cons q xs ih =>
      intro g
      obtain ⟨ds, d1, d2, d3⟩ := ih fun p hp => g p (List.mem_cons_of_mem _ hp)
      obtain ⟨e0, e1, d, e2, e3⟩ := g q List.mem_cons_self
      refine ⟨(mP q.1, d) :: ds, .cons e0 e2 d1, fun p hp => ?_, by rw [List.length_cons, List.length_cons, d3]⟩
      rcases List.mem_cons.mp hp with z | z
      · rw [z]; exact ⟨e1, e3⟩
      · exact d2 p z
  obtain ⟨ds, d1, d2, d3⟩ := key e
  have r := dict_rp d2 (by omega)
  exact ⟨_, .inr ⟨N, a, xs, ds, rfl, h, d1, r.1, r.2.1, r.2.2, rfl⟩⟩
end Fs
set_option Elab.async false
set_option linter.all false
set_option maxRecDepth 100000
set_option maxHeartbeats 4000000
/-! FxJ: a promise under no repr of a def found in the written part; rows cut; what stays while tables grow -/
namespace Fs
open PySem PySem.Spec PyProof.Rows L2 Fh
open PySem.W (Frag)
theorem seq_cut {t u : TS} {D : _} {σ : L2.St} {H : Hp} (σ' : L2.St) (inv : Hp → Prop) (key : ∀ NX : L2.St → Hp → Prop, (∀ Hc, inv Hc → NX σ' Hc) → t { D with nx := NX } σ H) (rest : ∀ Hc, inv Hc → u D σ' Hc) : tSeq t u D σ H := key (u D) rest
theorem seq_cutS {t u : TS} {D : _} {σ : L2.St} {H : Hp} (inv : L2.St → Hp → Prop) (key : ∀ NX : L2.St → Hp → Prop, (∀ σ' Hc, inv σ' Hc → NX σ' Hc) → t { D with nx := NX } σ H) (rest : ∀ σ' Hc, inv σ' Hc → u D σ' Hc) : tSeq t u D σ H := key (u D) rest
theorem gName_go {i : Nat} {v : V} {σ : L2.St} {H : Hp} {Q : L2.St → Hp → Prop} (h : Q (σ.set i (some v)) H) : gName i v σ H Q := h
theorem tabs_but {T : List (Addr × Str)} {H H' : Hp} {p : Addr} {u : HO} (t : LamX.Tabs T H) (hp : H p = some u) (n1 : ∀ ps, u ≠ .tbl ps) (n2 : ∀ c q, u ≠ LamX.CodeO c q) (b : But p H H') : LamX.Tabs T H' := fun x hx => by
  obtain ⟨ps, h1, h2, h3⟩ := t x hx
  refine ⟨ps, b _ _ (fun e => ?_) h1, h2, fun pos cv hc => ?_⟩
  · rw [e, hp] at h1
    exact n1 _ (Option.some.inj h1)
  · obtain ⟨c, e1, e2⟩ := h3 pos cv hc
    refine ⟨c, e1, b _ _ (fun e => ?_) e2⟩
    rw [e, hp] at e2
    exact n2 _ _ (Option.some.inj e2)
theorem tabs_pen {T : List (Addr × Str)} {H H' : Hp} {p c : Addr} {n : Nat} (t : LamX.Tabs T H) (P : PenAt H p c n) (b : But p H H') : LamX.Tabs T H' := by
  obtain ⟨cs, s, r, S, _⟩ := P.open
  exact tabs_but t S.hp (fun _ z => nomatch z) (fun _ _ z => by unfold LamX.CodeO at z; cases z) b
theorem pen_ext {H H' : Hp} {p c : Addr} {n : Nat} (e : LamX.ExtN H H') (h : PenAt H p c n) : PenAt H' p c n := by
  obtain ⟨a, cs, s, r, h1, h2, h3, h4, h5⟩ := h
  exact ⟨a, cs, s, r, e _ _ h1 (fun _ z => nomatch z), e _ _ h2 (fun _ z => nomatch z), h3, h4, h5⟩
mutual
theorem da_ext {N : Addr → Prop} {H H' : Hp} (s : LamX.ExtN H H') : ∀ {v : V} {d : PyData}, DA N H v d → DA N H' v d
  | _, _, .non => .non
  | _, _, .bl b => .bl b
  | _, _, .int i => .int i
  | _, _, .str x => .str x
  | _, _, .lst h n m r => .lst (s _ _ h (fun _ z => nomatch z)) n m (das_ext s r)
  | _, _, .tup h m r => .tup (s _ _ h (fun _ z => nomatch z)) m (das_ext s r)
  | _, _, .dK h m r => .dK (s _ _ h (fun _ z => nomatch z)) m (dks_ext s r)
theorem das_ext {N : Addr → Prop} {H H' : Hp} (s : LamX.ExtN H H') : ∀ {v : List V} {d : List PyData}, DAs N H v d → DAs N H' v d
  | _, _, .nil => .nil
  | _, _, .cons h r => .cons (da_ext s h) (das_ext s r)
theorem dks_ext {N : Addr → Prop} {H H' : Hp} (s : LamX.ExtN H H') : ∀ {v : List (Key × V)} {d : List (PyData × PyData)}, DKs N H v d → DKs N H' v d
  | _, _, .nil => .nil
  | _, _, .cons h r => .cons (da_ext s h) (dks_ext s r)
end
theorem isD_ext {N : Addr → Prop} {H H' : Hp} {v : V} {d : PyData} (s : LamX.ExtN H H') (h : IsD N H v d) : IsD N H' v d := by
  cases d with
  | none => exact h
  | bool b => exact h
  | int i => exact h
  | str x => exact h
  | list ds => obtain ⟨a, xs, e, n, z, r⟩ := h; exact ⟨a, xs, e, n, s _ _ z (fun _ z => nomatch z), das_ext s r⟩
  | tuple ds => obtain ⟨a, xs, e, n, z, r⟩ := h; exact ⟨a, xs, e, n, s _ _ z (fun _ z => nomatch z), das_ext s r⟩
  | dict kvs => obtain ⟨a, es, e, n, z⟩ := h; exact ⟨a, es, e, n, s _ _ z (fun _ z => nomatch z)⟩
theorem kok_ext {H H' : Hp} {x : ME} (s : LamX.ExtN H H') (k : KOk H x) : KOk H' x := by
  obtain ⟨m, u, v⟩ := x
  cases m with
  | non => exact k
  | key k => assumption
  | tup ks =>
    obtain ⟨q, e, hq⟩ := (show ∃ q, u = .ref q ∧ H q = some (.tup (ks.map kV)) from k)
    exact ⟨q, e, s _ _ hq (fun _ z => nomatch z)⟩
theorem od_ext {P : Program} {w : World} {H H' : Hp} {a : Addr} {xs : List ME} (s : LamX.ExtN H H') (h : H a = some (OD P w a xs)) : H' a = some (OD P w a xs) := s _ _ h (fun _ z => by unfold OD at z; cases z)
theorem mds_ext {N : Addr → Prop} {H H' : Hp} (s : LamX.ExtN H H') {xs : List ME} {ds : List (PyData × PyData)} (m : MDs N H xs ds) : MDs N H' xs ds := by
  induction m with
  | nil => exact .nil
  | cons k d _ ih => exact .cons (kok_ext s k) (da_ext s d) ih
theorem rep_ext {P : Program} {w : World} {H H' : Hp} {v : V} {x : Str} (s : LamX.ExtN H H') (h : RepIs P w H v x) : RepIs P w H' v x := by
  rcases h with ⟨N, d, h1, h⟩ | ⟨N, a, ms, ds, e, h1, h2, h⟩
  · exact .inl ⟨N, d, da_ext s h1, h⟩
  · exact .inr ⟨N, a, ms, ds, e, od_ext s h1, mds_ext s h2, h⟩
/-- a def's promise under no repr, its code in hand -/
theorem fnG_of {CX : CXT} {P : Program} {w : World} {K : Frag} {mg : Str → Option Value} {base : Heap} {k : Nat} {f : Addr} {name qual : Str} {params : Arguments} {body : List Stmt} {scope : Scope} {dV kV doc pm cdv ct oc : Value} {an od : Option Addr}
    {osl : Array (Option Value)} {N ps : List Str} {sp : Sp} (lk : K.lookup f = some ⟨oc, od, .func (PySem.W.fnOf name qual params body scope dV kV doc pm an cdv ct), osl⟩) (hcd : PySem.W.codeIn K cdv qual = true) (S : FnScope N ps scope)
    (len : ∀ vs H Q E, sp vs H Q E → vs.length = ps.length)
    (hbody : ∀ (A : Around) (outer : List Env) (s : Shared) (H : Hp) (vs : List V) (Q : VK) (E : XK), A.guards = some [] → Room k (A.deeper (envOfC qual scope s.heap.objs.size f cdv)) → sp vs H Q E →
      ∃ t, PSs (cxOf CX P w K mg base N qual scope f cdv A outer s H E) body t ∧ t { nx := fun _ H' => Q .non H', rt := Q } (L2.start N vs) H) :
    FnG P w K mg base CX (k + 1) f (PySem.W.fnOf name qual params body scope dV kV doc pm an cdv ct) ps sp := by
  refine ⟨len, fun A outer s H args us vs Q E hg hr e0 hb rv hsp => ?_⟩
  have nvs := len vs H Q E hsp
  have inK : K.In s.heap := e0.mod.kin.keeps (fun b o z => (e0.bs b o z).1)
  have nolim : s.heap.NoLimit := e0.mod.nolimit.keeps (fun b o z => (e0.bs b o z).1)
  have kinds : ∀ y ∈ ps.zip us, scope.names.lookup y.1 = some .local ∨ (scope.names.lookup y.1 = some .cell ∧ ((cellsFrom (s.heap.objs.size + 1) scope.names []).lookup y.1).isSome = true) := by
    rintro ⟨n, v⟩ hy
    cases S.par n (List.of_mem_zip hy).1 with
    | inl q => exact Or.inl q
    | inr q => exact Or.inr ⟨q, PySem.W.cellsFrom_some _ _ _ (Or.inl q)⟩
  refine codeAny_call_function hr.depth (inK _ _ lk) rfl S.co S.gen rfl (PySem.W.codeRec_of inK hcd) (hb _ _ _ _ ?_)
  refine wpAny_newFunctionEnv_cells S.kind kinds fun env henv s1 ic => ?_
  subst henv
  refine ⟨nolim.keeps ic.toInCall.keep, codeAny_func ?_⟩
  obtain ⟨t, ht, hq⟩ := hbody A outer s H vs Q E hg (hr.deeper _) hsp
  have J0 : Inv (cxOf CX P w K mg base N qual scope f cdv A outer s H E) [] (start N vs) H s1 := inv_start S hr.hd e0 nvs rv ic
  refine wpAny_mono (ht.run [] s1 (start N vs) H _ J0 hq) ?_ (fun e s' z => z)
  intro fl s' hs
  match fl, hs with
  | .ret u, hs =>
    obtain ⟨v, σ', H', J, ru, q⟩ := hs
    exact ⟨v, H', J.os, J.bare, J.base, J.hok, ru, q⟩
  | .next, hs =>
    obtain ⟨σ', H', J, q⟩ := hs
    exact ⟨V.non, H', J.os, J.bare, J.base, J.hok, rfl, q⟩
  | .brk, hs =>
    obtain ⟨_, _, _, q⟩ := hs
    exact q.elim
  | .cont, hs =>
    obtain ⟨_, _, _, q⟩ := hs
    exact q.elim
end Fs
set_option Elab.async false
set_option linter.all false
set_option maxRecDepth 100000
set_option maxHeartbeats 8000000
namespace Fp4
open PySem PySem.Spec PyProof.Rows L2 Fh Fs
open PySem.W (Frag)
def top (i : Nat) : Stmt := PySem.Challenge.pw_fewhands_k24_whole_texts_of_plans_bent.main.body.getD i (.Pass ⟨0, 0, 0, 0⟩)
abbrev sIwp : Stmt := top 11
abbrev sHrn : Stmt := top 12
abbrev sWe : Stmt := top 17
abbrev sNp : Stmt := top 18
abbrev sRps : Stmt := top 19
abbrev sRp : Stmt := top 20
abbrev sRd : Stmt := top 24
/-! ### an own reader: what a text is up to where it goes wrong -/
abbrev abcL : List Nat := (Str.ofString "abcdefghijklmnopqrstuvwxyz").cps.toList
def isL (c : Nat) : Bool := decide (c ∈ abcL)
def weF : Nat → List Nat → Nat → Nat
  | 0, _, e => e
  | m + 1, t, e => match t[e]? with
    | some c => if isL c = true then weF m t (e + 1) else e
    | none => e
def fewest (z : Str) : Option Int := if z = "then" then some 0 else if z = "either" then some 1 else if z = "any" then some 1 else if z = "again" then some 1 else if z = "beside" then some 2 else none
def most (z : Str) : Option Int := if z = "again" then some 1 else if z = "beside" then some 2 else none
def rightNo (z : Str) (m : Int) : Bool := match fewest z with
  | some f => decide (f ≤ m) && decide (m ≤ (most z).getD m)
  | none => false
inductive RR where
  | ok (e : Nat) (d : PyData) | err (i : Nat)
inductive RN where
  | ok (e : Nat) | err (i : Nat)
def isC (t : List Nat) (e : Nat) (c : Nat) : Bool := decide (t[e]? = some c)
/-- the parts behind a word: ds are read, f the turns that are left -/
def rpF (rec : Nat → Bool → Option RR) (t : List Nat) (z : Str) (b : Bool) : Nat → Nat → List PyData → Option RR
  | 0, _, _ => none
  | m + 1, at_, ds => match rec at_ b with
    | none => none
    | some (.err i) => some (.err i)
    | some (.ok e d) => if isC t e 41 && rightNo z (ds.length + 1 : Nat) then some (.ok (e + 1) (.tuple (.str z :: (ds ++ [d]))))
      else if !(rightNo z (ds.length + 2 : Nat) && isC t e 44) then some (.err e)
      else if !(isC t (e + 1) 32) then some (.err (e + 1))
      else rpF rec t z b m (e + 2) (ds ++ [d])
def wordAt (t : List Nat) (a e : Nat) : Str := ⟨((t.drop a).take (e - a)).toArray⟩
def rdF : Nat → List Nat → Nat → Bool → Option RR
  | 0, _, _, _ => none
  | n + 1, t, a, b =>
    if weF 8 t a = a then some (.err a)
    else if !(isC t (weF 8 t a) 40) then some (.ok (weF 8 t a) (.str (wordAt t a (weF 8 t a))))
    else if !(fewest (wordAt t a (weF 8 t a))).isSome || (b && decide (wordAt t a (weF 8 t a) = "beside")) then some (.err (weF 8 t a))
    else if decide (wordAt t a (weF 8 t a) = "then") && isC t (weF 8 t a + 1) 41 then some (.ok (weF 8 t a + 2) (.tuple [.str "then"]))
    else rpF (rdF n t) t (wordAt t a (weF 8 t a)) (b || decide (wordAt t a (weF 8 t a) = "beside")) (t.length + 1) (weF 8 t a + 1) []
/-- what a text is: a plan, or wrong at a place -/
inductive RT where
  | plan (d : PyData) | at_ (i : Nat)
def readF (n : Nat) (t : List Nat) : Option RT := match rdF n t 0 false with
  | some (.err i) => some (.at_ i)
  | some (.ok e d) => if e < t.length then some (.at_ e) else some (.plan d)
  | none => none
/-! ### what the written part says -/
def relI : Option Int → Option Value → Prop
  | none, r => r = none
  | some i, r => ∃ t, r = some (.int i t)
structure TxtR (K : Frag) (mg : Str → Option Value) (w : World) (aF aM aD CE aE : Addr) : Prop where
  isinstance : mg "isinstance" = none
  str : mg "str" = none
  len : mg "len" = none
  LETTERS : ∃ u, mg "LETTERS" = some (.str "abcdefghijklmnopqrstuvwxyz" u)
  LONGEST : ∃ u, mg "LONGEST" = some (.int 8 u)
  gF : mg "FEWEST" = some (.ref aF)
  gM : mg "MOST" = some (.ref aM)
  gD : mg "DONE" = some (.ref aD)
  sD : ∀ H, SqT K H aD [.str "then"]
  dF : ∃ es n, KDict K w aF es n
  dM : ∃ es n, KDict K w aM es n
  fF : ∀ z, ∃ r, PySem.W.nsIn K aF z = some r ∧ relI (fewest z) r
  fM : ∀ z, ∃ r, PySem.W.nsIn K aM z = some r ∧ relI (most z) r
  ET : PySem.ErrN.ErrNxt K mg CE aE
section
variable {P : Program} {w : World} {K : Frag} {mg : Str → Option Value} {base : Heap} {aF aM aD CE aE : Addr}
theorem relI_some {o : Option Int} {r : Option Value} (h : relI o r) : r.isSome = o.isSome := by
  cases o with
  | none => rw [show r = none from h]; rfl
  | some i =>
    obtain ⟨t, rfl⟩ := h
    rfl
/-! ### the functions -/
def spIwp : Sp := fun vs H Q _ => ∃ z, vs = [.str z] ∧ Q (.bl (fewest z).isSome) H
theorem scIwp : FnScope ["value"] ["value"] (defScope sIwp) := ⟨rfl, rfl, rfl, by decide +kernel, rfl, by decide +kernel, by decide +kernel⟩
theorem ok_iwp {f : Addr} {fd : FuncData} (F : Fun K "is_word_of_plans" "is_word_of_plans" sIwp f fd) (T : TxtR K mg w aF aM aD CE aE) : FnOk P w K mg base CX0 1 f fd ["value"] spIwp := by
  refine F.ok scIwp (fun vs H Q E h => ?_) (fun cdv A outer s H vs Q E hr h => ?_)
  · obtain ⟨z, rfl, _⟩ := h
    rfl
  · obtain ⟨z, rfl, k⟩ := h
    obtain ⟨es, n, D⟩ := T.dF
    refine ⟨_, pss_one (ps_ret (pe_and (pe_callB call_isi (by rfl) T.isinstance (by decide +kernel) (pa_cons (pv 0) (pa_cons (pe_bltn (v := .ty "str") (by rfl) T.str (by decide +kernel) rfl (by decide) (by decide)) pa_nil)))
      (pe_one (pe_cmpR (op_in_kd D) (pv 0) (pe_glob (v := .ref aF) (by rfl) T.gF rfl) (by rfl))))), ?_⟩
    obtain ⟨r, hr, rl⟩ := T.fF z
    refine ⟨_, rfl, _, _, _, _, true, rfl, .ty _, .base (.str z), (by rfl), true, rfl, iteT ⟨_, rfl, z, r, rfl, rfl, hr, ?_⟩⟩
    rw [relI_some rl]
    exact k
def spHrn : Sp := fun vs H Q _ => ∃ (z : Str) (m : Int), vs = [.str z, .int m] ∧ (fewest z).isSome = true ∧ Q (.bl (rightNo z m)) H
theorem scHrn : FnScope ["word", "many"] ["word", "many"] (defScope sHrn) := ⟨rfl, rfl, rfl, by decide +kernel, rfl, by decide +kernel, by decide +kernel⟩
theorem ok_hrn {f : Addr} {fd : FuncData} (F : Fun K "has_right_number" "has_right_number" sHrn f fd) (T : TxtR K mg w aF aM aD CE aE) : FnOk P w K mg base CX0 1 f fd ["word", "many"] spHrn := by
  refine F.ok scHrn (fun vs H Q E h => ?_) (fun cdv A outer s H vs Q E hr h => ?_)
  · obtain ⟨z, m, rfl, _⟩ := h
    rfl
  · obtain ⟨z, m, rfl, hs, k⟩ := h
    obtain ⟨es, n, D⟩ := T.dF
    obtain ⟨es2, n2, D2⟩ := T.dM
    refine ⟨_, pss_one (ps_ret (pe_chain op_le op_le (pe_ix ix_kdict (pe_glob (v := .ref aF) (by rfl) T.gF rfl) (pv 0) (fun _ _ => rfl)) (pv 1) (pe_kget (pe_glob (v := .ref aM) (by rfl) T.gM rfl) (pv 0) (pv 1) ⟨by rfl, by rfl, by rfl, by rfl⟩))), ?_⟩
    obtain ⟨r, hr1, rl⟩ := T.fF z
    obtain ⟨r2, hr2, rl2⟩ := T.fM z
    cases ef : fewest z with
    | none => rw [ef] at hs; cases hs
    | some i =>
      rw [ef] at rl
      obtain ⟨t, rfl⟩ := rl
      have er : rightNo z m = (decide (i ≤ m) && decide (m ≤ (most z).getD m)) := by unfold rightNo; rw [ef]
      rw [er] at k
      refine ⟨_, rfl, aF, z, .int i, rfl, rfl, ⟨es, n, _, D.at_, D.lit, hr1, ⟨t, rfl⟩⟩, _, rfl, i, m, rfl, rfl, decide (i ≤ m), rfl, ?_⟩
      by_cases h1 : i ≤ m
      · rw [decide_eq_true h1] at k ⊢
        refine iteT ⟨aM, es2, n2, rfl, D2, _, rfl, _, rfl, z, r2, .int ((most z).getD m), rfl, hr2, ?_, m, _, rfl, rfl, k⟩
        cases em : most z with
        | none => rw [em] at rl2; rw [show r2 = none from rl2]; rfl
        | some j =>
          rw [em] at rl2
          obtain ⟨t2, rfl⟩ := rl2
          exact ⟨t2, rfl⟩
      · rw [decide_eq_false h1] at k ⊢
        exact iteF k
def spWe (CE : Addr) : Sp := fun vs H Q E => ∃ (z : Str) (a : Nat), vs = [.str z, .int a] ∧ z.length ≤ sizeLine ∧
  (weF 8 z.cps.toList a ≠ a → Q (.int (weF 8 z.cps.toList a)) H) ∧ (weF 8 z.cps.toList a = a → ∀ dd H', Same H H' → H' dd = some (.xd [("index", .int a)]) → E (.ref CE) (some dd) H')
theorem scWe : FnScope ["text", "at", "end"] ["text", "at"] (defScope sWe) := ⟨rfl, rfl, rfl, by decide +kernel, rfl, by decide +kernel, by decide +kernel⟩
theorem ok_we {f : Addr} {fd : FuncData} (F : Fun K "_word_end" "_word_end" sWe f fd) (T : TxtR K mg w aF aM aD CE aE) : FnOk P w K mg base (L2.CX P w) 1 f fd ["text", "at"] (spWe CE) := by
  refine F.okX scWe (fun vs H Q E h => ?_) (fun cdv A outer s H vs Q E hr h => ?_)
  · obtain ⟨z, m, rfl, _⟩ := h
    rfl
  · obtain ⟨z, a, rfl, hz, k1, k2⟩ := h
    obtain ⟨uG, gG⟩ := T.LONGEST
    obtain ⟨uL, gL⟩ := T.LETTERS
    refine ⟨_, pss_cons (ps_set (i := 2) scWe.nd rfl (Or.inl rfl) (pv 1))
      (pss_cons (ps_while (passes_of rfl) (PW.pt (pw_and (pt_cmpR op_lt (pv 2) (pe_callB call_len_str (by rfl) T.len PySem.boot_len (pa_cons (pv 0) pa_nil)) (nomark _))
        (pw_and (pt_cmpR op_lt (pe_op op_sub (pv 2) (pv 1)) (pe_glob (v := .int 8) (by rfl) gG ⟨_, rfl⟩) (nomark _))
        (pw_and1 (pt_cmpR op_in_sign (pe_ix ix_str (pv 0) (pv 2) (fun _ _ => rfl)) (pe_glob (v := .str "abcdefghijklmnopqrstuvwxyz") (by rfl) gL ⟨_, rfl⟩) (by rfl))))))
        (pss_one (ps_aug (i := 2) scWe.nd rfl (Or.inl rfl) pe_int ip_add)))
      (pss_cons (ps_if (pt_cmpR op_eq (pv 2) (pv 1) (nomark _)) (pss_one (ps_raiseErrN rfl T.ET hr (takes_of rfl rfl rfl rfl) (by exact (pa_cons (pv 1) pa_nil)))) pss_nil)
      (pss_one (ps_ret (pv 2))))), ?_⟩
    refine ⟨_, rfl, ?_⟩
    show tSeq (tWhile _ _) _ _ _ _
    refine seq_cutS (fun σ Hc => Hc = H ∧ σ = [some (V.str z), some (.int (a : Int)), some (.int (weF 8 z.cps.toList a : Int))]) ?_ ?_
    · intro NX r
      refine ⟨fun m σ Hc => ∃ e : Nat, Hc = H ∧ σ = [some (V.str z), some (.int (a : Int)), some (.int (e : Int))] ∧ weF m z.cps.toList e = weF 8 z.cps.toList a ∧ e + m = a + 8, ⟨8, a, rfl, rfl, rfl, rfl⟩, ?_⟩
      rintro m σ Hc ⟨e, rfl, rfl, he, hm⟩
      have lz : z.cps.toList.length = z.length := Array.length_toList
      refine ⟨_, rfl, _, rfl, z, rfl, hz, _, _, rfl, rfl, decide ((e : Int) < z.length), rfl, ?_⟩
      by_cases h1 : e < z.length
      · rw [decide_eq_true (show (e : Int) < z.length by omega)]
        refine iteT ⟨_, rfl, _, rfl, _, _, rfl, rfl, _, _, rfl, rfl, decide ((e : Int) - a < 8), rfl, ?_⟩
        cases m with
        | zero =>
          rw [decide_eq_false (show ¬ (e : Int) - a < 8 by omega)]
          refine iteF (iteF (r _ _ ⟨rfl, ?_⟩))
          rw [← he]
          rfl
        | succ m =>
          rw [decide_eq_true (show (e : Int) - a < 8 by omega)]
          have hc : z.cps.toList[e]? = some z.cps.toList[e] := List.getElem?_eq_getElem (by omega)
          generalize z.cps.toList[e] = ch at hc
          refine iteT ⟨_, rfl, _, rfl, z, (e : Int), ch, rfl, rfl, hz, ?_, ch, _, rfl, rfl, decide (ch ∈ abcL), rfl, ?_⟩
          · exact atI_nat hc
          have hw : weF (m + 1) z.cps.toList e = if isL ch = true then weF m z.cps.toList (e + 1) else e := by
            show (match z.cps.toList[e]? with | some c => if isL c = true then weF m z.cps.toList (e + 1) else e | none => e) = _
            rw [hc]
          rw [hw] at he
          cases hl : isL ch with
          | true =>
            rw [show decide (ch ∈ abcL) = true from hl]
            rw [if_pos hl] at he
            refine iteT ⟨fun σ' H' => H' = Hc ∧ σ' = [some (V.str z), some (.int (a : Int)), some (.int ((e + 1 : Nat) : Int))], ?_, ?_⟩
            · rintro σ' H' ⟨rfl, rfl⟩
              exact ⟨m, Nat.lt_succ_self m, e + 1, rfl, rfl, he, by omega⟩
            · exact ⟨_, rfl, _, _, rfl, rfl, rfl, rfl⟩
          | false =>
            rw [show decide (ch ∈ abcL) = false from hl]
            rw [if_neg (by rw [hl]; exact Bool.false_ne_true)] at he
            refine iteF (r _ _ ⟨rfl, ?_⟩)
            rw [← he]
      · rw [decide_eq_false (show ¬ (e : Int) < z.length by omega)]
        refine iteF (iteF (r _ _ ⟨rfl, ?_⟩))
        have hc : z.cps.toList[e]? = none := List.getElem?_eq_none (by omega)
        cases m with
        | zero => rw [← he]; rfl
        | succ m =>
          rw [← he]
          show _ = [some (V.str z), some (.int (a : Int)), some (.int ((match z.cps.toList[e]? with | some c => if isL c = true then weF m z.cps.toList (e + 1) else e | none => e : Nat) : Int))]
          rw [hc]
    · rintro σ Hc ⟨rfl, rfl⟩
      by_cases h : weF 8 z.cps.toList a = a
      · refine ⟨_, rfl, _, rfl, rfl, true, by rw [h]; exact congrArg V.bl (decide_eq_true rfl), iteT ⟨_, rfl, _, rfl, fun dd ndd => ?_⟩⟩
        exact k2 h dd _ (Same.new ndd) upd_same
      · refine ⟨_, rfl, _, rfl, rfl, false, congrArg V.bl (decide_eq_false fun e => h (by injection e with e; omega)), iteF ⟨_, rfl, k1 h⟩⟩
theorem cut_cps (z : Str) (a b : Nat) (h : a ≤ b) : (cutS z (some (a : Int)) (some (b : Int))).cps.toList = (z.cps.toList.drop a).take (b - a) := by
  have lz : z.cps.toList.length = z.length := Array.length_toList
  have e : ∀ (d x : Nat), HT.sIx z.length d (some (x : Int)) = min x z.length := fun d x => HT.sIx_nat _ _ _
  unfold cutS
  rw [e, e]
  simp only [List.toList_toArray]
  by_cases h1 : a ≤ z.length
  · rw [Nat.min_eq_left h1]
    by_cases h2 : b ≤ z.length
    · rw [Nat.min_eq_left h2]
    · rw [Nat.min_eq_right (by omega)]
      rw [List.take_of_length_le (by rw [List.length_drop]; omega), List.take_of_length_le (by rw [List.length_drop]; omega)]
  · rw [Nat.min_eq_right (by omega), List.drop_of_length_le (by omega), List.drop_of_length_le (by omega), List.take_nil, List.take_nil]
theorem str_of_list {z : Str} {l : List Nat} (h : z.cps.toList = l) : z = ⟨l.toArray⟩ := by
  obtain ⟨c⟩ := z
  rw [← h]
theorem cut_is (z : Str) (a c : Nat) : decide (V.str (cutS z (some (a : Int)) (some ((a : Int) + 1))) = V.str ⟨#[c]⟩) = isC z.cps.toList a c := by
  have e : cutS z (some (a : Int)) (some ((a : Int) + 1)) = ⟨((z.cps.toList.drop a).take 1).toArray⟩ := by
    have h := str_of_list (cut_cps z a (a + 1) (Nat.le_succ a))
    rw [show a + 1 - a = 1 by omega] at h
    exact h
  rw [e]
  unfold isC
  have e2 : (z.cps.toList.drop a).take 1 = (match z.cps.toList[a]? with | some c => [c] | none => []) := by
    rw [List.take_one, List.head?_drop]
    cases z.cps.toList[a]? <;> rfl
  rw [e2]
  cases hc : z.cps.toList[a]? with
  | none =>
    rw [decide_eq_false (by intro h; injection h with h; injection h with h; cases congrArg Array.toList h), decide_eq_false (fun h => nomatch h)]
  | some x =>
    by_cases hx : x = c
    · rw [hx, decide_eq_true rfl, decide_eq_true rfl]
    · rw [decide_eq_false (by intro h; injection h with h; injection h with h; have h := congrArg Array.toList h; injection h with h; exact hx h), decide_eq_false (fun h => hx (Option.some.inj h))]
def npF (t : List Nat) (z : Str) (a m : Nat) : RN := if !(rightNo z (m + 1 : Nat) && isC t a 44) then .err a else if !(isC t (a + 1) 32) then .err (a + 1) else .ok (a + 2)
/-- an end: at e, or the error at i -/
def RRto (CE : Addr) (H : Hp) (r : RN) (Q : VK) (E : XK) (ok : Nat → Prop) : Prop := (∀ e, r = .ok e → ok e) ∧ ∀ i, r = .err i → ∀ dd H', Same H H' → H' dd = some (.xd [("index", .int (i : Int))]) → E (.ref CE) (some dd) H'
def spNp (CE : Addr) : Sp := fun vs H Q E => ∃ (z y : Str) (a m : Nat), vs = [.str z, .int a, .str y, .int m] ∧ z.length ≤ sizeLine ∧ (fewest y).isSome = true ∧ RRto CE H (npF z.cps.toList y a m) Q E fun e => Q (.int e) H
theorem scNp : FnScope ["text", "at", "word", "many"] ["text", "at", "word", "many"] (defScope sNp) := ⟨rfl, rfl, rfl, by decide +kernel, rfl, by decide +kernel, by decide +kernel⟩
theorem ok_np {f aH : Addr} {fd fH : FuncData} (F : Fun K "_next_part" "_next_part" sNp f fd) (FH : Fun K "has_right_number" "has_right_number" sHrn aH fH) (gH : mg "has_right_number" = some (.ref aH)) (T : TxtR K mg w aF aM aD CE aE) : FnOk P w K mg base (L2.CX P w) 2 f fd ["text", "at", "word", "many"] (spNp CE) := by
  have GH : FnOk P w K mg base CX0 1 aH fH ["word", "many"] spHrn := ok_hrn FH T
  have bH : Binds K fH ["word", "many"] [] := FH.binds (ps := ["word", "many"]) fun _ _ _ _ _ _ us hl => match us, hl with | [_, _], _ => rfl
  refine F.okX scNp (fun vs H Q E h => ?_) (fun cdv A outer s H vs Q E hr h => ?_)
  · obtain ⟨z, y, a, m, rfl, _⟩ := h
    rfl
  · obtain ⟨z, y, a, m, rfl, hz, hs, k1, k2⟩ := h
    refine ⟨_, pss_cons (ps_if (PW.pt (pw_or (pt_not (pt_val (pe_call GH hr rfl gH FH.kp bH .nil pass0 (pa_cons (pv 2) (pa_cons (pe_op op_add (pv 3) pe_int) pa_nil)))))
      (pw_or1 (pt_cmpR op_ne (pe_slice sl_str (pv 0) (po_some (pv 1)) (po_some (pe_op op_add (pv 1) pe_int))) pe_str (nomark _)))))
      (pss_one (ps_raiseErrN rfl T.ET hr (takes_of rfl rfl rfl rfl) (by exact (pa_cons (pv 1) pa_nil)))) pss_nil)
      (pss_cons (ps_if (pt_cmpR op_ne (pe_slice sl_str (pv 0) (po_some (pe_op op_add (pv 1) pe_int)) (po_some (pe_op op_add (pv 1) pe_int))) pe_str (nomark _))
        (pss_one (ps_raiseErrN rfl T.ET hr (takes_of rfl rfl rfl rfl) (by exact (pa_cons (pe_op op_add (pv 1) pe_int) pa_nil)))) pss_nil)
      (pss_one (ps_ret (pe_op op_add (pv 1) pe_int)))), ?_⟩
    refine ⟨_, rfl, _, rfl, _, _, rfl, rfl, y, (m : Int) + 1, rfl, hs, _, rfl, ?_⟩
    have raise : npF z.cps.toList y a m = .err a → (tRaiseErrN CE (fun cls d _ H => E cls d H) (tCons (tVar 1) tNil)) { nx := fun _ H' => Q V.non H', rt := Q } [some (V.str z), some (.int (a : Int)), some (.str y), some (.int (m : Int))] H := fun e =>
      ⟨_, rfl, _, rfl, fun dd ndd => k2 a e dd _ (Same.new ndd) upd_same⟩
    cases h1 : rightNo y ((m : Int) + 1) with
    | false => exact iteT (iteT (raise (by unfold npF; rw [show ((m + 1 : Nat) : Int) = (m : Int) + 1 by omega, h1]; rfl)))
    | true =>
      refine iteF ⟨_, rfl, _, rfl, _, rfl, _, rfl, _, _, rfl, rfl, _, rfl, z, rfl, hz, rfl, _, rfl, ?_⟩
      rw [show decide (V.str (cutS z (some (a : Int)) (some ((a : Int) + 1))) = V.str (Str.ofString ",")) = isC z.cps.toList a 44 from cut_is z a 44]
      cases h2 : isC z.cps.toList a 44 with
      | false => exact iteT (raise (by unfold npF; rw [show ((m + 1 : Nat) : Int) = (m : Int) + 1 by omega, h1, h2]; rfl))
      | true =>
        refine iteF ⟨_, rfl, _, rfl, _, _, rfl, rfl, _, rfl, _, rfl, _, _, rfl, rfl, _, rfl, z, rfl, hz, rfl, _, rfl, ?_⟩
        rw [show decide (V.str (cutS z (some ((a : Int) + 1)) (some ((a : Int) + 2))) = V.str (Str.ofString " ")) = isC z.cps.toList (a + 1) 32 from cut_is z (a + 1) 32]
        cases h3 : isC z.cps.toList (a + 1) 32 with
        | false => exact iteT ⟨_, rfl, _, _, rfl, rfl, _, rfl, fun dd ndd => k2 (a + 1) (by unfold npF; rw [show ((m + 1 : Nat) : Int) = (m : Int) + 1 by omega, h1, h2, h3]; rfl) dd _ (Same.new ndd) upd_same⟩
        | true => exact iteF ⟨_, rfl, _, _, rfl, rfl, k1 (a + 2) (by unfold npF; rw [show ((m + 1 : Nat) : Int) = (m : Int) + 1 by omega, h1, h2, h3]; rfl)⟩
end
end Fp4
set_option Elab.async false
set_option linter.all false
set_option maxRecDepth 100000
set_option maxHeartbeats 8000000
namespace Fp4
open PySem PySem.Spec PyProof.Rows L2 Fh Fs
open PySem.W (Frag)
section
variable {P : Program} {w : World} {K : Frag} {mg : Str → Option Value} {base : Heap} {aF aM aD CE aE : Addr}
theorem same_off {H H' : Hp} {l : Addr} {o : HO} (s : Same H H') (n : H l = none) : Same H (upd H' l o) := fun b u z => by
  rw [upd_ne (fun e => by rw [e, n] at z; cases z)]
  exact s _ _ z
/-- a tuple (what was read, where it ends) is told, or the error -/
def TellTo (K : Frag) (CE : Addr) (H : Hp) (r : RR) (Q : VK) (E : XK) : Prop := (∀ e d, r = .ok e d → ∀ q x H', Same H H' → H q = none → H' q = some (.tup [x, .int (e : Int)]) → Pl K H' x d → Q (.ref q) H') ∧
  ∀ i, r = .err i → ∀ dd H', Same H H' → H' dd = some (.xd [("index", .int (i : Int))]) → E (.ref CE) (some dd) H'
def spRd (K : Frag) (CE : Addr) (n : Nat) : Sp := fun vs H Q E => ∃ (z : Str) (a : Nat) (b : Bool) (r : RR), vs = [.str z, .int a, .bl b] ∧ z.length ≤ 1000000 ∧ rdF n z.cps.toList a b = some r ∧ TellTo K CE H r Q E
def rpsF (n : Nat) (t : List Nat) (y : Str) (b : Bool) (a : Nat) : Option RR := if decide (y = "then") && isC t a 41 then some (.ok (a + 1) (.tuple [.str "then"])) else rpF (rdF n t) t y b (t.length + 1) a []
def spRps (K : Frag) (CE : Addr) (n : Nat) : Sp := fun vs H Q E => ∃ (z y : Str) (a : Nat) (b : Bool) (r : RR), vs = [.str z, .int a, .str y, .bl b] ∧ z.length ≤ 1000000 ∧ (fewest y).isSome = true ∧ rpsF n z.cps.toList y b a = some r ∧ TellTo K CE H r Q E
theorem scRps : FnScope ["text", "at", "word", "is_within", "parts", "part"] ["text", "at", "word", "is_within"] (defScope sRps) := ⟨rfl, rfl, rfl, by decide +kernel, rfl, by decide +kernel, by decide +kernel⟩
theorem scRp : FnScope ["text", "at", "is_within", "end", "word"] ["text", "at", "is_within"] (defScope sRp) := ⟨rfl, rfl, rfl, by decide +kernel, rfl, by decide +kernel, by decide +kernel⟩
theorem ok_rps {n k : Nat} {f aR aH aN : Addr} {fd fR fH fN : FuncData} (h2 : 2 ≤ k) (F : Fun K "_read_parts" "_read_parts" sRps f fd) (FR : Fun K "read_part" "read_part" sRp aR fR) (FH : Fun K "has_right_number" "has_right_number" sHrn aH fH) (FN : Fun K "_next_part" "_next_part" sNp aN fN)
    (gR : mg "read_part" = some (.ref aR)) (gH : mg "has_right_number" = some (.ref aH)) (gN : mg "_next_part" = some (.ref aN)) (T : TxtR K mg w aF aM aD CE aE)
    (GR : FnOk P w K mg base (L2.CX P w) k aR fR ["text", "at", "is_within"] (spRd K CE n)) : FnOk P w K mg base (L2.CX P w) (k + 1) f fd ["text", "at", "word", "is_within"] (spRps K CE n) := by
  have GH : FnOk P w K mg base CX0 1 aH fH ["word", "many"] spHrn := ok_hrn FH T
  have GN : FnOk P w K mg base (L2.CX P w) 2 aN fN ["text", "at", "word", "many"] (spNp CE) := ok_np FN FH gH T
  have bH : Binds K fH ["word", "many"] [] := FH.binds (ps := ["word", "many"]) fun _ _ _ _ _ _ us hl => match us, hl with | [_, _], _ => rfl
  have bN : Binds K fN ["text", "at", "word", "many"] [] := FN.binds (ps := ["text", "at", "word", "many"]) fun _ _ _ _ _ _ us hl => match us, hl with | [_, _, _, _], _ => rfl
  have bR : Binds K fR ["text", "at", "is_within"] [] := FR.binds (ps := ["text", "at", "is_within"]) fun _ _ _ _ _ _ us hl => match us, hl with | [_, _, _], _ => rfl
  refine F.okX scRps (fun vs H Q E h => ?_) (fun cdv A outer s H vs Q E hr h => ?_)
  · obtain ⟨z, y, a, b, r, rfl, _⟩ := h
    rfl
  · obtain ⟨z, y, a, b, r, rfl, hz, hs, er, k1, k2⟩ := h
    have hr1 : Room 1 _ := hr.mono (by omega)
    have hr2 : Room 2 _ := hr.mono h2
    refine' ⟨_, pss_cons ?s1 (pss_cons ?s2 (pss_one (ps_while (passes_of rfl) (pt_val pe_bl) (pss_cons ?s3 (pss_cons ?s4 (pss_cons ?s5 (pss_one ?s6))))))), ?q⟩
    case s1 =>
      refine' ps_if (PW.pt (pw_and ?a (pw_and1 ?b))) (pss_one (ps_ret (pe_tup (pa_cons ?c (pa_cons (pe_op op_add (pv 1) pe_int) pa_nil))))) pss_nil
      case a => exact pt_cmpR op_eq (pv 2) pe_str (nomark _)
      case b => exact pt_cmpR op_eq (pe_slice sl_str (pv 0) (po_some (pv 1)) (po_some (pe_op op_add (pv 1) pe_int))) pe_str (nomark _)
      case c => exact pe_glob (v := .ref aD) (by rfl) T.gD rfl
    case s2 => exact ps_set (i := 4) scRps.nd rfl (Or.inl rfl) (pe_lst pa_nil)
    case s3 => exact ps_asg (pe_call GR hr rfl gR FR.kp bR .nil (passes_call (takes_of rfl rfl rfl rfl) fun _ _ _ _ h => h) (pa_cons (pv 0) (pa_cons (pv 1) (pa_cons (pv 3) pa_nil)))) (pg_tup (n := 2) rfl (pgs_cons (pg_name (i := 5) scRps.nd rfl (Or.inl rfl)) (pgs_cons (pg_name (i := 1) scRps.nd rfl (Or.inl rfl)) pgs_nil)))
    case s4 => exact ps_expr (pe_bm PySem.F.plainAttrs_list PySem.F.slot_list_append PySem.F.type_list_append mt_append (pv 4) (pa_cons (pv 5) pa_nil))
    case s5 =>
      refine' ps_if (PW.pt (pw_and ?a (pw_and1 ?b))) (pss_one (ps_ret (pe_tup (pa_cons (pe_tup (pa_cons (pv 2) (StX.pa_star (pv 4) pa_nil))) (pa_cons (pe_op op_add (pv 1) pe_int) pa_nil))))) pss_nil
      case a => exact pt_cmpR op_eq (pe_slice sl_str (pv 0) (po_some (pv 1)) (po_some (pe_op op_add (pv 1) pe_int))) pe_str (nomark _)
      case b => exact pt_val (pe_call GH hr1 rfl gH FH.kp bH .nil pass0 (pa_cons (pv 2) (pa_cons (pe_callB call_len_seq (by rfl) T.len PySem.boot_len (pa_cons (pv 4) pa_nil)) pa_nil)))
    case s6 => exact ps_set (i := 1) scRps.nd rfl (Or.inl rfl) (pe_call GN hr2 rfl gN FN.kp bN .nil (passes_call (takes_of rfl rfl rfl rfl) fun _ _ _ _ h => h) (pa_cons (pv 0) (pa_cons (pv 1) (pa_cons (pv 2) (pa_cons (pe_callB call_len_seq (by rfl) T.len PySem.boot_len (pa_cons (pv 4) pa_nil)) pa_nil)))))
    case q =>
      have lz : z.cps.toList.length = z.length := Array.length_toList
      have bz : (2000000 : Nat) ≤ sizeLine := by rw [sizeLine_eq]; decide
      have hz2 : z.length ≤ sizeLine := by omega
      show tSeq (tIfS _ _ _) _ _ _ _
      refine seq_cutS (fun σ Hc => Hc = H ∧ σ = [some (V.str z), some (.int (a : Int)), some (.str y), some (.bl b), none, none] ∧ rpF (rdF n z.cps.toList) z.cps.toList y b (z.cps.toList.length + 1) a [] = some r) ?_ ?_
      · intro NX r'
        have go : (decide (y = "then") && isC z.cps.toList a 41) = false → rpF (rdF n z.cps.toList) z.cps.toList y b (z.cps.toList.length + 1) a [] = some r := fun e => by
          unfold rpsF at er
          rw [e] at er
          exact er
        by_cases hy : y = "then"
        · refine ⟨_, rfl, rfl, true, congrArg V.bl (decide_eq_true (by rw [hy])), iteT ⟨_, rfl, _, rfl, _, rfl, _, rfl, _, _, rfl, rfl, _, rfl, z, rfl, hz2, rfl, _, rfl, ?_⟩⟩
          rw [show decide (V.str (cutS z (some (a : Int)) (some ((a : Int) + 1))) = V.str (Str.ofString ")")) = isC z.cps.toList a 41 from cut_is z a 41]
          cases h : isC z.cps.toList a 41 with
          | false => exact iteF (r' _ _ ⟨rfl, rfl, go (by rw [h, Bool.and_false])⟩)
          | true =>
            refine iteT ⟨_, rfl, _, _, rfl, rfl, (show 2 ≤ sizeLine by decide), fun q nq => k1 (a + 1) (.tuple [.str "then"]) ?_ q (.ref aD) _ (Same.new nq) nq upd_same (.tup (T.sD _) (.cons (.str _) .nil))⟩
            unfold rpsF at er
            rw [decide_eq_true hy, h] at er
            exact (Option.some.inj er).symm
        · refine ⟨_, rfl, rfl, false, congrArg V.bl (decide_eq_false fun e => hy (by injection e)), iteF (iteF (r' _ _ ⟨rfl, rfl, go (by rw [decide_eq_false hy]; rfl)⟩))⟩
      rintro σ Hc ⟨rfl, rfl, er2⟩
      clear er
      refine ⟨(show 0 ≤ sizeLine by decide), fun l nl => ?_⟩
      refine gName_go ?_
      refine ⟨fun m σ H2 => ∃ (a' : Nat) (ds : List PyData) (xs : List V) (o : Option V), σ = [some (V.str z), some (.int (a' : Int)), some (.str y), some (.bl b), some (.ref l), o] ∧ H2 l = some (.lst xs) ∧ Pls K H2 xs ds ∧ Same Hc H2 ∧ ds.length + m = z.cps.toList.length + 1 ∧ rpF (rdF n z.cps.toList) z.cps.toList y b m a' ds = some r,
        ⟨_, a, [], [], none, rfl, upd_same, .nil, Same.new nl, Nat.zero_add _, er2⟩, ?_⟩
      rintro m σ H2 ⟨a', ds, xs, o, rfl, hl, lx, s2, hm, e2⟩
      cases m with
      | zero => cases e2
      | succ m =>
        refine ⟨true, rfl, iteT ⟨fun σ' H' => ∃ (a' : Nat) (ds : List PyData) (xs : List V) (o : Option V), σ' = [some (V.str z), some (.int (a' : Int)), some (.str y), some (.bl b), some (.ref l), o] ∧ H' l = some (.lst xs) ∧ Pls K H' xs ds ∧ Same Hc H' ∧ ds.length + m = z.cps.toList.length + 1 ∧ rpF (rdF n z.cps.toList) z.cps.toList y b m a' ds = some r, fun σ' H' w => ⟨m, Nat.lt_succ_self m, w⟩, ?_⟩⟩
        have e3 : rpF (rdF n z.cps.toList) z.cps.toList y b (m + 1) a' ds = (match rdF n z.cps.toList a' b with
          | none => none
          | some (.err i) => some (.err i)
          | some (.ok e d) => if isC z.cps.toList e 41 && rightNo y (ds.length + 1 : Nat) then some (.ok (e + 1) (.tuple (.str y :: (ds ++ [d]))))
            else if !(rightNo y (ds.length + 2 : Nat) && isC z.cps.toList e 44) then some (.err e)
            else if !(isC z.cps.toList (e + 1) 32) then some (.err (e + 1))
            else rpF (rdF n z.cps.toList) z.cps.toList y b m (e + 2) (ds ++ [d])) := rfl
        rw [e3] at e2
        clear e3
        cases er3 : rdF n z.cps.toList a' b with
        | none => rw [er3] at e2; cases e2
        | some r3 =>
          rw [er3] at e2
          refine ⟨_, rfl, _, rfl, _, rfl, z, a', b, r3, rfl, hz, er3, fun e d ee q x H3 s3 nq hq hx => ?_, fun i ei dd H3 s3 hdd => ?_⟩
          · subst ee
            refine ⟨q, _, rfl, SqT.of hq, rfl, x, _, rfl, gName_go ⟨_, _, rfl, gName_go ⟨rfl, ?_⟩⟩⟩
            have hl3 := s3 _ _ hl
            have zz : rpF (rdF n z.cps.toList) z.cps.toList y b m (e + 2) (ds ++ [d]) = some r → m ≠ 0 := fun h h0 => by rw [h0] at h; cases h
            have lx2 := lx.len
            refine ⟨.ref l, rfl, .inl ⟨rfl, _, SqL.of hl3⟩, x, rfl, l, xs, x, rfl, rfl, hl3, by omega, ?_⟩
            have s4 : Same Hc (upd H3 l (.lst (xs ++ [x]))) := same_off (s2.trans s3) nl
            have h4 : (upd H3 l (.lst (xs ++ [x]))) l = some (.lst (xs ++ [x])) := upd_same
            have p4 : Pls K (upd H3 l (.lst (xs ++ [x]))) (xs ++ [x]) (ds ++ [d]) := ((lx.same s3).snoc hx).keep (KeepT.lst hl3)
            have l4 : (xs ++ [x]).length = ds.length + 1 := by rw [List.length_append, lx2]; rfl
            generalize upd H3 l (.lst (xs ++ [x])) = H4 at s4 h4 p4 ⊢
            generalize xs ++ [x] = xs4 at h4 l4 p4
            clear hl3 s3 nq hq hl s2 lx hx lx2
            have p5 : Pls K H4 (xs4 ++ []) (ds ++ [d]) := by rw [List.append_nil]; exact p4
            have np : npF z.cps.toList y e (ds.length + 1) = (if !(rightNo y (ds.length + 2 : Nat) && isC z.cps.toList e 44) then .err e else if !(isC z.cps.toList (e + 1) 32) then .err (e + 1) else .ok (e + 2)) := rfl
            with_reducible conv => whnf
            refine seq_cutS (fun σ H5 => H5 = H4 ∧ σ = [some (V.str z), some (.int (e : Int)), some (.str y), some (.bl b), some (.ref l), some x] ∧ (isC z.cps.toList e 41 && rightNo y (ds.length + 1 : Nat)) = false) ?_ ?_
            · intro NX rr
              refine ⟨_, rfl, _, rfl, _, rfl, _, rfl, _, _, rfl, rfl, _, rfl, z, rfl, hz2, rfl, _, rfl, ?_⟩
              rw [show decide (V.str (cutS z (some (e : Int)) (some ((e : Int) + 1))) = V.str (Str.ofString ")")) = isC z.cps.toList e 41 from cut_is z e 41]
              cases h1 : isC z.cps.toList e 41 with
              | false => exact iteF (iteF (rr _ _ ⟨rfl, rfl, by rw [h1]; rfl⟩))
              | true =>
                refine iteT ⟨_, rfl, _, rfl, l, _, rfl, .inl (SqL.of h4), y, _, rfl, hs, _, rfl, ?_⟩
                rw [l4]
                cases h2 : rightNo y ((ds.length + 1 : Nat) : Int) with
                | false => exact iteF (rr _ _ ⟨rfl, rfl, by rw [h2, Bool.and_false]⟩)
                | true =>
                  refine iteT ⟨_, rfl, _, rfl, l, _, rfl, .inr (SqL.of h4), ?_, fun t nt => ⟨_, rfl, _, _, rfl, rfl, (show 2 ≤ sizeLine by decide), fun q nq => k1 (e + 1) (.tuple (.str y :: (ds ++ [d]))) ?_ q (.ref t) _ ((s4.trans (Same.new nt)).trans (Same.new nq)) (none_back (s4.trans (Same.new nt)) nq) upd_same (.tup (SqT.of ((Same.new nq) _ _ upd_same)) (.cons (.str _) (p5.same ((Same.new nt).trans (Same.new nq)))))⟩⟩
                  · show (V.str y :: (xs4 ++ [])).length ≤ sizeLine
                    rw [List.append_nil, List.length_cons, l4]
                    omega
                  · have e2' : (if isC z.cps.toList e 41 && rightNo y (ds.length + 1 : Nat) then some (RR.ok (e + 1) (.tuple (.str y :: (ds ++ [d])))) else if !(rightNo y (ds.length + 2 : Nat) && isC z.cps.toList e 44) then some (.err e) else if !(isC z.cps.toList (e + 1) 32) then some (.err (e + 1)) else rpF (rdF n z.cps.toList) z.cps.toList y b m (e + 2) (ds ++ [d])) = some r := e2
                    rw [h1, h2] at e2'
                    exact (Option.some.inj e2').symm
            · rintro σ H5 ⟨rfl, rfl, no⟩
              have e2' : (if isC z.cps.toList e 41 && rightNo y (ds.length + 1 : Nat) then some (RR.ok (e + 1) (.tuple (.str y :: (ds ++ [d])))) else if !(rightNo y (ds.length + 2 : Nat) && isC z.cps.toList e 44) then some (.err e) else if !(isC z.cps.toList (e + 1) 32) then some (.err (e + 1)) else rpF (rdF n z.cps.toList) z.cps.toList y b m (e + 2) (ds ++ [d])) = some r := e2
              rw [no] at e2'
              clear e2
              refine ⟨_, rfl, _, rfl, _, rfl, _, rfl, l, _, rfl, .inl (SqL.of h4), z, y, e, ds.length + 1, by rw [l4]; rfl, hz2, hs, fun e4 h5 => ?_, fun i h5 dd H6 s6 hdd => ?_⟩
              · rw [np] at h5
                cases c1 : (rightNo y (ds.length + 2 : Nat) && isC z.cps.toList e 44) with
                | false => rw [c1] at h5; cases h5
                | true =>
                  cases c2 : isC z.cps.toList (e + 1) 32 with
                  | false => rw [c1, c2] at h5; cases h5
                  | true =>
                    rw [c1, c2] at h5 e2'
                    cases h5
                    exact ⟨e + 2, ds ++ [d], xs4, _, rfl, h4, p4, s4, by rw [List.length_append]; show ds.length + 1 + m = _; omega, e2'⟩
              · rw [np] at h5
                refine k2 i ?_ dd H6 (s4.trans s6) hdd
                cases c1 : (rightNo y (ds.length + 2 : Nat) && isC z.cps.toList e 44) with
                | false => rw [c1] at h5 e2'; cases h5; exact (Option.some.inj e2').symm
                | true =>
                  cases c2 : isC z.cps.toList (e + 1) 32 with
                  | false => rw [c1, c2] at h5 e2'; cases h5; exact (Option.some.inj e2').symm
                  | true => rw [c1, c2] at h5; cases h5
          · subst ei
            exact k2 i (Option.some.inj e2).symm dd H3 (s2.trans s3) hdd
theorem weF_ge : ∀ (m : Nat) (t : List Nat) (e : Nat), e ≤ weF m t e
  | 0, _, _ => Nat.le_refl _
  | m + 1, t, e => by
    show e ≤ (match t[e]? with | some c => if isL c = true then weF m t (e + 1) else e | none => e)
    split
    · split
      · exact Nat.le_trans (Nat.le_succ e) (weF_ge m t (e + 1))
      · exact Nat.le_refl _
    · exact Nat.le_refl _
theorem cut_word (z : Str) (a e : Nat) (h : a ≤ e) : cutS z (some (a : Int)) (some (e : Int)) = wordAt z.cps.toList a e := str_of_list (cut_cps z a e h)
theorem ok_rd {n k : Nat} {f aE aS aI : Addr} {fd fE fS fI : FuncData} {aX : Addr} (h1 : 1 ≤ k) (F : Fun K "read_part" "read_part" sRp f fd) (FE : Fun K "_word_end" "_word_end" sWe aE fE) (FS : Fun K "_read_parts" "_read_parts" sRps aS fS) (FI : Fun K "is_word_of_plans" "is_word_of_plans" sIwp aI fI)
    (gE : mg "_word_end" = some (.ref aE)) (gS : mg "_read_parts" = some (.ref aS)) (gI : mg "is_word_of_plans" = some (.ref aI)) (T : TxtR K mg w aF aM aD CE aX)
    (GS : FnOk P w K mg base (L2.CX P w) k aS fS ["text", "at", "word", "is_within"] (spRps K CE n)) : FnOk P w K mg base (L2.CX P w) (k + 1) f fd ["text", "at", "is_within"] (spRd K CE (n + 1)) := by
  have GI : FnOk P w K mg base CX0 1 aI fI ["value"] spIwp := ok_iwp FI T
  have GE : FnOk P w K mg base (L2.CX P w) 1 aE fE ["text", "at"] (spWe CE) := ok_we FE T
  have bI : Binds K fI ["value"] [] := FI.binds (ps := ["value"]) fun _ _ _ _ _ _ us hl => match us, hl with | [_], _ => rfl
  have bE : Binds K fE ["text", "at"] [] := FE.binds (ps := ["text", "at"]) fun _ _ _ _ _ _ us hl => match us, hl with | [_, _], _ => rfl
  have bS : Binds K fS ["text", "at", "word", "is_within"] [] := FS.binds (ps := ["text", "at", "word", "is_within"]) fun _ _ _ _ _ _ us hl => match us, hl with | [_, _, _, _], _ => rfl
  refine F.okX scRp (fun vs H Q E h => ?_) (fun cdv A outer s H vs Q E hr h => ?_)
  · obtain ⟨z, a, b, r, rfl, _⟩ := h
    rfl
  · obtain ⟨z, a, b, r, rfl, hz, er, k1, k2⟩ := h
    have hr1 : Room 1 _ := hr.mono h1
    refine' ⟨_, pss_cons ?s1 (pss_cons ?s2 (pss_cons ?s3 (pss_cons ?s4 (pss_one ?s5)))), ?q⟩
    case s1 => exact ps_set (i := 3) scRp.nd rfl (Or.inl rfl) (pe_call GE hr1 rfl gE FE.kp bE .nil (passes_call (takes_of rfl rfl rfl rfl) fun _ _ _ _ h => h) (pa_cons (pv 0) (pa_cons (pv 1) pa_nil)))
    case s2 => exact ps_set (i := 4) scRp.nd rfl (Or.inl rfl) (pe_slice sl_str (pv 0) (po_some (pv 1)) (po_some (pv 3)))
    case s3 =>
      refine' ps_if ?a (pss_one (ps_ret (pe_tup (pa_cons (pv 4) (pa_cons (pv 3) pa_nil))))) pss_nil
      case a => exact pt_cmpR op_ne (pe_slice sl_str (pv 0) (po_some (pv 3)) (po_some (pe_op op_add (pv 3) pe_int))) pe_str (nomark _)
    case s4 =>
      refine' ps_if (PW.pt (pw_or ?a (pw_or1 (PW.pt (pw_and ?b (pw_and1 ?c)))))) (pss_one (ps_raiseErrN rfl T.ET hr1 (takes_of rfl rfl rfl rfl) ?d)) pss_nil
      case a => exact pt_not (pt_val (pe_call GI hr1 rfl gI FI.kp bI .nil pass0 (pa_cons (pv 4) pa_nil)))
      case b => exact pt_val (pv 2)
      case c => exact pt_cmpR op_eq (pv 4) pe_str (nomark _)
      case d => exact pa_cons (pv 3) pa_nil
    case s5 =>
      refine' ps_ret (pe_call GS hr rfl gS FS.kp bS .nil (passes_call (takes_of rfl rfl rfl rfl) fun _ _ _ _ h => h) (pa_cons (pv 0) (pa_cons (pe_op op_add (pv 3) pe_int) (pa_cons (pv 4) (pa_cons (pe_or (pv 2) (pe_one ?a)) pa_nil)))))
      case a => exact pe_cmpR op_eq (pv 4) pe_str (nomark _)
    case q =>
      have hz2 : z.length ≤ sizeLine := by rw [sizeLine_eq]; omega
      have e0 : rdF (n + 1) z.cps.toList a b = (if weF 8 z.cps.toList a = a then some (RR.err a)
        else if !(isC z.cps.toList (weF 8 z.cps.toList a) 40) then some (.ok (weF 8 z.cps.toList a) (.str (wordAt z.cps.toList a (weF 8 z.cps.toList a))))
        else if !(fewest (wordAt z.cps.toList a (weF 8 z.cps.toList a))).isSome || (b && decide (wordAt z.cps.toList a (weF 8 z.cps.toList a) = "beside")) then some (.err (weF 8 z.cps.toList a))
        else if decide (wordAt z.cps.toList a (weF 8 z.cps.toList a) = "then") && isC z.cps.toList (weF 8 z.cps.toList a + 1) 41 then some (.ok (weF 8 z.cps.toList a + 2) (.tuple [.str "then"]))
        else rpF (rdF n z.cps.toList) z.cps.toList (wordAt z.cps.toList a (weF 8 z.cps.toList a)) (b || decide (wordAt z.cps.toList a (weF 8 z.cps.toList a) = "beside")) (z.cps.toList.length + 1) (weF 8 z.cps.toList a + 1) []) := rfl
      rw [e0] at er
      clear e0
      have ge := weF_ge 8 z.cps.toList a
      refine ⟨_, rfl, _, rfl, z, a, rfl, hz2, fun ne => ?_, fun eq dd H3 s3 hdd => ?_⟩
      · rw [if_neg ne] at er
        generalize weF 8 z.cps.toList a = e at *
        have cw := cut_word z a e ge
        refine gName_go ?_
        with_reducible conv => whnf
        refine ⟨_, rfl, _, rfl, _, rfl, _, rfl, _, rfl, z, rfl, hz2, ?_⟩
        rw [cw]
        generalize wordAt z.cps.toList a e = y at *
        refine gName_go ?_
        with_reducible conv => whnf
        refine ⟨_, rfl, _, rfl, _, rfl, _, rfl, _, _, rfl, rfl, _, rfl, z, rfl, hz2, rfl, _, rfl, ?_⟩
        rw [show decide (V.str (cutS z (some (e : Int)) (some ((e : Int) + 1))) = V.str (Str.ofString "(")) = isC z.cps.toList e 40 from cut_is z e 40]
        cases c1 : isC z.cps.toList e 40 with
        | false =>
          rw [c1] at er
          exact iteT ⟨_, rfl, _, rfl, (show 2 ≤ sizeLine by decide), fun q nq => k1 e (.str y) (Option.some.inj er).symm q (.str y) _ (Same.new nq) nq upd_same (.str y)⟩
        | true =>
          rw [c1] at er
          have er1 : (if !(fewest y).isSome || (b && decide (y = "beside")) then some (RR.err e)
            else if decide (y = "then") && isC z.cps.toList (e + 1) 41 then some (.ok (e + 2) (.tuple [.str "then"]))
            else rpF (rdF n z.cps.toList) z.cps.toList y (b || decide (y = "beside")) (z.cps.toList.length + 1) (e + 1) []) = some r := er
          clear er
          refine iteF ⟨_, rfl, y, rfl, _, rfl, ?_⟩
          have eb : decide (V.str y = V.str (Str.ofString "beside")) = decide (y = "beside") := by
            by_cases h : y = "beside"
            · rw [decide_eq_true h, decide_eq_true (by rw [h])]
            · rw [decide_eq_false h, decide_eq_false (fun e => h (by injection e))]
          cases c2 : (fewest y).isSome with
          | false =>
            rw [c2] at er1
            exact iteT (iteT ⟨_, rfl, _, rfl, fun dd ndd => k2 e (Option.some.inj er1).symm dd _ (Same.new ndd) upd_same⟩)
          | true =>
            have last : (b && decide (y = "beside")) = false → (if decide (y = "then") && isC z.cps.toList (e + 1) 41 then some (RR.ok (e + 2) (.tuple [.str "then"])) else rpF (rdF n z.cps.toList) z.cps.toList y (b || decide (y = "beside")) (z.cps.toList.length + 1) (e + 1) []) = some r := fun h => by
              rw [c2, h] at er1
              exact er1
            have fin : (b && decide (y = "beside")) = false → spRps K CE n [.str z, .int ((e + 1 : Nat) : Int), .str y, .bl (b || decide (y = "beside"))] H Q E := fun h => ⟨z, y, e + 1, b || decide (y = "beside"), r, rfl, hz, c2, last h, k1, k2⟩
            refine iteF ⟨_, rfl, _, rfl, ?_⟩
            cases b with
            | false =>
              refine iteF (iteF ⟨_, rfl, _, rfl, _, _, rfl, rfl, _, rfl, _, rfl, _, rfl, iteF ⟨_, rfl, rfl, ?_⟩⟩)
              rw [eb]
              exact fin rfl
            | true =>
              refine iteT ⟨_, rfl, rfl, _, rfl, ?_⟩
              rw [eb]
              cases c3 : decide (y = "beside") with
              | true =>
                rw [c2, c3] at er1
                exact iteT ⟨_, rfl, _, rfl, fun dd ndd => k2 e (Option.some.inj er1).symm dd _ (Same.new ndd) upd_same⟩
              | false =>
                refine iteF ⟨_, rfl, _, rfl, _, _, rfl, rfl, _, rfl, _, rfl, _, rfl, iteT ?_⟩
                exact fin (by rw [c3]; rfl)
      · rw [if_pos eq] at er
        exact k2 a (Option.some.inj er).symm dd H3 s3 hdd
end
end Fp4
set_option Elab.async false
set_option linter.all false
set_option maxRecDepth 100000
set_option maxHeartbeats 8000000
namespace Fp4
open PySem PySem.Spec PyProof.Rows L2 Fh Fs
open PySem.W (Frag)
/-- the reader's functions -/
structure Rdr (K : Frag) (mg : Str → Option Value) (w : World) (aF aM aD CE aX aI aH aE aN aS aR aP : Addr) (fI fH fE fN fS fR fP : FuncData) : Prop where
  T : TxtR K mg w aF aM aD CE aX
  EC : ErrC K CE
  FI : Fun K "is_word_of_plans" "is_word_of_plans" sIwp aI fI
  FH : Fun K "has_right_number" "has_right_number" sHrn aH fH
  FE : Fun K "_word_end" "_word_end" sWe aE fE
  FN : Fun K "_next_part" "_next_part" sNp aN fN
  FS : Fun K "_read_parts" "_read_parts" sRps aS fS
  FR : Fun K "read_part" "read_part" sRp aR fR
  FP : Fun K "read_plan" "read_plan" sRd aP fP
  gI : mg "is_word_of_plans" = some (.ref aI)
  gH : mg "has_right_number" = some (.ref aH)
  gE : mg "_word_end" = some (.ref aE)
  gN : mg "_next_part" = some (.ref aN)
  gS : mg "_read_parts" = some (.ref aS)
  gR : mg "read_part" = some (.ref aR)
  gP : mg "read_plan" = some (.ref aP)
section
variable {P : Program} {w : World} {K : Frag} {mg : Str → Option Value} {base : Heap} {aF aM aD CE aX aI aH aE aN aS aR aP : Addr} {fI fH fE fN fS fR fP : FuncData}
theorem ok_read (G : Rdr K mg w aF aM aD CE aX aI aH aE aN aS aR aP fI fH fE fN fS fR fP) : ∀ n, FnOk P w K mg base (L2.CX P w) (2 * n + 3) aR fR ["text", "at", "is_within"] (spRd K CE n)
  | 0 => by
    refine G.FR.okX scRp (fun vs H Q E h => ?_) (fun cdv A outer s H vs Q E hr h => ?_)
    · obtain ⟨z, a, b, r, rfl, _⟩ := h
      rfl
    · obtain ⟨z, a, b, r, rfl, _, er, _⟩ := h
      cases er
  | n + 1 => ok_rd (by omega) G.FR G.FE G.FS G.FI G.gE G.gS G.gI G.T (ok_rps (by omega) G.FS G.FR G.FH G.FN G.gR G.gH G.gN G.T (ok_read G n))
def spPlan (K : Frag) (CE : Addr) (n : Nat) : Sp := fun vs H Q E => ∃ (z : Str) (r : RT), vs = [.str z] ∧ z.length ≤ 1000000 ∧ readF n z.cps.toList = some r ∧ (∀ d, r = .plan d → ∀ x H', Same H H' → Pl K H' x d → Q x H') ∧
  ∀ i, r = .at_ i → ∀ dd H', Same H H' → H' dd = some (.xd [("index", .int (i : Int))]) → E (.ref CE) (some dd) H'
theorem scRd : FnScope ["text", "plan", "end"] ["text"] (defScope sRd) := ⟨rfl, rfl, rfl, by decide +kernel, rfl, by decide +kernel, by decide +kernel⟩
theorem ok_plan (G : Rdr K mg w aF aM aD CE aX aI aH aE aN aS aR aP fI fH fE fN fS fR fP) (n : Nat) : FnOk P w K mg base (L2.CX P w) (2 * n + 4) aP fP ["text"] (spPlan K CE n) := by
  have GR : FnOk P w K mg base (L2.CX P w) (2 * n + 3) aR fR ["text", "at", "is_within"] (spRd K CE n) := ok_read G n
  have bR : Binds K fR ["text", "at", "is_within"] [] := G.FR.binds (ps := ["text", "at", "is_within"]) fun _ _ _ _ _ _ us hl => match us, hl with | [_, _, _], _ => rfl
  refine G.FP.okX scRd (fun vs H Q E h => ?_) (fun cdv A outer s H vs Q E hr h => ?_)
  · obtain ⟨z, r, rfl, _⟩ := h
    rfl
  · obtain ⟨z, rt, rfl, hz, er, k1, k2⟩ := h
    have hr1 : Room 1 _ := hr.mono (by omega)
    refine' ⟨_, pss_cons ?s1 (pss_cons ?s2 (pss_cons ?s3 (pss_one (ps_ret (pv 1))))), ?q⟩
    case s1 =>
      refine' ps_if (pt_not (pt_val ?a)) (pss_one (ps_raiseErrN rfl G.T.ET hr1 (takes_of rfl rfl rfl rfl) ?d)) pss_nil
      case a => exact pe_callB call_isi (by rfl) G.T.isinstance (by decide +kernel) (pa_cons (pv 0) (pa_cons (pe_bltn (v := .ty "str") (by rfl) G.T.str (by decide +kernel) rfl (by decide) (by decide)) pa_nil))
      case d => exact pa_cons pe_int pa_nil
    case s2 => exact ps_asg (pe_call GR hr rfl G.gR G.FR.kp bR .nil (passes_call (takes_of rfl rfl rfl rfl) fun _ _ _ _ h => h) (pa_cons (pv 0) (pa_cons pe_int (pa_cons pe_bl pa_nil)))) (pg_tup (n := 2) rfl (pgs_cons (pg_name (i := 1) scRd.nd rfl (Or.inl rfl)) (pgs_cons (pg_name (i := 2) scRd.nd rfl (Or.inl rfl)) pgs_nil)))
    case s3 =>
      refine' ps_if (pt_cmpR op_lt (pv 2) ?a (nomark _)) (pss_one (ps_raiseErrN rfl G.T.ET hr1 (takes_of rfl rfl rfl rfl) ?d)) pss_nil
      case a => exact pe_callB call_len_str (by rfl) G.T.len PySem.boot_len (pa_cons (pv 0) pa_nil)
      case d => exact pa_cons (pv 2) pa_nil
    case q =>
      have hz2 : z.length ≤ sizeLine := by rw [sizeLine_eq]; omega
      have lz : z.cps.toList.length = z.length := Array.length_toList
      refine ⟨_, rfl, _, _, _, _, true, rfl, .ty _, .base (.str z), (by rfl), true, rfl, iteF ?_⟩
      unfold readF at er
      cases e1 : rdF n z.cps.toList 0 false with
      | none => rw [e1] at er; cases er
      | some r =>
        rw [e1] at er
        refine ⟨_, rfl, z, 0, false, r, rfl, hz, e1, fun e d ee q x H3 s3 nq hq hx => ?_, fun i ei dd H3 s3 hdd => ?_⟩
        · subst ee
          have er : (if e < z.cps.toList.length then some (RT.at_ e) else some (RT.plan d)) = some rt := er
          refine ⟨q, _, rfl, SqT.of hq, rfl, x, _, rfl, gName_go ⟨_, _, rfl, gName_go ⟨rfl, ?_⟩⟩⟩
          with_reducible conv => whnf
          refine ⟨_, rfl, _, rfl, z, rfl, hz2, _, _, rfl, rfl, decide ((e : Int) < z.length), rfl, ?_⟩
          by_cases h : e < z.cps.toList.length
          · rw [if_pos h] at er
            rw [decide_eq_true (by omega)]
            exact iteT ⟨_, rfl, _, rfl, fun dd ndd => k2 e (Option.some.inj er).symm dd _ (s3.trans (Same.new ndd)) upd_same⟩
          · rw [if_neg h] at er
            rw [decide_eq_false (by omega)]
            exact iteF ⟨_, rfl, k1 d (Option.some.inj er).symm x H3 s3 hx⟩
        · subst ei
          exact k2 i (Option.some.inj er).symm dd H3 s3 hdd
end
end Fp4
set_option Elab.async false
set_option linter.all false
set_option maxRecDepth 100000
set_option maxHeartbeats 4000000
/-! FzB: the error InvalidPlan(value) over the layer: made and raised, read and asked for its class where it is caught -/
namespace PySem
namespace ErrP
open PySem.W PySem.Calls PyProof.Rows PySem.HandSPX
/-! ### the text of __init__ -/
def iA (p1 p2 : Pos) : Arguments := { posonlyargs := [], args := [{ arg := "self", annotation := none, pos := p1 }, { arg := "value", annotation := none, pos := p2 }], vararg := none, kwonlyargs := [], kw_defaults := [], kwarg := none, defaults := [] }
def iB (q1 q2 q3 q4 : Pos) : List Stmt := [.Assign [.Attribute (.Name "self" q1) "value" q2] (.Name "value" q3) q4]
def iS : Scope := { kind := .function, names := [(PySem.Str.ofString "self", .local), (PySem.Str.ofString "value", .local)], isGenerator := false, isCoroutine := false, more := [] }
/-- what the written part says of Low, at C, and of its __init__, at fI -/
structure ErrPxt (K : Frag) (mg : Str → Option Value) (C fI : Addr) : Prop where
  gC : mg "InvalidPlan" = some (.ref C)
  cls : ∃ nm q N bs bm sn sub ab col dd k0 k1 k2 k3 k5, K.lookup C = some (excClassObj nm q C N bs bm true sn sub ab col dd k0 k1 k2 k3 k5 "ValueError.__new__") ∧ refsVE bm = true
  sa : findIn K (.ref C) "__setattr__" = some (some (.builtin "object.__setattr__"))
  ga : findIn K (.ref C) "__getattribute__" = some (some (.builtin "BaseException.__getattribute__"))
  gg : findIn K (.ref C) "__getattr__" = some none
  noN : findIn K (.ref C) "value" = some none
  iC : findIn K (.ref C) "__init__" = some (some (.ref fI))
  tC : typeIn K (.ref fI) = some (.type "function")
  kC : keepIn K (.ref C) = true
  exC : subIn K (.ref C) (.type "BaseException") = some true
  tyC : typeIn K (.ref C) = some (.type "type")
  hdC : hasDictIn K C = true
  te : exmOne K (.ref C) (.ref C) = some true
  fn : ∃ (oc : Value) (od : Option Addr) (kV doc pm : Value) (an : Option Addr) (cdv ct : Value) (osl : Array (Option Value)) (p1 p2 q1 q2 q3 q4 : Pos),
    K.lookup fI = some ⟨oc, od, .func (fnOf "__init__" "InvalidPlan.__init__" (iA p1 p2) (iB q1 q2 q3 q4) iS .none kV doc pm an cdv ct), osl⟩ ∧ codeIn K cdv "InvalidPlan.__init__" = true
theorem one_size (v : Value) : [v].length ≤ sizeLine := by
  rw [sizeLine_eq]
  exact (by decide : 1 ≤ 16777216)
theorem kept_but {K : Frag} {h h' : Heap} {x : Addr} (X : K.In h) (hx : K.lookup x = none) (k : ∀ b o, b ≠ x → h.get? b = some o → h'.get? b = some o) : K.In h' := fun a o e =>
  k a o (fun z => by rw [z, hx] at e; cases e) (X a o e)
theorem ldC {M : Model} {s : Shared} {name : Str} {scope : Scope} {L a : Addr} {cd : Value} {m : Str → Option Value} {x : Str} {pos : Pos} {v : Value} {Q : Value → Shared → Prop} {A : Around} {E : Value → Shared → Prop} (hn : s.heap.Ns L m) (hv : m x = some v) (h : Q v s)
    (hk : scope.kind = .function := by rfl) (hl : (envOfC name scope L a cd).kindOf x = some .local := by rfl) (hd : (x == ("__debug__" : Str)) = false := by decide) :
    wpAny M A (eval (.Name x pos) (envOfC name scope L a cd)) Q E s := wpAny_Name (wpAny_loadName_local hk hl hn hv h) hd
/-- what __init__ leaves of a fresh exception at x -/
structure InitEnd (h h' : Heap) (x C dx t1 : Addr) (v : Value) : Prop where
  keep : ∀ b o, b ≠ x → h.get? b = some o → h'.get? b = some o
  obj : h'.get? x = some { cls := .ref C, dict := some dx, data := .fields #[.ref t1, .none, .none, .none, .bool false, .none] }
  dbig : h.objs.size ≤ dx
  dne : dx ≠ x
  ns : h'.Ns1 dx (fun y => if y = "value" then some v else none)
/-- a made Low -/
structure OwnMade (h h' : Heap) (e C d : Addr) (v : Value) : Prop where
  keep : ∀ b o, h.get? b = some o → h'.get? b = some o
  new : h.objs.size ≤ e
  obj : ∃ oe vs, h'.get? e = some oe ∧ oe.cls = .ref C ∧ oe.dict = some d ∧ oe.data = .fields vs ∧ vs[1]? = some .none
  dbig : h.objs.size ≤ d
  dne : d ≠ e
  ns : h'.Ns1 d (fun y => if y = "value" then some v else none)
section
variable {prog : Program} {w : World} {A : Around} {E : Value → Shared → Prop} {R : Result → Shared → Prop} {s : Shared} {K : Frag} {mg : Str → Option Value} {C fI : Addr}
theorem errP_init (T : ErrPxt K mg C fI) {x t0 : Addr} {v : Value} (X : K.In s.heap) (hlim : s.heap.NoLimit) (hx : s.heap.get? x = some (excO C t0)) (hnx : K.lookup x = none) (hroom : A.depth < recursionLimit)
    (hq : ∀ h' tk dx, InitEnd s.heap h' x C dx t0 v → R (.ok (.ret .none)) { s with heap := h', toks := tk }) :
    codeAny (model prog w) A (.call (.ref fI) ⟨[.ref x, v], []⟩) R s := by
  obtain ⟨oc, od, kV, doc, pm, an, cdv, ct, osl, p1, p2, q1, q2, q3, q4, ho, hcd⟩ := T.fn
  obtain ⟨nm, q, N, bs, bm, sn, sub, ab, col, dd, k0, k1, k2, k3, k5, hC, hbm⟩ := T.cls
  have hcl : clsIn K C = some { name := nm, bases := bs, mro := .ref C :: bm, ns := N, qualname := q, hasDict := true, slotNames := sn, subclasses := sub, abstract := ab, collection := col, hasDel := false } := by unfold clsIn; rw [hC] <;> rfl
  refine Att.call_fn (binds := [("self", .ref x), ("value", v)]) X hlim ho hcd hroom (BindsTo.of_eq (by first | rfl | with_unfolding_all rfl)) (by first | rfl | decide | with_unfolding_all rfl) (fun s₁ IC => ?_) rfl rfl rfl
  obtain ⟨h₁, tk₁, rfl⟩ := IC.toInCall.same
  have k : ∀ b o, s.heap.get? b = some o → h₁.get? b = some o := IC.toInCall.keep
  have hn := IC.toInCall.ns
  have hxL : s.heap.objs.size ≠ x := Nat.ne_of_gt (Heap.lt_size hx)
  have X₁ : K.In h₁ := X.keeps k
  have hx₁ := k _ _ hx
  -- self.by = by
  show wpAny _ _ (execs _ _) _ _ _
  refine wpAny_execs_cons (plainObj_wpAny_Assign_Attribute ?_)
  refine ldC (v := v) hn (by first | rfl | with_unfolding_all rfl | kernel_rfl) (ldC (v := .ref x) hn (by first | rfl | with_unfolding_all rfl | kernel_rfl) ?_)
  refine set_plain X₁ (ox := excO C t0) (od := none) ⟨hx₁, rfl, rfl, trivial⟩ T.sa ?_
  refine exc_osa X₁ hx₁ hcl (show refsVE (.ref C :: bm) = true from hbm) rfl T.noN (fun h₃ tk₃ dx k₃ dn dne hx₃ hn₃ => ?_)
  show wpAny _ _ (execs _ _) _ _ _
  have z : s.heap.objs.size < h₁.objs.size := hn.lt
  exact wpAny_execs_nil (hq h₃ tk₃ dx ⟨fun b o hb e => k₃ b o hb (k b o e), hx₃, Nat.le_of_lt (Nat.lt_of_lt_of_le z dn), dne, hn₃⟩)
theorem errP_made (T : ErrPxt K mg C fI) {v : Value} (X : K.In s.heap) (hlim : s.heap.NoLimit) (hroom : A.depth + 1 < recursionLimit)
    (hq : ∀ h' tk e d, OwnMade s.heap h' e C d v → R (.ok (.ret (.ref e))) { s with heap := h', toks := tk }) :
    codeAny (model prog w) A (.call (.ref C) ⟨[v], []⟩) R s := by
  obtain ⟨nm, q, N, bs, bm, sn, sub, ab, col, dd, k0, k1, k2, k3, k5, hC, hbm⟩ := T.cls
  obtain ⟨hp, g, dr, tk, os⟩ := s
  have k : ∀ b o, hp.get? b = some o → ((hp.push (kdv_tup [v])).push (excO C hp.objs.size)).get? b = some o := fun b o e => Heap.get?_push_of_some _ (Heap.get?_push_of_some _ e)
  have hget : ((hp.push (kdv_tup [v])).push (excO C hp.objs.size)).get? (hp.objs.size + 1) = some (excO C hp.objs.size) := by heap_get
  have hnx : K.lookup (hp.objs.size + 1) = none := by
    cases e : K.lookup (hp.objs.size + 1) with
    | none => rfl
    | some o =>
      have z : hp.get? (hp.objs.size + 1) = some o := X _ _ e
      exact absurd (Nat.lt_of_succ_lt (Heap.lt_size z)) (Nat.lt_irrefl _)
  refine call_own F.excBase_ValueError (fun X => refsVE_contains X bm hbm) (X _ _ hC) (looks_findIn X T.iC) (fun self => bind_fn X self T.tC) (one_size v) ?_
  refine errP_init (s := ⟨(hp.push (kdv_tup [v])).push (excO C hp.objs.size), g, dr, tk, os⟩) T (X.keeps k) (hlim.keeps k) hget hnx ?_ fun h' tk' dx ⟨k', hx, dn, dne, hns⟩ => ?_
  · show A.depth + 1 < recursionLimit
    exact hroom
  · have old : ∀ b o, hp.get? b = some o → h'.get? b = some o := fun b o e => k' b o (Nat.ne_of_lt (Nat.lt_succ_of_lt (Heap.lt_size e))) (k b o e)
    have z : hp.objs.size + 1 + 1 ≤ dx := by
      first
        | (simpa only [Heap.size_push] using dn)
        | exact dn
        | (have q := dn; rw [Heap.size_push, Heap.size_push] at q; exact q)
    exact ⟨rfl, hq h' tk' (hp.objs.size + 1) dx ⟨old, Nat.le_succ _, ⟨_, _, hx, rfl, rfl, rfl, rfl⟩, Nat.le_trans (Nat.le_trans (Nat.le_succ _) (Nat.le_succ _)) z, dne, hns⟩⟩
end
end ErrP
end PySem
namespace L2
open PySem PySem.Spec PyProof.Rows
theorem relO_errP {v : V} {v' : Value} (r : RelV v v') (f : Str) : RelO (List.lookup f [(("value" : Str), v)]) (if f = "value" then some v' else none) := by
  by_cases hw : f = "value"
  · subst hw
    rw [if_pos rfl]
    have q : List.lookup ("value" : Str) [(("value" : Str), v)] = some v := by simp [List.lookup]
    rw [q]
    exact r
  · rw [if_neg hw]
    have qw : (f == ("value" : Str)) = false := by simpa using hw
    have q2 : List.lookup f [(("value" : Str), v)] = none := by simp [List.lookup, qw]
    rw [q2]
    trivial
section
variable {X : Cx} {C fI : Addr}
/-- Low(e) -/
def tMkErrP (C : Addr) (ta : TA) : St → Hp → XK → Prop := fun σ H Q => ta σ H fun vs H1 => ∃ v, vs = [v] ∧ ∀ d, H1 d = none → Q (.ref C) (some d) (upd H1 d (.xd [(("value" : Str), v)]))
theorem pmk_errP {a : Expr} {ta : TA} {p pos : Pos} {k : Nat} (T : PySem.ErrP.ErrPxt X.K X.mg C fI) (hr : Room k X.A) (ha : PA X [a] ta) (hg : Gl X "InvalidPlan" := by rfl)
    (he : starEach (a :: []) X.env = (false, eval a X.env) :: starEach [] X.env := by rfl) (hpl : (backTo pos (starEach [] X.env)).any (·.1) = false := by rfl) :
    PMk X (.Call (.Name "InvalidPlan" p) [a] [] pos) (tMkErrP C ta) := by
  intro pins s σ H Q I h
  refine wpAny_Call_Name_kw (ld_glob I hg T.gC ?_)
  refine PySem.W.callWith_K (h₀ := X.base) I.ok.mod.kin T.kC (thn (ha.run pos pins s σ H _ I h) fun us s1 hh => ?_) he hpl
  obtain ⟨vs, H1, I1, r1, v, ev, q1⟩ := hh
  subst ev
  refine ⟨I1.kIn, ?_⟩
  cases r1 with
  | cons rv rn =>
    rename_i v' us'
    cases rn
    show wpAny _ _ (call (.ref C) [v']) _ _ _
    have hlim := I1.nolimit
    obtain ⟨hp, g, dr, tk, os⟩ := s1
    refine wpAny_call (PySem.ErrP.errP_made T I1.kIn hlim (by have := hr.dp; omega) fun h' tk' e d M => ?_)
    show MkP X pins σ Q (.ref e) ⟨h', g, dr, tk', os⟩
    obtain ⟨oe, fv, hoe, hc, hd, hdat, h1⟩ := M.obj
    have hns := M.ns
    obtain ⟨G', g1, g2⟩ := restrict h' fun b => decide (b ≠ e)
    have gk : ∀ b, b ≠ e → G'.get? b = h'.get? b := fun b hb => g1 b (decide_eq_true hb)
    have ge : G'.get? e = none := g2 e (by simp)
    have old : ∀ b o, hp.get? b = some o → G'.get? b = some o := fun b o q => (gk b (Nat.ne_of_lt (Nat.lt_of_lt_of_le (Heap.lt_size q) M.new))).trans (M.keep b o q)
    have ob : ObjOk X.prog X.w (upd H1 d (.xd [(("value" : Str), v)])) G' d (.xd [(("value" : Str), v)]) :=
      ⟨_, hns.at (fun o q => (gk d M.dne).trans q), fun f => relO_errP rv f⟩
    have J : Inv X pins σ (upd H1 d (.xd [(("value" : Str), v)])) ⟨G', g, dr, tk', os⟩ := I1.laid (t' := tk') old M.dbig ob
    refine ⟨e, oe, fv, ⟨G', g, dr, tk', os⟩, _, .ref C, some d, rfl, J, fun b o q => ?_, ge, hoe, ⟨hc, hd⟩, hdat, h1, ?_, rfl, I1.bare, raises_own T.exC T.tyC, q1 d (I1.hok.fresh M.dbig)⟩
    · by_cases hb : b = e
      · have q' : G'.get? b = some o := q
        rw [hb, ge] at q'; cases q'
      · exact (gk b hb).symm.trans q
    · rw [upd_ne (Ne.symm M.dne)]
      exact I1.hok.fresh M.new
/-- raise Low(e) -/
def tRaiseErrP (C : Addr) (W : WX) (ta : TA) : TS := fun _ σ H => tMkErrP C ta σ H fun cls d H' => W cls d σ H'
theorem ps_raiseErrP {a : Expr} {ta : TA} {W : WX} {p pos pos2 : Pos} {k : Nat} (hc : X.calm = true) (T : PySem.ErrP.ErrPxt X.K X.mg C fI) (hr : Room k X.A) (tk : Takes X W) (ha : PA X [a] ta) (hg : Gl X "InvalidPlan" := by rfl)
    (he : starEach (a :: []) X.env = (false, eval a X.env) :: starEach [] X.env := by rfl) (hpl : (backTo pos (starEach [] X.env)).any (·.1) = false := by rfl) :
    PS X (.Raise (some (.Call (.Name "InvalidPlan" p) [a] [] pos)) none pos2) (tRaiseErrP C W ta) := ps_raise hc tk (pmk_errP T hr ha hg he hpl)
/-- low.by, low the exception that the suite holds (at a; its class cls, its dict d) -/
def tErrPField (C : Addr) (a : Addr) (cls : Value) (d : Option Addr) (te : TE) : TE := fun σ H Q => te σ H fun x H1 => x = .ref a ∧ cls = .ref C ∧ ∃ (dd : Addr) (v : V), d = some dd ∧ H1 dd = some (.xd [(("value" : Str), v)]) ∧ Q v H1
theorem pe_errPField {a : Addr} {oe : Obj} {cls : Value} {d : Option Addr} {pn : List (Addr × Obj)} {e : Expr} {te : TE} {pos : Pos} (T : PySem.ErrP.ErrPxt X.K X.mg C fI) (hz : Zc cls d oe) (hf : ∃ vs, oe.data = .fields vs) (he : PE (X.suite a ((a, oe) :: pn)) e te)
    (hb : attributeBase e "value" X.env (eval e X.env) = eval e X.env := by rfl) :
    PE (X.suite a ((a, oe) :: pn)) (.Attribute e "value" pos) (tErrPField C a cls d te) := by
  refine ⟨fun pins s σ H Q I h => ?_⟩
  refine attr_of hb (thn (he.run pins s σ H _ I h) fun u s1 hh => ?_)
  obtain ⟨x, H1, I1, rx, ex, ec, dd, v, ed, ea, q⟩ := hh
  subst ex
  obtain rfl : u = Value.ref a := rx
  subst ec
  subst ed
  obtain ⟨ha, _⟩ := I1.pin (a, oe) (List.mem_append_left _ List.mem_cons_self)
  obtain ⟨vs, hd⟩ := hf
  have hx : ObjOk X.prog X.w H1 s1.heap dd (.xd [(("value" : Str), v)]) := I1.hok dd _ ea
  obtain ⟨mA, hns, hr⟩ := hx
  obtain ⟨od, ho, hl⟩ := lookIn_ns hns
  have l : List.lookup ("value" : Str) [(("value" : Str), v)] = some v := by simp [List.lookup]
  obtain ⟨u, hu, ru⟩ := RelO.some_of (v := v) (o := mA "value") (by rw [← l]; exact hr "value")
  have J : PySem.W.InstAt s1.heap a oe C (some od) := ⟨ha, hz.1, by unfold PySem.W.notCls; rw [hd] <;> rfl, by rw [hz.2]; exact ho⟩
  exact HandSPX.exc_get I1.kIn J T.ga T.gg T.exC (PySem.W.findObj_own T.hdC T.noN rfl (by rw [hl, hu])) (handed_of ru) ⟨v, H1, I1.tok _, ru, q⟩
end
end L2

set_option Elab.async false
set_option linter.all false
set_option maxRecDepth 100000
set_option maxHeartbeats 4000000
/-! FzC: InvalidPlan where it is caught, and from the head's facts -/
namespace Fs
open PySem PySem.Spec PyProof.Rows L2 Fh LamX
open PySem.W (Frag)
def rIsEP (K : Frag) (C a : Addr) (cls : Value) (d : Option Addr) : List V → Hp → VK → Prop := fun xs H Q => ∃ (dd : Addr) (fs : List (Str × V)) (c : V) (cv : Value) (b : Bool), xs = [.ref a, c] ∧ cls = .ref C ∧ d = some dd ∧ H dd = some (.xd fs) ∧ ClsV c cv ∧ PySem.W.kitOne K (.ref C) cv = some b ∧ Q (.bl b) H
theorem call_isEP {X : Cx} {a C fI : Addr} {oe : Obj} {cls : Value} {d : Option Addr} {pn : List (Addr × Obj)} (T : PySem.ErrP.ErrPxt X.K X.mg C fI) (U : ErrC X.K C) (hz : Zc cls d oe) (hf : ∃ vs, oe.data = .fields vs) : CallR (X.suite a ((a, oe) :: pn)) (.builtin "isinstance") (rIsEP X.K C a cls d) := by
  intro pins s σ H xs us Q I r h
  obtain ⟨dd, fs, c, cv, b, rfl, ec, ed, hd, hc, e, q⟩ := h
  obtain ⟨u1, u2, rfl, r1, r2⟩ := vals2 r
  have e1 : u1 = Value.ref a := r1
  rw [e1, hc.eq r2]
  subst ec ed
  obtain ⟨ha, _⟩ := I.pin (a, oe) (List.mem_append_left _ List.mem_cons_self)
  obtain ⟨vs, hv⟩ := hf
  have hx : ObjOk X.prog X.w H s.heap dd (.xd fs) := I.hok dd _ hd
  obtain ⟨mA, hns, hr⟩ := hx
  obtain ⟨od, ho, hl⟩ := lookIn_ns hns
  have J : PySem.W.InstAt s.heap a oe C (some od) := ⟨ha, hz.1, by unfold PySem.W.notCls; rw [hv] <;> rfl, by rw [hz.2]; exact ho⟩
  exact PySem.W.kia_one (PySem.W.kitx_exc (od := some od) U.is T.ga T.gg T.exC U.cl U.hn U.ht U.hm) I.kIn J e (fun z => nomatch z) fun tk => ⟨.bl b, H, I.tok tk, rfl, q⟩
theorem errP_of {K : Frag} {mg : Str → Option Value} {C : Addr} (gC : mg "InvalidPlan" = some (.ref C)) (T : EK K C .ve) {fI : Addr} (no : PySem.W.findIn K (.ref C) "value" = some none) (iC : PySem.W.findIn K (.ref C) "__init__" = some (some (.ref fI))) (tI : PySem.W.typeIn K (.ref fI) = some (.type "function"))
    (fn : ∃ (oc : Value) (od : Option Addr) (kV doc pm : Value) (an : Option Addr) (cdv ct : Value) (osl : Array (Option Value)) (p1 p2 q1 q2 q3 q4 : Pos),
      K.lookup fI = some ⟨oc, od, .func (PySem.W.fnOf "__init__" "InvalidPlan.__init__" (PySem.ErrP.iA p1 p2) (PySem.ErrP.iB q1 q2 q3 q4) PySem.ErrP.iS .none kV doc pm an cdv ct), osl⟩ ∧ PySem.W.codeIn K cdv "InvalidPlan.__init__" = true) : PySem.ErrP.ErrPxt K mg C fI := by
  obtain ⟨nm, q, N, bs, sn, sub, ab, col, dd, k0, k1, k2, k3, k5, ho⟩ := ei_obj T
  have sB : PySem.W.subIn K (.ref C) (.type "BaseException") = some true := by rw [T.sub]; rfl
  have sC : PySem.W.subIn K (.ref C) (.ref C) = some true := by rw [T.sub, List.contains_cons]; simp
  exact { gC := gC, cls := ⟨nm, q, N, bs, _, sn, sub, ab, col, dd, k0, k1, k2, k3, k5, ho, by decide +kernel⟩, sa := T.sa, ga := T.ga, gg := T.gg, noN := no, iC := iC, tC := tI, kC := T.kC, exC := sB, tyC := T.ty, hdC := T.hd, te := PySem.W.exm_ref sB T.hd T.ty sC, fn := fn }
end Fs
set_option Elab.async false
set_option linter.all false
set_option maxRecDepth 100000
set_option maxHeartbeats 8000000
/-! what is a plan: is_word, _is_right_alone, check_plan, is_plan -/
namespace Fp4
open PySem PySem.Spec PyProof.Rows L2 Fh Fs
open PySem.W (Frag)
abbrev sWord : Stmt := top 6
abbrev sAl : Stmt := top 13
abbrev sCk : Stmt := top 14
abbrev sIsP : Stmt := top 22
structure TxtK (mg : Str → Option Value) : Prop where
  all : mg "all" = none
  tuple : mg "tuple" = none
/-! ### what is right, as data -/
def wopD : PyData → Bool
  | .str y => (fewest y).isSome
  | _ => false
def aloneD (b : Bool) : PyData → Bool
  | .tuple [] => false
  | .tuple (d :: ds) => match d with
    | .str y => (fewest y).isSome && (!(b && decide (y = "beside")) && rightNo y ds.length)
    | _ => false
  | d => wordD d
def chks (rec : PyData → Option (Option PyData)) : List PyData → Option (Option PyData)
  | [] => some none
  | d :: ds => match rec d with
    | some none => chks rec ds
    | r => r
def chkP (rec : Bool → PyData → Option (Option PyData)) (b : Bool) : PyData → Option (Option PyData)
  | .tuple (.str y :: ds) => chks (rec (b || decide (y = "beside"))) ds
  | _ => some none
/-- the first wrong part, if there is one -/
def chk : Nat → Bool → PyData → Option (Option PyData)
  | 0, _, _ => none
  | n + 1, b, d => if aloneD b d = false then some (some d) else chkP (chk n) b d
theorem str_cases (d : PyData) : (∃ x, d = .str x) ∨ isStr d = false := by
  cases d with
  | str x => exact .inl ⟨x, rfl⟩
  | _ => exact .inr rfl
theorem tup_cases (d : PyData) : (∃ ds, d = .tuple ds) ∨ isTup d = false := by
  cases d with
  | tuple ds => exact .inl ⟨ds, rfl⟩
  | _ => exact .inr rfl
theorem wordD_no {d : PyData} (h : isStr d = false) : wordD d = false := by
  cases d with
  | str x => cases h
  | _ => rfl
theorem wopD_no {d : PyData} (h : isStr d = false) : wopD d = false := by
  cases d with
  | str x => cases h
  | _ => rfl
theorem alone_no {b : Bool} {d : PyData} (h : isTup d = false) : aloneD b d = wordD d := by
  cases d with
  | tuple x => cases h
  | _ => rfl
section
variable {P : Program} {w : World} {K : Frag} {mg : Str → Option Value} {base : Heap} {aF aM aD CE aE CP fP : Addr}
def spWord (K : Frag) : Sp := fun vs H Q _ => ∃ v d, vs = [v] ∧ Gd K H v d ∧ ∀ H', Same H H' → Q (.bl (wordD d)) H'
theorem scWord : FnScope ["value", "letter"] ["value"] (defScope sWord) := ⟨rfl, rfl, rfl, by decide +kernel, rfl, by decide +kernel, by decide +kernel⟩
theorem ok_word {f : Addr} {fd : FuncData} (F : Fun K "is_word" "is_word" sWord f fd) (T : TxtR K mg w aF aM aD CE aE) (TK : TxtK mg) : FnOk P w K mg base CX0 1 f fd ["value"] (spWord K) := by
  refine F.ok scWord (fun vs H Q E h => ?_) (fun cdv A outer s H vs Q E hr h => ?_)
  · obtain ⟨v, d, rfl, _⟩ := h
    rfl
  · obtain ⟨v, d, rfl, hv, k⟩ := h
    obtain ⟨u1, gL⟩ := T.LETTERS
    obtain ⟨u2, gM⟩ := T.LONGEST
    refine ⟨_, pss_cons (ps_if (PW.pt (pw_or (pt_not (pt_val (pe_callB call_isi (by rfl) T.isinstance (by decide +kernel) (pa_cons (pv 0) (pa_cons (pe_bltn (v := .ty "str") (by rfl) T.str (by decide +kernel) rfl (by decide) (by decide)) pa_nil)))))
      (pw_or1 (pt_not (pt_chain op_le op_le pe_int (pe_callB call_len_str (by rfl) T.len PySem.boot_len (pa_cons (pv 0) pa_nil)) (pe_glob (v := .int 8) (by rfl) gM ⟨_, rfl⟩)))))) (pss_one (ps_ret pe_bl)) pss_nil)
      (pss_one (ps_ret (pe_callB (cr_all rfl) (by rfl) TK.all (by decide +kernel) (pa_cons
        (pe_lc (own := [("letter", 1)]) (g := gName 1) (tt := tYes) rfl scWord.nd (pi_str (pv 0)) (blkOk_by (N := ["value", "letter"]) (sc := defScope sWord) (by decide +kernel)) (fun _ _ _ _ _ => pg_name (i := 1) scWord.nd rfl (Or.inl rfl)) (fun _ _ _ _ _ => pts_nil)
          (fun _ _ _ _ _ => pe_cmpR op_in_sign (pv 1) (pe_glob (v := .str "abcdefghijklmnopqrstuvwxyz") (by rfl) gL ⟨_, rfl⟩) (by rfl))) pa_nil)))), ?_⟩
    rcases str_cases d with ⟨x, rfl⟩ | no
    · have lx : x.length ≤ 1000 := by
        cases hv with
        | str _ h => exact h
      obtain rfl : v = .str x := by
        cases hv with
        | str _ h => rfl
      have lz : x.length ≤ sizeLine := by rw [sizeLine_eq]; omega
      refine ⟨_, rfl, _, _, _, _, true, rfl, .ty _, .base (.str x), (by rfl), true, rfl, ?_⟩
      by_cases h1 : 1 ≤ x.length
      · by_cases h2 : x.length ≤ 8
        · refine ⟨_, rfl, x, rfl, lz, _, _, rfl, rfl, true, congrArg V.bl (decide_eq_true (by omega)), iteT ⟨_, _, rfl, rfl, true, congrArg V.bl (decide_eq_true (by omega)), iteF ?_⟩⟩
          refine ⟨_, rfl, x, rfl, fun D hD => ?_⟩
          refine lc_it walk_str (fun i H1 => Same H H1 ∧ H1 D = some (.lst (((sgB x).take i).map V.bl))) ⟨Same.new hD, upd_same⟩ (fun _ _ _ _ => trivial) ?_ ?_
          · rintro i y H1 H2 hi ⟨s1, d1⟩ ⟨rfl, c, hc, rfl⟩
            have gc : x.cps.toList[i]? = some c := by rw [Array.getElem?_toList]; exact hc
            have gs : (sgB x)[i]? = some (decide (c ∈ abcN)) := by unfold sgB; rw [List.getElem?_map, gc]; rfl
            refine ⟨rfl, ?_⟩
            refine yes_of ?_
            refine ⟨_, rfl, c, _, rfl, rfl, _, d1, ?_, ?_⟩
            · rw [List.length_map, List.length_take, sizeLine_eq]
              have : (sgB x).length = x.cps.toList.length := List.length_map ..
              have e2 : x.cps.toList.length = x.length := Array.length_toList
              omega
            · refine ⟨fun b o z => by rw [upd_ne (ne_of_none z hD)]; exact s1 b o z, ?_⟩
              rw [upd_same, List.take_add_one, gs, List.map_append]
              rfl
          · rintro H1 ⟨s1, d1⟩
            have e3 : (sgB x).length = x.cps.size := by unfold sgB; rw [List.length_map]; exact Array.length_toList
            rw [← e3, List.take_length] at d1
            refine ⟨D, sgB x, rfl, SqL.of d1, ?_⟩
            have e : wordD (.str x) = (sgB x).all id := by
              show (decide (1 ≤ x.length) && (decide (x.length ≤ 8) && (sgB x).all id)) = _
              rw [decide_eq_true h1, decide_eq_true h2, Bool.true_and, Bool.true_and]
            rw [← e]
            exact k _ s1
        · have e : wordD (.str x) = false := by
            show (decide (1 ≤ x.length) && (decide (x.length ≤ 8) && (sgB x).all id)) = false
            rw [decide_eq_false h2, Bool.false_and, Bool.and_false]
          refine ⟨_, rfl, x, rfl, lz, _, _, rfl, rfl, true, congrArg V.bl (decide_eq_true (by omega)), iteT ⟨_, _, rfl, rfl, false, congrArg V.bl (decide_eq_false (by omega)), iteT ?_⟩⟩
          rw [← e]
          exact k _ (Same.refl _)
      · have e : wordD (.str x) = false := by
          show (decide (1 ≤ x.length) && (decide (x.length ≤ 8) && (sgB x).all id)) = false
          rw [decide_eq_false h1, Bool.false_and]
        refine ⟨_, rfl, x, rfl, lz, _, _, rfl, rfl, false, congrArg V.bl (decide_eq_false (by omega)), iteF ⟨false, rfl, iteT ?_⟩⟩
        rw [← e]
        exact k _ (Same.refl _)
    · refine ⟨_, rfl, _, _, _, _, false, rfl, .ty _, hv.ty, ?_, false, rfl, iteT ?_⟩
      · rw [← no]
        exact kit_str K d
      · rw [← wordD_no no]
        exact k _ (Same.refl _)
def spWop (K : Frag) : Sp := fun vs H Q _ => ∃ v d, vs = [v] ∧ Gd K H v d ∧ Q (.bl (wopD d)) H
theorem ok_wop {f : Addr} {fd : FuncData} (F : Fun K "is_word_of_plans" "is_word_of_plans" sIwp f fd) (T : TxtR K mg w aF aM aD CE aE) : FnOk P w K mg base CX0 1 f fd ["value"] (spWop K) := by
  refine F.ok scIwp (fun vs H Q E h => ?_) (fun cdv A outer s H vs Q E hr h => ?_)
  · obtain ⟨z, d, rfl, _⟩ := h
    rfl
  · obtain ⟨v, d, rfl, hv, k⟩ := h
    obtain ⟨es, n, D⟩ := T.dF
    refine ⟨_, pss_one (ps_ret (pe_and (pe_callB call_isi (by rfl) T.isinstance (by decide +kernel) (pa_cons (pv 0) (pa_cons (pe_bltn (v := .ty "str") (by rfl) T.str (by decide +kernel) rfl (by decide) (by decide)) pa_nil)))
      (pe_one (pe_cmpR (op_in_kd D) (pv 0) (pe_glob (v := .ref aF) (by rfl) T.gF rfl) (by rfl))))), ?_⟩
    rcases str_cases d with ⟨z, rfl⟩ | no
    · obtain rfl : v = .str z := by
        cases hv with
        | str _ h => rfl
      obtain ⟨r, hr, rl⟩ := T.fF z
      refine ⟨_, rfl, _, _, _, _, true, rfl, .ty _, .base (.str z), (by rfl), true, rfl, iteT ⟨_, rfl, z, r, rfl, rfl, hr, ?_⟩⟩
      rw [relI_some rl]
      exact k
    · refine ⟨_, rfl, _, _, _, _, false, rfl, .ty _, hv.ty, by rw [← no]; exact kit_str K d, false, rfl, iteF ?_⟩
      rw [← wopD_no no]
      exact k
def spAl (K : Frag) : Sp := fun vs H Q _ => ∃ v d b, vs = [v, .bl b] ∧ Gd K H v d ∧ ∀ H', Same H H' → Q (.bl (aloneD b d)) H'
theorem scAl : FnScope ["value", "is_within"] ["value", "is_within"] (defScope sAl) := ⟨rfl, rfl, rfl, by decide +kernel, rfl, by decide +kernel, by decide +kernel⟩
theorem ok_al {f aW aI aH : Addr} {fd fW fI fH : FuncData} (F : Fun K "_is_right_alone" "_is_right_alone" sAl f fd) (FW : Fun K "is_word" "is_word" sWord aW fW) (FI : Fun K "is_word_of_plans" "is_word_of_plans" sIwp aI fI) (FH : Fun K "has_right_number" "has_right_number" sHrn aH fH)
    (gW : mg "is_word" = some (.ref aW)) (gI : mg "is_word_of_plans" = some (.ref aI)) (gH : mg "has_right_number" = some (.ref aH)) (T : TxtR K mg w aF aM aD CE aE) (TK : TxtK mg) : FnOk P w K mg base CX0 2 f fd ["value", "is_within"] (spAl K) := by
  have GW : FnOk P w K mg base CX0 1 aW fW ["value"] (spWord K) := ok_word FW T TK
  have GI : FnOk P w K mg base CX0 1 aI fI ["value"] (spWop K) := ok_wop FI T
  have GH : FnOk P w K mg base CX0 1 aH fH ["word", "many"] spHrn := ok_hrn FH T
  have bW : Binds K fW ["value"] [] := FW.binds (ps := ["value"]) fun _ _ _ _ _ _ us hl => match us, hl with | [_], _ => rfl
  have bI : Binds K fI ["value"] [] := FI.binds (ps := ["value"]) fun _ _ _ _ _ _ us hl => match us, hl with | [_], _ => rfl
  have bH : Binds K fH ["word", "many"] [] := FH.binds (ps := ["word", "many"]) fun _ _ _ _ _ _ us hl => match us, hl with | [_, _], _ => rfl
  refine F.ok scAl (fun vs H Q E h => ?_) (fun cdv A outer s H vs Q E hr h => ?_)
  · obtain ⟨v, d, b, rfl, _⟩ := h
    rfl
  · obtain ⟨v, d, b, rfl, hv, k⟩ := h
    refine' ⟨_, pss_cons ?s1 (pss_cons ?s2 (pss_cons ?s3 (pss_one ?s4))), ?q⟩
    case s1 =>
      refine' ps_if (pt_not (pt_val ?a)) (pss_one (ps_ret ?r)) pss_nil
      case a => exact pe_callB call_isi (by rfl) T.isinstance (by decide +kernel) (pa_cons (pv 0) (pa_cons (pe_bltn (v := .ty "tuple") (by rfl) TK.tuple (by decide +kernel) rfl (by decide) (by decide)) pa_nil))
      case r => exact pe_call GW hr rfl gW FW.kp bW .nil pass0 (pa_cons (pv 0) pa_nil)
    case s2 =>
      refine' ps_if (PW.pt (pw_or (pt_not (pt_truth (pv 0) (fun _ => rfl))) (pw_or1 (pt_not (pt_val ?b))))) (pss_one (ps_ret pe_bl)) pss_nil
      case b => exact pe_call GI hr rfl gI FI.kp bI .nil pass0 (pa_cons (pe_ix ix_tup (pv 0) pe_int (fun _ _ => rfl)) pa_nil)
    case s3 =>
      refine' ps_if (PW.pt (pw_and (pt_val (pv 1)) (pw_and1 ?c))) (pss_one (ps_ret pe_bl)) pss_nil
      case c => exact pt_cmpR op_eq (pe_ix ix_tup (pv 0) pe_int (fun _ _ => rfl)) pe_str (nomark _)
    case s4 =>
      refine' ps_ret ?d
      case d => exact pe_call GH hr rfl gH FH.kp bH .nil pass0 (pa_cons (pe_ix ix_tup (pv 0) pe_int (fun _ _ => rfl)) (pa_cons (pe_op op_sub (pe_callB call_len_seq (by rfl) T.len PySem.boot_len (pa_cons (pv 0) pa_nil)) pe_int) pa_nil))
    case q =>
      have ty := hv.ty
      have kt := kit_tup K d
      rcases tup_cases d with ⟨ds, rfl⟩ | no
      · refine ⟨_, rfl, _, _, _, _, true, rfl, .ty _, ty, kt, true, rfl, iteF ?_⟩
        cases hv with
        | @tup a xs _ hs hp =>
          have lx := hp.len
          cases hp with
          | nil => exact ⟨_, rfl, false, .inr (.inl ⟨_, hs, rfl⟩), iteT (iteT (k H (Same.refl _)))⟩
          | @cons x d0 xs ds0 h0 hp =>
            have hx : atI (x :: xs) ((0 : Nat) : Int) = some x := atI_nat rfl
            refine ⟨_, rfl, true, .inr (.inl ⟨_, hs, rfl⟩), iteF ⟨_, rfl, a, _, 0, x, rfl, rfl, hs, hx, x, d0, rfl, h0, ?_⟩⟩
            rcases str_cases d0 with ⟨y, rfl⟩ | no
            · obtain rfl : x = .str y := by
                cases h0 with
                | str _ h => rfl
              have eq : aloneD b (.tuple (.str y :: ds0)) = ((fewest y).isSome && (!(b && decide (y = "beside")) && rightNo y ds0.length)) := rfl
              rw [eq] at k
              cases hf : (fewest y).isSome with
              | false =>
                rw [hf] at k
                exact ⟨false, congrArg V.bl hf, iteT (k H (Same.refl _))⟩
              | true =>
                rw [hf] at k
                refine ⟨true, congrArg V.bl hf, iteF ⟨_, rfl, b, rfl, ?_⟩⟩
                have eb : decide (V.str y = V.str (Str.ofString "beside")) = decide (y = "beside") := by
                  by_cases h : y = "beside"
                  · rw [decide_eq_true h, decide_eq_true (by rw [h])]
                  · rw [decide_eq_false h, decide_eq_false (fun e => h (by injection e))]
                have num : (((V.str y :: xs).length : Nat) : Int) - 1 = (ds0.length : Nat) := by
                  have : (V.str y :: xs).length = ds0.length + 1 := lx
                  omega
                cases b with
                | false =>
                  refine iteF (iteF ⟨_, rfl, a, _, 0, _, rfl, rfl, hs, hx, _, rfl, a, _, rfl, .inr hs, _, _, rfl, rfl, y, _, rfl, hf, ?_⟩)
                  rw [num]
                  exact k H (Same.refl _)
                | true =>
                  refine iteT ⟨_, rfl, a, _, 0, _, rfl, rfl, hs, hx, rfl, decide (y = "beside"), congrArg V.bl eb, ?_⟩
                  cases hb : decide (y = "beside") with
                  | true =>
                    rw [hb] at k
                    exact iteT (k H (Same.refl _))
                  | false =>
                    rw [hb] at k
                    refine iteF ⟨_, rfl, a, _, 0, _, rfl, rfl, hs, hx, _, rfl, a, _, rfl, .inr hs, _, _, rfl, rfl, y, _, rfl, hf, ?_⟩
                    rw [num]
                    exact k H (Same.refl _)
            · have e0 : aloneD b (.tuple (d0 :: ds0)) = false := by
                cases d0 with
                | str x => cases no
                | _ => rfl
              rw [e0] at k
              exact ⟨false, congrArg V.bl (wopD_no no), iteT (k H (Same.refl _))⟩
      · rw [alone_no no] at k
        exact ⟨_, rfl, _, _, _, _, false, rfl, .ty _, ty, by rw [← no]; exact kt, false, rfl, iteT ⟨_, rfl, v, d, rfl, hv, fun H' s' => k H' s'⟩⟩
end
end Fp4
set_option Elab.async false
set_option linter.all false
set_option maxRecDepth 100000
set_option maxHeartbeats 8000000
/-! check_plan, is_plan -/
namespace Fp4
open PySem PySem.Spec PyProof.Rows L2 Fh Fs
open PySem.W (Frag)
abbrev FunCk (K : Frag) (f : Addr) (fd : FuncData) : Prop := FunD K "check_plan" "check_plan" (defArgs sCk) (defBody sCk) (defScope sCk) [.bl false] [] f fd
section
variable {P : Program} {w : World} {K : Frag} {mg : Str → Option Value} {base : Heap} {aF aM aD CE aE CP fP : Addr}
theorem ck_two {f : Addr} {fd : FuncData} (F : FunCk K f fd) : Binds K fd ["plan", "is_within"] [] := by
  obtain ⟨ds, hv, hb⟩ := FunD.binds1 (ps := ["plan", "is_within"]) F 2 1 (by simp) rfl (fun T kV doc pm an cdv ct us its hu hi => match us, its, hu, hi with | [_, _], [_], _, _ => ⟨_, rfl, rfl⟩)
  cases hv
  exact hb
theorem ck_one {f : Addr} {fd : FuncData} (F : FunCk K f fd) : ∃ ds, Vals [V.bl false] ds ∧ Binds K fd ["plan", "is_within"] ds :=
  FunD.binds1 (ps := ["plan", "is_within"]) F 1 0 (by simp) rfl (fun T kV doc pm an cdv ct us its hu hi => match us, its, hu, hi with | [_], [_], _, _ => ⟨_, rfl, rfl⟩)
/-- InvalidPlan of a value, or the end -/
def spCk (K : Frag) (CP : Addr) (n : Nat) : Sp := fun vs H Q E => ∃ v d b r, vs = [v, .bl b] ∧ Gd K H v d ∧ chk n b d = some r ∧ (r = none → ∀ H', Same H H' → Q .non H') ∧
  ∀ e, r = some e → ∀ v' dd H', Same H H' → Gd K H' v' e → H' dd = some (.xd [("value", v')]) → E (.ref CP) (some dd) H'
theorem scCk : FnScope ["plan", "is_within", "part"] ["plan", "is_within"] (defScope sCk) := ⟨rfl, rfl, rfl, by decide +kernel, rfl, by decide +kernel, by decide +kernel⟩
theorem step_ck {n kk : Nat} {sp' : Sp} {f aA aW aI aH : Addr} {fd fA fW fI fH : FuncData} (hk : 2 ≤ kk) (F : FunCk K f fd) (FA : Fun K "_is_right_alone" "_is_right_alone" sAl aA fA) (FW : Fun K "is_word" "is_word" sWord aW fW) (FI : Fun K "is_word_of_plans" "is_word_of_plans" sIwp aI fI) (FH : Fun K "has_right_number" "has_right_number" sHrn aH fH)
    (gF : mg "check_plan" = some (.ref f)) (gA : mg "_is_right_alone" = some (.ref aA)) (gW : mg "is_word" = some (.ref aW)) (gI : mg "is_word_of_plans" = some (.ref aI)) (gH : mg "has_right_number" = some (.ref aH)) (T : TxtR K mg w aF aM aD CE aE) (TK : TxtK mg) (TE : PySem.ErrP.ErrPxt K mg CP fP)
    (GC : FnOk P w K mg base (L2.CX P w) kk f fd ["plan", "is_within"] sp') (hs : ∀ j, n = j + 1 → sp' = spCk K CP j) : FnOk P w K mg base (L2.CX P w) (kk + 1) f fd ["plan", "is_within"] (spCk K CP n) := by
  have GA : FnOk P w K mg base CX0 2 aA fA ["value", "is_within"] (spAl K) := ok_al FA FW FI FH gW gI gH T TK
  have bA : Binds K fA ["value", "is_within"] [] := FA.binds (ps := ["value", "is_within"]) fun _ _ _ _ _ _ us hl => match us, hl with | [_, _], _ => rfl
  have bC : Binds K fd ["plan", "is_within"] [] := ck_two F
  refine FunD.ok F scCk (fun vs H Q E h => ?_) (fun cdv A outer s H vs Q E hr h => ?_)
  · obtain ⟨v, d, b, r, rfl, _⟩ := h
    rfl
  · obtain ⟨v, d, b, r, rfl, hv, er, k1, k2⟩ := h
    have hr2 : Room 2 _ := hr.mono hk
    have hr1 : Room 1 _ := hr.mono (by omega)
    refine' ⟨_, pss_cons ?s1 (pss_one ?s2), ?q⟩
    case s1 =>
      refine' ps_if (pt_not (pt_val ?a)) (pss_one (ps_raiseErrP rfl TE hr1 (takes_of rfl rfl rfl rfl) ?d)) pss_nil
      case a => exact pe_call GA hr2 rfl gA FA.kp bA .nil pass0 (pa_cons (pv 0) (pa_cons (pv 1) pa_nil))
      case d => exact pa_cons (pv 0) pa_nil
    case s2 =>
      refine' ps_if (pt_val ?a) (pss_one ?f) pss_nil
      case a => exact pe_callB call_isi (by rfl) T.isinstance (by decide +kernel) (pa_cons (pv 0) (pa_cons (pe_bltn (v := .ty "tuple") (by rfl) TK.tuple (by decide +kernel) rfl (by decide) (by decide)) pa_nil))
      case f =>
        refine' ps_for (passes_of rfl) rfl (pi_tup (pe_slice sl_tupA (pv 0) (po_some pe_int) po_none)) (pg_name (i := 2) scCk.nd rfl (Or.inl rfl)) (pss_one (ps_expr ?c))
        case c =>
          refine' pe_call GC hr rfl gF F.kp bC .nil (passes_call (takes_of rfl rfl rfl rfl) fun _ _ _ _ h => h) (pa_cons (pv 2) (pa_cons (pe_or (pv 1) (pe_one ?o)) pa_nil))
          case o => exact pe_cmpR op_eq (pe_ix ix_tup (pv 0) pe_int (fun _ _ => rfl)) pe_str (nomark _)
    case q =>
      cases n with
      | zero => cases er
      | succ n =>
      obtain rfl := hs n rfl
      have er2 : (if aloneD b d = false then some (some d) else chkP (chk n) b d) = some r := er
      clear er
      refine ⟨_, rfl, _, rfl, v, d, b, rfl, hv, fun H1 s1 => ?_⟩
      cases ea : aloneD b d with
      | false =>
        rw [if_pos ea] at er2
        exact ⟨_, rfl, iteT ⟨_, rfl, _, rfl, fun dd ndd => k2 d (Option.some.inj er2).symm v dd _ (s1.trans (Same.new ndd)) (hv.same (s1.trans (Same.new ndd))) upd_same⟩⟩
      | true =>
        rw [if_neg (by rw [ea]; exact fun z => nomatch z)] at er2
        have hv1 := hv.same s1
        have ty := hv1.ty
        have kt := kit_tup K d
        refine ⟨_, rfl, iteF ⟨_, rfl, _, _, _, _, isTup d, rfl, .ty _, ty, kt, _, rfl, ?_⟩⟩
        rcases tup_cases d with ⟨ds, rfl⟩ | no
        · refine iteT ?_
          cases hv1 with
          | @tup a xs _ hs hp =>
          cases hp with
          | nil => cases ea
          | @cons x d0 xs ds0 h0 hp =>
          rcases str_cases d0 with ⟨y, rfl⟩ | no
          · obtain rfl : x = .str y := by
              cases h0 with
              | str _ h => rfl
            have er3 : chks (chk n (b || decide (y = "beside"))) ds0 = some r := er2
            clear er2
            refine ⟨_, rfl, 1, rfl, a, _, rfl, hs, ?_, fun _ q nq => ?_⟩
            · rintro ⟨z, _⟩
              have z : min 1 (xs.length + 1) = 0 := z
              omega
            have cv : cutV (V.str y :: xs) (some 1) none = xs := by
              show ((V.str y :: xs).drop (min 1 (xs.length + 1))).take (xs.length + 1 - min 1 (xs.length + 1)) = xs
              rw [show min 1 (xs.length + 1) = 1 by omega, List.drop_one, List.tail_cons, List.take_of_length_le (by omega)]
            rw [cv]
            have sq : Same H1 (upd H1 q (.tup xs)) := Same.new nq
            have gq : (upd H1 q (.tup xs)) q = some (.tup xs) := upd_same
            generalize upd H1 q (.tup xs) = H2 at sq gq ⊢
            have eb : decide (V.str y = V.str (Str.ofString "beside")) = decide (y = "beside") := by
              by_cases h : y = "beside"
              · rw [decide_eq_true h, decide_eq_true (by rw [h])]
              · rw [decide_eq_false h, decide_eq_false (fun e => h (by injection e))]
            have hs2 := (KeepT.of sq).sqT hs
            have hp2 := hp.same sq
            have s2 := s1.trans sq
            have lx := hp.len
            clear sq hs hp s1 nq
            refine ⟨q, rfl, ⟨_, SqT.of gq⟩, ?_⟩
            refine for_it (walk_tup (K := K) (a := q) (xs := xs)) (fun i σ Hh => ∃ o, σ = [some (.ref a), some (.bl b), o] ∧ Same H2 Hh ∧ chks (chk n (b || decide (y = "beside"))) (ds0.drop i) = some r) ⟨none, rfl, Same.refl _, er3⟩ (fun i σ Hh _ ⟨_, _, z, _⟩ => SqT.of (z _ _ gq)) ?_ ?_
            · rintro i x σ Ha Hb hi ⟨o, rfl, sa, ec⟩ ⟨rfl, gx⟩
              have di : i < ds0.length := by omega
              have gd : ds0[i]? = some ds0[i] := List.getElem?_eq_getElem di
              have hx := (hp2.get gx gd).same sa
              rw [List.drop_eq_getElem_cons di] at ec
              generalize ds0[i] = di' at hx ec gd
              have ec2 : (match chk n (b || decide (y = "beside")) di' with | some none => chks (chk n (b || decide (y = "beside"))) (ds0.drop (i + 1)) | r => r) = some r := ec
              clear ec
              have arg : spCk K CP n [x, .bl (b || decide (y = "beside"))] Hb (fun _ H1 => ∃ o, [some (V.ref a), some (V.bl b), some x] = [some (V.ref a), some (V.bl b), o] ∧ Same H2 H1 ∧ chks (chk n (b || decide (y = "beside"))) (ds0.drop (i + 1)) = some r) E := by
                cases e1 : chk n (b || decide (y = "beside")) di' with
                | none => rw [e1] at ec2; cases ec2
                | some r' =>
                  rw [e1] at ec2
                  refine ⟨x, di', _, r', rfl, hx, e1, fun e H' s' => ?_, fun e ee v' dd H' s' gv hdd => ?_⟩
                  · subst e
                    exact ⟨_, rfl, sa.trans s', ec2⟩
                  · subst ee
                    exact k2 e (Option.some.inj ec2).symm v' dd H' (s2.trans (sa.trans s')) gv hdd
              refine ⟨_, rfl, _, rfl, b, rfl, ?_⟩
              cases b with
              | true => exact iteT arg
              | false =>
                refine iteF ⟨_, rfl, a, _, 0, _, rfl, rfl, (KeepT.of sa).sqT hs2, atI_nat rfl, rfl, ?_⟩
                rw [eb]
                exact arg
            · rintro σ Ha ⟨o, rfl, sa, ec⟩
              rw [lx, List.drop_length] at ec
              exact k1 (Option.some.inj ec).symm Ha (s2.trans sa)
          · exfalso
            cases d0 with
            | str x => cases no
            | _ => cases ea
        · rw [no]
          refine iteF (k1 ?_ H1 s1)
          cases d with
          | tuple _ => cases no
          | _ => exact (Option.some.inj er2).symm
/-- all that check_plan leans on -/
structure CkG (K : Frag) (mg : Str → Option Value) (w : World) (aF aM aD CE aE CP fP aC aA aW aI aH : Addr) (fC fA fW fI fH : FuncData) : Prop where
  T : TxtR K mg w aF aM aD CE aE
  TK : TxtK mg
  TE : PySem.ErrP.ErrPxt K mg CP fP
  FC : FunCk K aC fC
  FA : Fun K "_is_right_alone" "_is_right_alone" sAl aA fA
  FW : Fun K "is_word" "is_word" sWord aW fW
  FI : Fun K "is_word_of_plans" "is_word_of_plans" sIwp aI fI
  FH : Fun K "has_right_number" "has_right_number" sHrn aH fH
  gC : mg "check_plan" = some (.ref aC)
  gA : mg "_is_right_alone" = some (.ref aA)
  gW : mg "is_word" = some (.ref aW)
  gI : mg "is_word_of_plans" = some (.ref aI)
  gH : mg "has_right_number" = some (.ref aH)
variable {aC aA aW aI aH : Addr} {fC fA fW fI fH : FuncData}
theorem ok_ck (G : CkG K mg w aF aM aD CE aE CP fP aC aA aW aI aH fC fA fW fI fH) : ∀ n, FnOk P w K mg base (L2.CX P w) (n + 3) aC fC ["plan", "is_within"] (spCk K CP n)
  | 0 => by
    refine FunD.ok G.FC scCk (fun vs H Q E h => ?_) (fun cdv A outer s H vs Q E hr h => ?_)
    · obtain ⟨v, d, b, r, rfl, _⟩ := h
      rfl
    · obtain ⟨v, d, b, r, rfl, _, er, _⟩ := h
      cases er
  | n + 1 => step_ck (by omega) G.FC G.FA G.FW G.FI G.FH G.gC G.gA G.gW G.gI G.gH G.T G.TK G.TE (ok_ck G n) (fun j e => by cases e; rfl)
def spIsP (K : Frag) (n : Nat) : Sp := fun vs H Q _ => ∃ v d r, vs = [v] ∧ Gd K H v d ∧ chk n false d = some r ∧ ∀ H', Same H H' → Q (.bl r.isNone) H'
theorem scIsP : FnScope ["value"] ["value"] (defScope sIsP) := ⟨rfl, rfl, rfl, by decide +kernel, rfl, by decide +kernel, by decide +kernel⟩
theorem ok_isp {f : Addr} {fd : FuncData} (F : Fun K "is_plan" "is_plan" sIsP f fd) (G : CkG K mg w aF aM aD CE aE CP fP aC aA aW aI aH fC fA fW fI fH) (te : PySem.W.exmOne K (.ref CP) (.ref CP) = some true) (n : Nat) : FnOk P w K mg base CX0 (n + 4) f fd ["value"] (spIsP K n) := by
  have GC : FnOk P w K mg base (L2.CX P w) (n + 3) aC fC ["plan", "is_within"] (spCk K CP n) := ok_ck G n
  obtain ⟨dsC, vC, bC⟩ := ck_one G.FC
  refine F.ok scIsP (fun vs H Q E h => ?_) (fun cdv A outer s H vs Q E hr h => ?_)
  · obtain ⟨v, d, r, rfl, _⟩ := h
    rfl
  · obtain ⟨v, d, r, rfl, hv, er, k⟩ := h
    refine ⟨_, pss_cons (ps_try_only (Wout := fun _ _ _ _ => False) rfl rfl ⟨rfl, by decide, Or.inl G.TE.gC⟩ takes0
      (fun W pn xe tk _ => pss_one (ps_expr (pe_call (E := fun cls d H' => ∀ σ : L2.St, σ.length = 1 → W cls d σ H') GC hr rfl G.gC G.FC.kp bC vC (fun pins σ H s e s' I c => tk e s' (XE.of_call I (fun cls d H' h => h σ I.len) c)) (pa_cons (pv 0) pa_nil))))
      (fun a oe cls d pn hz hf => pss_one (ps_ret pe_bl))) (pss_one (ps_ret pe_bl)), ?_⟩
    refine ⟨_, rfl, v, d, false, r, rfl, hv, er, fun e H' s' => ?_, fun e ee v' dd H' s' gv hdd σ hl => ?_⟩
    · subst e
      exact k H' s'
    · subst ee
      exact ⟨true, te, fun _ a0 _ => k H' s', fun q => Bool.noConfusion q⟩
end
end Fp4
set_option Elab.async false
set_option linter.all false
set_option maxRecDepth 100000
set_option maxHeartbeats 4000000
/-! Y5d: the pen of k25, whose place stands under "place" (mkY5d.py) -/
namespace Fp4
open PySem PySem.Spec PyProof.Rows L2 Fh Fs
open PySem.W (Frag)
abbrev sPen : Stmt := top 26
abbrev sDraw : Stmt := top 27
abbrev sPick : Stmt := top 28
/-- a pen at p, its list at c; its place is at most n -/
structure PenAt (H : Hp) (p c : Addr) (n : Nat) : Prop where
  pc : p ≠ c
  ex : ∃ (cs : List Int) (spot rest : Int), H p = some (.dK [(Sum.inr "cells", .ref c), (Sum.inr "place", .int spot), (Sum.inr "rest", .int rest)]) ∧ H c = some (.lst (cs.map V.int)) ∧ cs.length ≤ 1000 ∧ 0 ≤ spot ∧ spot ≤ n
theorem PenAt.same {H H' : Hp} {p c : Addr} {n m : Nat} (s : Same H H') (h : PenAt H p c n) (hm : n ≤ m) : PenAt H' p c m := by
  obtain ⟨a, cs, spot, rest, h1, h2, h3, h4, h5⟩ := h
  exact ⟨a, cs, spot, rest, s _ _ h1, s _ _ h2, h3, h4, by omega⟩
def penKV (c : Addr) (s r : Int) : List (Key × V) := [(Sum.inr "cells", .ref c), (Sum.inr "place", .int s), (Sum.inr "rest", .int r)]
theorem pen_cells {c : Addr} {s r : Int} : valV (penKV c s r) (Sum.inr "cells" : Key) = some (.ref c) := by
  first
    | rfl
    | simp [penKV, valV]
theorem pen_spot {c : Addr} {s r : Int} : valV (penKV c s r) (Sum.inr "place" : Key) = some (.int s) := by
  first
    | rfl
    | simp [penKV, valV]
theorem pen_rest {c : Addr} {s r : Int} : valV (penKV c s r) (Sum.inr "rest" : Key) = some (.int r) := by
  first
    | rfl
    | simp [penKV, valV]
theorem put_spot {c : Addr} {s r z : Int} : putK (penKV c s r) (Sum.inr "place" : Key) (.int z) = penKV c z r := by
  first
    | rfl
    | simp [penKV, putK]
theorem put_rest {c : Addr} {s r z : Int} : putK (penKV c s r) (Sum.inr "rest" : Key) (.int z) = penKV c s z := by
  first
    | rfl
    | simp [penKV, putK]
/-- a pen stands at p, its list at c; its place is s, its rest r -/
structure PenS (H : Hp) (p c : Addr) (cs : List Int) (s r : Int) : Prop where
  pc : p ≠ c
  hp : H p = some (.dK (penKV c s r))
  hc : H c = some (.lst (cs.map V.int))
  hl : cs.length ≤ 1000
theorem PenAt.open {H : Hp} {p c : Addr} {n : Nat} (h : PenAt H p c n) : ∃ cs s r, PenS H p c cs s r ∧ 0 ≤ s ∧ s ≤ n := by
  obtain ⟨a, cs, s, r, h1, h2, h3, h4, h5⟩ := h
  exact ⟨cs, s, r, ⟨a, h1, h2, h3⟩, h4, h5⟩
theorem PenS.at_ {H : Hp} {p c : Addr} {cs : List Int} {s r : Int} {n : Nat} (h : PenS H p c cs s r) (h0 : 0 ≤ s) (h1 : s ≤ n) : PenAt H p c n := ⟨h.pc, cs, s, r, h.hp, h.hc, h.hl, h0, h1⟩
theorem PenS.put {H : Hp} {p c : Addr} {cs : List Int} {s r s' r' : Int} (h : PenS H p c cs s r) : PenS (upd H p (.dK (penKV c s' r'))) p c cs s' r' :=
  ⟨h.pc, upd_same, by rw [upd_ne (Ne.symm h.pc)]; exact h.hc, h.hl⟩
theorem PenS.same {H H' : Hp} {p c : Addr} {cs : List Int} {s r : Int} (h : PenS H p c cs s r) (z : Same H H') : PenS H' p c cs s r := ⟨h.pc, z _ _ h.hp, z _ _ h.hc, h.hl⟩

section
variable {X : Cx} {o i : Expr} {x : Str} {p1 p2 p3 : Pos} {a k : Nat}
/-- pen['rest'], pen['spot'], pen['cells']: the pen's name stands in the slot k -/
def tPenV (g : Addr → Int → Int → V) (k : Nat) : TE := fun σ H Q => ∃ p c cs s r, σ[k]? = some (some (V.ref p)) ∧ PenS H p c cs s r ∧ Q (g c s r) H
theorem pe_rest (hu : X.A.units + 1 < cLine) (ho : PE X o (tVar k)) : PE X (.Subscript o (.Constant (.str "rest") a p2) p3) (tPenV (fun _ _ r => .int r) k) :=
  PE.imp (pe_dget hu ho pe_str (fun _ _ => rfl)) fun σ H Q ⟨p, c, cs, s, r, h1, h2, q⟩ => ⟨_, h1, p, _, rfl, by rw [← pen_rest (c := c) (s := s) (r := r)]; exact DGet.k (k := Sum.inr "rest") h2.hp, q⟩
theorem pe_spot (hu : X.A.units + 1 < cLine) (ho : PE X o (tVar k)) : PE X (.Subscript o (.Constant (.str "place") a p2) p3) (tPenV (fun _ s _ => .int s) k) :=
  PE.imp (pe_dget hu ho pe_str (fun _ _ => rfl)) fun σ H Q ⟨p, c, cs, s, r, h1, h2, q⟩ => ⟨_, h1, p, _, rfl, by rw [← pen_spot (c := c) (s := s) (r := r)]; exact DGet.k (k := Sum.inr "place") h2.hp, q⟩
theorem pe_cells (hu : X.A.units + 1 < cLine) (ho : PE X o (tVar k)) : PE X (.Subscript o (.Constant (.str "cells") a p2) p3) (tPenV (fun c _ _ => .ref c) k) :=
  PE.imp (pe_dget hu ho pe_str (fun _ _ => rfl)) fun σ H Q ⟨p, c, cs, s, r, h1, h2, q⟩ => ⟨_, h1, p, _, rfl, by rw [← pen_cells (c := c) (s := s) (r := r)]; exact DGet.k (k := Sum.inr "cells") h2.hp, q⟩
/-- int(e), an int -/
def tIntOf (te : TE) : TE := fun σ H Q => te σ H fun v H1 => ∃ n : Int, v = .int n ∧ Q v H1
end

def tCellIf : TS := fun D σ H => ∃ (p c : Addr) (cs : List Int) (z y re sz : Int) (m : V) (dg mx : Option V), σ = [some (.ref p), some m, dg, some (.int z), some (.int y), mx] ∧ PenS H p c cs sz re ∧ 0 ≤ z ∧
  ∀ (cell : Int) (H' : Hp), Same H H' → D.nx [some (.ref p), some m, dg, some (.int z), some (.int cell), mx] H'
/-! ### what a draw promises -/
def spDraw : Sp := fun vs H Q _ => ∃ (p c : Addr) (n : Nat) (m : Int), vs = [.ref p, .int m] ∧ PenAt H p c n ∧ n ≤ 1000000 ∧ 1 ≤ m ∧ m ≤ 1000000 ∧
  ∀ (k : Int) (H' : Hp), 0 ≤ k → k < m → PenAt H' p c (n + 1) → But p H H' → Q (.int k) H'
/-- items[draw]: an item of a list -/
def spPick (K : Frag) : Sp := fun vs H Q _ => ∃ (p c : Addr) (n : Nat) (l : Addr) (xs : List V), vs = [.ref p, .ref l] ∧ PenAt H p c n ∧ n ≤ 1000000 ∧ H l = some (.lst xs) ∧ 1 ≤ xs.length ∧ xs.length ≤ 1000 ∧
  ∀ (i : Nat) (x : V) (H' : Hp), xs[i]? = some x → PenAt H' p c (n + 1) → But p H H' → Q x H'
/-- the script's pen -/
def spPen (K : Frag) : Sp := fun vs H Q _ => ∃ (a : Addr) (ns : List Int), vs = [.ref a] ∧ SqL K H a (ns.map V.int) ∧ ns.length ≤ 63 ∧
  ∀ (p c : Addr) (H' : Hp), Same H H' → H p = none → PenAt H' p c 0 → Q (.ref p) H'
theorem pen_off {H : Hp} {p c D : Addr} {n : Nat} {o : HO} (h : PenAt H p c n) (h1 : D ≠ p) (h2 : D ≠ c) : PenAt (upd H D o) p c n := by
  obtain ⟨cs, s, r, S, s0, s1⟩ := h.open
  exact PenS.at_ ⟨S.pc, by rw [upd_ne (Ne.symm h1)]; exact S.hp, by rw [upd_ne (Ne.symm h2)]; exact S.hc, S.hl⟩ s0 s1
theorem pen_apart {H H' : Hp} {p c D : Addr} {n : Nat} (h : PenAt H p c n) (sm : Same H H') (hD : H' D = none) : D ≠ p ∧ D ≠ c := by
  obtain ⟨cs, s, r, S, _, _⟩ := h.open
  constructor
  · intro e
    rw [e, sm _ _ S.hp] at hD
    cases hD
  · intro e
    rw [e, sm _ _ S.hc] at hD
    cases hD
structure TxtP (mg : Str → Option Value) : Prop where
  list : mg "list" = none
  int : mg "int" = none
  len : mg "len" = none
section
variable {P : Program} {w : World} {K : Frag} {mg : Str → Option Value} {base : Heap}
theorem scPen : FnScope ["_law_script"] ["_law_script"] (defScope sPen) := ⟨rfl, rfl, rfl, by decide +kernel, rfl, by decide +kernel, by decide +kernel⟩
theorem ok_pen {f : Addr} {fd : FuncData} (F : Fun K "_law_pen" "_law_pen" sPen f fd) (T : TxtP mg) : FnOk P w K mg base CX0 1 f fd ["_law_script"] (spPen K) := by
  refine F.ok scPen (fun vs H Q E h => ?_) (fun cdv A outer s H vs Q E hr h => ?_)
  · obtain ⟨a, ns, rfl, _⟩ := h
    rfl
  · obtain ⟨a, ns, rfl, hS, hn, k⟩ := h
    refine ⟨_, pss_one (ps_ret (pe_disp (pps_cons pe_str (pe_callTy call_list_of (by rfl) T.list (by decide +kernel) (pa_cons (pe_slice sl_list (pv 0) po_none (po_some pe_int)) pa_nil))
      (pps_cons pe_str pe_int (pps_cons pe_str pe_int pps_nil))) (by rfl) (by rfl) (fun z => by cases z) (by decide))), ?_⟩
    intro p np
    obtain ⟨ms, em, lm⟩ := cut_ints ns none (some 63)
    refine ⟨.ref a, rfl, 63, rfl, a, ns.map V.int, rfl, (Same.new np).seq hS, fun q nq => ?_⟩
    have pq : p ≠ q := fun z => by
      rw [← z, upd_same] at nq
      exact nomatch nq
    have hq : H q = none := by
      rw [upd_ne (Ne.symm pq)] at nq
      exact nq
    refine ⟨q, _, rfl, Or.inl (SqL.of upd_same), fun c nc => ?_⟩
    have pc : p ≠ c := fun z => by
      rw [← z, upd_ne pq, upd_same] at nc
      exact nomatch nc
    have qc : q ≠ c := fun z => by
      rw [← z, upd_same] at nc
      exact nomatch nc
    have hc : H c = none := by
      rw [upd_ne (Ne.symm qc), upd_ne (Ne.symm pc)] at nc
      exact nc
    refine ⟨by rw [upd_ne pc, upd_ne pq, upd_same], penKV c 0 0, rfl, (show 3 ≤ 15 by decide), ?_⟩
    refine k p c _ (fun b u z => ?_) np ⟨pc, ms, 0, 0, upd_same, ?_, by omega, by omega, by omega⟩
    · rw [upd_ne (ne_of_none z np), upd_ne (ne_of_none z hc), upd_ne (ne_of_none z hq), upd_ne (ne_of_none z np)]
      exact z
    · rw [upd_ne (Ne.symm pc), upd_same, em]
theorem scDraw : FnScope ["_law_pen_here", "_law_number", "_law_digit", "_law_at", "_law_cell", "_law_mixed"] ["_law_pen_here", "_law_number"] (defScope sDraw) := ⟨rfl, rfl, rfl, by decide +kernel, rfl, by decide +kernel, by decide +kernel⟩
theorem ok_draw {f : Addr} {fd : FuncData} (F : Fun K "_law_draw" "_law_draw" sDraw f fd) (T : TxtP mg) : FnOk P w K mg base CX0 1 f fd ["_law_pen_here", "_law_number"] spDraw := by
  refine F.ok scDraw (fun vs H Q E h => ?_) (fun cdv A outer s H vs Q E hr h => ?_)
  · obtain ⟨p, c, n, m, rfl, _⟩ := h
    rfl
  · obtain ⟨p, c, n, m, rfl, hP, hn, hm, hM, k⟩ := h
    obtain ⟨cs, sp, re, S, s0, s1⟩ := hP.open
    have hu := hu_of hr
    have hu64 := hr.units
    have nc := S.pc
    refine ⟨_, pss_cons (ps_if (pt_cmpR op_ge (pe_rest hu (pv 0)) (pv 1) (nomark _))
        (pss_cons (ps_set (i := 2) scDraw.nd rfl (Or.inl rfl) (pe_op op_modN (pe_callTy call_int1 (by rfl) T.int (by decide +kernel) (pa_cons (pe_rest hu (pv 0)) pa_nil)) (pv 1)))
        (pss_cons (ps_dput hu (pv 0) pe_str (pe_op op_fdivN (pe_rest hu (pv 0)) (pv 1)) rfl)
        (pss_one (ps_ret (pv 2))))) pss_nil)
      (pss_cons (ps_set (i := 3) scDraw.nd rfl (Or.inl rfl) (pe_spot hu (pv 0)))
      (pss_cons (ps_dput hu (pv 0) pe_str (pe_op op_add (pv 3) pe_int) rfl)
      (pss_cons (ps_set (i := 4) scDraw.nd rfl (Or.inl rfl) (pe_op op_add (pe_op op_mul pe_int (pv 3)) pe_int))
      (pss_cons (PS.imp (t' := tCellIf) (ps_if (pt_cmpR (op_neD hu64) (pe_cells hu (pv 0)) (pe_lst pa_nil) (nomark _))
        (pss_one (ps_set (i := 4) scDraw.nd rfl (Or.inl rfl) (pe_ix ix_list (pe_cells hu (pv 0)) (pe_op op_modN (pe_callTy call_int1 (by rfl) T.int (by decide +kernel) (pa_cons (pv 3) pa_nil)) (pe_callB call_len_seq (by rfl) T.len PySem.boot_len (pa_cons (pe_cells hu (pv 0)) pa_nil))) (fun _ _ => rfl)))) pss_nil) (fun D σ H2 ⟨p, c, cs, z, y, re, sz, m, dg, mx, es, S, z0, q⟩ => by
          subst es
          refine ⟨p, c, cs, sz, re, rfl, S, (Nat.zero_le _), fun q1 n1 => ?_⟩
          have S1 := S.same (Same.new (o := .lst []) n1)
          refine ⟨_, _, Dp.lst (SqL.of S1.hc) (dp_ints cs), Dp.lst (SqL.of upd_same) .nil, shaped_ints cs, by decide +kernel, _, rfl, ?_⟩
          cases cs with
          | nil => exact iteF (q y _ (Same.new n1))
          | cons c0 cr =>
            refine iteT ?_
            have pos : (0 : Int) < ((c0 :: cr : List Int).length : Int) := by
              rw [List.length_cons]
              omega
            have i0 : 0 ≤ z.fmod ((c0 :: cr : List Int).length : Int) := Int.fmod_nonneg_of_pos z pos
            have i1 : z.fmod ((c0 :: cr : List Int).length : Int) < ((c0 :: cr : List Int).length : Int) := Int.fmod_lt_of_pos z pos
            obtain ⟨j, ej⟩ := Int.eq_ofNat_of_zero_le i0
            have hj : j < (c0 :: cr : List Int).length := by omega
            refine ⟨p, c, c0 :: cr, sz, re, rfl, S1, _, rfl, Or.inl ⟨_, rfl, p, c, c0 :: cr, sz, re, rfl, S1, c, _, rfl, Or.inl (SqL.of S1.hc), _, _, rfl, rfl, ?_, ?_⟩⟩
            · rw [List.length_map]
              omega
            · refine ⟨c, _, _, .int ((c0 :: cr : List Int)[j]'hj), rfl, rfl, SqL.of S1.hc, ?_, q _ _ (Same.new n1)⟩
              rw [List.length_map, ej]
              exact atI_nat (int_map_get hj)))
      (pss_cons (ps_if (PW.pt (pw_and (pt_cmpR op_lt (pv 3) (pe_callB call_len_seq (by rfl) T.len PySem.boot_len (pa_cons (pe_cells hu (pv 0)) pa_nil)) (nomark _)) (pw_and1 (pt_cmpR op_ge (pv 4) (pe_op op_pow pe_int pe_int) (nomark _)))))
        (pss_cons (ps_dput hu (pv 0) pe_str (pe_op op_fdivN (pe_op op_sub (pv 4) (pe_op op_pow pe_int pe_int)) (pv 1)) rfl)
        (pss_one (ps_ret (pe_op op_modN (pe_callTy call_int1 (by rfl) T.int (by decide +kernel) (pa_cons (pe_op op_sub (pv 4) (pe_op op_pow pe_int pe_int)) pa_nil)) (pv 1))))) pss_nil)
      (pss_cons (ps_set (i := 5) scDraw.nd rfl (Or.inl rfl) (pe_op op_modN (pe_callTy call_int1 (by rfl) T.int (by decide +kernel) (pa_cons (pe_op op_add (pe_op op_add (pe_op op_add (pe_op op_mul (pe_op op_modN (pe_callTy call_int1 (by rfl) T.int (by decide +kernel) (pa_cons (pv 4) pa_nil)) pe_int) pe_int) (pe_op op_mul (pe_op op_mul pe_int (pv 3)) (pv 3))) (pe_op op_mul pe_int (pv 3))) pe_int) pa_nil)) pe_int))
      (pss_cons (ps_set (i := 5) scDraw.nd rfl (Or.inl rfl) (pe_op op_modN (pe_callTy call_int1 (by rfl) T.int (by decide +kernel) (pa_cons (pe_op op_add (pe_op op_mul (pv 5) (pe_op op_add (pv 5) pe_int)) (pe_op op_mul pe_int (pv 3))) pa_nil)) pe_int))
      (pss_one (ps_ret (pe_op op_modN (pe_callTy call_int1 (by rfl) T.int (by decide +kernel) (pa_cons (pe_op op_fdivN (pe_op op_modN (pe_callTy call_int1 (by rfl) T.int (by decide +kernel) (pa_cons (pe_op op_add (pe_op op_mul (pv 5) (pv 5)) (pe_op op_mul pe_int (pv 5))) pa_nil)) pe_int) pe_int) pa_nil)) (pv 1))))))))))), ?_⟩
    have modLo : ∀ z : Int, 0 ≤ z.fmod m := fun z => Int.fmod_nonneg_of_pos z (by omega)
    have modHi : ∀ z : Int, z.fmod m < m := fun z => Int.fmod_lt_of_pos z (by omega)
    have mm : m ≠ 0 := by omega
    have mq : m ≠ 0 ∧ m.natAbs < 1073741824 := ⟨mm, by omega⟩
    -- if pen['rest'] >= size
    refine ⟨p, c, cs, sp, re, rfl, S, _, rfl, _, _, rfl, rfl, _, rfl, ?_⟩
    refine ite2 (fun _ => ?_) (fun _ => ?_)
    · refine ⟨p, c, cs, sp, re, rfl, S, Or.inl ⟨_, rfl, _, rfl, _, _, rfl, rfl, mm, ?_⟩⟩
      refine ⟨p, c, cs, sp, re, rfl, S, _, rfl, _, _, rfl, rfl, mq, _, rfl, p, _, rfl, DPut.k (k := Sum.inr "rest") S.hp (by show 3 < sizeLine; decide), ?_⟩
      rw [put_rest]
      refine ⟨_, rfl, k _ _ (modLo _) (modHi _) (S.put.at_ s0 (by omega)) (But.refl p H).upd⟩
    -- spot = pen['spot']; pen['spot'] = spot + 1; cell = 67 * spot + 41
    refine ⟨p, c, cs, sp, re, rfl, S, ?_⟩
    refine ⟨_, rfl, _, _, rfl, rfl, _, rfl, p, _, rfl, DPut.k (k := Sum.inr "place") S.hp (by show 3 < sizeLine; decide), ?_⟩
    rw [put_spot]
    have S1 : PenS (upd H p (.dK (penKV c (sp + 1) re))) p c cs (sp + 1) re := S.put
    have B1 : But p H (upd H p (.dK (penKV c (sp + 1) re))) := (But.refl p H).upd
    generalize upd H p (.dK (penKV c (sp + 1) re)) = H1 at S1 B1 ⊢
    refine ⟨_, rfl, _, _, rfl, rfl, Or.inl (by omega), _, _, rfl, rfl, ?_⟩
    refine ⟨p, c, cs, sp, _, re, sp + 1, _, _, _, rfl, S1, s0, fun cell H2 z2 => ?_⟩
    have S2 := S1.same z2
    have B2 : But p H H2 := B1.trans (But.of z2)
    -- if spot < len(cells) and cell >= 10 ** 18
    refine ⟨_, rfl, p, c, cs, sp + 1, re, rfl, S2, c, _, rfl, Or.inl (SqL.of S2.hc), _, _, rfl, rfl, _, rfl, ?_⟩
    refine ite2 (fun _ => ?_) (fun _ => ?_)
    · refine ⟨_, rfl, _, _, rfl, rfl, ⟨by decide, by decide, by decide⟩, _, _, rfl, rfl, _, rfl, ?_⟩
      refine ite2 (fun _ => ?_) (fun _ => ?_)
      · refine ⟨_, rfl, _, _, rfl, rfl, ⟨by decide, by decide, by decide⟩, _, _, rfl, rfl, _, rfl, _, _, rfl, rfl, mq, _, rfl, p, _, rfl, DPut.k (k := Sum.inr "rest") S2.hp (by show 3 < sizeLine; decide), ?_⟩
        rw [put_rest]
        refine ⟨_, rfl, _, _, rfl, rfl, ⟨by decide, by decide, by decide⟩, _, _, rfl, rfl, Or.inl ⟨_, rfl, _, rfl, _, _, rfl, rfl, mm, ?_⟩⟩
        exact k _ _ (modLo _) (modHi _) (S2.put.at_ (by omega) (by omega)) B2.upd
      · refine ⟨_, rfl, Or.inl ⟨_, rfl, _, _, rfl, rfl, (show (2147483543 : Int) ≠ 0 by decide), _, _, rfl, rfl, Or.inl ?_, _, rfl, _, _, rfl, rfl, Or.inl ⟨by decide, by decide⟩, _, rfl, _, _, rfl, rfl, Or.inl ?_, _, _, rfl, rfl, _, rfl, _, _, rfl, rfl, Or.inl ⟨by decide, by decide⟩, _, _, rfl, rfl, _, _, rfl, rfl, Or.inl ⟨_, rfl, _, _, rfl, rfl, (show (2147483477 : Int) ≠ 0 by decide), ?_⟩⟩⟩
        · exact fm_lo _ _ (by decide) (by decide)
        · omega
        refine ⟨_, rfl, _, rfl, _, _, rfl, rfl, _, _, rfl, rfl, Or.inl ?_, _, rfl, _, _, rfl, rfl, Or.inl ⟨by decide, by decide⟩, _, _, rfl, rfl, Or.inl ⟨_, rfl, _, _, rfl, rfl, (show (2147483423 : Int) ≠ 0 by decide), ?_⟩⟩
        · exact fm_lo _ _ (by decide) (by decide)
        refine ⟨_, rfl, _, rfl, _, _, rfl, rfl, Or.inl ?_, _, rfl, _, _, rfl, rfl, Or.inl ⟨by decide, by decide⟩, _, _, rfl, rfl, Or.inl ⟨_, rfl, _, _, rfl, rfl, (show (2147483399 : Int) ≠ 0 by decide), _, _, rfl, rfl, ⟨by decide, by decide⟩, Or.inl ⟨_, rfl, _, rfl, _, _, rfl, rfl, mm, ?_⟩⟩⟩
        · exact fm_lo _ _ (by decide) (by decide)
        exact k _ _ (modLo _) (modHi _) (S2.at_ (by omega) (by omega)) B2
    · refine iteF ?_
      refine ⟨_, rfl, Or.inl ⟨_, rfl, _, _, rfl, rfl, (show (2147483543 : Int) ≠ 0 by decide), _, _, rfl, rfl, Or.inl ?_, _, rfl, _, _, rfl, rfl, Or.inl ⟨by decide, by decide⟩, _, rfl, _, _, rfl, rfl, Or.inl ?_, _, _, rfl, rfl, _, rfl, _, _, rfl, rfl, Or.inl ⟨by decide, by decide⟩, _, _, rfl, rfl, _, _, rfl, rfl, Or.inl ⟨_, rfl, _, _, rfl, rfl, (show (2147483477 : Int) ≠ 0 by decide), ?_⟩⟩⟩
      · exact fm_lo _ _ (by decide) (by decide)
      · omega
      refine ⟨_, rfl, _, rfl, _, _, rfl, rfl, _, _, rfl, rfl, Or.inl ?_, _, rfl, _, _, rfl, rfl, Or.inl ⟨by decide, by decide⟩, _, _, rfl, rfl, Or.inl ⟨_, rfl, _, _, rfl, rfl, (show (2147483423 : Int) ≠ 0 by decide), ?_⟩⟩
      · exact fm_lo _ _ (by decide) (by decide)
      refine ⟨_, rfl, _, rfl, _, _, rfl, rfl, Or.inl ?_, _, rfl, _, _, rfl, rfl, Or.inl ⟨by decide, by decide⟩, _, _, rfl, rfl, Or.inl ⟨_, rfl, _, _, rfl, rfl, (show (2147483399 : Int) ≠ 0 by decide), _, _, rfl, rfl, ⟨by decide, by decide⟩, Or.inl ⟨_, rfl, _, rfl, _, _, rfl, rfl, mm, ?_⟩⟩⟩
      · exact fm_lo _ _ (by decide) (by decide)
      exact k _ _ (modLo _) (modHi _) (S2.at_ (by omega) (by omega)) B2
theorem scPick : FnScope ["_law_pen_here", "_law_items"] ["_law_pen_here", "_law_items"] (defScope sPick) := ⟨rfl, rfl, rfl, by decide +kernel, rfl, by decide +kernel, by decide +kernel⟩
theorem ok_pick {f fD : Addr} {fd fdD : FuncData} (F : Fun K "_law_pick" "_law_pick" sPick f fd) (FD : Fun K "_law_draw" "_law_draw" sDraw fD fdD) (T : TxtP mg) (gD : mg "_law_draw" = some (.ref fD)) : FnOk P w K mg base CX0 2 f fd ["_law_pen_here", "_law_items"] (spPick K) := by
  have GD : FnOk P w K mg base CX0 1 fD fdD ["_law_pen_here", "_law_number"] spDraw := ok_draw FD T
  have bD : Binds K fdD ["_law_pen_here", "_law_number"] [] := FD.binds (ps := ["_law_pen_here", "_law_number"]) fun _ _ _ _ _ _ us hl => match us, hl with | [_, _], _ => rfl
  refine F.ok scPick (fun vs H Q E h => ?_) (fun cdv A outer s H vs Q E hr h => ?_)
  · obtain ⟨p, c, n, l, xs, rfl, _⟩ := h
    rfl
  · obtain ⟨p, c, n, l, xs, rfl, hP, hn, hx, h1, h2, k⟩ := h
    refine ⟨_, pss_one (ps_ret (pe_ix ix_list (pv 1) (pe_call GD hr rfl gD FD.kp bD .nil pass0 (pa_cons (pv 0) (pa_cons (pe_callB call_len_seq (by rfl) T.len PySem.boot_len (pa_cons (pv 1) pa_nil)) pa_nil))) (fun _ _ => rfl))), ?_⟩
    refine ⟨_, rfl, _, rfl, _, rfl, l, xs, rfl, Or.inl (SqL.of hx), p, c, n, _, rfl, hP, hn, by omega, by omega, fun z H' z0 z1 P' B' => ?_⟩
    obtain ⟨j, ej⟩ := Int.eq_ofNat_of_zero_le z0
    have hj : j < xs.length := by omega
    have lp : l ≠ p := fun e => by
      obtain ⟨cs, sp, re, S, _⟩ := hP.open
      rw [e, S.hp] at hx
      exact nomatch hx
    have g : xs[j]? = some (xs[j]'hj) := List.getElem?_eq_getElem hj
    refine ⟨l, xs, _, _, rfl, rfl, SqL.of (B' l _ lp hx), (show atI xs z = some (xs[j]'hj) by rw [ej]; exact atI_nat g), k j _ H' g P' B'⟩
end

section
variable {P : Program} {w : World} {K : Frag} {mg : Str → Option Value} {base : Heap}
/-- a sign of a text is picked -/
def spPickS : Sp := fun vs H Q _ => ∃ (p c : Addr) (n : Nat) (z : Str), vs = [.ref p, .str z] ∧ PenAt H p c n ∧ n ≤ 1000000 ∧ 1 ≤ z.length ∧ z.length ≤ 1000 ∧
  ∀ (i : Nat) (x : Nat) (H' : Hp), z.cps.toList[i]? = some x → PenAt H' p c (n + 1) → But p H H' → Q (.str ⟨#[x]⟩) H'
theorem ok_pickS {f aD : Addr} {fd fD : FuncData} (F : Fun K "_law_pick" "_law_pick" sPick f fd) (FD : Fun K "_law_draw" "_law_draw" sDraw aD fD) (T : TxtP mg) (gD : mg "_law_draw" = some (.ref aD)) : FnOk P w K mg base CX0 2 f fd ["_law_pen_here", "_law_items"] spPickS := by
  have GD : FnOk P w K mg base CX0 1 aD fD ["_law_pen_here", "_law_number"] spDraw := ok_draw FD T
  have bD : Binds K fD ["_law_pen_here", "_law_number"] [] := FD.binds (ps := ["_law_pen_here", "_law_number"]) fun _ _ _ _ _ _ us hl => match us, hl with | [_, _], _ => rfl
  refine F.ok scPick (fun vs H Q E h => ?_) (fun cdv A outer s H vs Q E hr h => ?_)
  · obtain ⟨p, c, n, z, rfl, _⟩ := h
    rfl
  · obtain ⟨p, c, n, z, rfl, hP, hn, h1, h2, k⟩ := h
    refine ⟨_, pss_one (ps_ret (pe_ix ix_str (pv 1) (pe_call GD hr rfl gD FD.kp bD .nil pass0 (pa_cons (pv 0) (pa_cons (pe_callB call_len_str (by rfl) T.len PySem.boot_len (pa_cons (pv 1) pa_nil)) pa_nil))) (fun _ _ => rfl))), ?_⟩
    have lz : z.length ≤ sizeLine := by rw [sizeLine_eq]; omega
    refine ⟨_, rfl, _, rfl, _, rfl, z, rfl, lz, p, c, n, (z.length : Int), rfl, hP, hn, by omega, by omega, fun i H' i0 i1 hP' hb => ?_⟩
    have hi : i.toNat < z.cps.toList.length := by
      have : z.length = z.cps.toList.length := (Array.length_toList).symm
      omega
    have at1 : z.cps.toList[i.toNat]? = some (z.cps.toList[i.toNat]'hi) := List.getElem?_eq_getElem hi
    refine ⟨z, i, _, rfl, rfl, lz, ?_, k i.toNat _ H' at1 hP' hb⟩
    have := atI_nat at1
    rw [Int.toNat_of_nonneg i0] at this
    exact this
end
end Fp4
set_option Elab.async false
set_option linter.all false
set_option maxRecDepth 100000
set_option maxHeartbeats 4000000
namespace Fp4
open PySem PySem.Spec PyProof.Rows L2 Fh Fs
open PySem.W (Frag)
abbrev sWds : Stmt := top 29
abbrev NW : List Str := ["_law_pen_here", "_law_number", "_law_letters", "_law_k", "_law_stem", "_law_at", "_law_front", "_law_step"]
section
variable {P : Program} {w : World} {K : Frag} {mg : Str → Option Value} {base : Heap}
def W7 (x : Str) : Prop := Low x ∧ 1 ≤ x.length ∧ x.length ≤ 7
def spWords : Sp := fun vs H Q _ => ∃ (p c : Addr) (n : Nat) (m : Nat), vs = [.ref p, .int (m : Int)] ∧ PenAt H p c n ∧ n ≤ 900000 ∧ m ≤ 10 ∧
  ∀ (l : Addr) (xs : List Str) (H' : Hp), xs.length = m → (∀ x ∈ xs, W7 x) → PenAt H' p c (n + 10) → But p H H' → H l = none → H' l = some (.lst (xs.map V.str)) → Q (.ref l) H'
theorem scWords : FnScope NW ["_law_pen_here", "_law_number"] (defScope sWds) := ⟨rfl, rfl, rfl, by decide +kernel, rfl, by decide +kernel, by decide +kernel⟩
theorem ok_words {f aK aD : Addr} {fd fK fD : FuncData} (F : Fun K "_law_words" "_law_words" sWds f fd) (FK : Fun K "_law_pick" "_law_pick" sPick aK fK) (FD : Fun K "_law_draw" "_law_draw" sDraw aD fD) (T : TxtP mg) (gr : mg "range" = none)
    (gK : mg "_law_pick" = some (.ref aK)) (gD : mg "_law_draw" = some (.ref aD)) : FnOk P w K mg base CX0 3 f fd ["_law_pen_here", "_law_number"] spWords := by
  have GD : FnOk P w K mg base CX0 1 aD fD ["_law_pen_here", "_law_number"] spDraw := ok_draw FD T
  have GK : FnOk P w K mg base CX0 2 aK fK ["_law_pen_here", "_law_items"] (spPick K) := ok_pick FK FD T gD
  have GS : FnOk P w K mg base CX0 2 aK fK ["_law_pen_here", "_law_items"] spPickS := ok_pickS FK FD T gD
  have bD : Binds K fD ["_law_pen_here", "_law_number"] [] := FD.binds (ps := ["_law_pen_here", "_law_number"]) fun _ _ _ _ _ _ us hl => match us, hl with | [_, _], _ => rfl
  have bK : Binds K fK ["_law_pen_here", "_law_items"] [] := FK.binds (ps := ["_law_pen_here", "_law_items"]) fun _ _ _ _ _ _ us hl => match us, hl with | [_, _], _ => rfl
  refine F.ok scWords (fun vs H Q E h => ?_) (fun cdv A outer s H vs Q E hr h => ?_)
  · obtain ⟨p, c, n, m, rfl, _⟩ := h
    rfl
  · obtain ⟨p, c, n, m, rfl, hP, hn, hm, k⟩ := h
    have hu := hu_of hr
    have hr1 : Room 1 _ := hr.mono (by decide)
    refine' ⟨_, pss_cons ?s1 (pss_cons ?s2 (pss_cons ?s3 (pss_cons ?s4 (pss_one ?s5)))), ?q⟩
    case s1 => exact ps_set (i := 2) scWords.nd rfl (Or.inr rfl) pe_str
    case s2 => exact ps_set (i := 4) scWords.nd rfl (Or.inr rfl) (pe_join pe_str
        (pe_lc (own := [("_law_k", 3)]) (g := gName 3) (tt := tYes) rfl scWords.nd (pi_range1 rfl gr (pa_cons (pe_call GD hr1 rfl gD FD.kp bD .nil pass0 (pa_cons (pv 0) (pa_cons pe_int pa_nil))) pa_nil)) (blkOk_by (N := NW) (sc := defScope sWds) (by decide +kernel)) (fun _ _ _ _ _ => pg_name (i := 3) scWords.nd rfl (Or.inl rfl)) (fun _ _ _ _ _ => pts_nil)
          (fun _ _ _ _ _ => pe_call GS hr rfl gK FK.kp bK .nil pass0 (pa_cons (pv 0) (pa_cons (pv 2) pa_nil)))))
    case s3 =>
      refine' ps_asg (pe_tup (pa_cons ?a (pa_cons ?b pa_nil))) (pg_tup (n := 2) rfl (pgs_cons (pg_name (i := 5) scWords.nd rfl (Or.inr rfl)) (pgs_cons (pg_name (i := 6) scWords.nd rfl (Or.inr rfl)) pgs_nil)))
      case a => exact pe_call GD hr1 rfl gD FD.kp bD .nil pass0 (pa_cons (pv 0) (pa_cons (pe_op op_add (pe_callB call_len_str (by rfl) T.len PySem.boot_len (pa_cons (pv 4) pa_nil)) pe_int) pa_nil))
      case b => exact pe_call GD hr1 rfl gD FD.kp bD .nil pass0 (pa_cons (pv 0) (pa_cons pe_int pa_nil))
    case s4 => exact ps_set (i := 7) scWords.nd rfl (Or.inr rfl) (pe_call GK hr rfl gK FK.kp bK .nil pass0 (pa_cons (pv 0) (pa_cons (pe_lst (pa_cons pe_int (pa_cons pe_int (pa_cons pe_int (pa_cons pe_int (pa_cons pe_int (pa_cons pe_int pa_nil))))))) pa_nil)))
    case s5 => exact ps_ret (pe_lc (own := [("_law_k", 3)]) (g := gName 3) (tt := tYes) rfl scWords.nd (pi_range1 rfl gr (pa_cons (pv 1) pa_nil)) (blkOk_by (N := NW) (sc := defScope sWds) (by decide +kernel)) (fun _ _ _ _ _ => pg_name (i := 3) scWords.nd rfl (Or.inl rfl)) (fun _ _ _ _ _ => pts_nil)
          (fun _ _ _ _ _ => pe_op op_add_str (pe_op op_add_str (pe_slice sl_str (pv 4) po_none (po_some (pv 5))) (pe_ix ix_str (pv 2) (pe_op op_mod (pe_callTy call_int1 (by rfl) T.int (by decide +kernel) (pa_cons (pe_op op_add (pv 6) (pe_op op_mul (pv 7) (pv 3))) pa_nil)) pe_int) (fun _ _ => rfl))) (pe_slice sl_str (pv 4) (po_some (pv 5)) po_none)))
    case q =>
      refine ⟨⟨_, rfl⟩, _, rfl, p, c, n, 7, rfl, hP, by omega, by decide, by decide, fun q H1 q0 q1 P1 b1 => ⟨q, rfl, by omega, by omega, fun D hD => ?_⟩⟩
      obtain ⟨Dp, Dc⟩ := pen_apart P1 (Same.refl _) hD
      have qn : q.toNat ≤ 6 := by omega
      refine lc_it walk_range (fun i Hh => ∃ ys : List Str, ys.length = i ∧ (∀ y ∈ ys, Low y ∧ y.length = 1) ∧ Hh D = some (.lst (ys.map V.str)) ∧ PenAt Hh p c (n + 1 + i) ∧ But p H1 Hh) ⟨[], rfl, (fun _ z => nomatch z), upd_same, pen_off P1 Dp Dc, But.of (Same.new hD)⟩ (fun _ _ _ _ => trivial) ?_ ?_
      · rintro i x H2 H3 hi ⟨ys, l2, g2, d2, P2, b2⟩ ⟨rfl, rfl⟩
        refine ⟨rfl, ?_⟩
        refine yes_of ?_
        refine ⟨_, rfl, _, rfl, p, c, n + 1 + i, _, rfl, P2, by omega, by decide +kernel, by decide +kernel, fun j ch H4 hj P4 b4 => ?_⟩
        have d4 := b4 D _ Dp d2
        refine ⟨ys.map V.str, d4, by rw [List.length_map, sizeLine_eq]; omega, ys ++ [⟨#[ch]⟩], by rw [List.length_append, l2]; rfl, fun y hy => ?_, by rw [List.map_append]; exact upd_same, pen_off P4 Dp Dc, ?_⟩
        · rcases List.mem_append.mp hy with z | z
          · exact g2 y z
          · rw [List.mem_singleton.mp z]
            exact ⟨Low.one (List.mem_of_getElem? hj), rfl⟩
        · intro b o nb z
          have nD : b ≠ D := fun e => by rw [e, hD] at z; cases z
          rw [upd_ne nD]
          exact b4 b o nb (b2 b o nb z)
      · rintro H2 ⟨ys, l2, g2, d2, P2, b2⟩
        obtain ⟨low, len, sum⟩ := join_low g2
        refine ⟨_, D, ys, rfl, rfl, .inl (SqL.of d2), by rw [sum]; show ys.length + ys.length * 0 ≤ _; omega, ?_⟩
        generalize Txt.join (Str.ofString "") ys = stem at low len ⊢
        have ls : stem.length ≤ 6 := by omega
        have lz : stem.length ≤ sizeLine := by rw [sizeLine_eq]; omega
        have P2' : PenAt H2 p c (n + 7) := P2.same (Same.refl _) (by omega)
        refine gName_go ?_
        with_reducible conv => whnf
        refine ⟨_, rfl, _, rfl, stem, rfl, lz, _, _, rfl, rfl, p, c, n + 7, (stem.length : Int) + 1, rfl, P2', by omega, by omega, by omega, fun at_ H3 a0 a1 P3 b3 => ?_⟩
        refine ⟨_, rfl, p, c, n + 7 + 1, 26, rfl, P3, by omega, by decide, by decide, fun fr H4 f0 f1 P4 b4 => ⟨(show 2 ≤ sizeLine by decide), fun tt nt => ?_⟩⟩
        refine ⟨tt, _, rfl, SqT.of upd_same, rfl, _, _, rfl, gName_go ⟨_, _, rfl, gName_go ⟨rfl, ?_⟩⟩⟩
        have P5 : PenAt (upd H4 tt (.tup [.int at_, .int fr])) p c (n + 9) := P4.same (Same.new nt) (by omega)
        have b5 : But p H1 (upd H4 tt (.tup [.int at_, .int fr])) := ((b2.trans b3).trans b4).trans (But.of (Same.new nt))
        generalize upd H4 tt (.tup [.int at_, .int fr]) = H5 at P5 b5 ⊢
        with_reducible conv => whnf
        refine ⟨_, rfl, (show 6 ≤ sizeLine by decide), fun l1 n1 => ?_⟩
        refine ⟨p, c, n + 9, l1, _, rfl, P5.same (Same.new n1) (Nat.le_refl _), by omega, upd_same, by decide, by decide, fun i1 x1 H6 e1 P6 b6 => ?_⟩
        obtain ⟨st, rfl, st0, st1⟩ : ∃ v : Int, x1 = .int v ∧ 0 ≤ v ∧ v ≤ 17 := by
          have hm1 := List.mem_of_getElem? e1
          simp only [List.mem_cons, List.not_mem_nil, or_false] at hm1
          rcases hm1 with z | z | z | z | z | z <;> exact ⟨_, z, by decide, by decide⟩
        have all : But p H H6 := (b1.trans b5).trans ((But.of (Same.new n1)).trans b6)
        refine gName_go ?_
        with_reducible conv => whnf
        refine ⟨_, rfl, (m : Int), rfl, by omega, by omega, fun L nL => ?_⟩
        have mm : (m : Int).toNat = m := by omega
        have nLp : L ≠ p := (pen_apart P6 (Same.refl _) nL).1
        have nLc : L ≠ c := (pen_apart P6 (Same.refl _) nL).2
        refine lc_it walk_range (fun i Hh => ∃ xs : List Str, xs.length = i ∧ (∀ x ∈ xs, W7 x) ∧ Hh L = some (.lst (xs.map V.str)) ∧ ∀ b o, b ≠ L → H6 b = some o → Hh b = some o) ⟨[], rfl, (fun _ z => nomatch z), upd_same, fun b o nb z => by rw [upd_ne nb]; exact z⟩ (fun _ _ _ _ => trivial) ?_ ?_
        · rintro i x H7 H8 hi ⟨xs, lx, gx, dx, keep⟩ ⟨rfl, rfl⟩
          refine ⟨rfl, ?_⟩
          refine yes_of ?_
          obtain ⟨ch, hch⟩ : ∃ ch, atI (Str.ofString "abcdefghijklmnopqrstuvwxyz").cps.toList ((fr + st * (0 + (i : Int))) % 26) = some ch := by
            have b0 : 0 ≤ (fr + st * (0 + (i : Int))) % 26 := Int.emod_nonneg _ (by decide)
            have b1 : (fr + st * (0 + (i : Int))) % 26 < 26 := Int.emod_lt_of_pos _ (by decide)
            have lz26 : (Str.ofString "abcdefghijklmnopqrstuvwxyz").cps.toList.length = 26 := by decide +kernel
            have hl : ((fr + st * (0 + (i : Int))) % 26).toNat < (Str.ofString "abcdefghijklmnopqrstuvwxyz").cps.toList.length := by rw [lz26]; omega
            have g := atI_nat (List.getElem?_eq_getElem hl)
            rw [Int.toNat_of_nonneg b0] at g
            exact ⟨_, g⟩
          have chl : ch ∈ abc := by
            obtain ⟨j, _, h2, _⟩ := atI_get hch
            exact List.mem_of_getElem? h2
          obtain ⟨at2, rfl⟩ : ∃ k : Nat, at_ = (k : Int) := ⟨at_.toNat, (Int.toNat_of_nonneg a0).symm⟩
          have la : at2 ≤ stem.length := by omega
          have cp := cut_parts la
          have one : (⟨#[ch]⟩ : Str).length = 1 := rfl
          refine ⟨_, rfl, _, rfl, _, rfl, stem, rfl, lz, ?_⟩
          refine ⟨_, rfl, _, rfl, _, rfl, _, rfl, st, _, rfl, rfl, .inl ⟨by omega, by omega⟩, fr, _, rfl, rfl, .inl ⟨_, rfl, _, _, rfl, rfl, (show (0 : Int) < 26 by decide), ?_⟩⟩
          refine ⟨_, _, ch, rfl, rfl, by decide +kernel, hch, ?_⟩
          refine ⟨_, _, rfl, rfl, by rw [one, sizeLine_eq]; omega, ?_⟩
          refine ⟨_, rfl, _, rfl, _, rfl, stem, rfl, lz, ?_⟩
          refine ⟨_, _, rfl, rfl, by rw [app_len, one, sizeLine_eq]; omega, ?_⟩
          have bl : (cutS stem none (some (at2 : Int)) ++ (⟨#[ch]⟩ : Str) ++ cutS stem (some (at2 : Int)) none).length = stem.length + 1 := by rw [app_len, app_len, one]; omega
          have blow : Low (cutS stem none (some (at2 : Int)) ++ (⟨#[ch]⟩ : Str) ++ cutS stem (some (at2 : Int)) none) := ((low.cut _ _).app (Low.one chl)).app (low.cut _ _)
          generalize cutS stem none (some (at2 : Int)) ++ (⟨#[ch]⟩ : Str) ++ cutS stem (some (at2 : Int)) none = bw at bl blow ⊢
          refine ⟨xs.map V.str, dx, by rw [List.length_map, lx, sizeLine_eq]; omega, xs ++ [bw], by rw [List.length_append, lx]; rfl, fun y hy => ?_, by rw [List.map_append]; exact upd_same, fun b o nb y => by rw [upd_ne nb]; exact keep b o nb y⟩
          rcases List.mem_append.mp hy with u | u
          · exact gx y u
          · rw [List.mem_singleton.mp u]
            exact ⟨blow, by omega, by omega⟩
        · rintro H7 ⟨xs, lx, gx, dx, keep⟩
          refine k L xs H7 (by omega) gx ?_ (fun b o nb y => ?_) (but_none all nL nLp) dx
          · obtain ⟨cs, s5, r5, S, s0, s1⟩ := P6.open
            exact PenS.at_ ⟨S.pc, keep _ _ (Ne.symm nLp) S.hp, keep _ _ (Ne.symm nLc) S.hc, S.hl⟩ s0 (by omega)
          · have y6 := all b o nb y
            exact keep b o (fun e => by rw [e, nL] at y6; cases y6) y6
end
end Fp4
set_option Elab.async false
set_option linter.all false
set_option maxRecDepth 100000
set_option maxHeartbeats 4000000
namespace Fp4
open PySem PySem.Spec PyProof.Rows L2 Fh Fs
open PySem.W (Frag)
abbrev sPl : Stmt := top 30
abbrev NP : List Str := ["_law_pen_here", "_law_names", "_law_room", "_law_deep", "_law_is_inner", "_law_way", "_law_one", "_law_word", "_law_least", "_law_number", "_law_k"]
abbrev AP : List Str := ["_law_pen_here", "_law_names", "_law_room", "_law_deep", "_law_is_inner"]
/-! ### data that stay where all but some stays -/
def Off (N : Addr → Prop) (H H' : Hp) : Prop := ∀ b o, ¬ N b → H b = some o → H' b = some o
mutual
theorem da_off {N : Addr → Prop} {H H' : Hp} (s : Off N H H') : ∀ {v : V} {d : PyData}, DA N H v d → DA N H' v d
  | _, _, .non => .non
  | _, _, .bl b => .bl b
  | _, _, .int i => .int i
  | _, _, .str x => .str x
  | _, _, .lst h n m r => .lst (s _ _ m h) n m (das_off s r)
  | _, _, .tup h m r => .tup (s _ _ m h) m (das_off s r)
  | _, _, .dK h m r => .dK (s _ _ m h) m (dks_off s r)
theorem das_off {N : Addr → Prop} {H H' : Hp} (s : Off N H H') : ∀ {v : List V} {d : List PyData}, DAs N H v d → DAs N H' v d
  | _, _, .nil => .nil
  | _, _, .cons h r => .cons (da_off s h) (das_off s r)
theorem dks_off {N : Addr → Prop} {H H' : Hp} (s : Off N H H') : ∀ {v : List (Key × V)} {d : List (PyData × PyData)}, DKs N H v d → DKs N H' v d
  | _, _, .nil => .nil
  | _, _, .cons h r => .cons (da_off s h) (dks_off s r)
end
theorem Off.trans {N : Addr → Prop} {H H1 H2 : Hp} (a : Off N H H1) (b : Off N H1 H2) : Off N H H2 := fun x o n h => b x o n (a x o n h)
theorem Off.of {N : Addr → Prop} {H H1 : Hp} (a : Same H H1) : Off N H H1 := fun x o _ h => a x o h
theorem Off.but {N : Addr → Prop} {p : Addr} {H H1 : Hp} (hp : N p) (a : But p H H1) : Off N H H1 := fun x o n h => a x o (fun e => n (e ▸ hp)) h
/-- a right plan with names of ns, at most n levels -/
inductive Good (ns : List Str) : Nat → Bool → PyData → Prop where
  | nm {n : Nat} {b : Bool} {y : Str} : y ∈ ns → Good ns n b (.str y)
  | nd {n : Nat} {b : Bool} {y : Str} {ds : List PyData} : rightNo y ds.length = true → ds.length ≤ 4 → (b && decide (y = "beside")) = false → (∀ d ∈ ds, Good ns n (b || decide (y = "beside")) d) → Good ns (n + 1) b (.tuple (.str y :: ds))
/-- the names in a plan -/
def namesIn (rec : PyData → List Str) : PyData → List Str
  | .str y => [y]
  | .tuple (_ :: ds) => ds.flatMap rec
  | _ => []
def namesF : Nat → PyData → List Str
  | 0, .str y => [y]
  | 0, _ => []
  | n + 1, d => namesIn (namesF n) d
theorem names_str (n : Nat) (y : Str) : namesF n (.str y) = [y] := by cases n <;> rfl
theorem names_nd (n : Nat) (y : PyData) (ds : List PyData) : namesF (n + 1) (.tuple (y :: ds)) = ds.flatMap (namesF n) := rfl
/-- as many names as room was taken -/
def Took (n : Nat) (d : PyData) (m m' : Int) : Prop := ((namesF (n + 1) d).length : Int) = m - m' ∧ (0 ≤ m → 0 ≤ m')
def TookL (n : Nat) (ds : List PyData) (m m' : Int) : Prop := ((ds.flatMap (namesF n)).length : Int) = m - m' ∧ (0 ≤ m → 0 ≤ m')
theorem TookL.snoc {n : Nat} {ds : List PyData} {d : PyData} {m m1 m2 : Int} (a : TookL (n + 1) ds m m1) (b : Took n d m1 m2) : TookL (n + 1) (ds ++ [d]) m m2 := by
  refine ⟨?_, fun h => b.2 (a.2 h)⟩
  have e : (ds ++ [d]).flatMap (namesF (n + 1)) = ds.flatMap (namesF (n + 1)) ++ namesF (n + 1) d := by
    rw [List.flatMap_append]
    show _ ++ (namesF (n + 1) d ++ []) = _
    rw [List.append_nil]
  rw [e, List.length_append]
  have := a.1
  have := b.1
  omega
theorem TookL.nil {n : Nat} {m : Int} : TookL n [] m m := ⟨show (0 : Int) = m - m by omega, fun h => h⟩
def Bd : Nat → Nat
  | 0 => 2
  | n + 1 => 4 * Bd n + 3
abbrev PR (p r : Addr) : Addr → Prop := fun a => a = p ∨ a = r
def spPl (n : Nat) : Sp := fun vs H Q _ => ∃ (p c l r : Addr) (k : Nat) (ns : List Str) (m : Int) (b : Bool), vs = [.ref p, .ref l, .ref r, .int (n : Int), .bl b] ∧ PenAt H p c k ∧ k + Bd n ≤ 100000 ∧ H l = some (.lst (ns.map V.str)) ∧ 1 ≤ ns.length ∧ ns.length ≤ 100 ∧ H r = some (.lst [.int m]) ∧ l ≠ p ∧ l ≠ r ∧ r ≠ p ∧ r ≠ c ∧
  ∀ (x : V) (d : PyData) (m' : Int) (H' : Hp), PenAt H' p c (k + Bd n) → Off (PR p r) H H' → H' r = some (.lst [.int m']) → DA (PR p r) H' x d → Good ns (n + 1) b d → Took n d m m' → Q x H'
theorem tNext_go {D : Ends} {σ : L2.St} {H : Hp} (h : D.nx σ H) : tNext D σ H := h
theorem bd_two : ∀ n, 2 ≤ Bd n
  | 0 => Nat.le_refl _
  | n + 1 => by show 2 ≤ 4 * Bd n + 3; omega
theorem off_upd {N : Addr → Prop} {H : Hp} {r : Addr} {o : HO} (h : N r) : Off N H (upd H r o) := fun b u n z => by rw [upd_ne (fun e => n (by rw [e]; exact h))]; exact z
theorem or_b {b : Bool} {y : Str} (h : y ≠ "beside") : (b || decide (y = "beside")) = b := by rw [decide_eq_false h, Bool.or_false]
theorem and_b {b : Bool} {y : Str} (h : y ≠ "beside") : (b && decide (y = "beside")) = false := by rw [decide_eq_false h, Bool.and_false]
theorem da_lst {N : Addr → Prop} {H : Hp} {ns : List Str} {n : Nat} {b : Bool} {d : PyData} {L : Addr} {xs : List V} {o : HO} (hL : H L = some (.lst xs)) (g : Good ns n b d) : ∀ {v : V}, DA N H v d → DA N (upd H L o) v d := by
  induction g with
  | nm h => intro v da; cases da; exact .str _
  | @nd n b y ds h1 h2 h3 h4 ih =>
    intro v da
    cases da with
    | @tup a vs _ hg nn r =>
      refine .tup (by rw [upd_ne (fun e => by rw [e, hL] at hg; cases hg)]; exact hg) nn ?_
      cases r with
      | cons h r =>
        cases h
        refine .cons (.str _) ?_
        have key : ∀ {vs : List V} {es : List PyData}, (∀ d ∈ es, d ∈ ds) → DAs N H vs es → DAs N (upd H L o) vs es := by
          intro vs es
          induction es generalizing vs with
          | nil => intro _ h; cases h; exact .nil
          | cons e es ihe =>
            intro sub h
            cases h with
            | cons h1 h2 => exact .cons (ih e (sub e List.mem_cons_self) h1) (ihe (fun d hd => sub d (List.mem_cons_of_mem _ hd)) h2)
        exact key (fun _ h => h) r
theorem dass_lst {N : Addr → Prop} {H : Hp} {ns : List Str} {n : Nat} {b : Bool} {L : Addr} {ys : List V} {o : HO} (hL : H L = some (.lst ys)) {xs : List V} {ds : List PyData} (g : ∀ d ∈ ds, Good ns n b d) (h : DAs N H xs ds) : DAs N (upd H L o) xs ds := by
  induction ds generalizing xs with
  | nil => cases h; exact .nil
  | cons d ds ih =>
    cases h with
    | cons h1 h2 => exact .cons (da_lst hL (g d List.mem_cons_self) h1) (ih (fun d' hd => g d' (List.mem_cons_of_mem _ hd)) h2)
theorem das_snoc {N : Addr → Prop} {H : Hp} {xs : List V} {ds : List PyData} {y : V} {d : PyData} (h : DAs N H xs ds) (hy : DA N H y d) : DAs N H (xs ++ [y]) (ds ++ [d]) := by
  induction ds generalizing xs with
  | nil => cases h; exact .cons hy .nil
  | cons d' ds ih =>
    cases h with
    | cons h1 h2 => exact .cons h1 (ih h2)
theorem das_len {N : Addr → Prop} {H : Hp} {xs : List V} {ds : List PyData} (h : DAs N H xs ds) : xs.length = ds.length := by
  induction ds generalizing xs with
  | nil => cases h; rfl
  | cons d' ds ih =>
    cases h with
    | cons h1 h2 => exact congrArg (· + 1) (ih h2)
section
variable {P : Program} {w : World} {K : Frag} {mg : Str → Option Value} {base : Heap}
theorem scPl : FnScope NP AP (defScope sPl) := ⟨rfl, rfl, rfl, by decide +kernel, rfl, by decide +kernel, by decide +kernel⟩
theorem step_pl {n kk : Nat} {sp' : Sp} {f aK aD : Addr} {fd fK fD : FuncData} (hk : 2 ≤ kk) (F : Fun K "_law_plan" "_law_plan" sPl f fd) (FK : Fun K "_law_pick" "_law_pick" sPick aK fK) (FD : Fun K "_law_draw" "_law_draw" sDraw aD fD) (T : TxtP mg) (gr : mg "range" = none) (gt : mg "tuple" = none)
    (gK : mg "_law_pick" = some (.ref aK)) (gD : mg "_law_draw" = some (.ref aD)) (gF : mg "_law_plan" = some (.ref f)) (GP : FnOk P w K mg base CX0 kk f fd AP sp') (hs : ∀ j, n = j + 1 → sp' = spPl j) : FnOk P w K mg base CX0 (kk + 1) f fd AP (spPl n) := by
  have GD : FnOk P w K mg base CX0 1 aD fD ["_law_pen_here", "_law_number"] spDraw := ok_draw FD T
  have GK : FnOk P w K mg base CX0 2 aK fK ["_law_pen_here", "_law_items"] (spPick K) := ok_pick FK FD T gD
  have bD : Binds K fD ["_law_pen_here", "_law_number"] [] := FD.binds (ps := ["_law_pen_here", "_law_number"]) fun _ _ _ _ _ _ us hl => match us, hl with | [_, _], _ => rfl
  have bK : Binds K fK ["_law_pen_here", "_law_items"] [] := FK.binds (ps := ["_law_pen_here", "_law_items"]) fun _ _ _ _ _ _ us hl => match us, hl with | [_, _], _ => rfl
  have bP : Binds K fd AP [] := F.binds (ps := AP) fun _ _ _ _ _ _ us hl => match us, hl with | [_, _, _, _, _], _ => rfl
  refine F.ok scPl (fun vs H Q E h => ?_) (fun cdv A outer s H vs Q E hr h => ?_)
  · obtain ⟨p, c, l, r, k, ns, m, b, rfl, _⟩ := h
    rfl
  · obtain ⟨p, c, l, r, k, ns, m, b, rfl, hP, hk2, hl, n1, n2, hm, lp, lr, rp, rc, go⟩ := h
    have hu := hu_of hr
    have hr1 : Room 1 _ := hr.mono (by omega)
    have hr2 : Room 2 _ := hr.mono hk
    refine' ⟨_, pss_cons ?s1 (pss_cons ?s2 (pss_cons ?s3 (pss_cons ?s4 (pss_cons ?s5 (pss_cons ?s6 (pss_cons ?s7 (pss_one ?s8))))))), ?q⟩
    case s1 =>
      refine' ps_set (i := 5) scPl.nd rfl (Or.inl rfl) (pe_ifExp (PW.pt (pw_and ?a (pw_and1 ?b))) ?c pe_int)
      case a => exact pt_cmpR op_gt (pv 3) pe_int (nomark _)
      case b => exact pt_cmpR op_gt (pe_ix ix_list (pv 2) pe_int (fun _ _ => rfl)) pe_int (nomark _)
      case c => exact pe_call GD hr1 rfl gD FD.kp bD .nil pass0 (pa_cons (pv 0) (pa_cons pe_int pa_nil))
    case s2 =>
      refine' ps_if (PW.pt (pw_and ?a (pw_and1 ?b))) (pss_cons ?c (pss_one (ps_ret ?d))) pss_nil
      case a => exact pt_cmpR op_lt (pv 5) pe_int (nomark _)
      case b => exact pt_cmpR op_gt (pe_ix ix_list (pv 2) pe_int (fun _ _ => rfl)) pe_int (nomark _)
      case c => exact ps_asg (pe_op op_sub (pe_ix ix_list (pv 2) pe_int (fun _ _ => rfl)) pe_int) (pg_sub (pv 2) pe_int set_list)
      case d => exact pe_call GK hr2 rfl gK FK.kp bK .nil pass0 (pa_cons (pv 0) (pa_cons (pv 1) pa_nil))
    case s3 =>
      refine' ps_if ?a (pss_one (ps_ret (pe_tup (pa_cons pe_str pa_nil)))) pss_nil
      case a => exact pt_cmpR op_le (pe_ix ix_list (pv 2) pe_int (fun _ _ => rfl)) pe_int (nomark _)
    case s4 =>
      refine' ps_if ?a (pss_one (ps_ret (pe_tup (pa_cons pe_str (pa_cons ?b pa_nil))))) pss_nil
      case a => exact pt_cmpR op_eq (pv 5) pe_int (nomark _)
      case b => exact pe_call GP hr rfl gF F.kp bP .nil pass0 (pa_cons (pv 0) (pa_cons (pv 1) (pa_cons (pv 2) (pa_cons (pe_op op_sub (pv 3) pe_int) (pa_cons (pv 4) pa_nil)))))
    case s5 =>
      refine' ps_if (PW.pt (pw_and ?a (pw_and1 ?b))) (pss_cons ?c (pss_one (ps_ret (pe_tup (pa_cons pe_str (pa_cons (pv 6) (pa_cons ?d pa_nil))))))) pss_nil
      case a => exact pt_cmpR op_eq (pv 5) pe_int (nomark _)
      case b => exact pt_not (pt_val (pv 4))
      case c => exact ps_set (i := 6) scPl.nd rfl (Or.inl rfl) (pe_call GP hr rfl gF F.kp bP .nil pass0 (pa_cons (pv 0) (pa_cons (pv 1) (pa_cons (pv 2) (pa_cons (pe_op op_sub (pv 3) pe_int) (pa_cons pe_bl pa_nil))))))
      case d => exact pe_call GP hr rfl gF F.kp bP .nil pass0 (pa_cons (pv 0) (pa_cons (pv 1) (pa_cons (pv 2) (pa_cons (pe_op op_sub (pv 3) pe_int) (pa_cons pe_bl pa_nil)))))
    case s6 =>
      refine' ps_asg ?a (pg_tup (n := 2) rfl (pgs_cons (pg_name (i := 7) scPl.nd rfl (Or.inl rfl)) (pgs_cons (pg_name (i := 8) scPl.nd rfl (Or.inl rfl)) pgs_nil)))
      case a =>
        refine' pe_call GK hr2 rfl gK FK.kp bK .nil pass0 (pa_cons (pv 0) (pa_cons (pe_lst ?b) pa_nil))
        case b => exact pa_cons (pe_tup (pa_cons pe_str (pa_cons pe_int pa_nil))) (pa_cons (pe_tup (pa_cons pe_str (pa_cons pe_int pa_nil))) (pa_cons (pe_tup (pa_cons pe_str (pa_cons pe_int pa_nil))) (pa_cons (pe_tup (pa_cons pe_str (pa_cons pe_int pa_nil))) (pa_cons (pe_tup (pa_cons pe_str (pa_cons pe_int pa_nil))) pa_nil))))
    case s7 => exact ps_set (i := 9) scPl.nd rfl (Or.inl rfl) (pe_op op_add (pv 8) (pe_call GD hr1 rfl gD FD.kp bD .nil pass0 (pa_cons (pv 0) (pa_cons pe_int pa_nil))))
    case s8 =>
      refine' ps_ret (pe_op op_catA (pe_tup (pa_cons (pv 7) pa_nil)) (pe_tupleOf (by rfl) gt ?a))
      case a =>
        refine' pe_lc (own := [("_law_k", 10)]) (g := gName 10) (tt := tYes) rfl scPl.nd ?i ?k ?g ?c ?e
        case i => exact pi_range1 rfl gr (pa_cons (pv 9) pa_nil)
        case k => exact blkOk_by (N := NP) (sc := defScope sPl) (by decide +kernel)
        case g => exact fun _ _ _ _ _ => pg_name (i := 10) scPl.nd rfl (Or.inl rfl)
        case c => exact fun _ _ _ _ _ => pts_nil
        case e => exact fun _ _ _ _ _ => pe_call GP hr rfl gF F.kp bP .nil pass0 (pa_cons (pv 0) (pa_cons (pv 1) (pa_cons (pv 2) (pa_cons (pe_op op_sub (pv 3) pe_int) (pa_cons (pv 4) pa_nil)))))
    case q =>
      show tSeq _ _ _ _ _
      refine seq_cutS (fun σ Hc => ∃ way : Int, σ = [some (V.ref p), some (.ref l), some (.ref r), some (.int (n : Int)), some (.bl b), some (.int way), none, none, none, none, none] ∧ 0 ≤ way ∧ way ≤ 8 ∧ (n = 0 ∨ m ≤ 1 → way = 0) ∧ PenAt Hc p c (k + 1) ∧ But p H Hc) ?_ ?_
      · intro NX rr
        by_cases hn : n = 0
        · refine ⟨_, rfl, _, _, rfl, rfl, false, congrArg V.bl (decide_eq_false (by omega)), iteF (iteF (rr _ _ ⟨0, rfl, by decide, by decide, fun _ => rfl, hP.same (Same.refl _) (by omega), But.refl _ _⟩))⟩
        · refine ⟨_, rfl, _, _, rfl, rfl, true, congrArg V.bl (decide_eq_true (by omega)), iteT ⟨_, rfl, r, _, 0, .int m, rfl, rfl, SqL.of hm, rfl, _, _, rfl, rfl, decide (1 < m), rfl, ?_⟩⟩
          by_cases h1 : 1 < m
          · rw [decide_eq_true h1]
            exact iteT ⟨_, rfl, p, c, k, 9, rfl, hP, by omega, by decide, by decide, fun q Hc q0 q1 Pc bc => rr _ _ ⟨q, rfl, q0, by omega, fun z => by omega, Pc, bc⟩⟩
          · rw [decide_eq_false h1]
            exact iteF (rr _ _ ⟨0, rfl, by decide, by decide, fun _ => rfl, hP.same (Same.refl _) (by omega), But.refl _ _⟩)
      rintro σ Hc ⟨way, rfl, w0, w8, wz, Pc, bc⟩
      have hlc := bc _ _ lp hl
      have hmc := bc _ _ rp hm
      have offc : Off (PR p r) H Hc := Off.but (.inl rfl) bc
      have b2n := bd_two n
      by_cases h2 : way < 3 ∧ 0 < m
      · refine ⟨_, rfl, _, _, rfl, rfl, true, congrArg V.bl (decide_eq_true h2.1), iteT ⟨_, rfl, r, _, 0, .int m, rfl, rfl, SqL.of hmc, rfl, _, _, rfl, rfl, true, congrArg V.bl (decide_eq_true h2.2), iteT ?_⟩⟩
        refine ⟨_, rfl, r, _, 0, .int m, rfl, rfl, SqL.of hmc, rfl, _, _, rfl, rfl, _, rfl, r, [.int m], 0, 0, rfl, rfl, hmc, rfl, ?_⟩
        have hr2 : (upd Hc r (.lst ([V.int m].set 0 (.int (m - 1))))) r = some (.lst [.int (m - 1)]) := upd_same
        have hl2 : (upd Hc r (.lst ([V.int m].set 0 (.int (m - 1))))) l = some (.lst (ns.map V.str)) := by rw [upd_ne lr]; exact hlc
        have P2 : PenAt (upd Hc r (.lst ([V.int m].set 0 (.int (m - 1))))) p c (k + 1) := pen_off Pc rp rc
        have o2 : Off (PR p r) H (upd Hc r (.lst ([V.int m].set 0 (.int (m - 1))))) := offc.trans (off_upd (.inr rfl))
        generalize upd Hc r (.lst ([V.int m].set 0 (.int (m - 1)))) = H2 at hr2 hl2 P2 o2 ⊢
        refine ⟨_, rfl, _, rfl, p, c, k + 1, l, ns.map V.str, rfl, P2, by omega, hl2, by rw [List.length_map]; exact n1, by rw [List.length_map]; omega, fun i y H3 gy P3 b3 => ?_⟩
        obtain ⟨w0', hw, rfl⟩ := List.mem_map.mp (List.mem_of_getElem? gy)
        exact go _ (.str w0') (m - 1) H3 (P3.same (Same.refl _) (by omega)) (o2.trans (Off.but (.inl rfl) b3)) (b3 _ _ rp hr2) (.str _) (.nm hw) ⟨by rw [names_str]; show (1 : Int) = m - (m - 1); omega, fun _ => by omega⟩
      refine seq_cutS (fun σ H3 => H3 = Hc ∧ σ = [some (V.ref p), some (.ref l), some (.ref r), some (.int (n : Int)), some (.bl b), some (.int way), none, none, none, none, none]) ?_ ?_
      · intro NX rr
        refine ⟨_, rfl, _, _, rfl, rfl, decide (way < 3), rfl, ?_⟩
        by_cases h3 : way < 3
        · rw [decide_eq_true h3]
          refine iteT ⟨_, rfl, r, _, 0, .int m, rfl, rfl, SqL.of hmc, rfl, _, _, rfl, rfl, false, congrArg V.bl (decide_eq_false (by omega)), iteF (rr _ _ ⟨rfl, rfl⟩)⟩
        · rw [decide_eq_false h3]
          exact iteF (iteF (rr _ _ ⟨rfl, rfl⟩))
      rintro σ H3 ⟨rfl, rfl⟩
      by_cases h3 : m ≤ 0
      · refine ⟨_, rfl, r, _, 0, .int m, rfl, rfl, SqL.of hmc, rfl, _, _, rfl, rfl, true, congrArg V.bl (decide_eq_true h3), iteT ⟨(show 1 ≤ sizeLine by decide), fun t nt => ?_⟩⟩
        have tp := (pen_apart Pc (Same.refl _) nt)
        have tr : t ≠ r := ne_new hmc nt
        exact go (.ref t) (.tuple [.str (Str.ofString "then")]) m _ ((pen_off Pc tp.1 tp.2).same (Same.refl _) (by omega)) (offc.trans (Off.of (Same.new nt))) (Same.new nt _ _ hmc) (.tup upd_same (fun z => z.elim tp.1 tr) (.cons (.str _) .nil)) (.nd (y := "then") (ds := []) (by decide +kernel) (by decide) (and_b (by decide +kernel)) (fun _ z => nomatch z)) (TookL.nil (n := n) (m := m))
      refine ⟨_, rfl, r, _, 0, .int m, rfl, rfl, SqL.of hmc, rfl, _, _, rfl, rfl, false, congrArg V.bl (decide_eq_false h3), iteF ?_⟩
      obtain ⟨j, rfl⟩ : ∃ j, n = j + 1 := by
        cases n with
        | zero => exact absurd ⟨by have := wz (.inl rfl); omega, by omega⟩ h2
        | succ j => exact ⟨j, rfl⟩
      obtain rfl := hs j rfl
      have ej : ((j + 1 : Nat) : Int) - 1 = (j : Int) := by omega
      have eB : Bd (j + 1) = 4 * Bd j + 3 := rfl
      have vsE : ∀ b' : Bool, [V.ref p, V.ref l, V.ref r, V.int (((j + 1 : Nat) : Int) - 1), V.bl b'] = [V.ref p, .ref l, .ref r, .int (j : Int), .bl b'] := fun b' => congrArg (fun z => [V.ref p, V.ref l, V.ref r, V.int z, V.bl b']) ej
      by_cases h4 : way = 6
      · refine ⟨_, rfl, rfl, true, congrArg V.bl (decide_eq_true (by rw [h4])), iteT ⟨_, rfl, _, rfl, _, rfl, _, rfl, _, _, rfl, rfl, _, rfl, p, c, l, r, k + 1, ns, m, b, vsE b, Pc, by omega, hlc, n1, n2, hmc, lp, lr, rp, rc, fun x d m' H4 P4 o4 r4 da gd tk => ⟨(show 2 ≤ sizeLine by decide), fun t nt => ?_⟩⟩⟩
        have tp := (pen_apart P4 (Same.refl _) nt)
        have tr : t ≠ r := ne_new r4 nt
        exact go (.ref t) (.tuple [.str (Str.ofString "again"), d]) m' _ ((pen_off P4 tp.1 tp.2).same (Same.refl _) (by omega)) ((offc.trans o4).trans (Off.of (Same.new nt))) (Same.new nt _ _ r4) (.tup upd_same (fun z => z.elim tp.1 tr) (.cons (.str _) (.cons (DA.same (Same.new nt) da) .nil)))
          (.nd (y := "again") (ds := [d]) (show rightNo "again" ((1 : Nat) : Int) = true by decide +kernel) (show 1 ≤ 4 by decide) (and_b (by decide +kernel)) (fun d' hd => by rw [List.mem_singleton.mp hd, or_b (by decide +kernel)]; exact gd)) (TookL.nil.snoc tk)
      refine ⟨_, rfl, rfl, false, congrArg V.bl (decide_eq_false fun e => h4 (by injection e)), iteF ?_⟩
      by_cases h5 : way = 7 ∧ b = false
      · obtain ⟨h7, rfl⟩ := h5
        refine ⟨_, rfl, rfl, true, congrArg V.bl (decide_eq_true (by rw [h7])), iteT ⟨_, rfl, _, rfl, iteT ?_⟩⟩
        refine ⟨_, rfl, _, rfl, _, rfl, _, rfl, _, _, rfl, rfl, p, c, l, r, k + 1, ns, m, true, vsE true, Pc, by omega, hlc, n1, n2, hmc, lp, lr, rp, rc, fun x d m' H4 P4 o4 r4 da gd tk => ?_⟩
        refine gName_go ?_
        with_reducible conv => whnf
        refine ⟨_, rfl, _, rfl, _, rfl, _, rfl, _, rfl, _, _, rfl, rfl, p, c, l, r, k + 1 + Bd j, ns, m', true, vsE true, P4, by omega, o4 _ _ (fun z => z.elim lp lr) hlc, n1, n2, r4, lp, lr, rp, rc, fun x2 d2 m2 H5 P5 o5 r5 da2 gd2 tk2 => ⟨(show 3 ≤ sizeLine by decide), fun t nt => ?_⟩⟩
        have tp := (pen_apart P5 (Same.refl _) nt)
        have tr : t ≠ r := ne_new r5 nt
        exact go (.ref t) (.tuple [.str (Str.ofString "beside"), d, d2]) m2 _ ((pen_off P5 tp.1 tp.2).same (Same.refl _) (by omega)) (((offc.trans o4).trans o5).trans (Off.of (Same.new nt))) (Same.new nt _ _ r5) (.tup upd_same (fun z => z.elim tp.1 tr) (.cons (.str _) (.cons (DA.same (Same.new nt) (da_off o5 da)) (.cons (DA.same (Same.new nt) da2) .nil))))
          (.nd (y := "beside") (ds := [d, d2]) (show rightNo "beside" ((2 : Nat) : Int) = true by decide +kernel) (show 2 ≤ 4 by decide) rfl (fun d' hd => by
            rcases List.mem_cons.mp hd with z | z
            · rw [z]; exact gd
            · rw [List.mem_singleton.mp z]; exact gd2)) ((TookL.nil.snoc tk).snoc tk2)
      refine tNext_go ?_
      with_reducible conv => whnf
      refine seq_cutS (fun σ H4 => H4 = H3 ∧ σ = [some (V.ref p), some (.ref l), some (.ref r), some (.int ((j + 1 : Nat) : Int)), some (.bl b), some (.int way), none, none, none, none, none]) ?_ ?_
      · intro NX rr
        by_cases h7 : way = 7
        · refine ⟨_, rfl, rfl, true, congrArg V.bl (decide_eq_true (by rw [h7])), iteT ⟨_, rfl, _, rfl, ?_⟩⟩
          cases b with
          | false => exact absurd ⟨h7, rfl⟩ h5
          | true => exact iteF (rr _ _ ⟨rfl, rfl⟩)
        · refine ⟨_, rfl, rfl, false, congrArg V.bl (decide_eq_false fun e => h7 (by injection e)), iteF (iteF (rr _ _ ⟨rfl, rfl⟩))⟩
      rintro σ H4 ⟨rfl, rfl⟩
      -- word, least
      refine ⟨_, rfl, (show 2 ≤ sizeLine by decide), fun t1 n1' => ⟨(show 2 ≤ sizeLine by decide), fun t2 n2' => ⟨(show 2 ≤ sizeLine by decide), fun t3 n3 => ⟨(show 2 ≤ sizeLine by decide), fun t4 n4 => ⟨(show 2 ≤ sizeLine by decide), fun t5 n5 => ⟨(show 5 ≤ sizeLine by decide), fun L nL => ?_⟩⟩⟩⟩⟩⟩
      have a1 : Same H4 (upd H4 t1 (.tup [.str (Str.ofString "then"), .int 0])) := Same.new n1'
      have g1 : (upd H4 t1 (.tup [.str (Str.ofString "then"), .int 0])) t1 = some (.tup [.str (Str.ofString "then"), .int 0]) := upd_same
      generalize upd H4 t1 (.tup [.str (Str.ofString "then"), .int 0]) = K1 at *
      have a2 : Same K1 (upd K1 t2 (.tup [.str (Str.ofString "then"), .int 2])) := Same.new n2'
      have g2 : (upd K1 t2 (.tup [.str (Str.ofString "then"), .int 2])) t2 = some (.tup [.str (Str.ofString "then"), .int 2]) := upd_same
      generalize upd K1 t2 (.tup [.str (Str.ofString "then"), .int 2]) = K2 at *
      have a3 : Same K2 (upd K2 t3 (.tup [.str (Str.ofString "then"), .int 2])) := Same.new n3
      have g3 : (upd K2 t3 (.tup [.str (Str.ofString "then"), .int 2])) t3 = some (.tup [.str (Str.ofString "then"), .int 2]) := upd_same
      generalize upd K2 t3 (.tup [.str (Str.ofString "then"), .int 2]) = K3 at *
      have a4 : Same K3 (upd K3 t4 (.tup [.str (Str.ofString "either"), .int 1])) := Same.new n4
      have g4 : (upd K3 t4 (.tup [.str (Str.ofString "either"), .int 1])) t4 = some (.tup [.str (Str.ofString "either"), .int 1]) := upd_same
      generalize upd K3 t4 (.tup [.str (Str.ofString "either"), .int 1]) = K4 at *
      have a5 : Same K4 (upd K4 t5 (.tup [.str (Str.ofString "any"), .int 1])) := Same.new n5
      have g5 : (upd K4 t5 (.tup [.str (Str.ofString "any"), .int 1])) t5 = some (.tup [.str (Str.ofString "any"), .int 1]) := upd_same
      generalize upd K4 t5 (.tup [.str (Str.ofString "any"), .int 1]) = K5 at *
      have a6 : Same K5 (upd K5 L (.lst [.ref t1, .ref t2, .ref t3, .ref t4, .ref t5])) := Same.new nL
      have g6 : (upd K5 L (.lst [.ref t1, .ref t2, .ref t3, .ref t4, .ref t5])) L = some (.lst [.ref t1, .ref t2, .ref t3, .ref t4, .ref t5]) := upd_same
      generalize upd K5 L (.lst [.ref t1, .ref t2, .ref t3, .ref t4, .ref t5]) = K6 at *
      have a46 := a5.trans a6
      have a36 := a4.trans a46
      have a26 := a3.trans a36
      have a16 := a2.trans a26
      have a06 := a1.trans a16
      have P6 := Pc.same a06 (Nat.le_refl _)
      refine ⟨p, c, k + 1, L, _, rfl, P6, by omega, g6, (show 1 ≤ 5 by decide), (show 5 ≤ 1000 by decide), fun i y H7 gy P7 b7 => ?_⟩
      obtain ⟨t, wd, le, rfl, hT, hw, hle0, hle1⟩ : ∃ (t : Addr) (wd : Str) (le : Int), y = .ref t ∧ H7 t = some (.tup [.str wd, .int le]) ∧ (wd ≠ "beside" ∧ ∀ q : Int, 0 ≤ q → rightNo wd (le + q) = true) ∧ 0 ≤ le ∧ le ≤ 2 := by
        have ap : ∀ {t : Addr} {o : HO}, K6 t = some o → (∀ kvs, o ≠ .dK kvs) → t ≠ p := fun {t o} h no e => by
          obtain ⟨cs, s5, r5, S, _, _⟩ := P6.open
          rw [e, S.hp] at h
          exact no _ (Option.some.inj h).symm
        have get : ∀ {t : Addr} {xs : List V}, K6 t = some (.tup xs) → H7 t = some (.tup xs) := fun {t xs} h => b7 _ _ (ap h (fun _ z => nomatch z)) h
        have rn : ∀ (wd : Str) (f : Int), fewest wd = some f → most wd = none → ∀ q : Int, 0 ≤ q → ∀ le, f ≤ le → rightNo wd (le + q) = true := fun wd f h1 h2 q hq le hle => by
          unfold rightNo
          rw [h1, h2]
          show (decide (f ≤ le + q) && decide (le + q ≤ le + q)) = true
          rw [decide_eq_true (by omega), decide_eq_true (Int.le_refl _)]
          rfl
        have hm1 := List.mem_of_getElem? gy
        simp only [List.mem_cons, List.not_mem_nil, or_false] at hm1
        rcases hm1 with z | z | z | z | z
        · exact ⟨t1, "then", 0, z, get (a16 _ _ g1), ⟨by decide +kernel, fun q hq => rn "then" 0 (by decide +kernel) (by decide +kernel) q hq 0 (by decide)⟩, by decide, by decide⟩
        · exact ⟨t2, "then", 2, z, get (a26 _ _ g2), ⟨by decide +kernel, fun q hq => rn "then" 0 (by decide +kernel) (by decide +kernel) q hq 2 (by decide)⟩, by decide, by decide⟩
        · exact ⟨t3, "then", 2, z, get (a36 _ _ g3), ⟨by decide +kernel, fun q hq => rn "then" 0 (by decide +kernel) (by decide +kernel) q hq 2 (by decide)⟩, by decide, by decide⟩
        · exact ⟨t4, "either", 1, z, get (a46 _ _ g4), ⟨by decide +kernel, fun q hq => rn "either" 1 (by decide +kernel) (by decide +kernel) q hq 1 (by decide)⟩, by decide, by decide⟩
        · exact ⟨t5, "any", 1, z, get (a6 _ _ g5), ⟨by decide +kernel, fun q hq => rn "any" 1 (by decide +kernel) (by decide +kernel) q hq 1 (by decide)⟩, by decide, by decide⟩
      have o7 : Off (PR p r) H H7 := (offc.trans (Off.of a06)).trans (Off.but (.inl rfl) b7)
      have hl7 := b7 _ _ lp (a06 _ _ hlc)
      have hr7 := b7 _ _ rp (a06 _ _ hmc)
      clear gy b7 P6 g6 nL a6 a46 g5 n5 a36 a5 g4 n4 a26 a4 g3 n3 a16 a3 g2 n2' a06 a2 g1 n1' a1 hlc hmc offc
      refine ⟨t, _, rfl, SqT.of hT, rfl, _, _, rfl, gName_go ⟨_, _, rfl, gName_go ⟨rfl, ?_⟩⟩⟩
      clear hT
      with_reducible conv => whnf
      refine ⟨_, rfl, _, rfl, p, c, k + 2, 3, rfl, P7, by omega, by decide, by decide, fun q H8 q0 q1 P8 b8 => ⟨_, _, rfl, rfl, ?_⟩⟩
      have o8 := o7.trans (Off.but (N := PR p r) (.inl rfl) b8)
      have hl8 := b8 _ _ lp hl7
      have hr8 := b8 _ _ rp hr7
      clear o7 hl7 hr7 b8 P7
      obtain ⟨N, hN⟩ : ∃ N : Nat, le + q = (N : Int) := ⟨(le + q).toNat, by omega⟩
      have N4 : N ≤ 4 := by omega
      have rN : rightNo wd (N : Int) = true := by rw [← hN]; exact hw.2 q q0
      refine gName_go ?_
      with_reducible conv => whnf
      refine ⟨_, rfl, (show 1 ≤ sizeLine by decide), fun ta na => ?_⟩
      have sa : Same H8 (upd H8 ta (.tup [.str wd])) := Same.new na
      have ga : (upd H8 ta (.tup [.str wd])) ta = some (.tup [.str wd]) := upd_same
      have tap := pen_apart P8 (Same.refl _) na
      have tar : ta ≠ r := ne_new hr8 na
      generalize upd H8 ta (.tup [.str wd]) = H9 at *
      have P9 := P8.same sa (Nat.le_refl _)
      have hl9 := sa _ _ hl8
      have hr9 := sa _ _ hr8
      have o9 := o8.trans (Off.of (N := PR p r) sa)
      refine ⟨_, rfl, le + q, rfl, by omega, by omega, fun D nD => ?_⟩
      have Dp := pen_apart P9 (Same.refl _) nD
      have Dr : D ≠ r := ne_new hr9 nD
      have Dl : D ≠ l := ne_new hl9 nD
      have Dta : D ≠ ta := ne_new ga nD
      have sD : Same H9 (upd H9 D (.lst [])) := Same.new nD
      have toN : (le + q).toNat = N := by omega
      refine lc_it walk_range (fun i Hh => ∃ (xs : List V) (ds : List PyData) (m' : Int), xs.length = i ∧ ds.length = i ∧ Hh D = some (.lst xs) ∧ Hh r = some (.lst [.int m']) ∧ PenAt Hh p c (k + 3 + i * Bd j) ∧ Off (PR p r) H Hh ∧ Hh l = some (.lst (ns.map V.str)) ∧ Hh ta = some (.tup [.str wd]) ∧ DAs (PR p r) Hh xs ds ∧ (∀ d ∈ ds, Good ns (j + 1) b d) ∧ TookL (j + 1) ds m m')
        ⟨[], [], m, rfl, rfl, upd_same, sD _ _ hr9, (P9.same sD (by omega)), o9.trans (Off.of sD), sD _ _ hl9, sD _ _ ga, .nil, (fun _ z => nomatch z), TookL.nil⟩ (fun _ _ _ _ => trivial) ?_ ?_
      · rintro i x Ha Hb hi ⟨xs, ds, m', lx, ld, hD, hr', Pa, oa, hla, hta, da, gd, tk⟩ ⟨rfl, rfl⟩
        refine ⟨rfl, ?_⟩
        refine yes_of ?_
        have iN : i < N := by omega
        have iB : i * Bd j ≤ 3 * Bd j := Nat.mul_le_mul_right _ (by omega)
        refine ⟨_, rfl, _, rfl, _, rfl, _, rfl, _, _, rfl, rfl, _, rfl, p, c, l, r, k + 3 + i * Bd j, ns, m', b, vsE b, Pa, by omega, hla, n1, n2, hr', lp, lr, rp, rc, fun y d m2 Hc2 Pc2 oc2 rc2 dy gy tk2 => ?_⟩
        have hD2 := oc2 _ _ (fun z => z.elim Dp.1 Dr) hD
        refine ⟨xs, hD2, by rw [lx, sizeLine_eq]; omega, xs ++ [y], ds ++ [d], m2, by rw [List.length_append, lx]; rfl, by rw [List.length_append, ld]; rfl, upd_same, by rw [upd_ne (Ne.symm Dr)]; exact rc2, ?_, ?_, ?_, ?_, ?_, ?_, tk.snoc tk2⟩
        · refine (pen_off Pc2 Dp.1 Dp.2).same (Same.refl _) ?_
          rw [Nat.succ_mul]
          omega
        · intro b' u nb z
          rw [upd_ne (fun e => by have z9 := o9 _ _ nb z; rw [e, nD] at z9; cases z9)]
          exact (oa.trans oc2) _ _ nb z
        · rw [upd_ne (Ne.symm Dl)]; exact oc2 _ _ (fun z => z.elim lp lr) hla
        · rw [upd_ne (Ne.symm Dta)]; exact oc2 _ _ (fun z => z.elim tap.1 tar) hta
        · exact das_snoc (dass_lst hD2 gd (das_off oc2 da)) (da_lst hD2 gy dy)
        · intro d' hd'
          rcases List.mem_append.mp hd' with z | z
          · exact gd d' z
          · rw [List.mem_singleton.mp z]; exact gy
      · rintro Ha ⟨xs, ds, m', lx, ld, hD, hr', Pa, oa, hla, hta, da, gd, tk⟩
        rw [toN] at lx ld Pa
        have NB : N * Bd j ≤ 4 * Bd j := Nat.mul_le_mul_right _ N4
        refine .inl ⟨D, xs, rfl, SqL.of hD, fun tt nt => ?_⟩
        have tp := pen_apart Pa (Same.refl _) nt
        have tr : tt ≠ r := ne_new hr' nt
        have st : Same Ha (upd Ha tt (.tup xs)) := Same.new nt
        have gt2 : (upd Ha tt (.tup xs)) tt = some (.tup xs) := upd_same
        generalize upd Ha tt (.tup xs) = Hb at *
        have daB := (DAs.same st da)
        have wb := hw.1
        refine ⟨ta, tt, [.str wd], xs, rfl, rfl, SqT.of (st _ _ hta), SqT.of gt2, ?_, (fun e => nomatch e), fun _ e0 => ?_, fun _ _ u nu => ?_⟩
        · rw [lx, sizeLine_eq]
          show 1 + N ≤ _
          omega
        · subst e0
          have N0 : N = 0 := lx.symm
          refine go (.ref ta) (.tuple [.str wd]) m' Hb (Pa.same st (by omega)) (oa.trans (Off.of st)) (st _ _ hr') (.tup (st _ _ hta) (fun z => z.elim tap.1 tar) (.cons (.str _) .nil)) (.nd (ds := []) ?_ (by decide) (and_b wb) (fun _ z => nomatch z)) (by rw [show ds = [] from List.eq_nil_of_length_eq_zero (ld.trans N0)] at tk; exact tk)
          rw [N0] at rN
          exact rN
        · have up := pen_apart (Pa.same st (Nat.le_refl _)) (Same.refl _) nu
          have ur : u ≠ r := ne_new (st _ _ hr') nu
          refine go (.ref u) (.tuple (.str wd :: ds)) m' _ ((pen_off (Pa.same st (Nat.le_refl _)) up.1 up.2).same (Same.refl _) (by omega)) ((oa.trans (Off.of st)).trans (Off.of (Same.new nu))) (Same.new nu _ _ (st _ _ hr')) (.tup upd_same (fun z => z.elim up.1 ur) (.cons (.str _) (DAs.same (Same.new nu) daB))) (.nd (ds := ds) ?_ (by omega) (and_b wb) (fun d hd => by rw [or_b wb]; exact gd d hd)) tk
          rw [ld]
          exact rN
theorem ok_pl {f aK aD : Addr} {fd fK fD : FuncData} (F : Fun K "_law_plan" "_law_plan" sPl f fd) (FK : Fun K "_law_pick" "_law_pick" sPick aK fK) (FD : Fun K "_law_draw" "_law_draw" sDraw aD fD) (T : TxtP mg) (gr : mg "range" = none) (gt : mg "tuple" = none)
    (gK : mg "_law_pick" = some (.ref aK)) (gD : mg "_law_draw" = some (.ref aD)) (gF : mg "_law_plan" = some (.ref f)) : ∀ n, FnOk P w K mg base CX0 (n + 4) f fd AP (spPl n)
  | 0 => step_pl (n := 0) (kk := 3) (sp' := fun _ _ _ _ => False) (by decide) F FK FD T gr gt gK gD gF (F.ok scPl (fun _ _ _ _ h => h.elim) (fun _ _ _ _ _ _ _ _ _ h => h.elim)) (fun j e => nomatch e)
  | n + 1 => step_pl (n := n + 1) (kk := n + 4) (sp' := spPl n) (by omega) F FK FD T gr gt gK gD gF (ok_pl F FK FD T gr gt gK gD gF n) (fun j e => by cases e; rfl)
end
end Fp4
set_option Elab.async false
set_option linter.all false
set_option maxRecDepth 100000
set_option maxHeartbeats 4000000
namespace Fp4
open PySem PySem.Spec PyProof.Rows L2 Fh Fs
open PySem.W (Frag)
def txt : Nat → PyData → Str
  | 0, d => match d with
    | .str y => y
    | _ => ""
  | n + 1, d => match d with
    | .str y => y
    | .tuple (.str y :: ds) => y ++ (Str.ofString "(") ++ Txt.join (Str.ofString ", ") (ds.map (txt n)) ++ (Str.ofString ")")
    | _ => ""
theorem txt_nm (n : Nat) (y : Str) : txt n (.str y) = y := by cases n <;> rfl
def Tl : Nat → Nat
  | 0 => 8
  | n + 1 => 4 * Tl n + 18
theorem tl_eight : ∀ n, 8 ≤ Tl n
  | 0 => Nat.le_refl _
  | n + 1 => by show 8 ≤ 4 * Tl n + 18; omega
theorem word_six {y : Str} {m : Int} (h : rightNo y m = true) : y.length ≤ 6 := by
  unfold rightNo fewest at h
  by_cases h1 : y = "then"
  · rw [h1]; decide +kernel
  by_cases h2 : y = "either"
  · rw [h2]; decide +kernel
  by_cases h3 : y = "any"
  · rw [h3]; decide +kernel
  by_cases h4 : y = "again"
  · rw [h4]; decide +kernel
  by_cases h5 : y = "beside"
  · rw [h5]; decide +kernel
  rw [if_neg h1, if_neg h2, if_neg h3, if_neg h4, if_neg h5] at h
  cases h
theorem joinL_len (s : List Nat) : ∀ ys : List (List Nat), (TL.joinL s ys).length ≤ (ys.map (·.length)).sum + ys.length * s.length
  | [] => Nat.zero_le _
  | [p] => by
    show p.length ≤ (p.length + 0) + 1 * s.length
    omega
  | p :: q :: r => by
    have ih := joinL_len s (q :: r)
    show (p ++ (s ++ TL.joinL s (q :: r))).length ≤ (p.length + ((q :: r).map (·.length)).sum) + ((q :: r).length + 1) * s.length
    rw [List.length_append, List.length_append, Nat.succ_mul]
    omega
theorem join_cps (s : Str) (ys : List Str) : (Txt.join s ys).cps.toList = TL.joinL s.cps.toList (ys.map fun y => y.cps.toList) := (congrArg TL.tl (TL.join_eq s ys)).trans (TL.tl_join s ys)
theorem join_len (s : Str) (ys : List Str) : (Txt.join s ys).length ≤ (ys.map (·.length)).sum + ys.length * s.length := by
  rw [len_tl, join_cps]
  have h := joinL_len s.cps.toList (ys.map fun y => y.cps.toList)
  rw [List.length_map, List.map_map] at h
  rw [len_tl s]
  have e : (ys.map (·.length)) = ys.map ((·.length) ∘ fun y : Str => y.cps.toList) := List.map_congr_left fun y _ => len_tl y
  rw [e]
  exact h
theorem das_get {N : Addr → Prop} {H : Hp} {xs : List V} {ds : List PyData} {i : Nat} {x : V} {d : PyData} (h : DAs N H xs ds) (hx : xs[i]? = some x) (hd : ds[i]? = some d) : DA N H x d := by
  induction ds generalizing xs i with
  | nil => cases hd
  | cons d' ds ih =>
    cases h with
    | cons h1 h2 =>
      cases i with
      | zero => cases hx; cases hd; exact h1
      | succ i => exact ih h2 hx hd
theorem sum_le {ys : List Str} {m : Nat} (h : ∀ y ∈ ys, y.length ≤ m) : (ys.map (·.length)).sum ≤ ys.length * m := by
  induction ys with
  | nil => exact Nat.zero_le _
  | cons y ys ih =>
    rw [List.map_cons, List.sum_cons, List.length_cons, Nat.succ_mul]
    have := h y List.mem_cons_self
    have := ih fun z hz => h z (List.mem_cons_of_mem _ hz)
    omega
theorem txt_len {ns : List Str} (hn : ∀ y ∈ ns, y.length ≤ 8) {n : Nat} {b : Bool} {d : PyData} (g : Good ns n b d) : (txt n d).length ≤ Tl n := by
  induction g with
  | nm h =>
    rw [txt_nm]
    exact Nat.le_trans (hn _ h) (tl_eight _)
  | @nd n b y ds h1 h2 h3 h4 ih =>
    show (y ++ (Str.ofString "(") ++ Txt.join (Str.ofString ", ") (ds.map (txt n)) ++ (Str.ofString ")")).length ≤ 4 * Tl n + 18
    have w6 := word_six h1
    have jl := join_len (Str.ofString ", ") (ds.map (txt n))
    have sl : ((ds.map (txt n)).map (·.length)).sum ≤ (ds.map (txt n)).length * Tl n := sum_le fun z hz => by
      obtain ⟨d, hd, rfl⟩ := List.mem_map.mp hz
      exact ih d hd
    rw [List.length_map] at jl sl
    have m1 : ds.length * Tl n ≤ 4 * Tl n := Nat.mul_le_mul_right _ h2
    rw [app_len, app_len, app_len]
    have e1 : (Str.ofString "(").length = 1 := by decide +kernel
    have e2 : (Str.ofString ")").length = 1 := by decide +kernel
    have e3 : (Str.ofString ", ").length = 2 := by decide +kernel
    rw [e3] at jl
    omega
end Fp4
set_option Elab.async false
set_option linter.all false
set_option maxRecDepth 100000
set_option maxHeartbeats 8000000
/-! text_of, plan_text; right plans -/
namespace Fp4
open PySem PySem.Spec PyProof.Rows L2 Fh Fs
open PySem.W (Frag)
abbrev sTo : Stmt := top 16
abbrev sPt : Stmt := top 23
/-- a right plan, n levels at most -/
inductive Rt : Nat → Bool → PyData → Prop where
  | nm {n : Nat} {b : Bool} {y : Str} : wordB y = true → Rt n b (.str y)
  | nd {n : Nat} {b : Bool} {y : Str} {ds : List PyData} : rightNo y ds.length = true → (b && decide (y = "beside")) = false → (∀ d ∈ ds, Rt n (b || decide (y = "beside")) d) → Rt (n + 1) b (.tuple (.str y :: ds))
theorem right_some {y : Str} {m : Int} (h : rightNo y m = true) : (fewest y).isSome = true := by
  unfold rightNo at h
  cases e : fewest y with
  | none => rw [e] at h; cases h
  | some i => rfl
theorem chks_right {rec : PyData → Option (Option PyData)} : ∀ {ds : List PyData}, (∀ d ∈ ds, rec d = some none) → chks rec ds = some none
  | [], _ => rfl
  | d :: ds, h => by
    show (match rec d with | some none => chks rec ds | r => r) = some none
    rw [h d List.mem_cons_self]
    exact chks_right fun e he => h e (List.mem_cons_of_mem _ he)
theorem rt_chk {n : Nat} {b : Bool} {d : PyData} (h : Rt n b d) : chk (n + 1) b d = some none := by
  induction h with
  | nm h =>
    show (if aloneD _ (.str _) = false then _ else some none) = some none
    rw [if_neg]
    rw [alone_no rfl]
    show ¬ wordB _ = false
    rw [h]
    exact fun z => nomatch z
  | @nd n b y ds h1 h2 h3 ih =>
    show (if aloneD b (.tuple (.str y :: ds)) = false then _ else chks (chk (n + 1) (b || decide (y = "beside"))) ds) = some none
    have e : aloneD b (.tuple (.str y :: ds)) = true := by
      show ((fewest y).isSome && (!(b && decide (y = "beside")) && rightNo y ds.length)) = true
      rw [right_some h1, h2, h1]
      rfl
    rw [if_neg (by rw [e]; exact fun z => nomatch z)]
    exact chks_right ih
theorem Rt.short {n : Nat} {b : Bool} {d : PyData} (h : Rt n b d) : strsShort d := by
  induction h with
  | @nm n b y h =>
    show y.length ≤ 1000
    unfold wordB at h
    rw [Bool.and_eq_true, Bool.and_eq_true, decide_eq_true_eq, decide_eq_true_eq] at h
    omega
  | @nd n b y ds h1 h2 h3 ih =>
    refine ⟨?_, ?_⟩
    · have := word_six h1
      show y.length ≤ 1000
      omega
    · clear h1 h3
      induction ds with
      | nil => exact True.intro
      | cons d ds ihd => exact ⟨ih d List.mem_cons_self, ihd fun e he => ih e (List.mem_cons_of_mem _ he)⟩
theorem Rt.up {n m : Nat} {b : Bool} {d : PyData} (h : Rt n b d) (le : n ≤ m) : Rt m b d := by
  induction h generalizing m with
  | nm h => exact .nm h
  | @nd n b y ds h1 h2 h3 ih =>
    obtain ⟨k, rfl⟩ : ∃ k, m = k + 1 := ⟨m - 1, by omega⟩
    exact .nd h1 h2 fun d hd => ih d hd (by omega)
/-! ### lengths -/
theorem mem_sum {l : List Nat} {x : Nat} (h : x ∈ l) : x ≤ l.sum := by
  induction l with
  | nil => cases h
  | cons a l ih =>
    rw [List.sum_cons]
    rcases List.mem_cons.mp h with e | e
    · omega
    · have := ih e
      omega
theorem len_sum {l : List Nat} (h : ∀ x ∈ l, 1 ≤ x) : l.length ≤ l.sum := by
  induction l with
  | nil => exact Nat.le_refl _
  | cons a l ih =>
    rw [List.sum_cons, List.length_cons]
    have := h a List.mem_cons_self
    have := ih fun x hx => h x (List.mem_cons_of_mem _ hx)
    omega
theorem joinL_sum (s : List Nat) : ∀ ys : List (List Nat), (ys.map (·.length)).sum ≤ (TL.joinL s ys).length
  | [] => Nat.le_refl _
  | [p] => Nat.le_refl _
  | p :: q :: r => by
    have ih := joinL_sum s (q :: r)
    show p.length + ((q :: r).map (·.length)).sum ≤ (p ++ (s ++ TL.joinL s (q :: r))).length
    rw [List.length_append, List.length_append]
    omega
theorem join_sum (s : Str) (ys : List Str) : (ys.map (·.length)).sum ≤ (Txt.join s ys).length := by
  rw [len_tl, join_cps]
  have h := joinL_sum s.cps.toList (ys.map fun y => y.cps.toList)
  rw [List.map_map] at h
  have e : (ys.map (·.length)) = ys.map ((·.length) ∘ fun y : Str => y.cps.toList) := List.map_congr_left fun y _ => len_tl y
  rw [e]
  exact h
theorem txt_pos {n : Nat} {b : Bool} {d : PyData} (h : Rt n b d) : 1 ≤ (txt n d).length := by
  cases h with
  | @nm n b y h =>
    rw [txt_nm]
    unfold wordB at h
    rw [Bool.and_eq_true, decide_eq_true_eq] at h
    exact h.1
  | @nd n b y ds h1 h2 h3 =>
    show 1 ≤ (y ++ (Str.ofString "(") ++ Txt.join (Str.ofString ", ") (ds.map (txt n)) ++ (Str.ofString ")")).length
    rw [app_len, show (Str.ofString ")").length = 1 by decide +kernel]
    omega
theorem node_len {n : Nat} {y : Str} {ds : List PyData} {m : Nat} (h : (txt (n + 1) (.tuple (.str y :: ds))).length ≤ m) (hr : ∀ d ∈ ds, ∃ b, Rt n b d) :
    y.length + (Txt.join (Str.ofString ", ") (ds.map (txt n))).length + 2 ≤ m ∧ (∀ d ∈ ds, (txt n d).length ≤ m) ∧ ((ds.map (txt n)).map (·.length)).sum + ds.length * 2 ≤ 3 * m := by
  have e : (txt (n + 1) (.tuple (.str y :: ds))).length = y.length + (Txt.join (Str.ofString ", ") (ds.map (txt n))).length + 2 := by
    show (y ++ (Str.ofString "(") ++ Txt.join (Str.ofString ", ") (ds.map (txt n)) ++ (Str.ofString ")")).length = _
    rw [app_len, app_len, app_len, show (Str.ofString "(").length = 1 by decide +kernel, show (Str.ofString ")").length = 1 by decide +kernel]
    omega
  have js := join_sum (Str.ofString ", ") (ds.map (txt n))
  refine ⟨by omega, fun d hd => ?_, ?_⟩
  · have := mem_sum (List.mem_map.mpr ⟨_, List.mem_map.mpr ⟨d, hd, rfl⟩, rfl⟩ : (txt n d).length ∈ (ds.map (txt n)).map (·.length))
    omega
  · have l := len_sum (l := (ds.map (txt n)).map (·.length)) fun x hx => by
      obtain ⟨z, hz, rfl⟩ := List.mem_map.mp hx
      obtain ⟨d, hd, rfl⟩ := List.mem_map.mp hz
      obtain ⟨b, hb⟩ := hr d hd
      exact txt_pos hb
    rw [List.length_map, List.length_map] at l
    omega
theorem empty_app (y : Str) : Str.empty ++ y = y := (str_of_list (by rw [app_tl]; rfl)).trans (str_of_list rfl).symm
section
variable {P : Program} {w : World} {K : Frag} {mg : Str → Option Value} {base : Heap}
def spTo (K : Frag) (n : Nat) : Sp := fun vs H Q _ => ∃ v d b, vs = [v] ∧ Pl K H v d ∧ Rt n b d ∧ (txt n d).length ≤ 1000000 ∧ ∀ H', Same H H' → Q (.str (txt n d)) H'
theorem scTo : FnScope ["plan", "parts", "part"] ["plan"] (defScope sTo) := ⟨rfl, rfl, rfl, by decide +kernel, rfl, by decide +kernel, by decide +kernel⟩
theorem step_to {n kk : Nat} {sp' : Sp} {f : Addr} {fd : FuncData} (F : Fun K "text_of" "text_of" sTo f fd) (gi : mg "isinstance" = none) (gt : mg "tuple" = none) (gF : mg "text_of" = some (.ref f)) (GT : FnOk P w K mg base CX0 kk f fd ["plan"] sp') (hs : ∀ j, n = j + 1 → sp' = spTo K j) : FnOk P w K mg base CX0 (kk + 1) f fd ["plan"] (spTo K n) := by
  have bT : Binds K fd ["plan"] [] := F.binds (ps := ["plan"]) fun _ _ _ _ _ _ us hl => match us, hl with | [_], _ => rfl
  refine F.ok scTo (fun vs H Q E h => ?_) (fun cdv A outer s H vs Q E hr h => ?_)
  · obtain ⟨v, d, b, rfl, _⟩ := h
    rfl
  · obtain ⟨v, d, b, rfl, hv, g, hz, k⟩ := h
    refine' ⟨_, pss_cons ?s1 (pss_cons ?s2 (pss_one ?s3)), ?q⟩
    case s1 =>
      refine' ps_if (pt_not (pt_val ?a)) (pss_one (ps_ret (pv 0))) pss_nil
      case a => exact pe_callB call_isi (by rfl) gi (by decide +kernel) (pa_cons (pv 0) (pa_cons (pe_bltn (v := .ty "tuple") (by rfl) gt (by decide +kernel) rfl (by decide) (by decide)) pa_nil))
    case s2 =>
      refine' ps_set (i := 1) scTo.nd rfl (Or.inl rfl) (pe_join pe_str ?b)
      case b =>
        refine' pe_lc (own := [("part", 2)]) (g := gName 2) (tt := tYes) rfl scTo.nd ?i ?k ?g ?c ?e
        case i => exact pi_tup (pe_slice sl_tupA (pv 0) (po_some pe_int) po_none)
        case k => exact blkOk_by (N := ["plan", "parts", "part"]) (sc := defScope sTo) (by decide +kernel)
        case g => exact fun _ _ _ _ _ => pg_name (i := 2) scTo.nd rfl (Or.inl rfl)
        case c => exact fun _ _ _ _ _ => pts_nil
        case e => exact fun _ _ _ _ _ => pe_call GT hr rfl gF F.kp bT .nil pass0 (pa_cons (pv 2) pa_nil)
    case s3 => exact ps_ret (pe_joined (.cons (pe_fmt (pe_ix ix_tup (pv 0) pe_int (fun _ _ => rfl))) (.cons pe_str (.cons (pe_fmt (pv 1)) (.cons pe_str .nil)))))
    case q =>
      have ty := (hv.gd g.short).ty
      have ssz : sizeLine = 16777216 := sizeLine_eq
      cases g with
      | @nm n b y hy =>
        cases hv
        refine ⟨_, rfl, _, _, _, _, false, rfl, .ty _, ty, (by rfl), false, rfl, iteT ⟨_, rfl, ?_⟩⟩
        have z := k H (Same.refl _)
        rw [txt_nm] at z
        exact z
      | @nd n b y ds h1 h2 h3 =>
        refine ⟨_, rfl, _, _, _, _, true, rfl, .ty _, ty, (by rfl), true, rfl, iteF ?_⟩
        obtain rfl := hs n rfl
        obtain ⟨n1, n2, n3⟩ := node_len hz fun d hd => ⟨_, h3 d hd⟩
        cases hv with
        | @tup a vs _ hg r =>
          cases r with
          | @cons x dx xs _ hx r =>
            cases hx
            have lx := r.len
            refine ⟨⟨_, rfl⟩, _, rfl, 1, rfl, a, _, rfl, hg, ?_, fun _ q nq => ?_⟩
            · rintro ⟨z, _⟩
              have z : min 1 (xs.length + 1) = 0 := z
              omega
            have cv : cutV (V.str y :: xs) (some 1) none = xs := by
              show ((V.str y :: xs).drop (min 1 (xs.length + 1))).take (xs.length + 1 - min 1 (xs.length + 1)) = xs
              rw [show min 1 (xs.length + 1) = 1 by omega, List.drop_one, List.tail_cons, List.take_of_length_le (by omega)]
            rw [cv]
            have sq : Same H (upd H q (.tup xs)) := Same.new nq
            have gq : (upd H q (.tup xs)) q = some (.tup xs) := upd_same
            generalize upd H q (.tup xs) = H1 at sq gq ⊢
            refine ⟨q, rfl, ⟨_, SqT.of gq⟩, fun D nD => ?_⟩
            refine lc_it (walk_tup (K := K) (a := q) (xs := xs)) (fun i Hh => ∃ ys : List Str, ys = (ds.take i).map (txt n) ∧ Hh D = some (.lst (ys.map V.str)) ∧ Same H1 Hh) ⟨[], by rw [List.take_zero]; rfl, upd_same, Same.new nD⟩ (fun _ Hh _ ⟨_, _, _, z⟩ => SqT.of (z _ _ gq)) ?_ ?_
            · rintro i x Ha Hb hi ⟨ys, ey, hD, sa⟩ ⟨rfl, gx⟩
              refine ⟨rfl, ?_⟩
              refine yes_of ?_
              have di : i < ds.length := by omega
              have gd : ds[i]? = some ds[i] := List.getElem?_eq_getElem di
              have dx := (r.get gx gd).same (sq.trans sa)
              have mem : ds[i] ∈ ds := List.getElem_mem di
              refine ⟨_, rfl, x, ds[i], _, rfl, dx, h3 _ mem, n2 _ mem, fun Hc sc => ?_⟩
              refine ⟨ys.map V.str, sc _ _ hD, ?_, ys ++ [txt n ds[i]], ?_, ?_, ?_⟩
              · rw [List.length_map, ey, List.length_map, List.length_take]
                omega
              · rw [ey, List.take_add_one, gd, List.map_append]
                rfl
              · rw [List.map_append]
                exact upd_same
              · intro b' u z
                rw [upd_ne (fun e => by rw [e, nD] at z; cases z)]
                exact sc _ _ (sa _ _ z)
            · rintro Ha ⟨ys, ey, hD, sa⟩
              rw [lx, List.take_length] at ey
              subst ey
              have e1 : (Str.ofString "(").length = 1 := by decide +kernel
              have e2 : (Str.ofString ")").length = 1 := by decide +kernel
              have e3 : (Str.ofString ", ").length = 2 := by decide +kernel
              have w6 := word_six h1
              refine ⟨_, D, _, rfl, rfl, .inl (SqL.of hD), ?_, ?_⟩
              · rw [e3, List.length_map]
                omega
              with_reducible conv => whnf
              refine ⟨_, rfl, a, _, 0, _, rfl, rfl, (KeepT.of (sq.trans sa)).sqT hg, atI_nat rfl, .inl ⟨y, rfl, by omega, y, rfl, ?_, ?_⟩⟩
              · rw [empty_app]; omega
              rw [empty_app]
              refine ⟨_, rfl, ?_, _, rfl, .inl ⟨_, rfl, by omega, _, rfl, ?_, _, rfl, ?_, ?_⟩⟩
              · rw [app_len]; omega
              · rw [app_len, app_len]; omega
              · rw [app_len, app_len, app_len]; omega
              exact k Ha (sq.trans sa)
theorem ok_to {f : Addr} {fd : FuncData} (F : Fun K "text_of" "text_of" sTo f fd) (gi : mg "isinstance" = none) (gt : mg "tuple" = none) (gF : mg "text_of" = some (.ref f)) : ∀ n, FnOk P w K mg base CX0 (n + 3) f fd ["plan"] (spTo K n)
  | 0 => step_to (n := 0) (kk := 2) (sp' := fun _ _ _ _ => False) F gi gt gF (F.ok scTo (fun _ _ _ _ h => h.elim) (fun _ _ _ _ _ _ _ _ _ h => h.elim)) (fun j e => nomatch e)
  | n + 1 => step_to (n := n + 1) (kk := n + 3) (sp' := spTo K n) F gi gt gF (ok_to F gi gt gF n) (fun j e => by cases e; rfl)
theorem scPt : FnScope ["plan"] ["plan"] (defScope sPt) := ⟨rfl, rfl, rfl, by decide +kernel, rfl, by decide +kernel, by decide +kernel⟩
theorem ok_pt {f aT : Addr} {fd fT : FuncData} (F : Fun K "plan_text" "plan_text" sPt f fd) (FT : Fun K "text_of" "text_of" sTo aT fT) (gi : mg "isinstance" = none) (gt : mg "tuple" = none) (gT : mg "text_of" = some (.ref aT)) (n : Nat) : FnOk P w K mg base CX0 (n + 4) f fd ["plan"] (spTo K n) := by
  have GT : FnOk P w K mg base CX0 (n + 3) aT fT ["plan"] (spTo K n) := ok_to FT gi gt gT n
  have bT : Binds K fT ["plan"] [] := FT.binds (ps := ["plan"]) fun _ _ _ _ _ _ us hl => match us, hl with | [_], _ => rfl
  refine F.ok scPt (fun vs H Q E h => ?_) (fun cdv A outer s H vs Q E hr h => ?_)
  · obtain ⟨v, d, b, rfl, _⟩ := h
    rfl
  · obtain ⟨v, d, b, rfl, h⟩ := h
    exact ⟨_, pss_one (ps_ret (pe_call GT hr rfl gT FT.kp bT .nil pass0 (pa_cons (pv 0) pa_nil))), _, rfl, v, d, b, rfl, h⟩
end
end Fp4
set_option Elab.async false
set_option linter.all false
set_option maxRecDepth 100000
set_option maxHeartbeats 4000000
/-! FzD: xs.extend(t) of a tuple t -/
namespace Fs
open PySem PySem.Spec PyProof.Rows L2 Fh
open PySem.W (Frag)
theorem ext_tup (L T : Addr) (xs ys : Array Value) (e1 e2 : Nat) (od : Option Addr) (sl : Array (Option Value)) (h0 : ¬ ((!xs.isEmpty) && Builtin.List.listTooLong (xs.size + ys.size)) = true) (h1 : xs.size ≤ sizeLine) (h2 : xs.size + ys.size ≤ sizeLine + 1) :
    Meets (Builtin.«list.extend» ⟨[.ref L, .ref T], []⟩) (fun _ R s => s.heap.get? L = some { cls := .type "list", dict := none, data := .seq xs e1, slots := #[] } ∧ s.heap.get? T = some { cls := .type "tuple", dict := od, data := .seq ys e2, slots := sl } ∧
      R (.ok (.ret Value.none)) { s with heap := s.heap.update L (Obj.mapSeq fun x => x ++ ys), toks := s.toks }) := .of_wp fun P w A R s h => by
  obtain ⟨hp, gs, dr, tk, os⟩ := s
  obtain ⟨hL, hT, h⟩ := h
  have q1 := AutoSeq1.idx_int
  have q2 := AutoSeq1.sub_tuple_tuple
  have q3 := AutoSeq1.sub_list_list
  have q4 := AutoSeq1.sub_tuple_list
  have q5 := AutoSeq1.sub_list_tuple
  have sz : (xs ++ ys).size ≤ sizeLine + 1 := by
    rw [Array.size_append]
    exact h2
  wp_walk using (wpAny_updateSeq hL rfl (hz := h1) (_hz' := sz)), AutoSeq1.wpAny_loadPart' hL, AutoSeq1.wpAny_loadPart' hT
  exact ⟨_, rfl, h⟩
def rExtT (K : Frag) : V → List V → Hp → VK → Prop := fun x vs H Q => ∃ l b xs zs, x = .ref l ∧ vs = [.ref b] ∧ H l = some (.lst xs) ∧ SqT K H b zs ∧ xs.length + zs.length ≤ sizeLine ∧ Q .non (upd H l (.lst (xs ++ zs)))
theorem mt_extT {X : Cx} : MtM X "list.extend" (rExtT X.K) := by
  intro pins s σ H x vs v us Q I rx rv h
  obtain ⟨l, b, xs, zs, rfl, rfl, hH, hB, hz, q⟩ := h
  cases rx
  obtain ⟨u, rfl, ru⟩ := rv.one
  cases ru
  obtain ⟨z, its, n, r, hl, e⟩ := I.lstM hH
  obtain ⟨its2, r2, ⟨o, ho, hc, n2, hd⟩, hl2⟩ := I.tuple hB
  obtain ⟨oc, od, dt, sl⟩ := o
  have hc : oc = .type "tuple" := hc
  have hd : dt = .seq its2.toArray n2 := hd
  subst hc hd
  have l1 := r.length
  have l2 := r2.length
  have hsz : its.toArray.size + its2.toArray.size ≤ sizeLine := by rw [List.size_toArray, List.size_toArray]; omega
  have hlong : ¬ ((!its.toArray.isEmpty) && Builtin.List.listTooLong (its.toArray.size + its2.toArray.size)) = true := by
    rw [notLongL hsz, Bool.and_false]
    exact Bool.false_ne_true
  refine call_meets F.slot_list_extend ⟨_, e, rfl⟩ F.entry_list_extend (F.args_list_extend_2 _ _) (ext_tup l b its.toArray its2.toArray n n2 od sl hlong (by rw [List.size_toArray]; omega) (by omega)) ⟨e, ho, ?_⟩
  refine ⟨.non, _, I.lset (its' := its ++ its2) hH e (by simp) (r.append r2) ?_, rfl, q⟩
  rw [List.length_append]
  omega
theorem Pls.uncons {K : Frag} {H : Hp} {v : List V} {a : PyData} {d : List PyData} (h : Pls K H v (a :: d)) : ∃ x xs, v = x :: xs ∧ Pl K H x a ∧ Pls K H xs d := by
  cases h with
  | cons h r => exact ⟨_, _, rfl, h, r⟩
theorem Pls.unnil {K : Frag} {H : Hp} {v : List V} (h : Pls K H v []) : v = [] := by
  cases h
  rfl
theorem two_of {α : Type} {l : List α} (h : l.length = 2) : ∃ a b, l = [a, b] := match l, h with
  | [a, b], _ => ⟨a, b, rfl⟩
theorem one_of {α : Type} {l : List α} (h : l ≠ []) : ∃ a r, l = a :: r := match l, h with
  | [], h => absurd rfl h
  | a :: r, _ => ⟨a, r, rfl⟩
theorem Pl.ty {K : Frag} {H : Hp} {v : V} {d : PyData} (h : Pl K H v d) : TyX K H v (.type (tyn d)) := by
  cases h with
  | str x => exact .base (.str x)
  | tup h _ => exact ty_t h
end Fs
set_option Elab.async false
set_option linter.all false
set_option maxRecDepth 100000
set_option maxHeartbeats 8000000
/-! normal forms: in_turn, side_by_side, normal_form -/
namespace Fp4
open PySem PySem.Spec PyProof.Rows L2 Fh Fs
open PySem.W (Frag)
/-! ### shapes -/
/-- a plan's shape, n levels at most -/
inductive Sh : Nat → PyData → Prop where
  | nm {n : Nat} {y : Str} : wordB y = true → Sh n (.str y)
  | nd {n : Nat} {y : Str} {ds : List PyData} : rightNo y ds.length = true → (y = "then" ∨ ds.length ≤ 4) → (∀ d ∈ ds, Sh n d) → Sh (n + 1) (.tuple (.str y :: ds))
theorem Sh.up {n m : Nat} {d : PyData} (h : Sh n d) (le : n ≤ m) : Sh m d := by
  induction h generalizing m with
  | nm h => exact .nm h
  | @nd n y ds h1 h2 h3 ih =>
    obtain ⟨k, rfl⟩ : ∃ k, m = k + 1 := ⟨m - 1, by omega⟩
    exact .nd h1 h2 fun d hd => ih d hd (by omega)
theorem word_str {y : Str} (h : wordB y = true) : PyData.canLay0 (.str y) = true ∧ y.length ≤ 8 := by
  unfold wordB at h
  rw [Bool.and_eq_true, Bool.and_eq_true, decide_eq_true_eq, decide_eq_true_eq] at h
  obtain ⟨h1, h2, h3⟩ := h
  refine ⟨?_, h2⟩
  show y.cps.all (· < 0x110000) = true
  rw [← Array.all_toList, List.all_eq_true]
  intro c hc
  have h4 := List.all_eq_true.mp h3 (decide (c ∈ abcN)) (List.mem_map.mpr ⟨c, hc, rfl⟩)
  have h5 : c ∈ abcN := of_decide_eq_true h4
  have all : ∀ c ∈ abcN, c < 0x110000 := by decide +kernel
  exact decide_eq_true (all c h5)
theorem word_fine {y : Str} {m : Int} (h : rightNo y m = true) : wordB y = true ∧ y.length ≤ 6 := by
  refine ⟨?_, word_six h⟩
  have h2 : (fewest y).isSome = true := by
    unfold rightNo at h
    cases e : fewest y with
    | none => rw [e] at h; cases h
    | some i => rfl
  unfold fewest at h2
  by_cases h1 : y = "then"
  · rw [h1]; decide +kernel
  by_cases h2' : y = "either"
  · rw [h2']; decide +kernel
  by_cases h3 : y = "any"
  · rw [h3]; decide +kernel
  by_cases h4 : y = "again"
  · rw [h4]; decide +kernel
  by_cases h5 : y = "beside"
  · rw [h5]; decide +kernel
  rw [if_neg h1, if_neg h2', if_neg h3, if_neg h4, if_neg h5] at h2
  cases h2
theorem lay_all {ds : List PyData} (h : ∀ d ∈ ds, d.canLay0 = true) : PyData.canLayAll0 ds = true := by
  induction ds with
  | nil => rfl
  | cons d ds ih =>
    show (d.canLay0 && PyData.canLayAll0 ds) = true
    rw [h d List.mem_cons_self, ih fun e he => h e (List.mem_cons_of_mem _ he)]
    rfl
theorem depth_all {ds : List PyData} {n : Nat} (h : ∀ d ∈ ds, d.depth ≤ n) : PyData.depthAll ds ≤ n := by
  induction ds with
  | nil => exact Nat.zero_le _
  | cons d ds ih =>
    show max d.depth (PyData.depthAll ds) ≤ n
    have := h d List.mem_cons_self
    have := ih fun e he => h e (List.mem_cons_of_mem _ he)
    omega
theorem Sh.lay {n : Nat} {d : PyData} (h : Sh n d) : d.canLay0 = true ∧ d.depth ≤ n := by
  induction h with
  | nm h => exact ⟨(word_str h).1, Nat.zero_le _⟩
  | @nd n y ds h1 h2 h3 ih =>
    refine ⟨?_, ?_⟩
    · show PyData.canLayAll0 (.str y :: ds) = true
      exact lay_all fun d hd => by
        rcases List.mem_cons.mp hd with e | e
        · rw [e]; exact (word_str (word_fine h1).1).1
        · exact (ih d e).1
    · show PyData.depthAll (.str y :: ds) + 1 ≤ n + 1
      have := depth_all (ds := .str y :: ds) (n := n) fun d hd => by
        rcases List.mem_cons.mp hd with e | e
        · rw [e]; exact Nat.zero_le _
        · exact (ih d e).2
      omega
theorem Sh.shaped {n : Nat} {d : PyData} (h : Sh n d) (hn : n ≤ 60) : SeqAt.shaped d = true := by
  obtain ⟨h1, h2⟩ := h.lay
  unfold SeqAt.shaped
  rw [h1, decide_eq_true (by omega)]
  rfl
/-! ### the complete plan -/
abbrev doneD : PyData := .tuple [.str "then"]
theorem sh_done (n : Nat) : Sh (n + 1) doneD := .nd (by decide +kernel) (.inl rfl) (fun _ z => nomatch z)
theorem done_shaped : SeqAt.shaped doneD = true := (sh_done 0).shaped (by decide)
def isDone (d : PyData) : Bool := PyData.eqv d doneD
theorem isDone_str (y : Str) : isDone (.str y) = false := rfl
theorem isDone_nd (y : Str) (ds : List PyData) : isDone (.tuple (.str y :: ds)) = (decide (y = "then") && ds.isEmpty) := by
  show ((y == Str.ofString "then") && PyData.eqvAll ds []) = _
  have e : PyData.eqvAll ds [] = ds.isEmpty := by cases ds <;> rfl
  rw [e]
  by_cases h : y = "then"
  · rw [decide_eq_true h, beq_iff_eq.mpr h]
  · rw [decide_eq_false h, beq_eq_false_iff_ne.mpr h]
/-! ### parts in turn -/
def thenParts : PyData → Option (List PyData)
  | .tuple (.str y :: ds) => if y = "then" then some ds else none
  | _ => none
def flat1 (d : PyData) : List PyData := match thenParts d with
  | some es => es
  | none => [d]
def flatF (ds : List PyData) : List PyData := ds.flatMap flat1
def inTurn (ds : List PyData) : PyData := match flatF ds with
  | [d] => d
  | es => .tuple (.str "then" :: es)
def side (a b : PyData) : PyData := if isDone a = true then b else if isDone b = true then a else .tuple [.str "beside", a, b]
def twoOf : List PyData → PyData → PyData
  | a :: b :: _, _ => side a b
  | _, d => d
def nfIn (rec : PyData → PyData) : PyData → PyData
  | .tuple (.str y :: ds) => if y = "then" then inTurn (ds.map rec) else if y = "beside" then twoOf (ds.map rec) (.tuple (.str y :: ds)) else .tuple (.str y :: ds.map rec)
  | d => d
/-- the normal form -/
def nf : Nat → PyData → PyData
  | 0, d => d
  | n + 1, d => nfIn (nf n) d
theorem flat_snoc (ds : List PyData) (d : PyData) : flatF (ds ++ [d]) = flatF ds ++ flat1 d := by
  unfold flatF
  rw [List.flatMap_append]
  show _ ++ (flat1 d ++ []) = _
  rw [List.append_nil]
/-! ### weights -/
theorem w_cons (d : PyData) (ds : List PyData) : PyData.weightAll (d :: ds) = d.weight + 1 + PyData.weightAll ds := by simp only [PyData.weightAll]
theorem w_nil : PyData.weightAll [] = 0 := by simp only [PyData.weightAll]
theorem w_tup (ds : List PyData) : PyData.weight (.tuple ds) = PyData.weightAll ds := by simp only [PyData.weight]
theorem w_str (y : Str) : PyData.weight (.str y) = y.length := by simp only [PyData.weight]; rfl
theorem w_app (as bs : List PyData) : PyData.weightAll (as ++ bs) = PyData.weightAll as + PyData.weightAll bs := by
  induction as with
  | nil => rw [w_nil, Nat.zero_add]; rfl
  | cons a as ih => rw [List.cons_append, w_cons, w_cons, ih]; omega
theorem w_len (ds : List PyData) : ds.length ≤ PyData.weightAll ds := by
  induction ds with
  | nil => exact Nat.zero_le _
  | cons a as ih => rw [w_cons, List.length_cons]; omega
theorem w_mem {d : PyData} {ds : List PyData} (h : d ∈ ds) : d.weight + 1 ≤ PyData.weightAll ds := by
  induction ds with
  | nil => cases h
  | cons a as ih =>
    rw [w_cons]
    rcases List.mem_cons.mp h with e | e
    · rw [e]; omega
    · have := ih e; omega
theorem then_len : (Str.ofString "then").length = 4 := by decide +kernel
theorem w_flat1 (d : PyData) : PyData.weightAll (flat1 d) ≤ d.weight + 1 := by
  unfold flat1
  cases e : thenParts d with
  | none => rw [w_cons, w_nil]; omega
  | some es =>
    unfold thenParts at e
    split at e
    · rename_i y ds
      split at e
      · injection e with e
        subst e
        show PyData.weightAll ds ≤ _
        rw [w_tup, w_cons]
        omega
      · cases e
    · cases e
theorem w_flat (ds : List PyData) : PyData.weightAll (flatF ds) ≤ PyData.weightAll ds := by
  induction ds with
  | nil => exact Nat.le_refl _
  | cons d ds ih =>
    have e : flatF (d :: ds) = flat1 d ++ flatF ds := rfl
    have := w_flat1 d
    rw [e, w_app, w_cons]
    omega
theorem w_turn (ds : List PyData) : (inTurn ds).weight ≤ 5 + PyData.weightAll ds := by
  have h := w_flat ds
  unfold inTurn
  split
  · rename_i d e
    rw [e, w_cons, w_nil] at h
    omega
  · rename_i es _
    rw [w_tup, w_cons, w_str, then_len]
    omega
theorem w_side (a b : PyData) : (side a b).weight ≤ 9 + a.weight + b.weight := by
  unfold side
  split
  · omega
  · split
    · omega
    · rw [w_tup, w_cons, w_cons, w_cons, w_nil, w_str, show (Str.ofString "beside").length = 6 by decide +kernel]
      omega
theorem w_map {f : PyData → PyData} (hf : ∀ d, (f d).weight ≤ d.weight) (ds : List PyData) : PyData.weightAll (ds.map f) ≤ PyData.weightAll ds := by
  induction ds with
  | nil => exact Nat.le_refl _
  | cons d ds ih =>
    rw [List.map_cons, w_cons, w_cons]
    have := hf d
    omega
theorem w_two (ps : List PyData) (d : PyData) : (twoOf ps d).weight ≤ 7 + PyData.weightAll ps ∨ (twoOf ps d).weight ≤ d.weight := by
  match ps with
  | [] => exact .inr (Nat.le_refl _)
  | [_] => exact .inr (Nat.le_refl _)
  | a :: b :: r =>
    refine .inl ?_
    have s := w_side a b
    show (side a b).weight ≤ _
    rw [w_cons, w_cons]
    omega
theorem w_nfIn {rec : PyData → PyData} (hr : ∀ d, (rec d).weight ≤ d.weight) (d : PyData) : (nfIn rec d).weight ≤ d.weight := by
  unfold nfIn
  split
  · rename_i y ds
    have m := w_map hr ds
    split
    · rename_i e
      have t := w_turn (ds.map rec)
      subst e
      rw [w_tup, w_cons, w_str, then_len]
      omega
    · split
      · rename_i e
        subst e
        rcases w_two (ds.map rec) (.tuple (.str "beside" :: ds)) with h | h
        · rw [w_tup, w_cons, w_str, show (Str.ofString "beside").length = 6 by decide +kernel]
          omega
        · exact h
      · rw [w_tup, w_tup, w_cons, w_cons]
        omega
  · exact Nat.le_refl _
theorem w_nf : ∀ (n : Nat) (d : PyData), (nf n d).weight ≤ d.weight
  | 0, d => Nat.le_refl _
  | n + 1, d => w_nfIn (w_nf n) d
/-! ### shapes of what is made -/
theorem sh_flat1 {n : Nat} {d : PyData} (h : Sh n d) : ∀ e ∈ flat1 d, Sh n e := by
  intro e he
  unfold flat1 at he
  cases q : thenParts d with
  | none =>
    rw [q] at he
    rcases List.mem_singleton.mp he with rfl
    exact h
  | some es =>
    rw [q] at he
    unfold thenParts at q
    cases h with
    | nm _ => cases q
    | @nd n y ds h1 h2 h3 =>
      have q : (if y = "then" then some ds else none) = some es := q
      split at q
      · injection q with q
        subst q
        exact (h3 e he).up (Nat.le_succ n)
      · cases q
theorem sh_flat {n : Nat} {ds : List PyData} (h : ∀ d ∈ ds, Sh n d) : ∀ e ∈ flatF ds, Sh n e := by
  intro e he
  obtain ⟨d, hd, he⟩ := List.mem_flatMap.mp he
  exact sh_flat1 (h d hd) e he
theorem then_any (m : Nat) : rightNo "then" (m : Int) = true := by
  show (decide ((0 : Int) ≤ m) && decide ((m : Int) ≤ m)) = true
  rw [decide_eq_true (by omega), decide_eq_true (Int.le_refl _)]
  rfl
theorem sh_turn {n : Nat} {ds : List PyData} (h : ∀ d ∈ ds, Sh n d) : Sh (n + 1) (inTurn ds) := by
  have f := sh_flat h
  unfold inTurn
  split
  · rename_i d e
    rw [e] at f
    exact (f d List.mem_cons_self).up (Nat.le_succ n)
  · exact .nd (then_any _) (.inl rfl) f
theorem sh_side {n : Nat} {a b : PyData} (ha : Sh n a) (hb : Sh n b) : Sh (n + 1) (side a b) := by
  unfold side
  split
  · exact hb.up (Nat.le_succ n)
  · split
    · exact ha.up (Nat.le_succ n)
    · refine .nd (show rightNo (Str.ofString "beside") ((2 : Nat) : Int) = true by decide +kernel) (.inr (show 2 ≤ 4 by decide)) fun d hd => ?_
      rcases List.mem_cons.mp hd with e | e
      · rw [e]; exact ha
      · rcases List.mem_singleton.mp e with rfl
        exact hb
theorem beside_two {m : Nat} (h : rightNo "beside" (m : Int) = true) : m = 2 := by
  have e : rightNo "beside" (m : Int) = (decide ((2 : Int) ≤ m) && decide ((m : Int) ≤ 2)) := rfl
  rw [e, Bool.and_eq_true, decide_eq_true_eq, decide_eq_true_eq] at h
  omega
theorem sh_nf : ∀ {n : Nat} {d : PyData}, Sh n d → Sh n (nf n d)
  | 0, _, h => h
  | n + 1, _, .nm h => .nm h
  | n + 1, _, .nd (y := y) (ds := ds) h1 h2 h3 => by
    have m : ∀ e ∈ ds.map (nf n), Sh n e := fun e he => by
      obtain ⟨d, hd, rfl⟩ := List.mem_map.mp he
      exact sh_nf (h3 d hd)
    show Sh (n + 1) (if y = "then" then inTurn (ds.map (nf n)) else if y = "beside" then twoOf (ds.map (nf n)) (.tuple (.str y :: ds)) else .tuple (.str y :: ds.map (nf n)))
    split
    · exact sh_turn m
    · rename_i ny
      split
      · rename_i e
        subst e
        have l2 := beside_two h1
        match ds, l2, m with
        | [a, b], _, m => exact sh_side (m _ List.mem_cons_self) (m _ (List.mem_cons_of_mem _ List.mem_cons_self))
      · refine .nd (by rw [List.length_map]; exact h1) (by rw [List.length_map]; exact h2) m
end Fp4
set_option Elab.async false
set_option linter.all false
set_option maxRecDepth 100000
set_option maxHeartbeats 1000000
/-! the own reader at texts of right plans -/
namespace Fp4
open PySem PySem.Spec PyProof.Rows L2 Fh Fs
abbrev tlS (y : Str) : List Nat := y.cps.toList
abbrev pl (n : Nat) (d : PyData) : List Nat := (txt n d).cps.toList
theorem pl_nd (n : Nat) (y : Str) (ds : List PyData) : pl (n + 1) (.tuple (.str y :: ds)) = tlS y ++ (40 :: (TL.joinL [44, 32] (ds.map (pl n)) ++ [41])) := by
  show (y ++ (Str.ofString "(") ++ Txt.join (Str.ofString ", ") (ds.map (txt n)) ++ (Str.ofString ")")).cps.toList = _
  rw [app_tl, app_tl, app_tl, join_cps, List.map_map]
  have e1 : (Str.ofString "(").cps.toList = [40] := by decide +kernel
  have e2 : (Str.ofString ")").cps.toList = [41] := by decide +kernel
  have e3 : (Str.ofString ", ").cps.toList = [44, 32] := by decide +kernel
  rw [e1, e2, e3, List.append_assoc, List.append_assoc]
  rfl
theorem get_at (u l : List Nat) : (u ++ l)[u.length]? = l.head? := by
  rw [List.getElem?_append_right (Nat.le_refl _), Nat.sub_self]
  cases l <;> rfl
theorem isC_at (u l : List Nat) (c : Nat) : isC (u ++ l) u.length c = decide (l.head? = some c) := by unfold isC; rw [get_at]
theorem isC_to {t u l : List Nat} {a : Nat} (h : t = u ++ l) (ha : a = u.length) (c : Nat) : isC t a c = decide (l.head? = some c) := by rw [h, ha, isC_at]
/-- no letter goes on -/
def Stop (l : List Nat) : Prop := ∀ c, l.head? = some c → isL c = false
theorem weF_succ (m : Nat) (t : List Nat) (e : Nat) : weF (m + 1) t e = (match t[e]? with | some c => if isL c = true then weF m t (e + 1) else e | none => e) := rfl
theorem we_at : ∀ (w l u : List Nat) (m : Nat), (∀ c ∈ w, isL c = true) → w.length ≤ m → (w.length = m ∨ Stop l) → weF m (u ++ (w ++ l)) u.length = u.length + w.length
  | [], l, u, 0, _, _, _ => rfl
  | [], l, u, m + 1, _, _, h => by
    have hs : Stop l := h.resolve_left (fun z => nomatch z)
    show (match (u ++ ([] ++ l))[u.length]? with | some c => if isL c = true then weF m (u ++ ([] ++ l)) (u.length + 1) else u.length | none => u.length) = u.length + 0
    rw [List.nil_append, get_at]
    cases e : l.head? with
    | none => rfl
    | some c =>
      show (if isL c = true then _ else u.length) = _
      rw [if_neg (by rw [hs c e]; exact Bool.false_ne_true)]
      rfl
  | c :: w, l, u, 0, _, h, _ => absurd h (by simp)
  | c :: w, l, u, m + 1, hl, hm, h => by
    rw [weF_succ, get_at]
    show (if isL c = true then weF m (u ++ (c :: w ++ l)) (u.length + 1) else u.length) = _
    rw [if_pos (hl c List.mem_cons_self)]
    have e : u ++ (c :: w ++ l) = (u ++ [c]) ++ (w ++ l) := by simp
    have e2 : u.length + 1 = (u ++ [c]).length := by simp
    have ih := we_at w l (u ++ [c]) m (fun d hd => hl d (List.mem_cons_of_mem _ hd)) (by simpa using hm) (by rcases h with z | z; exact .inl (by simpa using z); exact .inr z)
    rw [e, e2, ih]
    simp
    omega
theorem word_at (u w l : List Nat) : wordAt (u ++ (w ++ l)) u.length (u.length + w.length) = ⟨w.toArray⟩ := by
  unfold wordAt
  rw [List.drop_left, show u.length + w.length - u.length = w.length by omega, List.take_left]
theorem str_eta (y : Str) : (⟨(tlS y).toArray⟩ : Str) = y := (str_of_list (z := y) rfl).symm
theorem low_isL {y : Str} (h : Low y) : ∀ c ∈ tlS y, isL c = true := fun c hc => decide_eq_true (h c hc)
theorem rd_eq (n : Nat) (t : List Nat) (a : Nat) (b : Bool) : rdF (n + 1) t a b = (if weF 8 t a = a then some (RR.err a)
    else if !(isC t (weF 8 t a) 40) then some (.ok (weF 8 t a) (.str (wordAt t a (weF 8 t a))))
    else if !(fewest (wordAt t a (weF 8 t a))).isSome || (b && decide (wordAt t a (weF 8 t a) = "beside")) then some (.err (weF 8 t a))
    else if decide (wordAt t a (weF 8 t a) = "then") && isC t (weF 8 t a + 1) 41 then some (.ok (weF 8 t a + 2) (.tuple [.str "then"]))
    else rpF (rdF n t) t (wordAt t a (weF 8 t a)) (b || decide (wordAt t a (weF 8 t a) = "beside")) (t.length + 1) (weF 8 t a + 1) []) := rfl
theorem rp_eq (rec : Nat → Bool → Option RR) (t : List Nat) (z : Str) (b : Bool) (m a : Nat) (ds : List PyData) : rpF rec t z b (m + 1) a ds = (match rec a b with
    | none => none
    | some (.err i) => some (.err i)
    | some (.ok e d) => if isC t e 41 && rightNo z (ds.length + 1 : Nat) then some (.ok (e + 1) (.tuple (.str z :: (ds ++ [d]))))
      else if !(rightNo z (ds.length + 2 : Nat) && isC t e 44) then some (.err e)
      else if !(isC t (e + 1) 32) then some (.err (e + 1))
      else rpF rec t z b m (e + 2) (ds ++ [d])) := rfl
/-- letters, then neither a letter nor "(" -/
theorem rd_name {n : Nat} {u w l : List Nat} {b : Bool} (hw : ∀ c ∈ w, isL c = true) (h1 : 1 ≤ w.length) (h8 : w.length ≤ 8) (hl : w.length = 8 ∨ Stop l) (no : l.head? ≠ some 40) : rdF (n + 1) (u ++ (w ++ l)) u.length b = some (.ok (u.length + w.length) (.str ⟨w.toArray⟩)) := by
  have e := we_at w l u 8 hw h8 hl
  rw [rd_eq, e, if_neg (by omega)]
  have c : isC (u ++ (w ++ l)) (u.length + w.length) 40 = false := by
    rw [isC_to (u := u ++ w) (l := l) (by rw [List.append_assoc]) (by rw [List.length_append])]
    exact decide_eq_false no
  rw [c, word_at]
  rfl
theorem rd_none {n : Nat} {u l : List Nat} {b : Bool} (hl : Stop l) : rdF (n + 1) (u ++ l) u.length b = some (.err u.length) := by
  have e := we_at [] l u 8 (fun _ z => nomatch z) (by decide) (.inr hl)
  rw [List.nil_append] at e
  rw [rd_eq, e, if_pos (by rfl)]
/-- a word of plans and "(" -/
theorem rd_node {n : Nat} {u l : List Nat} {y : Str} {b : Bool} (hy : (fewest y).isSome = true) (hb : (b && decide (y = "beside")) = false) : rdF (n + 1) (u ++ (tlS y ++ 40 :: l)) u.length b =
    (if decide (y = "then") && decide (l.head? = some 41) then some (.ok (u.length + (tlS y).length + 2) (.tuple [.str "then"])) else rpF (rdF n (u ++ (tlS y ++ 40 :: l))) (u ++ (tlS y ++ 40 :: l)) y (b || decide (y = "beside")) ((u ++ (tlS y ++ 40 :: l)).length + 1) (u.length + (tlS y).length + 1) []) := by
  have low : (∀ c ∈ tlS y, isL c = true) ∧ 1 ≤ (tlS y).length ∧ (tlS y).length ≤ 8 := by
    unfold fewest at hy
    by_cases h1 : y = "then"
    · rw [h1]; decide +kernel
    by_cases h2 : y = "either"
    · rw [h2]; decide +kernel
    by_cases h3 : y = "any"
    · rw [h3]; decide +kernel
    by_cases h4 : y = "again"
    · rw [h4]; decide +kernel
    by_cases h5 : y = "beside"
    · rw [h5]; decide +kernel
    rw [if_neg h1, if_neg h2, if_neg h3, if_neg h4, if_neg h5] at hy
    cases hy
  have e := we_at (tlS y) (40 :: l) u 8 low.1 low.2.2 (.inr fun c hc => by cases hc; decide +kernel)
  rw [rd_eq, e, if_neg (by omega), word_at, str_eta]
  have c1 : isC (u ++ (tlS y ++ 40 :: l)) (u.length + (tlS y).length) 40 = true := by
    rw [isC_to (u := u ++ tlS y) (l := 40 :: l) (by rw [List.append_assoc]) (by rw [List.length_append])]
    rfl
  have c2 : isC (u ++ (tlS y ++ 40 :: l)) (u.length + (tlS y).length + 1) 41 = decide (l.head? = some 41) := isC_to (u := u ++ (tlS y ++ [40])) (l := l) (by simp) (by simp; omega) 41
  rw [c1, hy, hb, c2]
  rfl
/-- what may stand behind a part -/
def Beh (l : List Nat) : Prop := Stop l ∧ l.head? ≠ some 40
theorem beh_of {c : Nat} {l : List Nat} (h1 : isL c = false) (h2 : c ≠ 40) : Beh (c :: l) := ⟨fun d hd => by cases hd; exact h1, fun z => by cases z; exact h2 rfl⟩
theorem word_ok {y : Str} {m : Int} (h : rightNo y m = true) : (fewest y).isSome = true := by
  unfold rightNo at h
  cases e : fewest y with
  | none => rw [e] at h; cases h
  | some i => rfl
theorem five {y : Str} (hy : (fewest y).isSome = true) : y = "then" ∨ y = "either" ∨ y = "any" ∨ y = "again" ∨ y = "beside" := by
  unfold fewest at hy
  by_cases h1 : y = "then"
  · exact .inl h1
  by_cases h2 : y = "either"
  · exact .inr (.inl h2)
  by_cases h3 : y = "any"
  · exact .inr (.inr (.inl h3))
  by_cases h4 : y = "again"
  · exact .inr (.inr (.inr (.inl h4)))
  by_cases h5 : y = "beside"
  · exact .inr (.inr (.inr (.inr h5)))
  rw [if_neg h1, if_neg h2, if_neg h3, if_neg h4, if_neg h5] at hy
  cases hy
theorem word_low {y : Str} (hy : (fewest y).isSome = true) : (∀ c ∈ tlS y, isL c = true) ∧ 1 ≤ (tlS y).length ∧ (tlS y).length ≤ 8 := by
  rcases five hy with rfl | rfl | rfl | rfl | rfl <;> decide +kernel
theorem right_eq {y : Str} {f : Int} {o : Option Int} (h1 : fewest y = some f) (h2 : most y = o) (m : Int) : rightNo y m = (decide (f ≤ m) && decide (m ≤ o.getD m)) := by unfold rightNo; rw [h1, h2]
theorem right_mid {y : Str} {T q : Nat} (h : rightNo y (T : Int) = true) (h2 : 2 ≤ q) (hq : q ≤ T) : rightNo y (q : Int) = true := by
  have key : ∀ (f : Int) (o : Option Int), fewest y = some f → most y = o → f ≤ 2 → rightNo y (q : Int) = true := fun f o h1 h3 h4 => by
    rw [right_eq h1 h3] at h ⊢
    rw [Bool.and_eq_true, decide_eq_true_eq, decide_eq_true_eq] at h ⊢
    refine ⟨by omega, ?_⟩
    cases o with
    | none => exact Int.le_refl _
    | some x =>
      have : (T : Int) ≤ x := h.2
      show (q : Int) ≤ x
      omega
  rcases five (word_ok h) with rfl | rfl | rfl | rfl | rfl
  · exact key 0 none (by decide +kernel) (by decide +kernel) (by decide)
  · exact key 1 none (by decide +kernel) (by decide +kernel) (by decide)
  · exact key 1 none (by decide +kernel) (by decide +kernel) (by decide)
  · exact key 1 (some 1) (by decide +kernel) (by decide +kernel) (by decide)
  · exact key 2 (some 2) (by decide +kernel) (by decide +kernel) (by decide)
theorem right_zero {y : Str} (h : rightNo y ((0 : Nat) : Int) = true) : y = "then" := by
  rcases five (word_ok h) with e | e | e | e | e
  · exact e
  all_goals (rw [e] at h; exact absurd h (by decide +kernel))
theorem word_cps {y : Str} (h : wordB y = true) : (∀ c ∈ tlS y, isL c = true) ∧ 1 ≤ (tlS y).length ∧ (tlS y).length ≤ 8 := by
  unfold wordB at h
  rw [Bool.and_eq_true, Bool.and_eq_true, decide_eq_true_eq, decide_eq_true_eq] at h
  obtain ⟨h1, h2, h3⟩ := h
  have e : (tlS y).length = y.length := Array.length_toList
  exact ⟨fun c hc => List.all_eq_true.mp h3 (decide (c ∈ abcN)) (List.mem_map.mpr ⟨c, hc, rfl⟩), by omega, by omega⟩
/-- a plan's text begins with a letter -/
theorem pl_head {n : Nat} {b : Bool} {d : PyData} (g : Rt n b d) : ∃ c r, pl n d = c :: r ∧ isL c = true := by
  have key : ∀ w l : List Nat, (∀ c ∈ w, isL c = true) → 1 ≤ w.length → ∃ c r, w ++ l = c :: r ∧ isL c = true := fun w l hw h1 => by
    cases w with
    | nil => cases h1
    | cons c w => exact ⟨c, w ++ l, rfl, hw c List.mem_cons_self⟩
  cases g with
  | @nm n b y hy =>
    obtain ⟨h1, h2, _⟩ := word_cps hy
    obtain ⟨c, r, e, hc⟩ := key (tlS y) [] h1 h2
    rw [List.append_nil] at e
    exact ⟨c, r, by unfold pl; rw [txt_nm]; exact e, hc⟩
  | @nd n b y ds h1 h2 h3 =>
    obtain ⟨l1, l2, _⟩ := word_low (word_ok h1)
    rw [pl_nd]
    exact key _ _ l1 l2
abbrev J (n : Nat) (ds : List PyData) : List Nat := TL.joinL [44, 32] (ds.map (pl n))
theorem J_one (n : Nat) (d : PyData) : J n [d] = pl n d := rfl
theorem J_two (n : Nat) (d d2 : PyData) (ds : List PyData) : J n (d :: d2 :: ds) = pl n d ++ (44 :: 32 :: J n (d2 :: ds)) := rfl
theorem J_head {n : Nat} {b : Bool} {d : PyData} {ds : List PyData} (g : Rt n b d) : ∃ c r, J n (d :: ds) = c :: r ∧ isL c = true := by
  obtain ⟨c, r, e, hc⟩ := pl_head g
  cases ds with
  | nil => exact ⟨c, r, by rw [J_one, e], hc⟩
  | cons d2 ds => exact ⟨c, r ++ (44 :: 32 :: J n (d2 :: ds)), by rw [J_two, e]; rfl, hc⟩
theorem J_len (n : Nat) {b : Bool} : ∀ {ds : List PyData}, (∀ d ∈ ds, Rt n b d) → ds.length ≤ (J n ds).length
  | [], _ => Nat.zero_le _
  | [d], h => by
    obtain ⟨c, r, e, _⟩ := pl_head (h d List.mem_cons_self)
    rw [J_one, e]
    exact Nat.succ_le_succ (Nat.zero_le _)
  | d :: d2 :: ds, h => by
    have ih := J_len n (ds := d2 :: ds) fun e he => h e (List.mem_cons_of_mem _ he)
    rw [J_two]
    simp only [List.length_append, List.length_cons] at ih ⊢
    omega
section
variable {rec : Nat → Bool → Option RR} {t : List Nat} {y : Str} {b' : Bool} {n : Nat}
def Whole (rec : Nat → Bool → Option RR) (t : List Nat) (b' : Bool) (n : Nat) (d : PyData) : Prop := ∀ u l, t = u ++ (pl n d ++ l) → Beh l → rec u.length b' = some (.ok (u.length + (pl n d).length) d)
theorem rp_whole : ∀ (ds : List PyData) (d : PyData) (f : Nat) (es : List PyData) (u l : List Nat), t = u ++ (J n (d :: ds) ++ 41 :: l) → rightNo y ((es.length + 1 + ds.length : Nat) : Int) = true → ds.length + 1 ≤ f → (∀ d' ∈ d :: ds, Whole rec t b' n d') →
    rpF rec t y b' f u.length es = some (.ok (u.length + (J n (d :: ds)).length + 1) (.tuple (.str y :: (es ++ (d :: ds)))))
  | [], d, 0, _, _, _, _, _, hf, _ => absurd hf (by simp)
  | [], d, f + 1, es, u, l, ht, hr, hf, ih => by
    rw [rp_eq, ih d List.mem_cons_self u (41 :: l) ht (beh_of (by decide +kernel) (by decide))]
    have c : isC t (u.length + (pl n d).length) 41 = true := by rw [isC_to (u := u ++ pl n d) (l := 41 :: l) (by rw [ht, List.append_assoc]; rfl) (by rw [List.length_append])]; rfl
    show (if isC t (u.length + (pl n d).length) 41 && rightNo y (es.length + 1 : Nat) then _ else _) = _
    rw [c, show rightNo y ((es.length + 1 : Nat) : Int) = true from hr]
    rfl
  | d2 :: ds, d, 0, _, _, _, _, _, hf, _ => absurd hf (by simp)
  | d2 :: ds, d, f + 1, es, u, l, ht, hr, hf, ih => by
    have ht2 : t = u ++ (pl n d ++ (44 :: 32 :: (J n (d2 :: ds) ++ 41 :: l))) := by rw [ht, J_two]; simp
    rw [rp_eq, ih d List.mem_cons_self u _ ht2 (beh_of (by decide +kernel) (by decide))]
    have a41 : isC t (u.length + (pl n d).length) 41 = false := isC_to (u := u ++ pl n d) (l := 44 :: 32 :: (J n (d2 :: ds) ++ 41 :: l)) (by rw [ht2, List.append_assoc]) (by rw [List.length_append]) 41
    have a44 : isC t (u.length + (pl n d).length) 44 = true := isC_to (u := u ++ pl n d) (l := 44 :: 32 :: (J n (d2 :: ds) ++ 41 :: l)) (by rw [ht2, List.append_assoc]) (by rw [List.length_append]) 44
    have at2 : isC t (u.length + (pl n d).length + 1) 32 = true := isC_to (u := u ++ (pl n d ++ [44])) (l := 32 :: (J n (d2 :: ds) ++ 41 :: l)) (by rw [ht2]; simp) (by simp; omega) 32
    show (if isC t (u.length + (pl n d).length) 41 && rightNo y (es.length + 1 : Nat) then _ else if !(rightNo y (es.length + 2 : Nat) && isC t (u.length + (pl n d).length) 44) then _ else if !(isC t (u.length + (pl n d).length + 1) 32) then _ else _) = _
    rw [a41, a44, at2, right_mid (T := es.length + 1 + (d2 :: ds).length) (q := es.length + 2) hr (by omega) (by rw [List.length_cons]; omega)]
    have e : (u ++ (pl n d ++ [44, 32])).length = u.length + (pl n d).length + 2 := by simp; omega
    have step := rp_whole ds d2 f (es ++ [d]) (u ++ (pl n d ++ [44, 32])) l (by rw [ht2]; simp) (by rw [List.length_cons] at hr; rw [List.length_append, List.length_singleton, show es.length + 1 + 1 + ds.length = es.length + 1 + (ds.length + 1) by omega]; exact hr) (by rw [List.length_cons] at hf; omega) (fun d' hd => ih d' (List.mem_cons_of_mem _ hd))
    rw [e] at step
    show rpF rec t y b' f (u.length + (pl n d).length + 2) (es ++ [d]) = _
    rw [step, J_two]
    simp
    omega
end
theorem pl_nm (n : Nat) (y : Str) : pl n (.str y) = tlS y := by unfold pl; rw [txt_nm]
theorem not41 {c : Nat} (h : isL c = true) : decide (some c = some 41) = false := decide_eq_false fun e => by cases e; exact absurd h (by decide +kernel)
theorem rd_whole {n : Nat} {b : Bool} {d : PyData} (g : Rt n b d) : ∀ (m : Nat) (u l : List Nat), n + 1 ≤ m → (∀ y, d = .str y → Beh l) → rdF m (u ++ (pl n d ++ l)) u.length b = some (.ok (u.length + (pl n d).length) d) := by
  induction g with
  | @nm n b y hy =>
    intro m u l hm hl
    obtain ⟨m, rfl⟩ : ∃ k, m = k + 1 := ⟨m - 1, by omega⟩
    obtain ⟨h1, h2, h3⟩ := word_cps hy
    rw [pl_nm]
    have e := rd_name (n := m) (u := u) (w := tlS y) (l := l) (b := b) h1 h2 h3 (.inr (hl y rfl).1) (hl y rfl).2
    rw [str_eta] at e
    exact e
  | @nd n b y ds h1 h3 h4 ih =>
    intro m u l hm hl
    obtain ⟨m, rfl⟩ : ∃ k, m = k + 1 := ⟨m - 1, by omega⟩
    have ht : u ++ (pl (n + 1) (.tuple (.str y :: ds)) ++ l) = u ++ (tlS y ++ (40 :: (J n ds ++ 41 :: l))) := by rw [pl_nd]; simp
    have hlen : (pl (n + 1) (.tuple (.str y :: ds))).length = (tlS y).length + (J n ds).length + 2 := by
      rw [pl_nd, List.length_append, List.length_cons, List.length_append, List.length_singleton]
      show _ + ((J n ds).length + 1 + 1) = _
      omega
    have jl := J_len n h4
    rw [ht, hlen, rd_node (word_ok h1) h3]
    cases ds with
    | nil =>
      rw [right_zero (y := y) h1]
      show some _ = some _
      rfl
    | cons d ds =>
      obtain ⟨c, r, ej, hc⟩ := J_head (ds := ds) (h4 d List.mem_cons_self)
      have hh : (J n (d :: ds) ++ 41 :: l).head? = some c := by rw [ej]; rfl
      rw [hh, not41 hc, Bool.and_false]
      show rpF _ _ _ _ _ _ _ = _
      have e : (u ++ (tlS y ++ [40])).length = u.length + (tlS y).length + 1 := by simp; omega
      have step := rp_whole (rec := rdF m (u ++ (tlS y ++ (40 :: (J n (d :: ds) ++ 41 :: l))))) (t := u ++ (tlS y ++ (40 :: (J n (d :: ds) ++ 41 :: l)))) (y := y) (b' := b || decide (y = "beside")) (n := n) ds d ((u ++ (tlS y ++ (40 :: (J n (d :: ds) ++ 41 :: l)))).length + 1) [] (u ++ (tlS y ++ [40])) l (by simp) (by rw [List.length_cons] at h1; rw [List.length_nil, show 0 + 1 + ds.length = ds.length + 1 by omega]; exact h1) (by rw [List.length_cons] at jl; rw [List.length_append, List.length_append, List.length_cons, List.length_append, List.length_cons]; omega) (fun d' hd u' l' ht' hb => by rw [ht']; exact ih d' hd m u' l' (by omega) (fun _ _ => hb))
      rw [e] at step
      rw [step, List.nil_append]
      congr 2
      omega
/-- a right plan's text is read -/
theorem read_whole {n m : Nat} {d : PyData} (g : Rt n false d) (hm : n + 1 ≤ m) : readF m (txt n d).cps.toList = some (.plan d) := by
  have e := rd_whole g m [] [] hm (fun _ _ => ⟨(fun c z => nomatch z), (fun z => nomatch z)⟩)
  rw [List.append_nil, List.nil_append] at e
  have e2 : rdF m (txt n d).cps.toList 0 false = some (.ok (0 + (pl n d).length) d) := e
  unfold readF
  rw [e2]
  show (if 0 + (pl n d).length < (txt n d).cps.toList.length then some (RT.at_ _) else some (.plan d)) = _
  rw [if_neg (by rw [Nat.zero_add]; exact Nat.lt_irrefl _)]
end Fp4
set_option Elab.async false
set_option linter.all false
set_option maxRecDepth 100000
set_option maxHeartbeats 2000000
/-! the own reader at any text: what it takes is a plan's text; how deep it goes -/
namespace Fp4
open PySem PySem.Spec PyProof.Rows L2 Fh Fs
/-! ### the letters of a word -/
theorem we_facts : ∀ (m : Nat) (t : List Nat) (a : Nat), a ≤ t.length → ∃ w l, t.drop a = w ++ l ∧ weF m t a = a + w.length ∧ w.length ≤ m ∧ ∀ c ∈ w, isL c = true
  | 0, t, a, _ => ⟨[], t.drop a, rfl, rfl, Nat.le_refl _, fun _ z => nomatch z⟩
  | m + 1, t, a, h => by
    rw [weF_succ]
    cases hc : t[a]? with
    | none => exact ⟨[], t.drop a, rfl, rfl, Nat.zero_le _, fun _ z => nomatch z⟩
    | some c =>
      show ∃ w l, _ ∧ (if isL c = true then weF m t (a + 1) else a) = _ ∧ _
      by_cases hl : isL c = true
      · rw [if_pos hl]
        have ha : a < t.length := (List.getElem?_eq_some_iff.mp hc).1
        obtain ⟨w, l, h1, h2, h3, h4⟩ := we_facts m t (a + 1) ha
        have e : t.drop a = c :: t.drop (a + 1) := by
          rw [List.drop_eq_getElem_cons ha]
          rw [(List.getElem?_eq_some_iff.mp hc).2]
        refine ⟨c :: w, l, by rw [e, h1]; rfl, by rw [h2, List.length_cons]; omega, by rw [List.length_cons]; omega, fun x hx => ?_⟩
        rcases List.mem_cons.mp hx with rfl | hx
        · exact hl
        · exact h4 x hx
      · rw [if_neg hl]
        exact ⟨[], t.drop a, rfl, rfl, Nat.zero_le _, fun _ z => nomatch z⟩
theorem drop_head {t : List Nat} {e c : Nat} (h : isC t e c = true) : t.drop e = c :: t.drop (e + 1) := by
  have h : t[e]? = some c := of_decide_eq_true h
  have he : e < t.length := (List.getElem?_eq_some_iff.mp h).1
  rw [List.drop_eq_getElem_cons he, (List.getElem?_eq_some_iff.mp h).2]
theorem at_len {t : List Nat} {e c : Nat} (h : isC t e c = true) : e < t.length := (List.getElem?_eq_some_iff.mp (of_decide_eq_true h)).1
theorem drop_to {t w l : List Nat} {a : Nat} (h : t.drop a = w ++ l) : t.drop (a + w.length) = l := by
  rw [← List.drop_drop, h, List.drop_left]
theorem word_is {t w l : List Nat} {a : Nat} (h : t.drop a = w ++ l) : wordAt t a (a + w.length) = ⟨w.toArray⟩ := by
  unfold wordAt
  rw [h, show a + w.length - a = w.length by omega, List.take_left]
theorem len_to {t w l : List Nat} {a : Nat} (h : t.drop a = w ++ l) (ha : a ≤ t.length) : a + w.length ≤ t.length := by
  have := congrArg List.length h
  rw [List.length_drop, List.length_append] at this
  omega
theorem wordB_of {w : List Nat} (h : ∀ c ∈ w, isL c = true) (h1 : 1 ≤ w.length) (h8 : w.length ≤ 8) : wordB ⟨w.toArray⟩ = true := by
  unfold wordB
  have e : (⟨w.toArray⟩ : Str).length = w.length := rfl
  rw [Bool.and_eq_true, Bool.and_eq_true, decide_eq_true_eq, decide_eq_true_eq, e]
  refine ⟨h1, h8, List.all_eq_true.mpr fun b hb => ?_⟩
  obtain ⟨c, hc, rfl⟩ := List.mem_map.mp hb
  exact h c hc
/-! ### what is taken -/
/-- what is told at a: behind a plan's text, or at a place of the text -/
def TellsAt (t : List Nat) (m a : Nat) (b : Bool) : Option RR → Prop
  | none => True
  | some (.err i) => a ≤ i ∧ i ≤ t.length
  | some (.ok e d) => Rt m b d ∧ ∃ l, t.drop a = pl m d ++ l ∧ e = a + (pl m d).length ∧ e ≤ t.length
def TellsParts (t : List Nat) (n a : Nat) (b : Bool) (z : Str) (ds : List PyData) : Option RR → Prop
  | none => True
  | some (.err i) => a ≤ i ∧ i ≤ t.length
  | some (.ok e D) => ∃ es, D = .tuple (.str z :: (ds ++ es)) ∧ (∀ d ∈ es, Rt n b d) ∧ rightNo z ((ds ++ es).length : Nat) = true ∧ ∃ l, t.drop a = J n es ++ 41 :: l ∧ e = a + (J n es).length + 1 ∧ e ≤ t.length
theorem rp_tells {t : List Nat} {n : Nat} {b : Bool} {z : Str} {rec : Nat → Bool → Option RR} (hrec : ∀ a, a ≤ t.length → TellsAt t n a b (rec a b)) : ∀ (f a : Nat) (ds : List PyData), a ≤ t.length → TellsParts t n a b z ds (rpF rec t z b f a ds)
  | 0, _, _, _ => True.intro
  | f + 1, a, ds, ha => by
    have h := hrec a ha
    rw [rp_eq]
    cases hr : rec a b with
    | none => exact True.intro
    | some r =>
      rw [hr] at h
      cases r with
      | err i => exact h
      | ok e d =>
        obtain ⟨rt, l, h1, h2, h3⟩ := h
        have dl := drop_to h1
        rw [← h2] at dl
        show TellsParts t n a b z ds (if isC t e 41 && rightNo z (ds.length + 1 : Nat) then some (.ok (e + 1) (.tuple (.str z :: (ds ++ [d])))) else if !(rightNo z (ds.length + 2 : Nat) && isC t e 44) then some (.err e) else if !(isC t (e + 1) 32) then some (.err (e + 1)) else rpF rec t z b f (e + 2) (ds ++ [d]))
        cases c1 : (isC t e 41 && rightNo z (ds.length + 1 : Nat)) with
        | true =>
          rw [if_pos rfl]
          rw [Bool.and_eq_true] at c1
          have hd := drop_head c1.1
          refine ⟨[d], rfl, fun x hx => by rw [List.mem_singleton.mp hx]; exact rt, by rw [List.length_append, List.length_singleton]; exact c1.2, t.drop (e + 1), ?_, ?_, at_len c1.1⟩
          · rw [J_one, h1, ← dl, hd]
          · rw [J_one, h2]
        | false =>
          rw [if_neg (fun z => nomatch z)]
          cases c2 : (rightNo z (ds.length + 2 : Nat) && isC t e 44) with
          | false =>
            rw [if_pos (show (!false) = true from rfl)]
            exact ⟨by omega, h3⟩
          | true =>
            rw [if_neg (fun z => nomatch z)]
            rw [Bool.and_eq_true] at c2
            have l2 := at_len c2.2
            cases c3 : isC t (e + 1) 32 with
            | false =>
              rw [if_pos (show (!false) = true from rfl)]
              exact ⟨by omega, l2⟩
            | true =>
              rw [if_neg (fun z => nomatch z)]
              have l3 := at_len c3
              have d2 := drop_head c2.2
              have d3 := drop_head c3
              have ih := rp_tells (z := z) hrec f (e + 2) (ds ++ [d]) (by omega)
              cases hq : rpF rec t z b f (e + 2) (ds ++ [d]) with
              | none => exact True.intro
              | some r =>
                rw [hq] at ih
                cases r with
                | err i => exact ⟨by have := ih.1; omega, ih.2⟩
                | ok e' D =>
                  obtain ⟨es, g1, g2, g3, l', g4, g5, g6⟩ := ih
                  cases es with
                  | nil =>
                    exfalso
                    have z1 : t.drop (e + 2) = 41 :: l' := g4
                    have hz := hrec (e + 2) (by omega)
                    cases f with
                    | zero => cases hq
                    | succ f =>
                      rw [rp_eq] at hq
                      cases hr2 : rec (e + 2) b with
                      | none => rw [hr2] at hq; cases hq
                      | some r2 =>
                        rw [hr2] at hq hz
                        cases r2 with
                        | err i => cases hq
                        | ok e2 d2 =>
                          obtain ⟨rt2, l2', k1, _⟩ := hz
                          obtain ⟨c, r', ej, hc⟩ := pl_head rt2
                          rw [z1, ej] at k1
                          cases k1
                          exact absurd hc (by decide +kernel)
                  | cons d' es =>
                    refine ⟨d :: d' :: es, by rw [g1, List.append_assoc]; rfl, fun x hx => ?_, by rw [List.append_assoc] at g3; exact g3, l', ?_, ?_, g6⟩
                    · rcases List.mem_cons.mp hx with rfl | hx
                      · exact rt
                      · exact g2 x hx
                    · rw [J_two, h1, ← dl, d2, d3, List.append_assoc]
                      show pl n d ++ 44 :: 32 :: t.drop (e + 2) = _
                      rw [g4]
                      rfl
                    · rw [g5, J_two, h2]
                      simp only [List.length_append, List.length_cons]
                      omega
theorem rd_tells {t : List Nat} : ∀ (m a : Nat) (b : Bool), a ≤ t.length → TellsAt t m a b (rdF m t a b)
  | 0, _, _, _ => True.intro
  | m + 1, a, b, ha => by
    obtain ⟨w, l, h1, h2, h3, h4⟩ := we_facts 8 t a ha
    have wi := word_is h1
    have le := len_to h1 ha
    have dl := drop_to h1
    rw [rd_eq, h2, wi]
    by_cases c0 : a + w.length = a
    · rw [if_pos c0]
      exact ⟨Nat.le_refl _, ha⟩
    · rw [if_neg c0]
      have w1 : 1 ≤ w.length := by omega
      cases c1 : isC t (a + w.length) 40 with
      | false =>
        rw [if_pos (show (!false) = true from rfl)]
        exact ⟨.nm (wordB_of h4 w1 h3), l, by rw [pl_nm]; exact h1, by rw [pl_nm], le⟩
      | true =>
        rw [if_neg (fun z => nomatch z)]
        have le2 := at_len c1
        have d1 := drop_head c1
        cases c2 : (!(fewest (⟨w.toArray⟩ : Str)).isSome || (b && decide ((⟨w.toArray⟩ : Str) = "beside"))) with
        | true =>
          rw [if_pos rfl]
          exact ⟨by omega, le⟩
        | false =>
          rw [if_neg (fun z => nomatch z)]
          rw [Bool.or_eq_false_iff, Bool.not_eq_false'] at c2
          cases c3 : (decide ((⟨w.toArray⟩ : Str) = "then") && isC t (a + w.length + 1) 41) with
          | true =>
            rw [if_pos rfl]
            rw [Bool.and_eq_true] at c3
            have ey := of_decide_eq_true c3.1
            have le3 := at_len c3.2
            have d2 := drop_head c3.2
            have ew : w = tlS (Str.ofString "then") := by rw [← ey]
            have ep : pl (m + 1) (.tuple [.str "then"]) = w ++ [40, 41] := by rw [pl_nd, ew]; rfl
            refine ⟨.nd (by decide +kernel) ?_ (fun _ z => nomatch z), t.drop (a + w.length + 2), ?_, ?_, le3⟩
            · rw [show decide (Str.ofString "then" = Str.ofString "beside") = false by decide +kernel, Bool.and_false]
            · rw [ep, h1, ← dl, d1, d2, List.append_assoc]
              rfl
            · rw [ep, List.length_append]
              show _ = a + (w.length + 2)
              omega
          | false =>
            rw [if_neg (fun z => nomatch z)]
            have ih := rp_tells (z := (⟨w.toArray⟩ : Str)) (n := m) (b := b || decide ((⟨w.toArray⟩ : Str) = "beside")) (rec := rdF m t) (fun a' ha' => rd_tells m a' _ ha') (t.length + 1) (a + w.length + 1) [] (by omega)
            cases hq : rpF (rdF m t) t (⟨w.toArray⟩ : Str) (b || decide ((⟨w.toArray⟩ : Str) = "beside")) (t.length + 1) (a + w.length + 1) [] with
            | none => exact True.intro
            | some r =>
              rw [hq] at ih
              cases r with
              | err i => exact ⟨by have := ih.1; omega, ih.2⟩
              | ok e D =>
                obtain ⟨es, g1, g2, g3, l', g4, g5, g6⟩ := ih
                subst g1
                have ep : pl (m + 1) (.tuple (.str ⟨w.toArray⟩ :: ([] ++ es))) = w ++ (40 :: (J m es ++ [41])) := by rw [pl_nd, List.nil_append]
                refine ⟨.nd g3 c2.2 g2, l', ?_, ?_, g6⟩
                · rw [ep, h1, ← dl, d1, g4]
                  simp
                · rw [ep, g5]
                  simp only [List.length_append, List.length_cons, List.length_nil]
                  omega
/-! ### how deep -/
def mx : List Nat → Nat
  | [] => 0
  | c :: l => if c = 40 then mx l + 1 else if c = 41 then mx l - 1 else mx l
theorem mx_40 (l : List Nat) : mx (40 :: l) = mx l + 1 := rfl
theorem mx_41 (l : List Nat) : mx (41 :: l) = mx l - 1 := rfl
theorem mx_no {c : Nat} (h1 : c ≠ 40) (h2 : c ≠ 41) (l : List Nat) : mx (c :: l) = mx l := by
  show (if c = 40 then _ else if c = 41 then _ else mx l) = _
  rw [if_neg h1, if_neg h2]
theorem isL_no {c : Nat} (h : isL c = true) : c ≠ 40 ∧ c ≠ 41 := ⟨fun e => by rw [e] at h; exact absurd h (by decide +kernel), fun e => by rw [e] at h; exact absurd h (by decide +kernel)⟩
theorem mx_word {w : List Nat} (h : ∀ c ∈ w, isL c = true) (l : List Nat) : mx (w ++ l) = mx l := by
  induction w with
  | nil => rfl
  | cons c w ih =>
    have hc := isL_no (h c List.mem_cons_self)
    rw [List.cons_append, mx_no hc.1 hc.2, ih fun x hx => h x (List.mem_cons_of_mem _ hx)]
/-- a part's text is closed -/
theorem mx_ge {n : Nat} {b : Bool} {d : PyData} (g : Rt n b d) : ∀ l, mx l ≤ mx (pl n d ++ l) := by
  induction g with
  | @nm n b y hy =>
    intro l
    rw [pl_nm, mx_word (word_cps hy).1]
    exact Nat.le_refl _
  | @nd n b y ds h1 h2 h3 ih =>
    intro l
    have jn : ∀ (ds : List PyData), (∀ d ∈ ds, ∀ l, mx l ≤ mx (pl n d ++ l)) → ∀ l, mx l ≤ mx (J n ds ++ l) := fun ds => by
      induction ds with
      | nil => intro _ l; exact Nat.le_refl _
      | cons d ds ihd =>
        intro h l
        cases ds with
        | nil => rw [J_one]; exact h d List.mem_cons_self l
        | cons d2 ds =>
          rw [J_two, List.append_assoc]
          refine Nat.le_trans ?_ (h d List.mem_cons_self _)
          rw [List.cons_append, List.cons_append, mx_no (by decide) (by decide), mx_no (by decide) (by decide)]
          exact ihd (fun e he => h e (List.mem_cons_of_mem _ he)) l
    have j := jn ds ih (41 :: l)
    rw [mx_41] at j
    rw [pl_nd, List.append_assoc, mx_word (word_low (word_ok h1)).1, List.cons_append, mx_40, List.append_assoc]
    show mx l ≤ mx (J n ds ++ 41 :: l) + 1
    omega
theorem rp_some {t : List Nat} {n : Nat} {b : Bool} {z : Str} {rec : Nat → Bool → Option RR} (hrec : ∀ a, a ≤ t.length → TellsAt t n a b (rec a b)) (hs : ∀ a, a ≤ t.length → mx (t.drop a) < n → (rec a b).isSome = true) :
    ∀ (f a : Nat) (ds : List PyData), a ≤ t.length → t.length + 1 ≤ f + a → mx (t.drop a) < n → (rpF rec t z b f a ds).isSome = true
  | 0, _, _, h1, h2, _ => by omega
  | f + 1, a, ds, ha, hf, hm => by
    have h := hrec a ha
    have s := hs a ha hm
    rw [rp_eq]
    cases hr : rec a b with
    | none => rw [hr] at s; cases s
    | some r =>
      rw [hr] at h
      cases r with
      | err i => rfl
      | ok e d =>
        obtain ⟨rt, l, h1, h2, h3⟩ := h
        have dl := drop_to h1
        rw [← h2] at dl
        show (if isC t e 41 && rightNo z (ds.length + 1 : Nat) then some (.ok (e + 1) (.tuple (.str z :: (ds ++ [d])))) else if !(rightNo z (ds.length + 2 : Nat) && isC t e 44) then some (.err e) else if !(isC t (e + 1) 32) then some (.err (e + 1)) else rpF rec t z b f (e + 2) (ds ++ [d])).isSome = true
        split
        · rfl
        · split
          · rfl
          · rename_i c2
            split
            · rfl
            · rename_i c3
              rw [Bool.not_eq_true, Bool.not_eq_false', Bool.and_eq_true] at c2
              rw [Bool.not_eq_true, Bool.not_eq_false'] at c3
              have l3 := at_len c3
              have d2 := drop_head c2.2
              have d3 := drop_head c3
              have q := mx_ge rt l
              rw [← h1, ← dl, d2, d3, mx_no (by decide) (by decide), mx_no (by decide) (by decide)] at q
              have q : mx (t.drop (e + 2)) ≤ mx (t.drop a) := q
              exact rp_some hrec hs f (e + 2) (ds ++ [d]) (by omega) (by omega) (by omega)
theorem rd_some {t : List Nat} : ∀ (m a : Nat) (b : Bool), a ≤ t.length → mx (t.drop a) < m → (rdF m t a b).isSome = true
  | 0, _, _, _, h => by omega
  | m + 1, a, b, ha, hm => by
    obtain ⟨w, l, h1, h2, h3, h4⟩ := we_facts 8 t a ha
    have wi := word_is h1
    have le := len_to h1 ha
    have dl := drop_to h1
    rw [rd_eq, h2, wi]
    split
    · rfl
    · split
      · rfl
      · rename_i c1
        rw [Bool.not_eq_true, Bool.not_eq_false'] at c1
        have le2 := at_len c1
        have d1 := drop_head c1
        split
        · rfl
        · split
          · rfl
          · rw [h1, mx_word h4, ← dl, d1, mx_40] at hm
            exact rp_some (n := m) (fun a' ha' => rd_tells m a' _ ha') (fun a' ha' hm' => rd_some m a' _ ha' hm') (t.length + 1) (a + w.length + 1) [] (by omega) (by omega) (by omega)
/-- what reading a whole text tells -/
theorem read_tells {m : Nat} {t : List Nat} (hm : mx t < m) : (∃ d, readF m t = some (.plan d) ∧ Rt m false d ∧ pl m d = t) ∨ ∃ i, readF m t = some (.at_ i) ∧ i ≤ t.length := by
  have s := rd_some (t := t) m 0 false (Nat.zero_le _) hm
  have h := rd_tells (t := t) m 0 false (Nat.zero_le _)
  unfold readF
  cases hr : rdF m t 0 false with
  | none => rw [hr] at s; cases s
  | some r =>
    rw [hr] at h
    cases r with
    | err i => exact .inr ⟨i, rfl, h.2⟩
    | ok e d =>
      obtain ⟨rt, l, h1, h2, h3⟩ := h
      show (∃ d', (if e < t.length then some (RT.at_ e) else some (.plan d)) = _ ∧ _) ∨ _
      by_cases c : e < t.length
      · exact .inr ⟨e, by show (if e < t.length then _ else _) = _; rw [if_pos c], h3⟩
      · refine .inl ⟨d, by rw [if_neg c], rt, ?_⟩
        have dl := drop_to h1
        rw [← h2, List.drop_of_length_le (by omega)] at dl
        have h1 : t = pl m d ++ l := h1
        rw [h1, ← dl, List.append_nil]
end Fp4
set_option Elab.async false
set_option linter.all false
set_option maxRecDepth 100000
set_option maxHeartbeats 2000000
/-! how deep the parts of a bent text go -/
namespace Fp4
open PySem PySem.Spec PyProof.Rows L2 Fh Fs
def wn : List Nat → Nat
  | [] => 0
  | c :: l => max (mx (c :: l)) (wn l)
theorem wn_cons (c : Nat) (l : List Nat) : wn (c :: l) = max (mx (c :: l)) (wn l) := rfl
theorem mx_le_wn : ∀ l, mx l ≤ wn l
  | [] => Nat.le_refl _
  | _ :: _ => Nat.le_max_left _ _
theorem mx_app : ∀ a b, mx (a ++ b) ≤ mx a + mx b
  | [], b => by show mx b ≤ 0 + mx b; omega
  | c :: a, b => by
    have ih := mx_app a b
    show (if c = 40 then mx (a ++ b) + 1 else if c = 41 then mx (a ++ b) - 1 else mx (a ++ b)) ≤ (if c = 40 then mx a + 1 else if c = 41 then mx a - 1 else mx a) + mx b
    split
    · omega
    · split <;> omega
theorem wn_app : ∀ a b, wn (a ++ b) ≤ wn a + wn b
  | [], b => by show wn b ≤ 0 + wn b; omega
  | c :: a, b => by
    have ih := wn_app a b
    have h := mx_app (c :: a) b
    have hb := mx_le_wn b
    rw [List.cons_append, wn_cons, wn_cons]
    rw [List.cons_append] at h
    omega
theorem mx_pre : ∀ a b, mx a ≤ mx (a ++ b)
  | [], b => Nat.zero_le _
  | c :: a, b => by
    have ih := mx_pre a b
    show (if c = 40 then mx a + 1 else if c = 41 then mx a - 1 else mx a) ≤ (if c = 40 then mx (a ++ b) + 1 else if c = 41 then mx (a ++ b) - 1 else mx (a ++ b))
    split
    · omega
    · split <;> omega
theorem wn_pre : ∀ a b, wn a ≤ wn (a ++ b)
  | [], b => Nat.zero_le _
  | c :: a, b => by
    have ih := wn_pre a b
    have h := mx_pre (c :: a) b
    rw [List.cons_append] at h
    rw [List.cons_append, wn_cons, wn_cons]
    omega
theorem wn_suf : ∀ a b, wn b ≤ wn (a ++ b)
  | [], b => Nat.le_refl _
  | c :: a, b => by
    have ih := wn_suf a b
    rw [List.cons_append, wn_cons]
    omega
theorem wn_take (n : Nat) (l : List Nat) : wn (l.take n) ≤ wn l := by
  have h := wn_pre (l.take n) (l.drop n)
  rw [List.take_append_drop] at h
  exact h
theorem wn_drop (n : Nat) (l : List Nat) : wn (l.drop n) ≤ wn l := by
  have h := wn_suf (l.take n) (l.drop n)
  rw [List.take_append_drop] at h
  exact h
/-! ### a plan's text -/
theorem mx_pl {n : Nat} {b : Bool} {d : PyData} (g : Rt n b d) : ∀ l, mx (pl n d ++ l) ≤ max n (mx l) ∧ wn (pl n d ++ l) ≤ max n (wn l) := by
  have wd : ∀ (w : List Nat), (∀ c ∈ w, isL c = true) → ∀ l, wn (w ++ l) = wn l := fun w => by
    induction w with
    | nil => intro _ l; rfl
    | cons c w ih =>
      intro h l
      have e := ih (fun x hx => h x (List.mem_cons_of_mem _ hx)) l
      have e2 := mx_word h l
      have := mx_le_wn l
      rw [List.cons_append] at e2
      rw [List.cons_append, wn_cons, e, e2]
      omega
  induction g with
  | @nm n b y hy =>
    intro l
    rw [pl_nm, mx_word (word_cps hy).1, wd _ (word_cps hy).1]
    omega
  | @nd n b y ds h1 h2 h3 ih =>
    intro l
    have jn : ∀ (ds : List PyData), (∀ d ∈ ds, ∀ l, mx (pl n d ++ l) ≤ max n (mx l) ∧ wn (pl n d ++ l) ≤ max n (wn l)) → ∀ l, mx (J n ds ++ l) ≤ max n (mx l) ∧ wn (J n ds ++ l) ≤ max n (wn l) := fun ds => by
      induction ds with
      | nil => intro _ l; exact ⟨Nat.le_max_right _ _, Nat.le_max_right _ _⟩
      | cons d ds ihd =>
        intro h l
        cases ds with
        | nil => rw [J_one]; exact h d List.mem_cons_self l
        | cons d2 ds =>
          rw [J_two, List.append_assoc]
          obtain ⟨a1, a2⟩ := h d List.mem_cons_self (44 :: 32 :: J n (d2 :: ds) ++ l)
          obtain ⟨b1, b2⟩ := ihd (fun e he => h e (List.mem_cons_of_mem _ he)) l
          have q := mx_le_wn (J n (d2 :: ds) ++ l)
          rw [List.cons_append, List.cons_append] at a1 a2 ⊢
          rw [mx_no (by decide) (by decide), mx_no (by decide) (by decide)] at a1
          rw [wn_cons, wn_cons, mx_no (by decide) (by decide), mx_no (by decide) (by decide)] at a2
          omega
    obtain ⟨j1, j2⟩ := jn ds ih (41 :: l)
    have q := mx_le_wn l
    have q2 := mx_le_wn (J n ds ++ 41 :: l)
    rw [mx_41] at j1
    rw [wn_cons, mx_41] at j2
    rw [pl_nd, List.append_assoc, mx_word (word_low (word_ok h1)).1, wd _ (word_low (word_ok h1)).1, List.cons_append, wn_cons, mx_40, List.append_assoc]
    show mx (J n ds ++ 41 :: l) + 1 ≤ _ ∧ max (mx (J n ds ++ 41 :: l) + 1) (wn (J n ds ++ 41 :: l)) ≤ _
    omega
theorem wn_pl {n : Nat} {b : Bool} {d : PyData} (g : Rt n b d) : wn (pl n d) ≤ n := by
  have h := (mx_pl g []).2
  rw [List.append_nil] at h
  exact Nat.le_trans h (Nat.max_le.mpr ⟨Nat.le_refl _, Nat.zero_le _⟩)
/-! ### the signs ( and ) alone -/
def par (c : Nat) : Bool := decide (c = 40) || decide (c = 41)
def pr (l : List Nat) : List Nat := l.filter par
theorem mx_pr : ∀ l, mx (pr l) = mx l
  | [] => rfl
  | c :: l => by
    have ih := mx_pr l
    unfold pr at ih ⊢
    by_cases h1 : c = 40
    · subst h1
      show mx (40 :: l.filter par) = _
      rw [mx_40, mx_40, ih]
    · by_cases h2 : c = 41
      · subst h2
        show mx (41 :: l.filter par) = _
        rw [mx_41, mx_41, ih]
      · rw [List.filter_cons_of_neg (by unfold par; rw [decide_eq_false h1, decide_eq_false h2]; exact fun z => nomatch z), mx_no h1 h2, ih]
theorem wn_pr : ∀ l, wn (pr l) = wn l
  | [] => rfl
  | c :: l => by
    have ih := wn_pr l
    have im := mx_pr l
    have q := mx_le_wn l
    unfold pr at ih im ⊢
    by_cases h1 : c = 40
    · subst h1
      show wn (40 :: l.filter par) = _
      rw [wn_cons, wn_cons, mx_40, mx_40, ih, im]
    · by_cases h2 : c = 41
      · subst h2
        show wn (41 :: l.filter par) = _
        rw [wn_cons, wn_cons, mx_41, mx_41, ih, im]
      · rw [List.filter_cons_of_neg (by unfold par; rw [decide_eq_false h1, decide_eq_false h2]; exact fun z => nomatch z), wn_cons, mx_no h1 h2, ih]
        omega
theorem pr_app (a b : List Nat) : pr (a ++ b) = pr a ++ pr b := List.filter_append _ _
theorem pr_repl {y z : List Nat} (hy : y ≠ []) (py : pr y = []) (pz : pr z = []) : ∀ (n : Nat) (l : List Nat), l.length ≤ n → pr (StrLaws.replL y z l) = pr l
  | _, [], _ => by rw [StrLaws.replL_nil]
  | 0, _ :: _, h => by cases h
  | n + 1, c :: r, h => by
    by_cases hit : (c :: r).take y.length = y
    · rw [StrLaws.replL_hit hy hit, pr_app, pz, List.nil_append]
      have l1 : 1 ≤ y.length := by
        cases y with
        | nil => exact absurd rfl hy
        | cons _ _ => exact Nat.succ_le_succ (Nat.zero_le _)
      have ih := pr_repl hy py pz n ((c :: r).drop y.length) (by rw [List.length_drop]; omega)
      have e : pr (c :: r) = pr ((c :: r).take y.length) ++ pr ((c :: r).drop y.length) := by rw [← pr_app, List.take_append_drop]
      rw [ih, e, hit, py, List.nil_append]
    · rw [StrLaws.replL_miss hit]
      have ih := pr_repl hy py pz n r (by rw [List.length_cons] at h; omega)
      have e : ∀ l : List Nat, pr (c :: l) = pr [c] ++ pr l := fun l => pr_app [c] l
      rw [e, e r, ih]
theorem wn_repl {x y z : Str} (h1 : 1 ≤ y.length) (py : pr (tlS y) = []) (pz : pr (tlS z) = []) : wn (tlS (Txt.replace x y z)) = wn (tlS x) := by
  have e := StrLaws.replace_list (x := x) (z := z) h1
  have ny : tlS y ≠ [] := fun h => by
    have l : y.length = 0 := by rw [len_tl]; exact congrArg List.length h
    omega
  show wn (Txt.replace x y z).cps.toList = _
  rw [e, ← wn_pr, pr_repl ny py pz _ _ (Nat.le_refl _), wn_pr]
/-! ### cuts -/
theorem cut_to (z : Str) (a : Nat) : tlS (cutS z none (some (a : Int))) = (tlS z).take a := by
  have lz : (tlS z).length = z.length := Array.length_toList
  have lz2 : z.cps.toList.length = z.length := Array.length_toList
  have e : ∀ (d x : Nat), HT.sIx z.length d (some (x : Int)) = min x z.length := fun d x => HT.sIx_nat _ _ _
  show (cutS z none (some (a : Int))).cps.toList = _
  unfold cutS
  rw [e]
  simp only [List.toList_toArray]
  show (z.cps.toList.drop 0).take (min a z.length - 0) = _
  rw [List.drop_zero, Nat.sub_zero]
  by_cases h : a ≤ z.length
  · rw [Nat.min_eq_left h]
  · rw [Nat.min_eq_right (by omega), List.take_of_length_le (by omega), List.take_of_length_le (by omega)]
theorem cut_from (z : Str) (a : Nat) : tlS (cutS z (some (a : Int)) none) = (tlS z).drop a := by
  have lz : (tlS z).length = z.length := Array.length_toList
  have lz2 : z.cps.toList.length = z.length := Array.length_toList
  have e : ∀ (d x : Nat), HT.sIx z.length d (some (x : Int)) = min x z.length := fun d x => HT.sIx_nat _ _ _
  show (cutS z (some (a : Int)) none).cps.toList = _
  unfold cutS
  rw [e]
  simp only [List.toList_toArray]
  show (z.cps.toList.drop (min a z.length)).take (z.length - min a z.length) = _
  by_cases h : a ≤ z.length
  · rw [Nat.min_eq_left h, List.take_of_length_le (by rw [List.length_drop]; omega)]
  · rw [Nat.min_eq_right (by omega), Nat.sub_self, List.take_zero, List.drop_of_length_le (by omega)]
theorem cut_to_wn (z : Str) (a : Nat) : wn (tlS (cutS z none (some (a : Int)))) ≤ wn (tlS z) ∧ (cutS z none (some (a : Int))).length ≤ z.length := by
  refine ⟨by rw [cut_to]; exact wn_take _ _, ?_⟩
  have e : (cutS z none (some (a : Int))).length = (tlS (cutS z none (some (a : Int)))).length := len_tl _
  have e2 : z.length = (tlS z).length := len_tl _
  rw [e, cut_to, List.length_take, ← e2]
  exact Nat.min_le_right _ _
theorem cut_from_wn (z : Str) (a : Nat) : wn (tlS (cutS z (some (a : Int)) none)) ≤ wn (tlS z) ∧ (cutS z (some (a : Int)) none).length ≤ z.length := by
  refine ⟨by rw [cut_from]; exact wn_drop _ _, ?_⟩
  have e : (cutS z (some (a : Int)) none).length = (tlS (cutS z (some (a : Int)) none)).length := len_tl _
  have e2 : z.length = (tlS z).length := len_tl _
  rw [e, cut_from, List.length_drop, ← e2]
  exact Nat.sub_le _ _
theorem app_wn (x y : Str) : wn (tlS (x ++ y)) ≤ wn (tlS x) + wn (tlS y) := by
  show wn (x ++ y).cps.toList ≤ _
  rw [app_tl]
  exact wn_app _ _
end Fp4
set_option Elab.async false
set_option linter.all false
set_option maxRecDepth 100000
set_option maxHeartbeats 4000000
/-! FzI: raw values: a name stored and read at once, a def whose value is known by its object, a written list of texts whose objects are known, replace -/
namespace L2
open PySem PySem.Spec PyProof.Rows Fh
section
variable {X : Cx} {pins : List (Addr × Obj)} {σ : St} {H : Hp} {s : Shared}
/-- a local name is stored: its very value stands in the frame -/
theorem store_raw {M : Model} {A : Around} {E : Value → Shared → Prop} {Q : Unit → Shared → Prop} {i : Nat} {x : Str} {v : V} {u : Value} (I : Inv X pins σ H s) (nd : X.N.Nodup) (hi : X.N[i]? = some x) (hk : X.env.scope.names.lookup x = some .local) (r : RelV v u)
    (h : ∀ s' : Shared, Inv X pins (σ.set i (some v)) H s' → s.toks < s'.toks → (∃ m, s'.heap.Ns X.env.locals m ∧ m x = some u) → Q () s') : wpAny M A (storeName X.env x u) Q E s := by
  obtain ⟨m, hn, hl⟩ := id I.loc
  have il : i < σ.length := by
    rw [I.len]
    exact (List.getElem?_eq_some_iff.mp hi).1
  have fre := I.free
  have cn := I.cne
  refine wpAny_storeName_local hk hn (fun h' hn' hs => h _ ?_ (Nat.lt_succ_self _) ⟨_, hn', if_pos rfl⟩) (by rw [I.ok.kind]; rfl)
  have old : ∀ {b : Addr} {o : Obj}, X.s_0.heap.get? b = some o → h'.get? b = s.heap.get? b := fun {b o} e => by
    refine hs.2 b fun z => ?_
    have l1 := Heap.lt_size e
    rw [z] at l1
    exact Nat.lt_irrefl _ (Nat.lt_of_lt_of_le l1 I.ok.above)
  exact {
    ok := I.ok
    os := I.os
    bare := I.bare
    base := {
      keep := fun b o e a1 a2 a3 => by rw [old e]; exact I.base.keep b o e a1 a2 a3
      slot := fun b o e a1 a2 a3 => by rw [old e]; exact I.base.slot b o e a1 a2 a3
      free := I.base.free
      there := fun b o e a1 => by rw [old e]; exact I.base.there b o e a1
      tups := I.base.tups
      frzs := I.base.frzs
      tbls := I.base.tbls }
    loc := by
      refine ⟨_, hn', fun j y v' g1 g2 g3 => ?_⟩
      by_cases ji : j = i
      · subst ji
        rw [List.getElem?_set_self il] at g2
        cases g2
        cases hi.symm.trans g1
        exact ⟨u, r, Or.inl ⟨hk, if_pos rfl⟩⟩
      · rw [List.getElem?_set_ne fun z => ji z.symm] at g2
        obtain ⟨w, rw', lw⟩ := hl j y v' g1 g2 g3
        have yx : y ≠ x := fun z => ji (nodup_ix nd (z ▸ g1) hi)
        refine ⟨w, rw', lw.imp (fun q => ⟨q.1, (if_neg yx).trans q.2⟩) fun q => ⟨q.1, ?_⟩⟩
        obtain ⟨c, q1, q2⟩ := q.2
        exact ⟨c, q1, q2.sameBut hs (cn y c q1)⟩
    cell := fun y c e => by
      obtain ⟨w, q⟩ := I.cell y c e
      exact ⟨w, q.sameBut hs (cn y c e)⟩
    free := fre
    freeC := I.freeC
    pin := fun p hp => by
      obtain ⟨q1, q2, q3, q4⟩ := I.pin p hp
      exact ⟨by rw [hs.2 p.1 q3]; exact q1, q2, q3, q4⟩
    hok := fun b o e => by
      refine (I.hok b o e).stay (fun c w hc q => ?_) (fun _ z => z) fun _ _ z => z
      rw [hs.2 c fun z => ?_]
      · exact q
      · subst z
        rcases hc with z | z
        · rw [z, e] at fre
          cases fre
        · rw [z] at fre
          cases fre
    len := by rw [List.length_set]; exact I.len }
/-- a local name is read where its very value is known -/
theorem name_raw {m : Str → Option Value} {x : Str} {u : Value} {pos : Pos} {Q E : Value → Shared → Prop} (I : Inv X pins σ H s) (hn : s.heap.Ns X.env.locals m) (hm : m x = some u) (hk : X.env.scope.names.lookup x = some .local) (h : Q u s)
    (hd : (x == ("__debug__" : Str)) = false := by decide) : wpAny (model X.prog X.w) X.A (eval (.Name x pos) X.env) Q E s :=
  wpAny_Name (wpAny_loadName_local I.ok.kind hk hn hm h) hd
/-! ### behind a stored name a token is out -/
theorem pss_setT {e : Expr} {te : TE} {i : Nat} {x : Str} {rest : List Stmt} {u : TS} {p pos : Pos} (nd : X.N.Nodup) (hi : X.N[i]? = some x) (hk : X.env.scope.names.lookup x = some .local) (he : PE X e te) (h2 : PSsT X rest u)
    (hs : swapsWith e (some (.Name x p)) pos.line X.env = pure false := by rfl) : PSs X (.Assign [.Name x p] e pos :: rest) (tSeq (tAsg te (gName i)) u) := by
  refine ⟨fun pins s σ H D I h => wpAny_execs_cons (wpAny_Assign_Name (thn (he.run pins s σ H _ I h) fun v s1 q => ?_) hs)⟩
  obtain ⟨y, H1, I1, r1, q1⟩ := q
  exact store_raw I1 nd hi hk r1 fun s2 I2 lt _ => h2 pins s2 _ H1 D (by omega) I2 q1
/-! ### a written list of texts -/
def litsOf (ys : List (Str × Nat × Pos)) : List Expr := ys.map fun y => .Constant (.str y.1) y.2.1 y.2.2
def rawsOf : Nat → List Str → List Value
  | _, [] => []
  | t, y :: ys => .str y t :: rawsOf (t + 1) ys
theorem raws_get : ∀ {ys : List Str} {t : Nat} {u : Value}, u ∈ rawsOf t ys → ∃ (y : Str) (k : Nat), u = .str y k ∧ t ≤ k ∧ k < t + ys.length ∧ y ∈ ys
  | [], _, _, h => nomatch h
  | y :: ys, t, u, h => by
    rcases List.mem_cons.mp h with rfl | h
    · exact ⟨y, t, rfl, Nat.le_refl _, by rw [List.length_cons]; omega, List.mem_cons_self⟩
    · obtain ⟨z, k, e, h1, h2, h3⟩ := raws_get h
      exact ⟨z, k, e, by omega, by rw [List.length_cons]; omega, List.mem_cons_of_mem _ h3⟩
theorem raws_rel : ∀ (ys : List Str) (t : Nat), Vals (ys.map V.str) (rawsOf t ys)
  | [], _ => .nil
  | _ :: ys, t => .cons ⟨t, rfl⟩ (raws_rel ys (t + 1))
theorem raws_len : ∀ (ys : List Str) (t : Nat), (rawsOf t ys).length = ys.length
  | [], _ => rfl
  | _ :: ys, t => congrArg (· + 1) (raws_len ys (t + 1))
theorem lits_run {R : List Value → Shared → Prop} {E : Value → Shared → Prop} {pos : Pos} : ∀ (ys : List (Str × Nat × Pos)) (s : Shared), (R (rawsOf s.toks (ys.map (·.1))) { s with toks := s.toks + ys.length }) →
    wpAny (model X.prog X.w) X.A (spliced (backTo pos (starEach (litsOf ys) X.env))) R E s
  | [], s, h => Calls.spliced_nil h
  | y :: ys, s, h => by
    show wpAny _ _ (spliced ((false, eval (.Constant (.str y.1) y.2.1 y.2.2) X.env) :: backTo pos (starEach (litsOf ys) X.env))) _ _ s
    refine Calls.spliced_cons (Calls.Constant_str (lits_run ys _ ?_))
    have e : s.toks + (y :: ys).length = s.toks + 1 + ys.length := by rw [List.length_cons]; omega
    rw [e] at h
    exact h
/-- the list's very object -/
theorem list_raw {ys : List (Str × Nat × Pos)} {pos : Pos} {Q : Value → Shared → Prop} {E : Value → Shared → Prop} (hl : ys.length ≤ 1000) (I : Inv X pins σ H s)
    (h : ∀ (a : Addr) (o : Obj) (s' : Shared), H a = none → o.cls = .type "list" → (∃ n, o.data = .seq (rawsOf s.toks (ys.map (·.1))).toArray n) → s'.toks = s.toks + ys.length →
      Inv X pins σ (upd H a (.frz o (.lst ((ys.map (·.1)).map V.str)))) s' → Q (.ref a) s') : wpAny (model X.prog X.w) X.A (eval (.List (litsOf ys) pos) X.env) Q E s := by
  refine wpAny_List_spliced (lits_run ys s ?_)
  have le : (rawsOf s.toks (ys.map (·.1))).length = ys.length := by rw [raws_len, List.length_map]
  have sz : (rawsOf s.toks (ys.map (·.1))).length ≤ sizeLine := by rw [le, sizeLine_eq]; omega
  refine ⟨sz, h s.heap.objs.size { cls := .type "list", data := .seq (rawsOf s.toks (ys.map (·.1))).toArray 0 } _ (I.hok.fresh (Nat.le_refl _)) rfl ⟨0, rfl⟩ rfl ?_⟩
  refine I.laid (t' := s.toks + ys.length) (fun b w e => Heap.get?_push_of_some _ e) (Nat.le_refl _) ⟨Heap.get?_push_size _ rfl, ?_⟩
  refine ⟨?_, rawsOf s.toks (ys.map (·.1)), 0, raws_rel _ _, Heap.get?_push_size _ rfl⟩
  rw [List.length_map, List.length_map, sizeLine_eq]
  omega
end
end L2
set_option Elab.async false
set_option linter.all false
set_option maxRecDepth 100000
set_option maxHeartbeats 4000000
/-! a pick of a written list of texts: the very text is known -/
namespace Fp4
open PySem PySem.Spec PyProof.Rows L2 Fh Fs
open PySem.W (Frag)
section
variable {P : Program} {w : World} {K : Frag} {mg : Str → Option Value} {base : Heap}
abbrev PK : List Str := ["_law_pen_here", "_law_items"]
/-- what is known behind it -/
def Picked (P : Program) (w : World) (outer : List Env) (H : Hp) (s : Shared) (p c : Addr) (n : Nat) (its : Array Value) (u : Value) (s' : Shared) : Prop :=
  u ∈ its.toList ∧ ∃ H', s'.os = s.os ∧ AllBare s'.gens ∧ Un (frs outer) [] H H' s.heap s'.heap ∧ HOk P w H' s'.heap ∧ PenAt H' p c (n + 1) ∧ But p H H'
theorem pick_raw {f fD : Addr} {fd fdD : FuncData} (F : Fun K "_law_pick" "_law_pick" sPick f fd) (FD : Fun K "_law_draw" "_law_draw" sDraw fD fdD) (T : TxtP mg) (gD : mg "_law_draw" = some (.ref fD))
    {A : Around} {outer : List Env} {s : Shared} {H : Hp} {p c a : Addr} {n : Nat} {o : Obj} {its : Array Value} {xs : List V} {j : Nat} (hr : Room 2 A) (e0 : Env0 P w K mg base A outer s H)
    (hP : PenAt H p c n) (hn : n ≤ 1000000) (ha : H a = some (.frz o (.lst xs))) (ho : o.cls = .type "list") (hd : o.data = .seq its j) (hx : xs.length = its.size) (h1 : 1 ≤ its.size) (h2 : its.size ≤ 1000) :
    codeAny (model P w) A (.call (.ref f) ⟨[.ref p, .ref a], []⟩) (fun r s' => match r with
      | .ok (.ret u) => Picked P w outer H s p c n its u s'
      | .ok _ => False
      | .error _ => False) s := by
  have GD : FnOk P w K mg base CX0 1 fD fdD ["_law_pen_here", "_law_number"] spDraw := ok_draw FD T
  have bD : Binds K fdD ["_law_pen_here", "_law_number"] [] := FD.binds (ps := ["_law_pen_here", "_law_number"]) fun _ _ _ _ _ _ us hl => match us, hl with | [_, _], _ => rfl
  have bP : Binds K fd PK [] := F.binds (ps := PK) fun _ _ _ _ _ _ us hl => match us, hl with | [_, _], _ => rfl
  obtain ⟨oc, od, kV, doc, pm, an, cdv, ct, osl, rfl, lk, hcd⟩ := F.ex
  have KX : K.In s.heap := e0.mod.kin.keeps fun b ob z => (e0.bs b ob z).1
  have lim : s.heap.NoLimit := e0.mod.nolimit.keeps fun b ob z => (e0.bs b ob z).1
  have kinds : ∀ y ∈ PK.zip [Value.ref p, .ref a], (defScope sPick).names.lookup y.1 = some .local ∨ ((defScope sPick).names.lookup y.1 = some .cell ∧ ((cellsFrom (s.heap.objs.size + 1) (defScope sPick).names []).lookup y.1).isSome = true) := fun y hy =>
    (scPick.par y.1 (List.of_mem_zip (a := y.1) (b := y.2) hy).1).imp id fun q => ⟨q, PySem.W.cellsFrom_some _ _ _ (Or.inl q)⟩
  have hb := bP s [.ref p, .ref a] KX rfl
  refine codeAny_call_function hr.depth (KX _ _ lk) rfl scPick.co scPick.gen rfl (PySem.W.codeRec_of KX hcd) (hb _ _ _ _ ?_)
  refine wpAny_newFunctionEnv_cells scPick.kind kinds fun env he s1 x => ?_
  subst he
  refine ⟨lim.keeps x.toInCall.keep, codeAny_func ?_⟩
  have rv : Vals [V.ref p, .ref a] [Value.ref p, .ref a] := .cons rfl (.cons rfl .nil)
  have I : Inv (cxOf CX0 P w K mg base PK "_law_pick" (defScope sPick) f cdv A outer s H E0) [] (start PK [.ref p, .ref a]) H s1 := inv_start scPick hr.hd e0 rfl rv x
  have hr1 : Room 1 (A.deeper (envOfC "_law_pick" (defScope sPick) s.heap.objs.size f cdv)) := hr.deeper _
  have fa : SqL K H a xs := .inl (.inr ⟨o, ha⟩)
  have body : wpAny (model P w) (cxOf CX0 P w K mg base PK "_law_pick" (defScope sPick) f cdv A outer s H E0).A (execs (defBody sPick) (cxOf CX0 P w K mg base PK "_law_pick" (defScope sPick) f cdv A outer s H E0).env) (fun fl s' => ∃ u, fl = .ret u ∧ Picked P w outer H s p c n its u s') (cxOf CX0 P w K mg base PK "_law_pick" (defScope sPick) f cdv A outer s H E0).xe s1 := by
    refine wpAny_execs_cons (wpAny_Return_some (Subscript_ (raw_name (X := (cxOf CX0 P w K mg base PK "_law_pick" (defScope sPick) f cdv A outer s H E0)) (i := 1) (v := .ref a) rfl (Or.inl rfl) I rfl (fun u ru => ?_))))
    obtain rfl : u = Value.ref a := ru
    refine thn (PE.run (pe_call (X := (cxOf CX0 P w K mg base PK "_law_pick" (defScope sPick) f cdv A outer s H E0)) (x := "_law_draw") (E := E0) GD hr1 rfl gD FD.kp bD .nil pass0 (pa_cons (pv 0) (pa_cons (pe_callB call_len_seq (by rfl) T.len PySem.boot_len (pa_cons (pv 1) pa_nil)) pa_nil))) [] s1 _ H (fun v H' => ∃ i : Nat, v = .int (i : Int) ∧ i < its.size ∧ PenAt H' p c (n + 1) ∧ But p H H') I ?_) ?_
    · refine ⟨_, rfl, _, rfl, a, xs, rfl, Or.inl fa, p, c, n, _, rfl, hP, hn, by omega, by omega, fun z H' z0 z1 P' B' => ?_⟩
      obtain ⟨i, rfl⟩ := Int.eq_ofNat_of_zero_le z0
      exact ⟨i, rfl, by omega, P', B'⟩
    · rintro v s2 ⟨y, H2, I2, ry, i, rfl, hi, P2, B2⟩
      obtain ⟨t, rfl⟩ := ry
      have ap : a ≠ p := fun e => by
        obtain ⟨cs, sp, re, S, _⟩ := hP.open
        rw [e, S.hp] at ha
        cases ha
      have ob := (I2.hok a _ (B2 a _ ap ha)).1
      have il : s2.heap.IsList a its := ⟨o, ob, ho, j, hd⟩
      refine item_listR (u := t) il (Int.natCast_nonneg i) (by omega) (x := its[i]) (by rw [Int.toNat_natCast]; exact Array.getElem?_eq_getElem hi) ?_ rfl
      refine ⟨_, rfl, ?_, H2, I2.os, I2.bare, I2.base, I2.hok, P2, B2⟩
      exact Array.mem_toList_iff.mpr (Array.getElem_mem hi)
  refine wpAny_mono body (fun fl s' hs => ?_) fun e s' hs => hs
  obtain ⟨u, rfl, q⟩ := hs
  exact q
end
/-! ### _law_pick(pen, [written texts]), its value known -/
def NoneK (K : Frag) : Prop := PySem.W.nsIn K cStatics sharingNotToldKey = some none
theorem NoneK.booked {K : Frag} {h : Heap} (n : NoneK K) (X : K.In h) (l : h.NoLimit) : NoneBooked h := by
  obtain ⟨mc, g, _⟩ := l
  exact ⟨mc, g, PySem.W.ns_none_of X g n⟩
section
variable {X : Cx} {pins : List (Addr × Obj)} {σ : L2.St} {H : Hp} {s : Shared} {f fD : Addr} {fd fdD : FuncData}
theorem call_pick_raw (F : Fun X.K "_law_pick" "_law_pick" sPick f fd) (FD : Fun X.K "_law_draw" "_law_draw" sDraw fD fdD) (T : TxtP X.mg) (gD : X.mg "_law_draw" = some (.ref fD)) (gP : X.mg "_law_pick" = some (.ref f)) (hr : Room 2 X.A) (gl : Gl X "_law_pick")
    {ip : Nat} {px : Str} {fp pp lp pos : Pos} {ys : List (Str × Nat × Pos)} {p c : Addr} {n : Nat} {Q : Value → Shared → Prop} (hN : X.N[ip]? = some px) (hv : Vis X.env.scope px) (I : Inv X pins σ H s) (hσ : σ[ip]? = some (some (.ref p)))
    (hP : PenAt H p c n) (hn : n ≤ 1000000) (l1 : 1 ≤ ys.length) (l2 : ys.length ≤ 1000)
    (fin : ∀ (y : Str) (k : Nat) (s' : Shared) (H' : Hp), y ∈ ys.map (·.1) → s.toks ≤ k → k < s'.toks → Inv X pins σ H' s' → PenAt H' p c (n + 1) → But p H H' → Q (.str y k) s')
    (hd : (px == ("__debug__" : Str)) = false := by decide) (hcd : (px == ("__classdict__" : Str)) = false := by decide) :
    wpAny (model X.prog X.w) X.A (eval (.Call (.Name "_law_pick" fp) [.Name px pp, .List (litsOf ys) lp] [] pos) X.env) Q X.xe s := by
  refine wpAny_Call_Name_kw (ld_glob I gl gP ?_)
  refine PySem.W.callWith_K (h₀ := X.base) I.ok.mod.kin F.kp ?_ rfl rfl
  show wpAny _ _ (spliced ((false, eval (.Name px pp) X.env) :: backTo pos (starEach [.List (litsOf ys) lp] X.env))) _ _ s
  refine Calls.spliced_cons (raw_name hN hv I hσ (fun u r => ?_) hd hcd)
  obtain rfl : u = Value.ref p := r
  show wpAny _ _ (spliced ((false, eval (.List (litsOf ys) lp) X.env) :: backTo pos (starEach [] X.env))) _ _ s
  refine Calls.spliced_cons (list_raw l2 I fun a o s1 na ho hdt tk I1 => ?_)
  obtain ⟨j, hdt⟩ := hdt
  refine Calls.spliced_nil ?_
  have le : (rawsOf s.toks (ys.map (·.1))).length = ys.length := by rw [raws_len, List.length_map]
  obtain ⟨ap, ac⟩ := pen_apart hP (Same.refl _) na
  have hP1 := pen_off (o := .frz o (.lst ((ys.map (·.1)).map V.str))) hP ap ac
  have run := pick_raw F FD T gD hr I1.env0 hP1 hn upd_same ho hdt (by rw [List.length_map, List.length_map, List.size_toArray, le]) (by rw [List.size_toArray, le]; exact l1) (by rw [List.size_toArray, le]; exact l2)
  refine ⟨I1.kIn, wpAny_call (codeAny_mono (codeAny_toks_of (Nat.le_refl s1.toks) run) fun r s2 q => ?_)⟩
  obtain ⟨tk2, q⟩ := q
  cases r with
  | error e => exact False.elim q
  | ok fl =>
    cases fl with
    | next => exact False.elim q
    | brk => exact False.elim q
    | cont => exact False.elim q
    | ret u =>
      obtain ⟨mu, H2, os, bare, un, hok, P2, B2⟩ := q
      have mu : u ∈ rawsOf s.toks (ys.map (·.1)) := mu
      obtain ⟨y, k, rfl, k1, k2, my⟩ := raws_get mu
      rw [List.length_map] at k2
      have I2 : Inv X pins σ H2 s2 := I1.call' (ch := []) os un hok bare (fun b z => nomatch z)
      refine fin y k s2 H2 my k1 ?_ I2 P2 fun b ob nb e => B2 b ob nb ?_
      · have := tk2
        have : s.toks + ys.length ≤ s2.toks := by rw [← tk]; exact tk2
        exact Nat.lt_of_lt_of_le k2 this
      · rw [upd_ne fun z => by rw [z, na] at e; cases e]
        exact e
/-- the text behind replace is long at most so -/
def tRepl (ys zs : List Str) (ip il : Nat) : TS := fun D σ H => ∃ (p c : Addr) (n : Nat) (x : Str), σ[ip]? = some (some (.ref p)) ∧ σ[il]? = some (some (.str x)) ∧ PenAt H p c n ∧ n ≤ 900000 ∧ x.length ≤ 1000000 ∧
  ∀ (y z : Str) (H' : Hp), y ∈ ys → z ∈ zs → PenAt H' p c (n + 2) → But p H H' → D.rt (.str (Txt.replace x y z)) H'
theorem pss_repl (FP : Fun X.K "_law_pick" "_law_pick" sPick f fd) (FD : Fun X.K "_law_draw" "_law_draw" sDraw fD fdD) (T : TxtP X.mg) (gD : X.mg "_law_draw" = some (.ref fD)) (gP : X.mg "_law_pick" = some (.ref f)) (hr : Room 2 X.A) (gl : Gl X "_law_pick") (nk : NoneK X.K)
    {ip il it : Nat} {px lx tx : Str} {p1 p2 p3 p4 p5 p6 q1 q2 q3 q4 q5 q6 q7 q8 : Pos} {ys zs : List (Str × Nat × Pos)} (nd : X.N.Nodup) (hNp : X.N[ip]? = some px) (hvp : Vis X.env.scope px) (hNl : X.N[il]? = some lx) (hvl : Vis X.env.scope lx) (hNt : X.N[it]? = some tx) (hkt : X.env.scope.names.lookup tx = some .local)
    (pt : ip ≠ it) (lt : il ≠ it) (y1 : 1 ≤ ys.length) (y2 : ys.length ≤ 1000) (z1 : 1 ≤ zs.length) (z2 : zs.length ≤ 1000) (zl : ∀ z ∈ zs.map (·.1), z.length ≤ 5) (hline : (q1.endLine == q2.line) = true)
    (hs : swapsWith (.Call (.Name "_law_pick" p2) [.Name px p3, .List (litsOf ys) p4] [] p5) (some (.Name tx p1)) p6.line X.env = pure false := by rfl)
    (hbase : attributeBase (.Name lx q3) "replace" X.env (eval (.Name lx q3) X.env) = eval (.Name lx q3) X.env := by rfl)
    (hst : starEach [.Name tx q4, .Call (.Name "_law_pick" q5) [.Name px q6, .List (litsOf zs) q7] [] q8] X.env = [(false, eval (.Name tx q4) X.env), (false, eval (.Call (.Name "_law_pick" q5) [.Name px q6, .List (litsOf zs) q7] [] q8) X.env)] := by rfl)
    (dp : (px == ("__debug__" : Str)) = false := by decide) (cp : (px == ("__classdict__" : Str)) = false := by decide) (dl : (lx == ("__debug__" : Str)) = false := by decide) (cl : (lx == ("__classdict__" : Str)) = false := by decide) (dt : (tx == ("__debug__" : Str)) = false := by decide) {rpos : Pos} :
    PSsT X [.Assign [.Name tx p1] (.Call (.Name "_law_pick" p2) [.Name px p3, .List (litsOf ys) p4] [] p5) p6,
      .Return (some (.Call (.Attribute (.Name lx q3) "replace" q1) [.Name tx q4, .Call (.Name "_law_pick" q5) [.Name px q6, .List (litsOf zs) q7] [] q8] [] q2)) rpos] (tRepl (ys.map (·.1)) (zs.map (·.1)) ip il) := by
  intro pins s σ H D h0 I h
  obtain ⟨p, c, n, x, hp, hx, hP, hn, hxl, k⟩ := h
  refine wpAny_execs_cons (wpAny_Assign_Name (call_pick_raw FP FD T gD gP hr gl hNp hvp I hp hP (by omega) y1 y2 (fun y kt s1 H1 my k1 k2 I1 P1 B1 => ?_) dp cp) hs)
  refine store_raw (v := .str y) I1 nd hNt hkt ⟨kt, rfl⟩ fun s2 I2 lt2 fr => ?_
  obtain ⟨m, hn2, hm⟩ := fr
  have hp2 : (σ.set it (some (V.str y)))[ip]? = some (some (.ref p)) := by rw [List.getElem?_set_ne fun z => pt z.symm]; exact hp
  have hx2 : (σ.set it (some (V.str y)))[il]? = some (some (.str x)) := by rw [List.getElem?_set_ne fun z => lt z.symm]; exact hx
  refine wpAny_execs_cons (wpAny_Return_some (PySem.Call_method2 hbase hst hline (raw_name hNl hvl I2 hx2 (fun v rv => ?_) dl cl)))
  obtain ⟨tk, rfl⟩ := rv
  refine ⟨"str", _, F.plainAttrs_str, F.slot_str_replace, F.type_str_replace, typeIs_str _ _ _, (fun _ e => nomatch e), Calls.callWith_builtin rfl (Calls.evalArgs_plain (Calls.spliced_cons ?_))⟩
  refine name_raw I2 hn2 hm hkt ?_ dt
  refine Calls.spliced_cons (call_pick_raw FP FD T gD gP hr gl hNp hvp I2 hp2 P1 (by omega) z1 z2 (fun z kz s3 H3 mz k3 k4 I3 P3 B3 => ?_) dp cp)
  refine Calls.spliced_nil ?_
  have hz := zl z mz
  have hb : x.length + (x.length + 1) * z.length ≤ 16777216 := by
    have q : (x.length + 1) * z.length ≤ (x.length + 1) * 5 := Nat.mul_le_mul_left _ hz
    omega
  have u0 : kt ≠ 0 := Nat.ne_of_gt (Nat.lt_of_lt_of_le h0 k1)
  have lt4 : kt < kz := Nat.lt_of_lt_of_le (Nat.lt_trans k2 lt2) k3
  have v0 : kz ≠ 0 := Nat.ne_of_gt (Nat.lt_of_le_of_lt (Nat.zero_le _) lt4)
  exact PySem.SC.replaceA u0 v0 (Nat.ne_of_lt lt4) hb (fun t' k' => ⟨V.str (Txt.replace x y z), _, H3, I3.tok k', ⟨t', rfl⟩, k y z H3 my mz P3 (B1.trans B3)⟩) (nk.booked I3.kIn I3.nolimit)
end
end Fp4
set_option Elab.async false
set_option linter.all false
set_option maxRecDepth 100000
set_option maxHeartbeats 4000000
/-! FzJ: list(text): a new list of its signs -/
namespace FzJ
open PySem PySem.Spec PyProof.Rows
section
variable {prog : Program} {w : World} {A : Around} {E : Value → Shared → Prop} {s : Shared}
theorem hint_str {z : Str} {k : Tok} {Q : Bool → Shared → Prop} (h : Q false s) : wpAny (model prog w) A (Builtin.List.listLengthHint (.str z k)) Q E s := by
  have ty : s.TypeIs (.str z k) "str" := rfl
  unfold Builtin.List.listLengthHint
  refine wpAny_bind (wpAny_specialOf ty PySem.F.str_len ?_)
  wp_delta
  refine wpAny_bind (wpAny_isInstance (b := true) ty (by rw [isSubtype_type]; kernel_rfl) ?_); show wpAny _ A (typeOf (Value.str z k) >>= _) _ _ _
  exact wpAny_bind (wpAny_typeOf ty (wpAny_pure h))
theorem extend_str {R : Result → Shared → Prop} {c0 : Nat} {S : Addr} {res : Value} {z : Str} {k : Tok} (hh : A.handled = none) (hz : z.cps.size ≤ sizeLine) (at_ : s.heap.get? S = some { cls := .type "list", data := .seq #[] c0 })
    (fin : ∀ (h' : Heap) (tk : Nat) (its : Array Value) (c' : Nat), (∀ b o, b ≠ S → s.heap.get? b = some o → h'.get? b = some o) → h'.get? S = some { cls := .type "list", dict := none, data := .seq its c', slots := #[] } → ItemsOf (SignAt z) its z.cps.size → R (.ok (.ret res)) { s with heap := h', toks := tk }) :
    wpAny (model prog w) A.in1 (Builtin.List.listExtendWith (.ref S) (.str z k) res)
      (fun r s' => match r with | .done v => R (.ok v) s' | .again q => q.quiet = true ∧ codeAny (model prog w) A q R s') (fun e s' => R (.error e) s') s := by
  have nI : S ≠ s.heap.objs.size := fun e => absurd (Heap.lt_size at_) (by rw [e]; exact Nat.lt_irrefl _)
  have ty : s.TypeIs (.str z k) "str" := rfl
  unfold Builtin.List.listExtendWith
  refine wpAny_bind (wpAny_typeOf ty ?_)
  have g1 : Builtin.List.listSameRef (.ref S) (.str z k) = false := rfl
  have g2 : ((Value.type "str" == Value.type "list") || (Value.type "str" == Value.type "tuple")) = false := by decide
  rw [g1, show ((false || (Value.type "str" == Value.type "list")) || (Value.type "str" == Value.type "tuple")) = false by decide]
  rw [if_neg Bool.false_ne_true]
  refine wpAny_bind (wpAny_pyIter_str fun o St W st0 => wpAny_bind (wpAny_holding (hint_str ?_)))
  rw [if_neg (by first | decide | decide +kernel)]
  refine wpAny_pure ⟨plainId_quiet PySem.F.plain_extend_loop _, codeAny_extend_loopS (W A.in1 hh).toS hz _ (fun m => nI (List.mem_singleton.mp m)) _ z.cps.size 0 _ _ _ rfl (Nat.zero_le _) st0 (Heap.get?_push_of_some _ at_) (ItemsOf.nil _) fun s' its c' mv hS hi => ?_⟩
  rw [Moved.eq_with mv]
  refine fin s'.heap s'.toks its c' (fun b ob nb e => mv.heap b ob (fun m => ?_) (Heap.get?_push_of_some _ e)) hS hi
  rcases List.mem_cons.mp m with q | q
  · exact nb q
  · rw [List.mem_singleton.mp q] at e
    exact absurd (Heap.lt_size e) (Nat.lt_irrefl _)
theorem init_str {R : Result → Shared → Prop} {S : Addr} {z : Str} {k : Tok} (hh : A.handled = none) (hz : z.cps.size ≤ sizeLine) (at_ : s.heap.get? S = some { cls := .type "list", data := .seq #[] })
    (fin : ∀ (h' : Heap) (tk : Nat) (its : Array Value) (c' : Nat), (∀ b o, b ≠ S → s.heap.get? b = some o → h'.get? b = some o) → h'.get? S = some { cls := .type "list", dict := none, data := .seq its c', slots := #[] } → ItemsOf (SignAt z) its z.cps.size → R (.ok (.ret .none)) { s with heap := h', toks := tk }) :
    wpAny (model prog w) A.in1 (Builtin.«list.__init__» ⟨[.ref S, .str z k], []⟩)
      (fun r s' => match r with | .done v => R (.ok v) s' | .again q => q.quiet = true ∧ codeAny (model prog w) A q R s') (fun e s' => R (.error e) s') s := by
  show wpAny _ _ (do let was ← Builtin.List.listItems (.ref S); Builtin.List.listUpdate (.ref S) (fun _ => #[]); letGo was.toList.reverse; Builtin.List.listExtendWith (.ref S) (.str z k) .none) _ _ s
  refine wpAny_bind ?_; unfold Builtin.List.listItems; refine wpAny_bind (wpAny_seqItems at_ rfl (wpAny_pure ?_))
  show wpAny _ _ (updateSeq S (fun _ => #[]) >>= fun _ => letGo (#[] : Array Value).toList.reverse >>= fun _ => Builtin.List.listExtendWith (.ref S) (.str z k) .none) _ _ s
  have new := Heap.get?_update_self (Obj.mapSeq fun _ => (#[] : Array Value)) at_ rfl
  refine wpAny_bind (wpAny_updateSeq at_ rfl (wpAny_bind (wpAny_letGo (extend_str hh hz new fun h' tk its c' hk hS hi => fin h' tk its c' (fun b o nb e => hk b o nb ?_) hS hi))))
  exact (Heap.get?_update_other _ _ fun q => nb q.symm).trans e
theorem call_list_text {z : Str} {k : Tok} {Q : Value → Shared → Prop} (hh : A.handled = none) (hz : z.cps.size ≤ sizeLine)
    (fin : ∀ (h' : Heap) (tk : Nat) (its : Array Value) (c' : Nat), (∀ b o, s.heap.get? b = some o → h'.get? b = some o) → h'.get? s.heap.objs.size = some { cls := .type "list", dict := none, data := .seq its c', slots := #[] } → ItemsOf (SignAt z) its z.cps.size → Q (.ref s.heap.objs.size) { s with heap := h', toks := tk }) :
    wpAny (model prog w) A (call (.type "list") [.str z k]) Q E s := by
  refine callType_codes (Q₁ := fun ob s' => ob = .ref s.heap.objs.size ∧ s' = { s with heap := s.heap.push { cls := .type "list", data := .seq #[] } }) PySem.F.called_list (PySem.F.typeCall_list_1 _) PySem.F.entry_list_init (code_list_new _ ⟨rfl, rfl⟩) fun ob s' q => ?_
  obtain ⟨rfl, rfl⟩ := q
  have at_ : (s.heap.push { cls := .type "list", data := .seq #[] }).get? s.heap.objs.size = some { cls := .type "list", data := .seq #[] } := Heap.get?_push_size _ rfl
  refine ⟨⟨_, at_, rfl⟩, PySem.F.args_list_init_2 _ _, init_str (A := A.in1) hh hz at_ fun h' tk its c' hk hS hi => ⟨rfl, fin h' tk its c' (fun b o e => hk b o (fun q => ?_) (Heap.get?_push_of_some _ e)) hS hi⟩⟩
  rw [q] at e
  exact absurd (Heap.lt_size e) (Nat.lt_irrefl _)
end
end FzJ
namespace L2
open PySem PySem.Spec PyProof.Rows Fh
/-- the signs of a text, as texts -/
def signsV (z : Str) : List V := z.cps.toList.map fun c => .str ⟨#[c]⟩
theorem call_list_str {X : Cx} (hc : X.calm = true) (hu : X.A.handled = none) : CallR X (.type "list") (fun xs H Q => ∃ z, xs = [.str z] ∧ z.length ≤ sizeLine ∧ ∀ l, H l = none → Q (.ref l) (upd H l (.lst (signsV z)))) := by
  intro pins s σ H xs us Q I r h
  obtain ⟨z, rfl, hz, q⟩ := h
  obtain ⟨u, rfl, t, rfl⟩ := vals1 r
  refine FzJ.call_list_text hu hz fun h' tk its c' kp e hi => ?_
  refine ⟨.ref s.heap.objs.size, _, I.laid (t' := tk) kp (Nat.le_refl _) (show ObjOk X.prog X.w _ h' _ (.lst (signsV z)) from ?_), rfl, q _ (I.hok.fresh (Nat.le_refl _))⟩
  obtain ⟨sz, it⟩ := hi
  have lz : (signsV z).length = z.length := by unfold signsV; rw [List.length_map, Array.length_toList]; rfl
  refine ⟨by rw [lz]; exact hz, its.toList, c', vals_of_idx _ _ (by rw [lz, Array.length_toList, sz]; rfl) fun j v hj => ?_, by simpa using e⟩
  rw [Array.getElem?_toList] at hj
  obtain ⟨c, k, h1, h2⟩ := it j v hj
  refine ⟨.str ⟨#[c]⟩, ?_, k, h2⟩
  unfold signsV
  rw [List.getElem?_map, Array.getElem?_toList, h1]
  rfl
end L2
set_option Elab.async false
set_option linter.all false
set_option maxRecDepth 100000
set_option maxHeartbeats 4000000
/-! _law_bent: a text that is bent goes not much deeper -/
namespace Fp4
open PySem PySem.Spec PyProof.Rows L2 Fh Fs
open PySem.W (Frag)
abbrev sBe : Stmt := top 33
abbrev NBe : List Str := ["_law_pen_here", "_law_line", "_law_way", "_law_at", "_law_sign", "_law_part"]
theorem scBe : FnScope NBe ["_law_pen_here", "_law_line"] (defScope sBe) := ⟨rfl, rfl, rfl, by decide +kernel, rfl, by decide +kernel, by decide +kernel⟩
def sgs : List Str := (Str.ofString "(), athenybsid").cps.toList.map (fun c => (⟨#[c]⟩ : Str)) ++ (["then(", "any(", ", a", "beside(", ")", "again("] : List Str)
theorem sgs_eq : signsV (Str.ofString "(), athenybsid") ++ [.str (Str.ofString "then("), .str (Str.ofString "any("), .str (Str.ofString ", a"), .str (Str.ofString "beside("), .str (Str.ofString ")"), .str (Str.ofString "again(")] = sgs.map V.str := by decide +kernel
theorem sgs_ok : ∀ y ∈ sgs, wn (tlS y) ≤ 1 ∧ y.length ≤ 7 := by decide +kernel
theorem sgs_len : sgs.length = 20 := by decide +kernel
def ol1 : List (Str × Nat × Pos) := [("then", 0, ⟨156, 42, 156, 48⟩), ("any", 0, ⟨156, 50, 156, 55⟩), ("either", 0, ⟨156, 57, 156, 65⟩), ("a", 0, ⟨156, 67, 156, 70⟩), (", ", 0, ⟨156, 72, 156, 76⟩)]
def ol2 : List (Str × Nat × Pos) := [("any", 0, ⟨157, 66, 157, 71⟩), ("again", 0, ⟨157, 73, 157, 80⟩), ("b", 0, ⟨157, 82, 157, 85⟩), (",", 0, ⟨157, 87, 157, 90⟩)]
theorem ol1_ok : ∀ y ∈ ol1.map (·.1), 1 ≤ y.length ∧ pr (tlS y) = [] := by decide +kernel
theorem ol2_ok : ∀ y ∈ ol2.map (·.1), y.length ≤ 5 ∧ pr (tlS y) = [] := by decide +kernel
theorem eq_int (i j : Int) : decide (V.int i = V.int j) = decide (i = j) := by
  by_cases h : i = j
  · rw [decide_eq_true h, decide_eq_true (by rw [h])]
  · rw [decide_eq_false h, decide_eq_false fun e => h (by injection e)]
/-- what is kept of a text that is bent -/
def Bent (z z' : Str) : Prop := wn (tlS z') ≤ 3 * wn (tlS z) + 1 ∧ z'.length ≤ 6 * z.length + 7
section
variable {P : Program} {w : World} {K : Frag} {mg : Str → Option Value} {base : Heap}
def spBe : Sp := fun vs H Q _ => ∃ (p c : Addr) (n : Nat) (z : Str), vs = [.ref p, .str z] ∧ PenAt H p c n ∧ n ≤ 800000 ∧ z.length ≤ 100000 ∧ ∀ (z' : Str) (H' : Hp), Bent z z' → PenAt H' p c (n + 5) → But p H H' → Q (.str z') H'
set_option maxHeartbeats 0 in
theorem ok_be {f aK aD : Addr} {fd fK fD : FuncData} (F : Fun K "_law_bent" "_law_bent" sBe f fd) (FK : Fun K "_law_pick" "_law_pick" sPick aK fK) (FD : Fun K "_law_draw" "_law_draw" sDraw aD fD) (T : TxtP mg) (gK : mg "_law_pick" = some (.ref aK)) (gD : mg "_law_draw" = some (.ref aD)) (nk : NoneK K) :
    FnOk P w K mg base CX0 3 f fd ["_law_pen_here", "_law_line"] spBe := by
  have GD : FnOk P w K mg base CX0 1 aD fD ["_law_pen_here", "_law_number"] spDraw := ok_draw FD T
  have GK : FnOk P w K mg base CX0 2 aK fK ["_law_pen_here", "_law_items"] (spPick K) := ok_pick FK FD T gD
  have bD : Binds K fD ["_law_pen_here", "_law_number"] [] := FD.binds (ps := ["_law_pen_here", "_law_number"]) fun _ _ _ _ _ _ us hl => match us, hl with | [_, _], _ => rfl
  have bK : Binds K fK ["_law_pen_here", "_law_items"] [] := FK.binds (ps := ["_law_pen_here", "_law_items"]) fun _ _ _ _ _ _ us hl => match us, hl with | [_, _], _ => rfl
  refine F.ok scBe (fun vs H Q E h => ?_) (fun cdv A outer s H vs Q E hr h => ?_)
  · obtain ⟨p, c, n, z, rfl, _⟩ := h
    rfl
  · obtain ⟨p, c, n, z, rfl, hP, hn, hz, k⟩ := h
    have hr1 : Room 1 _ := hr.mono (by decide)
    refine' ⟨_, pss_cons ?s1 (pss_setT (i := 4) scBe.nd rfl rfl ?e2 (psst_cons (PST.of (ps_if ?t3 (pss_one (ps_ret ?b3)) pss_nil)) (psst_cons (PST.of (ps_if ?t4 (pss_one (ps_ret ?b4)) pss_nil)) (psst_cons (PST.of (ps_if ?t5 (pss_one (ps_ret ?b5)) pss_nil)) (psst_cons (PST.of (ps_if ?t6 (pss_one (ps_ret ?b6)) pss_nil)) (psst_cons (PST.of (ps_if ?t7 (pss_one (ps_ret ?b7)) pss_nil))
      (pss_repl (X := (cxOf CX0 P w K mg base NBe "_law_bent" (defScope sBe) f cdv A outer s H E).nox) FK FD T gD gK hr rfl nk (ip := 0) (il := 1) (it := 5) (px := "_law_pen_here") (lx := "_law_line") (tx := "_law_part") (ys := ol1) (zs := ol2) scBe.nd rfl (Or.inl rfl) rfl (Or.inl rfl) rfl rfl (by decide) (by decide) (by decide) (by decide) (by decide) (by decide) (fun y hy => (ol2_ok y hy).1) rfl))))))), ?q⟩
    case s1 =>
      refine' ps_par (i := 2) (j := 3) (by rfl) scBe.nd rfl rfl (by decide) rfl rfl (pa_cons ?a (pa_cons ?b pa_nil)) (by rfl)
      case a => exact pe_call GD hr1 rfl gD FD.kp bD .nil pass0 (pa_cons (pv 0) (pa_cons pe_int pa_nil))
      case b => exact pe_call GD hr1 rfl gD FD.kp bD .nil pass0 (pa_cons (pv 0) (pa_cons (pe_op op_add (pe_callB call_len_str (by rfl) T.len PySem.boot_len (pa_cons (pv 1) pa_nil)) pe_int) pa_nil))
    case e2 => exact pe_call GK hr rfl gK FK.kp bK .nil pass0 (pa_cons (pv 0) (pa_cons (pe_op op_cat (pe_callTy (call_list_str rfl hr.hd) (by rfl) T.list (by decide +kernel) (pa_cons pe_str pa_nil)) (pe_lst (pa_cons pe_str (pa_cons pe_str (pa_cons pe_str (pa_cons pe_str (pa_cons pe_str (pa_cons pe_str pa_nil)))))))) pa_nil))
    case t3 => exact pt_cmpR op_eq (pv 2) pe_int (nomark _)
    case t4 => exact pt_cmpR op_eq (pv 2) pe_int (nomark _)
    case t5 => exact pt_cmpR op_eq (pv 2) pe_int (nomark _)
    case t6 => exact pt_cmpR op_eq (pv 2) pe_int (nomark _)
    case t7 => exact pt_cmpR op_eq (pv 2) pe_int (nomark _)
    case b3 => exact pe_op op_add_str (pe_slice sl_str (pv 1) po_none (po_some (pv 3))) (pe_slice sl_str (pv 1) (po_some (pe_op op_add (pv 3) pe_int)) po_none)
    case b4 => exact pe_op op_add_str (pe_op op_add_str (pe_slice sl_str (pv 1) po_none (po_some (pv 3))) (pv 4)) (pe_slice sl_str (pv 1) (po_some (pv 3)) po_none)
    case b5 => exact pe_op op_add_str (pe_op op_add_str (pe_slice sl_str (pv 1) po_none (po_some (pv 3))) (pv 4)) (pe_slice sl_str (pv 1) (po_some (pe_op op_add (pv 3) pe_int)) po_none)
    case b6 => exact pe_op op_add_str (pe_op op_add_str (pe_slice sl_str (pv 1) po_none (po_some (pv 3))) (pe_slice sl_str (pe_slice sl_str (pv 1) (po_some (pv 3)) po_none) po_none (po_some pe_int))) (pe_slice sl_str (pv 1) (po_some (pv 3)) po_none)
    case b7 => exact pe_op op_add_str (pe_slice sl_str (pv 1) (po_some (pv 3)) po_none) (pe_slice sl_str (pv 1) po_none (po_some (pv 3)))
    case q =>
      have lz : z.length ≤ sizeLine := by rw [sizeLine_eq]; omega
      refine ⟨_, rfl, p, c, n, 6, rfl, hP, by omega, by decide, by decide, fun way H1 w0 w1 P1 b1 => ?_⟩
      refine ⟨_, rfl, _, rfl, z, rfl, lz, _, _, rfl, rfl, p, c, n + 1, (z.length : Int) + 1, rfl, P1, by omega, by omega, by omega, fun at_ H2 a0 a1 P2 b2 => ?_⟩
      refine ⟨_, _, rfl, ?_⟩
      obtain ⟨a, rfl⟩ := Int.eq_ofNat_of_zero_le a0
      clear a0 a1
      refine ⟨_, rfl, _, rfl, by decide +kernel, fun l1 n1 => ?_⟩
      have sm1 : Same H2 (upd H2 l1 (.lst (signsV (Str.ofString "(), athenybsid")))) := Same.new n1
      have g1 := upd_same (H := H2) (a := l1) (o := .lst (signsV (Str.ofString "(), athenybsid")))
      generalize upd H2 l1 (.lst (signsV (Str.ofString "(), athenybsid"))) = H3 at sm1 g1 ⊢
      refine ⟨by decide +kernel, fun l2 n2 => ?_⟩
      have sm2 := sm1.trans (Same.new (o := .lst [.str (Str.ofString "then("), .str (Str.ofString "any("), .str (Str.ofString ", a"), .str (Str.ofString "beside("), .str (Str.ofString ")"), .str (Str.ofString "again(")]) n2)
      have g1' := (Same.new (o := .lst [.str (Str.ofString "then("), .str (Str.ofString "any("), .str (Str.ofString ", a"), .str (Str.ofString "beside("), .str (Str.ofString ")"), .str (Str.ofString "again(")]) n2) _ _ g1
      refine ⟨l1, l2, _, _, rfl, rfl, g1', upd_same, by decide +kernel, fun l3 n3 => ?_⟩
      have sm3 := sm2.trans (Same.new (o := .lst (signsV (Str.ofString "(), athenybsid") ++ [.str (Str.ofString "then("), .str (Str.ofString "any("), .str (Str.ofString ", a"), .str (Str.ofString "beside("), .str (Str.ofString ")"), .str (Str.ofString "again(")])) n3)
      have P3 := P2.same sm3 (Nat.le_refl _)
      rw [sgs_eq] at P3 sm3 ⊢
      refine ⟨p, c, n + 1 + 1, l3, _, rfl, P3, by omega, upd_same, by rw [List.length_map, sgs_len]; decide, by rw [List.length_map, sgs_len]; decide, fun i x H4 hx P4 b4 => ?_⟩
      obtain ⟨sg, hsg, rfl⟩ : ∃ y, y ∈ sgs ∧ V.str y = x := List.mem_map.mp (List.mem_of_getElem? hx)
      obtain ⟨sw, sl⟩ := sgs_ok sg hsg
      have b5 : But p H H4 := ((b1.trans b2).trans (But.of sm3)).trans b4
      clear sm1 sm2 sm3 g1 g1' b4 hx
      have P5 : PenAt H4 p c (n + 5) := P4.same (Same.refl _) (by omega)
      obtain ⟨c1, c2⟩ := cut_to_wn z a
      obtain ⟨d1, d2⟩ := cut_from_wn z a
      obtain ⟨e1, e2⟩ := cut_from_wn z (a + 1)
      have lx : (a : Int) + 1 = ((a + 1 : Nat) : Int) := by omega
      have sz : sizeLine = 16777216 := sizeLine_eq
      refine gName_go ?_
      with_reducible conv => whnf
      obtain ⟨f1, f2⟩ : wn (tlS (cutS (cutS z (some (a : Int)) none) none (some 3))) ≤ wn (tlS z) ∧ (cutS (cutS z (some (a : Int)) none) none (some 3)).length ≤ z.length := by
        obtain ⟨q1, q2⟩ := cut_to_wn (cutS z (some (a : Int)) none) 3
        exact ⟨Nat.le_trans q1 d1, Nat.le_trans q2 d2⟩
      -- the ways
      refine ⟨_, rfl, rfl, decide (way = 0), congrArg V.bl (eq_int _ _), ?_⟩
      by_cases y0 : way = 0
      · rw [decide_eq_true y0]
        refine iteT ?_
        refine ⟨_, rfl, _, rfl, _, rfl, z, rfl, lz, _, rfl, _, rfl, _, _, rfl, rfl, _, rfl, z, rfl, lz, _, _, rfl, rfl, ?_, ?_⟩
        · rw [lx, sz]; omega
        · rw [lx]
          refine k _ H4 ⟨Nat.le_trans (app_wn _ _) (by omega), by rw [app_len]; omega⟩ P5 b5
      rw [decide_eq_false y0]
      refine iteF ?_
      refine ⟨_, rfl, rfl, decide (way = 1), congrArg V.bl (eq_int _ _), ?_⟩
      by_cases y1 : way = 1
      · rw [decide_eq_true y1]
        refine iteT ?_
        refine ⟨_, rfl, _, rfl, _, rfl, z, rfl, lz, _, rfl, _, _, rfl, rfl, ?_, _, rfl, _, rfl, _, rfl, z, rfl, lz, _, _, rfl, rfl, ?_, ?_⟩
        · rw [sz]; omega
        · rw [sz, app_len]; omega
        · refine k _ H4 ⟨Nat.le_trans (app_wn _ _) ?_, by rw [app_len, app_len]; omega⟩ P5 b5
          have q := app_wn (cutS z none (some (a : Int))) sg
          omega
      rw [decide_eq_false y1]
      refine iteF ?_
      refine ⟨_, rfl, rfl, decide (way = 2), congrArg V.bl (eq_int _ _), ?_⟩
      by_cases y2 : way = 2
      · rw [decide_eq_true y2]
        refine iteT ?_
        refine ⟨_, rfl, _, rfl, _, rfl, z, rfl, lz, _, rfl, _, _, rfl, rfl, ?_, _, rfl, _, rfl, _, _, rfl, rfl, _, rfl, z, rfl, lz, _, _, rfl, rfl, ?_, ?_⟩
        · rw [sz]; omega
        · rw [lx, sz, app_len]; omega
        · rw [lx]; refine k _ H4 ⟨Nat.le_trans (app_wn _ _) ?_, by rw [app_len, app_len]; omega⟩ P5 b5
          have q := app_wn (cutS z none (some (a : Int))) sg
          omega
      rw [decide_eq_false y2]
      refine iteF ?_
      refine ⟨_, rfl, rfl, decide (way = 3), congrArg V.bl (eq_int _ _), ?_⟩
      by_cases y3 : way = 3
      · rw [decide_eq_true y3]
        refine iteT ?_
        refine ⟨_, rfl, _, rfl, _, rfl, z, rfl, lz, _, rfl, _, rfl, _, rfl, z, rfl, lz, _, rfl, _, rfl, (by rw [sz]; omega), _, _, rfl, rfl, ?_, _, rfl, _, rfl, _, rfl, z, rfl, lz, _, _, rfl, rfl, ?_, ?_⟩
        · rw [sz]; omega
        · rw [sz, app_len]; omega
        · refine k _ H4 ⟨Nat.le_trans (app_wn _ _) ?_, by rw [app_len, app_len]; omega⟩ P5 b5
          have q := app_wn (cutS z none (some (a : Int))) (cutS (cutS z (some (a : Int)) none) none (some 3))
          omega
      rw [decide_eq_false y3]
      refine iteF ?_
      refine ⟨_, rfl, rfl, decide (way = 4), congrArg V.bl (eq_int _ _), ?_⟩
      by_cases y4 : way = 4
      · rw [decide_eq_true y4]
        refine iteT ?_
        refine ⟨_, rfl, _, rfl, _, rfl, z, rfl, lz, _, rfl, _, rfl, _, rfl, z, rfl, lz, _, _, rfl, rfl, ?_, ?_⟩
        · rw [sz]; omega
        · refine k _ H4 ⟨Nat.le_trans (app_wn _ _) (by omega), by rw [app_len]; omega⟩ P5 b5
      rw [decide_eq_false y4]
      refine iteF ?_
      refine ⟨p, c, n + 3, z, rfl, rfl, P4, by omega, by omega, fun y y' H5 my my' P6 b6 => ?_⟩
      obtain ⟨o1, o2⟩ := ol1_ok y my
      obtain ⟨o3, o4⟩ := ol2_ok y' my'
      have rl := TK.replace_len z y y'
      have ml : (z.length + 1) * y'.length ≤ (z.length + 1) * 5 := Nat.mul_le_mul_left _ o3
      exact k _ H5 ⟨by rw [wn_repl o1 o2 o4]; omega, by omega⟩ P6 (b5.trans b6)
end
end Fp4
set_option Elab.async false
set_option linter.all false
set_option maxRecDepth 100000
set_option maxHeartbeats 4000000
/-! _law_read: the plan that a text is, in a list; nothing, where it is none -/
namespace Fp4
open PySem PySem.Spec PyProof.Rows L2 Fh Fs
open PySem.W (Frag)
abbrev sLrd : Stmt := top 32
theorem scLrd : FnScope ["_law_line", "e"] ["_law_line"] (defScope sLrd) := ⟨rfl, rfl, rfl, by decide +kernel, rfl, by decide +kernel, by decide +kernel⟩
section
variable {P : Program} {w : World} {K : Frag} {mg : Str → Option Value} {base : Heap} {aF aM aD CE aX aI aH aE aN aS aR aP : Addr} {fI fH fE fN fS fR fP : FuncData}
def spLrd (K : Frag) (n : Nat) : Sp := fun vs H Q _ => ∃ (z : Str) (r : RT), vs = [.str z] ∧ z.length ≤ 1000000 ∧ readF n z.cps.toList = some r ∧ (∀ d, r = .plan d → ∀ l x H', Same H H' → H l = none → H' l = some (.lst [x]) → Pl K H' x d → Q (.ref l) H') ∧
  ∀ i, r = .at_ i → i ≤ z.length ∧ ∀ l H', Same H H' → H l = none → H' l = some (.lst []) → Q (.ref l) H'
theorem ok_lrd {f : Addr} {fd : FuncData} (F : Fun K "_law_read" "_law_read" sLrd f fd) (G : Rdr K mg w aF aM aD CE aX aI aH aE aN aS aR aP fI fH fE fN fS fR fP) (te : PySem.W.exmOne K (.ref CE) (.ref CE) = some true) (n : Nat) :
    FnOk P w K mg base CX0 (2 * n + 5) f fd ["_law_line"] (spLrd K n) := by
  have GP : FnOk P w K mg base (L2.CX P w) (2 * n + 4) aP fP ["text"] (spPlan K CE n) := ok_plan G n
  have bP : Binds K fP ["text"] [] := G.FP.binds (ps := ["text"]) fun _ _ _ _ _ _ us hl => match us, hl with | [_], _ => rfl
  refine F.ok scLrd (fun vs H Q E h => ?_) (fun cdv A outer s H vs Q E hr h => ?_)
  · obtain ⟨z, r, rfl, _⟩ := h
    rfl
  · obtain ⟨z, r, rfl, hz, er, k1, k2⟩ := h
    refine ⟨_, pss_one (ps_try_as (i := 1) (Wout := fun _ _ _ _ => False) rfl rfl scLrd.nd rfl rfl ⟨rfl, by decide, Or.inl G.T.ET.gC⟩ takes0
      (fun W pn xe tk _ => pss_one (ps_ret (pe_lst (pa_cons (pe_callS (E := fun σ cls d H' => σ.length = 2 → W cls d σ H') GP hr rfl G.gP G.FP.kp bP (fun σ pins H s e s' I c => tk e s' (XE.of_call I (fun cls d H' h => h I.len) c)) (pa_cons (pv 0) pa_nil)) pa_nil))))
      (fun a oe cls d pn hz hf => pss_one (ps_ret (pe_ifExp (pt_chain op_le op_le pe_int (pe_errNField G.T.ET hz hf (pv 1)) (pe_callB call_len_str (by rfl) G.T.len PySem.boot_len (pa_cons (pv 0) pa_nil))) (pe_lst pa_nil) (pe_lst (pa_cons pe_str (pa_cons (pe_errNField G.T.ET hz hf (pv 1)) pa_nil))))))), ?_⟩
    have lz : z.length ≤ sizeLine := by rw [sizeLine_eq]; omega
    refine ⟨_, rfl, z, r, rfl, hz, er, fun d en x H3 s3 hx => ?_, fun i ei dd H3 s3 hdd hl => ⟨true, te, fun _ a0 _ => ?_, fun q => Bool.noConfusion q⟩⟩
    · subst en
      exact ⟨(show 1 ≤ sizeLine by decide), fun l nl => k1 d rfl l x _ (s3.trans (Same.new nl)) (s3.free nl) upd_same (hx.same (Same.new nl))⟩
    · subst ei
      obtain ⟨il, k2⟩ := k2 i rfl
      have zi : (0 : Int) ≤ (i : Int) := Int.natCast_nonneg i
      have zl : (i : Int) ≤ (z.length : Int) := Int.ofNat_le.mpr il
      refine ⟨_, rfl, rfl, rfl, dd, _, rfl, hdd, 0, (i : Int), rfl, rfl, decide ((0 : Int) ≤ i), rfl, ?_⟩
      rw [decide_eq_true zi]
      refine iteT ⟨_, rfl, z, rfl, lz, _, _, rfl, rfl, decide ((i : Int) ≤ z.length), rfl, ?_⟩
      rw [decide_eq_true zl]
      exact iteT ⟨(show 0 ≤ sizeLine by decide), fun l nl => k2 l _ (s3.trans (Same.new nl)) (s3.free nl) upd_same⟩
end
end Fp4
set_option Elab.async false
set_option linter.all false
set_option maxRecDepth 100000
set_option maxHeartbeats 4000000
namespace Fp4
open PySem PySem.Spec PyProof.Rows L2 Fh Fs
open PySem.W (Frag)
abbrev sTx : Stmt := top 31
abbrev NT : List Str := ["_law_plan_here", "_law_part"]
def spTx (n : Nat) : Sp := fun vs H Q _ => ∃ (v : V) (N : Addr → Prop) (d : PyData) (ns : List Str) (b : Bool), vs = [v] ∧ DA N H v d ∧ Good ns n b d ∧ (∀ y ∈ ns, y.length ≤ 8) ∧ n ≤ 6 ∧ ∀ H', Same H H' → Q (.str (txt n d)) H'
theorem scTx : FnScope NT ["_law_plan_here"] (defScope sTx) := ⟨rfl, rfl, rfl, by decide +kernel, rfl, by decide +kernel, by decide +kernel⟩
section
variable {P : Program} {w : World} {K : Frag} {mg : Str → Option Value} {base : Heap}
theorem step_tx {n kk : Nat} {sp' : Sp} {f : Addr} {fd : FuncData} (F : Fun K "_law_text" "_law_text" sTx f fd) (gi : mg "isinstance" = none) (gs : mg "str" = none) (gF : mg "_law_text" = some (.ref f)) (GT : FnOk P w K mg base CX0 kk f fd ["_law_plan_here"] sp') (hs : ∀ j, n = j + 1 → sp' = spTx j) : FnOk P w K mg base CX0 (kk + 1) f fd ["_law_plan_here"] (spTx n) := by
  have bT : Binds K fd ["_law_plan_here"] [] := F.binds (ps := ["_law_plan_here"]) fun _ _ _ _ _ _ us hl => match us, hl with | [_], _ => rfl
  refine F.ok scTx (fun vs H Q E h => ?_) (fun cdv A outer s H vs Q E hr h => ?_)
  · obtain ⟨v, N, d, ns, b, rfl, _⟩ := h
    rfl
  · obtain ⟨v, N, d, ns, b, rfl, da, g, hn, hn6, k⟩ := h
    refine' ⟨_, pss_cons ?s1 (pss_one ?s2), ?q⟩
    case s1 =>
      refine' ps_if (pt_val ?a) (pss_one (ps_ret (pv 0))) pss_nil
      case a => exact pe_callB call_isi (by rfl) gi (by decide +kernel) (pa_cons (pv 0) (pa_cons (pe_bltn (v := .ty "str") (by rfl) gs (by decide +kernel) rfl (by decide) (by decide)) pa_nil))
    case s2 =>
      refine' ps_ret (pe_op op_add_str (pe_op op_add_str (pe_op op_add_str ?a pe_str) (pe_join pe_str ?b)) pe_str)
      case a => exact pe_ix ix_tup (pv 0) pe_int (fun _ _ => rfl)
      case b =>
        refine' pe_lc (own := [("_law_part", 1)]) (g := gName 1) (tt := tYes) rfl scTx.nd ?i ?k ?g ?c ?e
        case i => exact pi_tup (pe_slice sl_tupA (pv 0) (po_some pe_int) po_none)
        case k => exact blkOk_by (N := NT) (sc := defScope sTx) (by decide +kernel)
        case g => exact fun _ _ _ _ _ => pg_name (i := 1) scTx.nd rfl (Or.inl rfl)
        case c => exact fun _ _ _ _ _ => pts_nil
        case e => exact fun _ _ _ _ _ => pe_call GT hr rfl gF F.kp bT .nil pass0 (pa_cons (pv 1) pa_nil)
    case q =>
      have ty := (IsD.of da).ty (K := K)
      cases g with
      | @nm n b y hy =>
        cases da
        refine ⟨_, rfl, _, _, _, _, true, rfl, .ty _, .base (.str y), (by rfl), true, rfl, iteT ⟨_, rfl, ?_⟩⟩
        have z := k H (Same.refl _)
        rw [txt_nm] at z
        exact z
      | @nd n b y ds h1 h2 h3 h4 =>
        refine ⟨_, rfl, _, _, _, _, false, rfl, .ty _, ty, (by rfl), false, rfl, iteF ?_⟩
        obtain rfl := hs n rfl
        cases da with
        | @tup a vs _ hg nn r =>
          cases r with
          | @cons x dx xs _ hx r =>
            cases hx
            refine ⟨_, rfl, a, _, 0, .str y, rfl, rfl, SqT.of hg, (show atI (V.str y :: xs) ((0 : Nat) : Int) = some (V.str y) from atI_nat rfl), _, _, rfl, rfl, ?_, ?_⟩
            · have := word_six h1
              rw [sizeLine_eq]
              show y.length + 1 ≤ _
              omega
            refine ⟨⟨_, rfl⟩, _, rfl, 1, rfl, a, _, rfl, SqT.of hg, ?_, fun _ q nq => ?_⟩
            · rintro ⟨z, _⟩
              have z : min 1 (xs.length + 1) = 0 := z
              omega
            · have cv : cutV (V.str y :: xs) (some 1) none = xs := by
                show ((V.str y :: xs).drop (min 1 (xs.length + 1))).take (xs.length + 1 - min 1 (xs.length + 1)) = xs
                rw [show min 1 (xs.length + 1) = 1 by omega, List.drop_one, List.tail_cons, List.take_of_length_le (by omega)]
              rw [cv]
              have sq : Same H (upd H q (.tup xs)) := Same.new nq
              have gq : (upd H q (.tup xs)) q = some (.tup xs) := upd_same
              generalize upd H q (.tup xs) = H1 at sq gq ⊢
              refine ⟨q, rfl, ⟨_, SqT.of gq⟩, fun D nD => ?_⟩
              have lx := das_len r
              have b2 : ds.length ≤ 4 := h2
              refine lc_it (walk_tup (K := K) (a := q) (xs := xs)) (fun i Hh => ∃ ys : List Str, ys = (ds.take i).map (txt n) ∧ Hh D = some (.lst (ys.map V.str)) ∧ Same H1 Hh) ⟨[], by rw [List.take_zero]; rfl, upd_same, Same.new nD⟩ (fun _ Hh _ ⟨_, _, _, z⟩ => SqT.of (z _ _ gq)) ?_ ?_
              · rintro i x Ha Hb hi ⟨ys, ey, hD, sa⟩ ⟨rfl, gx⟩
                refine ⟨rfl, ?_⟩
                refine yes_of ?_
                have di : i < ds.length := by omega
                have gd : ds[i]? = some ds[i] := List.getElem?_eq_getElem di
                have dx := das_get r gx gd
                have mem : ds[i] ∈ ds := List.getElem_mem di
                refine ⟨_, rfl, x, N, ds[i], ns, _, rfl, DA.same (sq.trans sa) dx, h4 _ mem, hn, by omega, fun Hc sc => ?_⟩
                refine ⟨ys.map V.str, sc _ _ hD, ?_, ys ++ [txt n ds[i]], ?_, ?_, ?_⟩
                · rw [List.length_map, ey, List.length_map, List.length_take, sizeLine_eq]
                  omega
                · rw [ey, List.take_add_one, gd, List.map_append]
                  rfl
                · rw [List.map_append]
                  exact upd_same
                · intro b' u z
                  rw [upd_ne (fun e => by rw [e, nD] at z; cases z)]
                  exact sc _ _ (sa _ _ z)
              · rintro Ha ⟨ys, ey, hD, sa⟩
                rw [lx, List.take_length] at ey
                subst ey
                have tlen : ∀ z ∈ ds.map (txt n), z.length ≤ Tl n := fun z hz => by
                  obtain ⟨d, hd, rfl⟩ := List.mem_map.mp hz
                  exact txt_len hn (h4 d hd)
                have sl := sum_le tlen
                rw [List.length_map] at sl
                have t5 : Tl n ≤ 16384 := by
                  have : n ≤ 5 := by omega
                  match n, this with
                  | 0, _ => decide
                  | 1, _ => decide
                  | 2, _ => decide
                  | 3, _ => decide
                  | 4, _ => decide
                  | 5, _ => decide
                have m1 : ds.length * Tl n ≤ 4 * Tl n := Nat.mul_le_mul_right _ h2
                have jl := join_len (Str.ofString ", ") (ds.map (txt n))
                have e1 : (Str.ofString "(").length = 1 := by decide +kernel
                have e2 : (Str.ofString ")").length = 1 := by decide +kernel
                have e3 : (Str.ofString ", ").length = 2 := by decide +kernel
                rw [e3, List.length_map] at jl
                have w6 := word_six h1
                refine ⟨_, D, _, rfl, rfl, .inl (SqL.of hD), ?_, ?_⟩
                · rw [e3, List.length_map]
                  omega
                refine ⟨_, _, rfl, rfl, ?_, ?_⟩
                · rw [app_len, e1, sizeLine_eq]
                  omega
                refine ⟨_, _, rfl, rfl, ?_, ?_⟩
                · rw [app_len, app_len, e1, e2, sizeLine_eq]
                  omega
                exact k Ha (sq.trans sa)
theorem ok_tx {f : Addr} {fd : FuncData} (F : Fun K "_law_text" "_law_text" sTx f fd) (gi : mg "isinstance" = none) (gs : mg "str" = none) (gF : mg "_law_text" = some (.ref f)) : ∀ n, FnOk P w K mg base CX0 (n + 3) f fd ["_law_plan_here"] (spTx n)
  | 0 => step_tx (n := 0) (kk := 2) (sp' := fun _ _ _ _ => False) F gi gs gF (F.ok scTx (fun _ _ _ _ h => h.elim) (fun _ _ _ _ _ _ _ _ _ h => h.elim)) (fun j e => nomatch e)
  | n + 1 => step_tx (n := n + 1) (kk := n + 3) (sp' := spTx n) F gi gs gF (ok_tx F gi gs gF n) (fun j e => by cases e; rfl)
end
end Fp4
set_option Elab.async false
set_option linter.all false
set_option maxRecDepth 100000
set_option maxHeartbeats 4000000
/-! FzF: f(k = v) without a positional argument; repr of data with lists that comprehensions made -/
namespace Fs
open PySem PySem.Spec PyProof.Rows L2 Fh
open PySem.W (Frag)
section
variable {X : Cx} {CX : CXT} {k : Nat} {f : Addr} {fd : FuncData} {ps ks : List Str} {sp : Sp} {E : XK} {x : Str} {p pos : Pos} {kws : List Keyword} {tk : TA} {g : List Value → List Value → List Value} {gV : List V → List V → List V}
def tCallW (sp : Sp) (gV : List V → List V → List V) (E : XK) (tk : TA) : TE := fun σ H Q => tk σ H fun zs H2 => sp (gV [] zs) H2 Q E
theorem pe_callW (F : FnOk X.prog X.w X.K X.mg X.base CX k f fd ps sp) (hr : Room k X.A) (hg : Gl X x) (hm : X.mg x = some (.ref f)) (hk : PySem.W.keepIn X.K (.ref f) = true) (hb : KBinds X.K fd ps ks g gV) (hx : Passes CX X E) (hkw : PK X kws tk)
    (hall : (backToKw pos (keywordEach kws X.env)).all (·.1.isSome) = true := by rfl) (hks : (backToKw pos (keywordEach kws X.env)).filterMap (·.1) = ks := by rfl) (hdb : (x == ("__debug__" : Str)) = false := by decide)
    (hpl : ((backTo pos (starEach [] X.env)).any (·.1) || (backToKw pos (keywordEach kws X.env)).any (·.1.isNone)) = false := by rfl) :
    PE X (.Call (.Name x p) [] kws pos) (tCallW sp gV E tk) := by
  refine ⟨fun pins s σ H Q I h => ?_⟩
  refine wpAny_Call_Name_kw (ld_glob I hg hm ?_ hdb)
  refine PySem.W.callWith_KW0 (h₀ := X.base) I.ok.mod.kin hk hall ?_ hpl
  refine thn (hkw.run pos pins s σ H _ I h) fun ws s2 ⟨zs, H2, I2, rz, q2⟩ => ⟨I2.kIn, ?_⟩
  rw [hks]
  exact run_fnk F hr hb hx I2 .nil rz q2
end
/-- a def of one parameter, by its name -/
theorem kb_one {K : Frag} {x q y : Str} {st : Stmt} {f : Addr} {fd : FuncData} (F : Fun K x q st f fd)
    (h1 : ∀ (kV doc pm : Value) (an : Option Addr) (cdv ct u : Value), bindArgs (PySem.W.fnOf x q (defArgs st) (defBody st) (defScope st) .none kV doc pm an cdv ct) ⟨[], [(y, u)]⟩ = pure [(y, u)])
    (h2 : ∀ (kV doc pm : Value) (an : Option Addr) (cdv ct u : Value), bindArgs (PySem.W.fnOf x q (defArgs st) (defBody st) (defScope st) .none kV doc pm an cdv ct) ⟨[u], []⟩ = pure [(y, u)]) : KBinds K fd [y] [y] (fun us ws => us ++ ws) (fun vs zs => vs ++ zs) := by
  obtain ⟨oc, od, kV, doc, pm, an, cdv, ct, osl, rfl, lk, hcd⟩ := F.ex
  refine ⟨fun s us ws _ hl => ?_, fun r1 r2 => r1.append r2⟩
  match us, ws, hl with
  | [], [u], _ => exact .of_eq (h1 kV doc pm an cdv ct u)
  | [u], [], _ => exact .of_eq (h2 kV doc pm an cdv ct u)
mutual
/-- v is the data d, its lists tracked -/
inductive Db (K : Frag) (H : Hp) : V → PyData → Prop where
  | non : Db K H .non .none
  | bl (b : Bool) : Db K H (.bl b) (.bool b)
  | str (x : Str) : Db K H (.str x) (.str x)
  | tup {a : Addr} {xs : List V} {ds : List PyData} : SqT K H a xs → Dbs K H xs ds → Db K H (.ref a) (.tuple ds)
  | lst {a : Addr} {xs : List V} {ds : List PyData} : H a = some (.lst xs) → Dbs K H xs ds → Db K H (.ref a) (.list ds)
inductive Dbs (K : Frag) (H : Hp) : List V → List PyData → Prop where
  | nil : Dbs K H [] []
  | cons {x : V} {d : PyData} {xs : List V} {ds : List PyData} : Db K H x d → Dbs K H xs ds → Dbs K H (x :: xs) (d :: ds)
end
mutual
theorem Pl.db {K : Frag} {H : Hp} : ∀ {v : V} {d : PyData}, Pl K H v d → Db K H v d
  | _, _, .str x => .str x
  | _, _, .tup h r => .tup h (Pls.db r)
theorem Pls.db {K : Frag} {H : Hp} : ∀ {v : List V} {d : List PyData}, Pls K H v d → Dbs K H v d
  | _, _, .nil => .nil
  | _, _, .cons h r => .cons (Pl.db h) (Pls.db r)
end
mutual
theorem Db.same {K : Frag} {H H' : Hp} (s : Same H H') : ∀ {v : V} {d : PyData}, Db K H v d → Db K H' v d
  | _, _, .non => .non
  | _, _, .bl b => .bl b
  | _, _, .str x => .str x
  | _, _, .tup h r => .tup ((KeepT.of s).sqT h) (Dbs.same s r)
  | _, _, .lst h r => .lst (s _ _ h) (Dbs.same s r)
theorem Dbs.same {K : Frag} {H H' : Hp} (s : Same H H') : ∀ {v : List V} {d : List PyData}, Dbs K H v d → Dbs K H' v d
  | _, _, .nil => .nil
  | _, _, .cons h r => .cons (Db.same s h) (Dbs.same s r)
end
theorem dbs_strs {K : Frag} {H : Hp} : ∀ ys : List Str, Dbs K H (ys.map V.str) (ys.map PyData.str)
  | [] => .nil
  | y :: ys => .cons (.str y) (dbs_strs ys)
section
variable {X : Cx} {pins : List (Addr × Obj)} {σ : L2.St} {H : Hp} {s : Shared}
theorem no_mods (hS : (X.K.lookup sysModules).isSome = true) (I : Inv X pins σ H s) : H sysModules = none := by
  cases e : X.K.lookup sysModules with
  | none => rw [e] at hS; cases hS
  | some o => exact (I.bs sysModules o (I.ok.mod.kin _ _ e)).2
mutual
theorem Db.reads (hS : (X.K.lookup sysModules).isSome = true) (I : Inv X pins σ H s) : ∀ {d : PyData} {v : V} {u : Value}, Db X.K H v d → RelV v u → ∃ as, Reads s.heap u d as ∧ sysModules ∉ as
  | _, _, u, .non, r => by
    obtain rfl : u = Value.none := r
    exact ⟨[], .none, List.not_mem_nil⟩
  | _, _, u, .bl b, r => by
    obtain rfl : u = Value.bool b := r
    exact ⟨[], .bool b, List.not_mem_nil⟩
  | _, _, u, .str x, r => by
    obtain ⟨t, rfl⟩ := (show ∃ t, u = Value.str x t from r)
    exact ⟨[], .str x t, List.not_mem_nil⟩
  | _, _, u, .tup h rs, r => by
    obtain ⟨its, rv, ⟨o, ho, hc, n, hd⟩, _⟩ := I.tuple h
    obtain rfl : u = Value.ref _ := r
    obtain ⟨as, ra, ns⟩ := Dbs.reads hS I rs rv
    exact ⟨as, .tuple ho hc hd (by simpa using ra), ns⟩
  | _, _, u, .lst (a := a) (xs := xs) hA rs, r => by
    obtain rfl : u = Value.ref a := r
    obtain ⟨_, its, m, rv, ho⟩ := (show ObjOk X.prog X.w H s.heap a (.lst xs) from I.hok a _ hA)
    obtain ⟨as, ra, ns⟩ := Dbs.reads hS I rs rv
    have na : sysModules ≠ a := fun e => by
      have z := no_mods hS I
      rw [e, hA] at z
      cases z
    exact ⟨a :: as, .list ho rfl rfl (by simpa using ra), fun z => (List.mem_cons.mp z).elim na ns⟩
theorem Dbs.reads (hS : (X.K.lookup sysModules).isSome = true) (I : Inv X pins σ H s) : ∀ {ds : List PyData} {vs : List V} {us : List Value}, Dbs X.K H vs ds → Vals vs us → ∃ as, ReadsAll s.heap us ds as ∧ sysModules ∉ as
  | _, _, _, .nil, .nil => ⟨[], .nil, List.not_mem_nil⟩
  | _, _, _, .cons h rs, .cons r1 r2 => by
    obtain ⟨as, a1, a2⟩ := Db.reads hS I h r1
    obtain ⟨bs, b1, b2⟩ := Dbs.reads hS I rs r2
    exact ⟨as ++ bs, .cons a1 b1, fun z => (List.mem_append.mp z).elim a2 b2⟩
end
end
def rReprB (K : Frag) : List V → Hp → VK → Prop := fun xs H Q => ∃ (v : V) (d : PyData), xs = [v] ∧ Db K H v d ∧ Rp d ∧ Q (.str d.shown) H
theorem call_reprB {X : Cx} (hS : (X.K.lookup sysModules).isSome = true) (hg : X.A.guards = some []) (hu : X.A.units + 64 < cLine) : CallR X (.builtin "repr") (rReprB X.K) := by
  intro pins s σ H xs us Q I r h
  obtain ⟨v, d, rfl, hd, ⟨h1, h2, h3⟩, q⟩ := h
  obtain ⟨u, rfl, ru⟩ := vals1 r
  obtain ⟨as, ra, ns⟩ := Db.reads hS I hd ru
  have fin : ∀ {h' : Heap} (t : Tok) (tk : Nat), (∀ b o, s.heap.get? b = some o → h'.get? b = some o) → EP X pins σ Q (.str d.shown t) { s with heap := h', toks := tk } := fun {h'} t tk k => ⟨.str _, H, I.kept (t' := tk) k, ⟨_, rfl⟩, q⟩
  match hd, ra with
  | .non, .none => exact PySem.P.repr_of_none ⟨.str _, H, I.tok _, ⟨_, rfl⟩, q⟩
  | .bl b, .bool _ => exact PySem.P.repr_of_bool ⟨.str _, H, I.tok _, ⟨_, rfl⟩, q⟩
  | .str x, .str _ t => exact PySem.P.repr_of_str ⟨.str _, H, I.tok _, ⟨_, rfl⟩, q⟩ (by simpa only [PyData.shown] using h3)
  | .tup _ _, .tuple a b c e => exact PySem.repr_of_reads' (.tuple a b c e) h1 (fun _ => ns) hg (by omega) (fun _ _ z => z) (fun h' t tk k => fin t tk k) h3
  | .lst _ _, .list a b c e => exact PySem.repr_of_reads' (.list a b c e) h1 (fun _ => ns) hg (by omega) (fun _ _ z => z) (fun h' t tk k => fin t tk k) h3
/-- data of valid signs and without whole numbers, of moderate weight -/
theorem rp_lay {d : PyData} (h1 : d.canLay0 = true) (h2 : d.intsShort 13 = true) (h3 : d.depth ≤ 60) (h4 : d.weight ≤ 1000000) (h5 : d.showable = true) : Rp d := by
  have e : (2 : Nat) ^ 20 = 1048576 := by decide
  exact ⟨h5, h3, PyData.shown_fits (B := 13) (by decide) (by decide) (PyData.leavesShort_of_canLay0 13 d h1 h2) (by omega)⟩
end Fs
set_option Elab.async false
set_option linter.all false
set_option maxRecDepth 100000
set_option maxHeartbeats 1000000
/-! drawn plans: right, shaped, of moderate weight; what is told of them may be shown -/
namespace Fp4
open PySem PySem.Spec PyProof.Rows L2 Fh Fs
open PySem.W (Frag)
theorem good_rt {ns : List Str} (hn : ∀ y ∈ ns, wordB y = true) {n : Nat} {b : Bool} {d : PyData} (g : Good ns n b d) : Rt n b d := by
  induction g with
  | nm h => exact .nm (hn _ h)
  | nd h1 h2 h3 h4 ih => exact .nd h1 h3 ih
theorem good_sh {ns : List Str} (hn : ∀ y ∈ ns, wordB y = true) {n : Nat} {b : Bool} {d : PyData} (g : Good ns n b d) : Sh n d := by
  induction g with
  | nm h => exact .nm (hn _ h)
  | nd h1 h2 h3 h4 ih => exact .nd h1 (.inr h2) ih
def Wb : Nat → Nat
  | 0 => 8
  | n + 1 => 4 * Wb n + 11
theorem wb_eight : ∀ n, 8 ≤ Wb n
  | 0 => Nat.le_refl _
  | n + 1 => by have := wb_eight n; show 8 ≤ 4 * Wb n + 11; omega
theorem w_le {ds : List PyData} {m : Nat} (h : ∀ d ∈ ds, d.weight ≤ m) : PyData.weightAll ds ≤ ds.length * (m + 1) := by
  induction ds with
  | nil => rw [w_nil]; exact Nat.zero_le _
  | cons d ds ih =>
    rw [w_cons, List.length_cons, Nat.succ_mul]
    have := h d List.mem_cons_self
    have := ih fun e he => h e (List.mem_cons_of_mem _ he)
    omega
theorem good_w {ns : List Str} (hn : ∀ y ∈ ns, wordB y = true) {n : Nat} {b : Bool} {d : PyData} (g : Good ns n b d) : d.weight ≤ Wb n := by
  induction g with
  | nm h =>
    rw [w_str]
    exact Nat.le_trans (word_str (hn _ h)).2 (wb_eight _)
  | @nd n b y ds h1 h2 h3 h4 ih =>
    have w6 := word_six h1
    have a := w_le ih
    have m1 : ds.length * (Wb n + 1) ≤ 4 * (Wb n + 1) := Nat.mul_le_mul_right _ h2
    rw [w_tup, w_cons, w_str]
    show _ ≤ 4 * Wb n + 11
    omega
theorem good_pl {K : Frag} {N : Addr → Prop} {H : Hp} {ns : List Str} {n : Nat} {b : Bool} {d : PyData} (g : Good ns n b d) : ∀ {v : V}, DA N H v d → Pl K H v d := by
  induction g with
  | nm h => intro v da; cases da; exact .str _
  | @nd n b y ds h1 h2 h3 h4 ih =>
    intro v da
    cases da with
    | tup h0 h0' r =>
      cases r with
      | cons hx r =>
        cases hx
        refine .tup (SqT.of h0) (.cons (.str _) ?_)
        clear h1 h2 h3 h0 h0'
        have key : ∀ {es : List PyData}, (∀ e ∈ es, e ∈ ds) → ∀ {xs : List V}, DAs N H xs es → Pls K H xs es := by
          intro es
          induction es with
          | nil => intro _ xs r; cases r; exact .nil
          | cons e es ihe =>
            intro sub xs r
            cases r with
            | cons r1 r2 => exact .cons (ih e (sub e List.mem_cons_self) r1) (ihe (fun e' he => sub e' (List.mem_cons_of_mem _ he)) r2)
        exact key (fun _ h => h) r
theorem names_words {n : Nat} {d : PyData} (h : Sh n d) : ∀ y ∈ namesF n d, wordB y = true := by
  induction h with
  | nm h =>
    rw [names_str]
    intro y hy
    rcases List.mem_singleton.mp hy with rfl
    exact h
  | @nd n y ds h1 h2 h3 ih =>
    rw [names_nd]
    intro z hz
    obtain ⟨d, hd, hz⟩ := List.mem_flatMap.mp hz
    exact ih d hd z hz
/-! ### data that may be shown -/
def Fine (d : PyData) : Prop := d.canLay0 = true ∧ d.intsShort 13 = true ∧ d.showable = true
def Fines (ds : List PyData) : Prop := PyData.canLayAll0 ds = true ∧ PyData.intsShortAll 13 ds = true ∧ PyData.showableAll ds = true
theorem fines_cons {d : PyData} {ds : List PyData} (h : Fine d) (r : Fines ds) : Fines (d :: ds) := by
  obtain ⟨a, b, c⟩ := h
  obtain ⟨e, f, g⟩ := r
  refine ⟨?_, ?_, ?_⟩
  · show (d.canLay0 && PyData.canLayAll0 ds) = true
    rw [a, e]; rfl
  · show (d.intsShort 13 && PyData.intsShortAll 13 ds) = true
    rw [b, f]; rfl
  · show (d.showable && PyData.showableAll ds) = true
    rw [c, g]; rfl
theorem fines_nil : Fines [] := ⟨rfl, rfl, rfl⟩
theorem fines_of {ds : List PyData} (h : ∀ d ∈ ds, Fine d) : Fines ds := by
  induction ds with
  | nil => exact fines_nil
  | cons d ds ih => exact fines_cons (h d List.mem_cons_self) (ih fun e he => h e (List.mem_cons_of_mem _ he))
theorem fine_tup {ds : List PyData} (h : Fines ds) : Fine (.tuple ds) := ⟨h.1, h.2.1, h.2.2⟩
theorem fine_lst {ds : List PyData} (h : Fines ds) : Fine (.list ds) := ⟨h.1, h.2.1, h.2.2⟩
theorem fine_str {y : Str} (h : PyData.canLay0 (.str y) = true) : Fine (.str y) := ⟨h, rfl, rfl⟩
theorem fine_bl (b : Bool) : Fine (.bool b) := ⟨rfl, rfl, rfl⟩
theorem fine_sh {n : Nat} {d : PyData} (h : Sh n d) : Fine d := by
  induction h with
  | nm h => exact fine_str (word_str h).1
  | nd h1 h2 h3 ih => exact fine_tup (fines_cons (fine_str (word_str (word_fine h1).1).1) (fines_of ih))
theorem fine_rp {d : PyData} (h : Fine d) (h3 : d.depth ≤ 60) (h4 : d.weight ≤ 1000000) : Rp d := rp_lay h.1 h.2.1 h3 h4 h.2.2
/-! ### a plan's text as data -/
def signOk (c : Nat) : Prop := c < 0x110000
theorem lay_str {y : Str} (h : ∀ c ∈ y.cps.toList, signOk c) : PyData.canLay0 (.str y) = true := by
  show y.cps.all (· < 0x110000) = true
  rw [← Array.all_toList, List.all_eq_true]
  exact fun c hc => decide_eq_true (show c < 0x110000 from h c hc)
theorem signs_of {y : Str} (h : PyData.canLay0 (.str y) = true) : ∀ c ∈ y.cps.toList, signOk c := by
  have h : y.cps.all (· < 0x110000) = true := h
  rw [← Array.all_toList, List.all_eq_true] at h
  exact fun c hc => (of_decide_eq_true (h c hc) : c < 0x110000)
theorem txt_signs {n : Nat} {b : Bool} {d : PyData} (h : Rt n b d) : ∀ c ∈ (txt n d).cps.toList, signOk c := by
  induction h with
  | nm h => rw [txt_nm]; exact signs_of (word_str h).1
  | @nd n b y ds h1 h2 h3 ih =>
    show ∀ c ∈ (y ++ (Str.ofString "(") ++ Txt.join (Str.ofString ", ") (ds.map (txt n)) ++ (Str.ofString ")")).cps.toList, _
    rw [app_tl, app_tl, app_tl, join_cps, List.map_map]
    have s1 : ∀ c ∈ (Str.ofString "(").cps.toList, signOk c := (by decide +kernel : ∀ c ∈ (Str.ofString "(").cps.toList, c < 0x110000)
    have s2 : ∀ c ∈ (Str.ofString ")").cps.toList, signOk c := (by decide +kernel : ∀ c ∈ (Str.ofString ")").cps.toList, c < 0x110000)
    have s3 : ∀ c ∈ (Str.ofString ", ").cps.toList, signOk c := (by decide +kernel : ∀ c ∈ (Str.ofString ", ").cps.toList, c < 0x110000)
    have jn : ∀ (s : List Nat) (ys : List (List Nat)), (∀ c ∈ s, signOk c) → (∀ y ∈ ys, ∀ c ∈ y, signOk c) → ∀ c ∈ TL.joinL s ys, signOk c := by
      intro s ys hs
      induction ys with
      | nil => intro _ c hc; cases hc
      | cons p r ihr =>
        intro hy c hc
        cases r with
        | nil => exact hy p List.mem_cons_self c hc
        | cons q r =>
          have hc : c ∈ p ++ (s ++ TL.joinL s (q :: r)) := hc
          rcases List.mem_append.mp hc with z | z
          · exact hy p List.mem_cons_self c z
          · rcases List.mem_append.mp z with z | z
            · exact hs c z
            · exact ihr (fun y hy' => hy y (List.mem_cons_of_mem _ hy')) c z
    intro c hc
    rcases List.mem_append.mp hc with z | z
    · rcases List.mem_append.mp z with z | z
      · rcases List.mem_append.mp z with z | z
        · exact signs_of (word_str (word_fine h1).1).1 c z
        · exact s1 c z
      · refine jn _ _ s3 (fun y hy => ?_) c z
        obtain ⟨d, hd, rfl⟩ := List.mem_map.mp hy
        exact ih d hd
    · exact s2 c z
end Fp4
set_option Elab.async false
set_option linter.all false
set_option maxRecDepth 100000
set_option maxHeartbeats 2000000
/-! k24: the law -/
namespace Fp4
open PySem PySem.Spec PyProof.Rows L2 Fh Fs
open PySem.W (Frag)
abbrev sLaw : Stmt := top 34
abbrev NL : List Str := ["_law_script", "_law_pen_here", "_law_again", "_law_plan_here", "_law_line", "_law_once", "_law_bent_here", "_law_told"]
structure TxtQ (mg : Str → Option Value) : Prop where
  range : mg "range" = none
  min : mg "min" = none
  repr : mg "repr" = none
structure Defs (K : Frag) (mg : Str → Option Value) (oP oD oQ oW oL oX oR oB oI oT oY : Addr) (eP eD eQ eW eL eX eR eB eI eT eY : FuncData) : Prop where
  dP : Fun K "_law_pen" "_law_pen" sPen oP eP
  dD : Fun K "_law_draw" "_law_draw" sDraw oD eD
  dQ : Fun K "_law_pick" "_law_pick" sPick oQ eQ
  dW : Fun K "_law_words" "_law_words" sWds oW eW
  dL : Fun K "_law_plan" "_law_plan" sPl oL eL
  dX : Fun K "_law_text" "_law_text" sTx oX eX
  dR : Fun K "_law_read" "_law_read" sLrd oR eR
  dB : Fun K "_law_bent" "_law_bent" sBe oB eB
  dI : Fun K "is_plan" "is_plan" sIsP oI eI
  dT : Fun K "plan_text" "plan_text" sPt oT eT
  dY : Fun K "text_of" "text_of" sTo oY eY
  gP : mg "_law_pen" = some (.ref oP)
  gD : mg "_law_draw" = some (.ref oD)
  gQ : mg "_law_pick" = some (.ref oQ)
  gW : mg "_law_words" = some (.ref oW)
  gL : mg "_law_plan" = some (.ref oL)
  gX : mg "_law_text" = some (.ref oX)
  gR : mg "_law_read" = some (.ref oR)
  gB : mg "_law_bent" = some (.ref oB)
  gI : mg "is_plan" = some (.ref oI)
  gT : mg "plan_text" = some (.ref oT)
  gY : mg "text_of" = some (.ref oY)
theorem w7_word {y : Str} (h : W7 y) : wordB y = true := by
  obtain ⟨h1, h2, h3⟩ := h
  have e : (sgB y).all id = true := List.all_eq_true.mpr fun b hb => by
    obtain ⟨c, hc, rfl⟩ := List.mem_map.mp hb
    exact decide_eq_true (h1 c hc)
  show (decide (1 ≤ y.length) && (decide (y.length ≤ 8) && (sgB y).all id)) = true
  rw [decide_eq_true h2, decide_eq_true (show y.length ≤ 8 by omega), e]
  rfl
theorem txt_is {n : Nat} {d : PyData} {z : Str} (h : pl n d = tlS z) : txt n d = z := by
  exact (str_of_list (z := txt n d) h).trans (str_of_list (z := z) rfl).symm
theorem neS {x : Str} : V.bl (!decide (V.str x = V.str x)) = V.bl false := by rw [decide_eq_true rfl]; rfl
section
variable {P : Program} {w : World} {K : Frag} {mg : Str → Option Value} {base : Heap} {aF aM aD CE aE CP fP aC aA aW aI aH : Addr} {fC fA fW fI fH : FuncData}
  {rE rN rS rR rP : Addr} {qE qN qS qR qP : FuncData} {oP oD oQ oW oL oX oR oB oI oT oY : Addr} {eP eD eQ eW eL eX eR eB eI eT eY : FuncData}
def spLaw (K : Frag) : Sp := fun vs H Q _ => ∃ (a : Addr) (ns : List Int), vs = [.ref a] ∧ SqL K H a (ns.map V.int) ∧ ns.length ≤ 63 ∧ ∀ H', Q (.bl true) H'
theorem scLaw : FnScope NL ["_law_script"] (defScope sLaw) := ⟨rfl, rfl, rfl, by decide +kernel, rfl, by decide +kernel, by decide +kernel⟩
set_option maxHeartbeats 0 in
theorem ok_law {f : Addr} {fd : FuncData} (F : Fun K "law" "law" sLaw f fd) (C : CkG K mg w aF aM aD CE aE CP fP aC aA aW aI aH fC fA fW fI fH) (R : Rdr K mg w aF aM aD CE aE aI aH rE rN rS rR rP fI fH qE qN qS qR qP)
    (Z : Defs K mg oP oD oQ oW oL oX oR oB oI oT oY eP eD eQ eW eL eX eR eB eI eT eY) (TP : TxtP mg) (TQ : TxtQ mg) (te : PySem.W.exmOne K (.ref CP) (.ref CP) = some true) (tt : PySem.W.exmOne K (.ref CE) (.ref CE) = some true) (nk : NoneK K)
    (hS : (K.lookup sysModules).isSome = true) : FnG P w K mg base CX0 110 f fd ["_law_script"] (spLaw K) := by
  have GP : FnOk P w K mg base CX0 1 oP eP ["_law_script"] (spPen K) := ok_pen Z.dP TP
  have GD : FnOk P w K mg base CX0 1 oD eD ["_law_pen_here", "_law_number"] spDraw := ok_draw Z.dD TP
  have GW : FnOk P w K mg base CX0 3 oW eW ["_law_pen_here", "_law_number"] spWords := ok_words Z.dW Z.dQ Z.dD TP TQ.range Z.gQ Z.gD
  have GL : FnOk P w K mg base CX0 8 oL eL AP (spPl 4) := ok_pl Z.dL Z.dQ Z.dD TP TQ.range C.TK.tuple Z.gQ Z.gD Z.gL 4
  have GX := ok_tx (P := P) (w := w) (base := base) Z.dX C.T.isinstance C.T.str Z.gX 5
  have GR : FnOk P w K mg base CX0 105 oR eR ["_law_line"] (spLrd K 50) := ok_lrd Z.dR R tt 50
  have GB : FnOk P w K mg base CX0 3 oB eB ["_law_pen_here", "_law_line"] spBe := ok_be Z.dB Z.dQ Z.dD TP Z.gQ Z.gD nk
  have GI : FnOk P w K mg base CX0 55 oI eI ["value"] (spIsP K 51) := ok_isp Z.dI C te 51
  have GT : FnOk P w K mg base CX0 54 oT eT ["plan"] (spTo K 50) := ok_pt Z.dT Z.dY C.T.isinstance C.TK.tuple Z.gY 50
  have bP : Binds K eP ["_law_script"] [] := Z.dP.binds (ps := ["_law_script"]) fun _ _ _ _ _ _ us hl => match us, hl with | [_], _ => rfl
  have bD : Binds K eD ["_law_pen_here", "_law_number"] [] := Z.dD.binds (ps := ["_law_pen_here", "_law_number"]) fun _ _ _ _ _ _ us hl => match us, hl with | [_, _], _ => rfl
  have bW : Binds K eW ["_law_pen_here", "_law_number"] [] := Z.dW.binds (ps := ["_law_pen_here", "_law_number"]) fun _ _ _ _ _ _ us hl => match us, hl with | [_, _], _ => rfl
  have bL : Binds K eL AP [] := Z.dL.binds (ps := AP) fun _ _ _ _ _ _ us hl => match us, hl with | [_, _, _, _, _], _ => rfl
  have bX : Binds K eX ["_law_plan_here"] [] := Z.dX.binds (ps := ["_law_plan_here"]) fun _ _ _ _ _ _ us hl => match us, hl with | [_], _ => rfl
  have bR : Binds K eR ["_law_line"] [] := Z.dR.binds (ps := ["_law_line"]) fun _ _ _ _ _ _ us hl => match us, hl with | [_], _ => rfl
  have bB : Binds K eB ["_law_pen_here", "_law_line"] [] := Z.dB.binds (ps := ["_law_pen_here", "_law_line"]) fun _ _ _ _ _ _ us hl => match us, hl with | [_, _], _ => rfl
  have bI : Binds K eI ["value"] [] := Z.dI.binds (ps := ["value"]) fun _ _ _ _ _ _ us hl => match us, hl with | [_], _ => rfl
  have bT : Binds K eT ["plan"] [] := Z.dT.binds (ps := ["plan"]) fun _ _ _ _ _ _ us hl => match us, hl with | [_], _ => rfl
  refine FunG_ok F scLaw (fun vs H Q E h => ?_) (fun cdv Ar outer s H vs Q E hG hr h => ?_)
  · obtain ⟨a, ns, rfl, _⟩ := h
    rfl
  · obtain ⟨sc, ns, rfl, hL, hn, k⟩ := h
    have gd : (Ar.deeper (envOfC "law" (defScope sLaw) s.heap.objs.size f cdv)).guards = some [] := (guards_deeper _ _).trans hG
    have hu := hr.units
    have hr1' : Room 1 _ := hr.mono (by decide)
    have hu1 : _ < cLine := Nat.lt_of_succ_lt (hu_of hr1')
    have hr1 : Room 1 _ := hr.mono (by decide)
    have hr3 : Room 3 _ := hr.mono (by decide)
    have hr8 : Room 8 _ := hr.mono (by decide)
    have hr54 : Room 54 _ := hr.mono (by decide)
    have hr55 : Room 55 _ := hr.mono (by decide)
    have hr105 : Room 105 _ := hr.mono (by decide)
    refine' ⟨_, PSs.nox (pss_cons ?s0 (pss_cons (ps_for PassesOwn.never rfl ?r0 (pg_name (i := 2) scLaw.nd rfl (Or.inl rfl))
      (pss_cons ?a1 (pss_cons ?a2 (pss_cons ?a3 (pss_one (ps_for PassesOwn.never rfl ?r4 (pg_name (i := 5) scLaw.nd rfl (Or.inl rfl)) (pss_cons ?a4 (pss_cons ?a5 (pss_one ?a6))))))))) (pss_one (ps_ret pe_bl)))), ?q⟩
    case s0 => exact ps_set (i := 1) scLaw.nd rfl (Or.inl rfl) (pe_call GP hr1 rfl Z.gP Z.dP.kp bP .nil pass0 (pa_cons (pv 0) pa_nil))
    case r0 => exact pi_range1 rfl TQ.range (pa_cons (pe_op op_add pe_int (pe_callB (call_min2 rfl) (by rfl) TQ.min (by decide +kernel) (pa_cons pe_int (pa_cons (pe_callB call_len_seq (by rfl) TP.len PySem.boot_len (pa_cons (pv 0) pa_nil)) pa_nil)))) pa_nil)
    case a1 =>
      refine' ps_set (i := 3) scLaw.nd rfl (Or.inl rfl) (pe_call GL hr8 rfl Z.gL Z.dL.kp bL .nil pass0 (pa_cons (pv 1) (pa_cons (pe_op op_cat ?a (pe_lst (pa_cons pe_str (pa_cons pe_str pa_nil)))) (pa_cons (pe_lst (pa_cons pe_int pa_nil)) (pa_cons pe_int (pa_cons pe_bl pa_nil))))))
      case a => exact pe_call GW hr3 rfl Z.gW Z.dW.kp bW .nil pass0 (pa_cons (pv 1) (pa_cons pe_int pa_nil))
    case a2 => exact ps_set (i := 4) scLaw.nd rfl (Or.inl rfl) (pe_call GX (hr.mono (by decide)) rfl Z.gX Z.dX.kp bX .nil pass0 (pa_cons (pv 3) pa_nil))
    case a3 =>
      refine' ps_if (pt_cmpR op_ne ?a ?b (nomark _)) (pss_one (ps_ret pe_bl)) pss_nil
      case a => exact pe_callB (call_reprB hS gd hu) (by rfl) TQ.repr (by decide +kernel) (pa_cons (pe_call GR hr105 rfl Z.gR Z.dR.kp bR .nil pass0 (pa_cons (pv 4) pa_nil)) pa_nil)
      case b => exact pe_callB (call_reprB hS gd hu) (by rfl) TQ.repr (by decide +kernel) (pa_cons (pe_lst (pa_cons (pv 3) pa_nil)) pa_nil)
    case r4 => exact pi_range1 rfl TQ.range (pa_cons pe_int pa_nil)
    case a4 =>
      refine' ps_set (i := 6) scLaw.nd rfl (Or.inl rfl) (pe_call GB hr3 rfl Z.gB Z.dB.kp bB .nil pass0 (pa_cons (pv 1) (pa_cons (pe_ifExp (pt_cmpR op_eq ?a pe_int (nomark _)) (pv 4) ?b) pa_nil)))
      case a => exact pe_call GD hr1 rfl Z.gD Z.dD.kp bD .nil pass0 (pa_cons (pv 1) (pa_cons pe_int pa_nil))
      case b => exact pe_call GB hr3 rfl Z.gB Z.dB.kp bB .nil pass0 (pa_cons (pv 1) (pa_cons (pv 4) pa_nil))
    case a5 => exact ps_set (i := 7) scLaw.nd rfl (Or.inl rfl) (pe_call GR hr105 rfl Z.gR Z.dR.kp bR .nil pass0 (pa_cons (pv 6) pa_nil))
    case a6 =>
      refine' ps_if (PW.pt (pw_or (pt_cmpR op_gt ?a pe_int (nomark _)) (pw_or1 (PW.pt (pw_and (pt_cmpR (op_neE hu1) (pv 7) (pe_lst pa_nil) (nomark _)) (pw_and1 (PW.pt (pw_or (pt_cmpR op_ne ?b (pv 6) (nomark _)) (pw_or1 (pt_not (pt_val ?c))))))))))) (pss_one (ps_ret pe_bl)) pss_nil
      case a => exact pe_callB call_len_seq (by rfl) TP.len PySem.boot_len (pa_cons (pv 7) pa_nil)
      case b => exact pe_call GT hr54 rfl Z.gT Z.dT.kp bT .nil pass0 (pa_cons (pe_ix ix_list (pv 7) pe_int (fun _ _ => rfl)) pa_nil)
      case c => exact pe_call GI hr55 rfl Z.gI Z.dI.kp bI .nil pass0 (pa_cons (pe_ix ix_list (pv 7) pe_int (fun _ _ => rfl)) pa_nil)
    case q =>
      have ssz : sizeLine = 16777216 := sizeLine_eq
      refine ⟨_, rfl, sc, ns, rfl, hL, hn, fun p c H1 s1 np hP => ?_⟩
      obtain ⟨M, hM, hM2⟩ : ∃ N : Nat, (4 + (if ((ns.map V.int).length : Int) < 4 then ((ns.map V.int).length : Int) else 4) : Int) = (N : Int) ∧ N ≤ 8 := by
        refine ⟨(4 + (if ((ns.map V.int).length : Int) < 4 then ((ns.map V.int).length : Int) else 4) : Int).toNat, ?_, ?_⟩
        · split <;> omega
        · split <;> omega
      refine ⟨_, rfl, sc, _, rfl, Or.inl (s1.seq hL), 4, _, rfl, 4, _, rfl, rfl, (M : Int), congrArg (fun z => [V.int z]) hM, by omega, by omega, for_range (lo := 0) (n := M)
        (fun i σ H2 => ∃ x2 x3 x4 x5 x6 x7, σ = [some (V.ref sc), some (.ref p), x2, x3, x4, x5, x6, x7] ∧ PenAt H2 p c (2000 * i)) ⟨none, none, none, none, none, none, rfl, hP⟩ ?_ ?_⟩
      · rintro i σ H2 hi ⟨x2, x3, x4, x5, x6, x7, rfl, hP2⟩
        refine gName_go ?_
        with_reducible conv => whnf
        -- the plan
        refine seq_cutS (fun σ Hc => ∃ v d lr ns', σ = [some (V.ref sc), some (.ref p), some (.int (0 + (i : Int))), some v, x4, x5, x6, x7] ∧ PenAt Hc p c (2000 * i + 777) ∧ DA (PR p lr) Hc v d ∧ Good ns' 5 false d ∧ ∀ y ∈ ns', wordB y = true) ?_ ?_
        · intro NX rr
          refine ⟨_, rfl, _, rfl, p, c, 2000 * i, 3, rfl, hP2, by omega, by decide, fun l xs H3 lx gx P3 B3 nl hl => ?_⟩
          refine ⟨(show 2 ≤ sizeLine by decide), fun l2 n2 => ?_⟩
          have sl2 : Same H3 (upd H3 l2 (.lst [.str (Str.ofString "then"), .str (Str.ofString "any")])) := Same.new n2
          have gl2 : (upd H3 l2 (.lst [.str (Str.ofString "then"), .str (Str.ofString "any")])) l2 = some (.lst [.str (Str.ofString "then"), .str (Str.ofString "any")]) := upd_same
          generalize upd H3 l2 (.lst [.str (Str.ofString "then"), .str (Str.ofString "any")]) = H4 at sl2 gl2 ⊢
          refine ⟨l, l2, _, _, rfl, rfl, sl2 _ _ hl, gl2, ?_, fun l3 n3 => ?_⟩
          · rw [List.length_map, lx]
            show 3 + 2 ≤ sizeLine
            decide
          have em : xs.map V.str ++ [V.str (Str.ofString "then"), .str (Str.ofString "any")] = (xs ++ [Str.ofString "then", Str.ofString "any"]).map V.str := by rw [List.map_append]; rfl
          have P4 := P3.same sl2 (Nat.le_refl _)
          have ap3 := pen_apart P4 (Same.refl _) n3
          have s3 : Same H4 (upd H4 l3 (.lst (xs.map V.str ++ [V.str (Str.ofString "then"), .str (Str.ofString "any")]))) := Same.new n3
          have g3 : (upd H4 l3 (.lst (xs.map V.str ++ [V.str (Str.ofString "then"), .str (Str.ofString "any")]))) l3 = some (.lst ((xs ++ [Str.ofString "then", Str.ofString "any"]).map V.str)) := by rw [← em]; exact upd_same
          generalize upd H4 l3 (.lst (xs.map V.str ++ [V.str (Str.ofString "then"), .str (Str.ofString "any")])) = H5 at s3 g3 ⊢
          have P5 := P4.same s3 (Nat.le_refl _)
          refine ⟨(show 1 ≤ sizeLine by decide), fun lr nlr => ?_⟩
          have ap4 := pen_apart P5 (Same.refl _) nlr
          have lrn : lr ≠ l3 := ne_new g3 nlr
          have B4 : Bd 4 = 767 := by decide
          have lx2 : (xs ++ [Str.ofString "then", Str.ofString "any"]).length = 5 := by rw [List.length_append, lx]; rfl
          have hnw : ∀ y ∈ xs ++ [Str.ofString "then", Str.ofString "any"], wordB y = true := fun y hy => by
            rcases List.mem_append.mp hy with z | z
            · exact w7_word (gx y z)
            · rcases List.mem_cons.mp z with z | z
              · rw [z]; decide +kernel
              · rw [List.mem_singleton.mp z]; decide +kernel
          refine ⟨p, c, l3, lr, 2000 * i + 10, xs ++ [Str.ofString "then", Str.ofString "any"], 7, false, rfl, P5.same (Same.new nlr) (Nat.le_refl _), by omega, Same.new nlr _ _ g3, by omega, by omega, upd_same, ap3.1, Ne.symm lrn, ap4.1, ap4.2, fun x d m' H6 P6 o6 r6 da gd tk => gName_go ?_⟩
          exact rr _ _ ⟨x, d, lr, _, rfl, P6.same (Same.refl _) (by omega), da, gd, hnw⟩
        rintro σ Hc ⟨v, d, lr, ns', rfl, Pc, da, good, hw⟩
        clear hP2
        have rt := good_rt hw good
        have sh := good_sh hw good
        have wd := good_w hw good
        have eW : Wb 5 = 11943 := by decide
        have w8 : ∀ y ∈ ns', y.length ≤ 8 := fun y hy => (word_str (hw y hy)).2
        have tl := txt_len w8 good
        have eT : Tl 5 = 14330 := by decide
        have hv : Pl K Hc v d := good_pl good da
        have rp : Rp (.list [d]) := by
          have w1 : PyData.weight (.list [d]) = d.weight + 1 := by simp only [PyData.weight, PyData.weightAll]
          have d1 := sh.lay.2
          refine fine_rp (fine_lst (fines_cons (fine_sh sh) fines_nil)) ?_ (by omega)
          simp only [PyData.depth, PyData.depthAll]
          omega
        -- its text
        refine seq_cutS (fun σ Hd => σ = [some (V.ref sc), some (.ref p), some (.int (0 + (i : Int))), some v, some (.str (txt 5 d)), x5, x6, x7] ∧ Same Hc Hd) ?_ ?_
        · intro NX rr
          exact ⟨_, rfl, v, PR p lr, d, ns', false, rfl, da, good, w8, by decide, fun Hd sd => gName_go (rr _ _ ⟨rfl, sd⟩)⟩
        rintro σ Hd ⟨rfl, sd⟩
        replace hv := hv.same sd
        replace Pc := Pc.same sd (Nat.le_refl _)
        clear da sd
        have wz : wn (tlS (txt 5 d)) ≤ 5 := wn_pl rt
        generalize ez : txt 5 d = z at *
        have rw50 : readF 50 z.cps.toList = some (.plan d) := by rw [← ez]; exact read_whole rt (by decide)
        -- it is read
        refine seq_cutS (fun σ He => σ = [some (V.ref sc), some (.ref p), some (.int (0 + (i : Int))), some v, some (.str z), x5, x6, x7] ∧ Same Hd He) ?_ ?_
        · intro NX rr
          refine ⟨_, rfl, z, .plan d, rfl, by omega, rw50, fun d' e l x Ha sa nl gl hx => ?_, fun j e => nomatch e⟩
          cases e
          refine ⟨.ref l, .list [d], rfl, .lst gl (.cons hx.db .nil), rp, ?_⟩
          generalize efo : (PyData.list [d]).shown = fo
          refine ⟨_, rfl, (show 1 ≤ sizeLine by decide), fun l2 n2 => ?_⟩
          refine ⟨.ref l2, .list [d], rfl, .lst upd_same (.cons ((hv.same sa).same (Same.new n2)).db .nil), rp, ?_⟩
          rw [efo]
          exact ⟨rfl, _, rfl, iteNS rfl (rr _ _ ⟨rfl, sa.trans (Same.new n2)⟩)⟩
        rintro σ He ⟨rfl, se⟩
        replace Pc := Pc.same se (Nat.le_refl _)
        clear hv se
        refine ⟨(12 : Int), rfl, by decide, by decide, for_range (lo := 0) (n := 12)
          (fun j σ Hf => ∃ x5 x6 x7, σ = [some (V.ref sc), some (.ref p), some (.int (0 + (i : Int))), some v, some (.str z), x5, x6, x7] ∧ PenAt Hf p c (2000 * i + 777 + 11 * j)) ⟨x5, x6, x7, rfl, Pc⟩ ?_ ?_⟩
        · rintro j σ Hf hj ⟨y5, y6, y7, rfl, Pf⟩
          refine gName_go ?_
          with_reducible conv => whnf
          -- it is bent
          refine seq_cutS (fun σ Hg => ∃ z', σ = [some (V.ref sc), some (.ref p), some (.int (0 + (i : Int))), some v, some (.str z), some (.int (0 + (j : Int))), some (.str z'), y7] ∧ PenAt Hg p c (2000 * i + 777 + 11 * j + 11) ∧ wn (tlS z') ≤ 49 ∧ z'.length ≤ 1000000) ?_ ?_
          · intro NX rr
            refine ⟨_, rfl, _, rfl, p, c, _, 2, rfl, Pf, by omega, by decide, by decide, fun kk Ha k0 k1 Pa Ba => ?_⟩
            refine ⟨rfl, decide (kk = 0), congrArg V.bl (eq_int _ _), ?_⟩
            by_cases y0 : kk = 0
            · rw [decide_eq_true y0]
              refine iteT ⟨_, rfl, p, c, _, z, rfl, Pa, by omega, by omega, fun z' Hb bt Pb Bb => gName_go (rr _ _ ⟨z', rfl, Pb.same (Same.refl _) (by omega), ?_, ?_⟩)⟩
              · have := bt.1; omega
              · have := bt.2; omega
            · rw [decide_eq_false y0]
              refine iteF ⟨_, rfl, _, rfl, p, c, _, z, rfl, Pa, by omega, by omega, fun z1 Hb bt1 Pb Bb => ?_⟩
              have q1 := bt1.1
              have q2 := bt1.2
              refine ⟨p, c, _, z1, rfl, Pb, by omega, by omega, fun z' Hc' bt Pc' Bc => gName_go (rr _ _ ⟨z', rfl, Pc'.same (Same.refl _) (by omega), ?_, ?_⟩)⟩
              · have := bt.1; omega
              · have := bt.2; omega
          rintro σ Hg ⟨z', rfl, Pg, wz', lz'⟩
          clear Pf
          have sz' : z'.length ≤ sizeLine := by rw [ssz]; omega
          have lt' : z'.cps.toList.length = z'.length := Array.length_toList
          rcases read_tells (m := 50) (t := z'.cps.toList) (Nat.lt_of_le_of_lt (mx_le_wn _) (Nat.lt_succ_of_le wz')) with ⟨d', er, rt', ep⟩ | ⟨ix, er, li⟩
          · refine ⟨_, rfl, z', .plan d', rfl, lz', er, fun d2 e l x Ha sa nl gl hx => ?_, fun q e => nomatch e⟩
            cases e
            refine gName_go ?_
            with_reducible conv => whnf
            have et : txt 50 d' = z' := txt_is ep
            refine ⟨_, rfl, l, [x], rfl, Or.inl (SqL.of gl), _, _, rfl, rfl, false, rfl, ?_⟩
            refine iteF ⟨_, rfl, (show 0 ≤ sizeLine by decide), fun e ne => ?_⟩
            have s1' : Same Ha (upd Ha e (.lst [])) := Same.new ne
            have g1 := s1' _ _ gl
            have h1 := hx.same s1'
            have g2 : (upd Ha e (.lst [])) e = some (.lst []) := upd_same
            generalize upd Ha e (.lst []) = Hb at s1' g1 h1 g2 ⊢
            refine ⟨l, e, [x], rfl, rfl, SqL.of g1, SqL.of g2, true, rfl, ?_⟩
            have a0 : atI [x] (0 : Int) = some x := atI_nat (j := 0) rfl
            refine iteT ⟨_, rfl, l, [x], 0, x, rfl, rfl, SqL.of g1, a0, x, d', false, rfl, h1, rt', (by rw [et]; exact lz'), fun Hc' sc' => ?_⟩
            rw [et]
            refine ⟨_, rfl, rfl, false, neS, iteF ?_⟩
            have h2 := h1.same sc'
            refine ⟨_, rfl, l, [x], 0, x, rfl, rfl, SqL.of (sc' _ _ g1), a0, x, d', none, rfl, h2.gd rt'.short, rt_chk rt', fun Hd' sd' => ?_⟩
            refine ⟨true, rfl, iteF ?_⟩
            exact ⟨_, _, _, rfl, Pg.same ((sa.trans s1').trans (sc'.trans sd')) (by omega)⟩
          · refine ⟨_, rfl, z', .at_ ix, rfl, lz', er, (fun d2 e => nomatch e), fun q e => ?_⟩
            cases e
            refine ⟨by omega, fun l Ha sa nl gl => ?_⟩
            refine gName_go ?_
            with_reducible conv => whnf
            refine ⟨_, rfl, l, [], rfl, Or.inl (SqL.of gl), _, _, rfl, rfl, false, rfl, ?_⟩
            refine iteF ⟨_, rfl, (show 0 ≤ sizeLine by decide), fun e ne => ?_⟩
            have s1' : Same Ha (upd Ha e (.lst [])) := Same.new ne
            refine ⟨l, e, [], rfl, rfl, SqL.of (s1' _ _ gl), SqL.of upd_same, false, rfl, iteF ?_⟩
            exact ⟨_, _, _, rfl, Pg.same (sa.trans s1') (by omega)⟩
        · rintro σ Hf ⟨y5, y6, y7, rfl, Pf⟩
          exact ⟨_, _, _, _, _, _, rfl, Pf.same (Same.refl _) (by omega)⟩
      · rintro σ H2 ⟨x2, x3, x4, x5, x6, x7, rfl, _⟩
        exact k _
end
end Fp4
set_option Elab.async false
set_option linter.all false
set_option maxRecDepth 100000
set_option maxHeartbeats 4000000
/-! FyD: a head by facts with classes, getters and tables with text keys; a table of ints told at every text -/
namespace FhY
open PySem PySem.Spec PyProof.Rows L2 Fh
open PySem.W (Frag)
/-- a world whose reading of a special method's getter is told apart: a dict's display at the top asks for it -/
def ftW (w : World) (b : Bool) : World := { w with params := { w.params with followText := fun r => if r = "special-get-raises" then b else w.params.followText r } }
theorem split_ft (w : World) : w = ftW w (w.params.followText "special-get-raises") := by
  obtain ⟨dr, p⟩ := w
  obtain ⟨_, _, _, _, _, ft, _, _, _, _, _, _, _, _, _, _, _, _, _, _, _, _, _, _, _⟩ := p
  unfold ftW
  simp only [World.mk.injEq, Params.mk.injEq, true_and, and_true]
  funext r
  by_cases h : r = "special-get-raises"
  · rw [if_pos h, h]
  · rw [if_neg h]
abbrev AlYT : Type := AlY × List (Option (List (Option (Str × Int))))
def obsKT (fa : List He.Fa) (fn : List He.DefD) (gs : List GDef) (ts : List He.Tab) (ex : Frag → Bool) (K : Frag) : AlYT := (obsK fa fn gs ex K, ts.map fun t => He.dicW K (t.1 K))
def valYT (fn : List He.DefD) (gs : List GDef) (ts : List He.Tab) (w : World) : AlYT := (valY fn gs, ts.map fun t => some (He.keysIn w.params t.2))
def obsYT (n : Nat) (fa : List He.Fa) (fn : List He.DefD) (gs : List GDef) (ts : List He.Tab) (ex : Frag → Bool) (g : Addr → Option Obj) : AlYT := obsKT fa fn gs ts ex (He.frT g (asY n g))
def hookYT (n : Nat) (fa : List He.Fa) (fn : List He.DefD) (gs : List GDef) (ts : List He.Tab) (ex : Frag → Bool) : PySem.W.Hook where
  α := AlYT
  obs := fun s => obsYT n fa fn gs ts ex s.heap.get?
  val := fun w => valYT fn gs ts w
  says := fun w h => ∃ K : Frag, K.In h ∧ obsKT fa fn gs ts ex K = valYT fn gs ts w
  of := fun _ _ e => ⟨_, He.frT_in, e⟩
  keeps := fun _ _ _ ⟨K, hK, c⟩ k => ⟨K, PySem.W.Frag.In.keeps hK k, c⟩
theorem obsYT_eq {n : Nat} {fa : List He.Fa} {fn : List He.DefD} {gs : List GDef} {ts : List He.Tab} {ex : Frag → Bool} {g : Addr → Option Obj} {s : Shared} (h : ∀ a, g a = s.heap.get? a) : obsYT n fa fn gs ts ex g = (hookYT n fa fn gs ts ex).obs s := by
  have e : g = s.heap.get? := funext h
  rw [e] <;> rfl
section
variable {fa : List He.Fa} {fn : List He.DefD} {gs : List GDef} {ts : List He.Tab} {ex : Frag → Bool} {K : Frag} {w : World}
theorem saysT_y (c : obsKT fa fn gs ts ex K = valYT fn gs ts w) : obsK fa fn gs ex K = valY fn gs := congrArg (fun z : AlYT => z.1) c
theorem saysT_tab (c : obsKT fa fn gs ts ex K = valYT fn gs ts w) (i : Nat) {t : He.Tab} (h : ts[i]? = some t := by rfl) : ∃ es n, KDict K w (t.1 K) es n := by
  have e : ts.map (fun t => He.dicW K (t.1 K)) = ts.map fun t => some (He.keysIn w.params t.2) := congrArg (fun z : AlYT => z.2) c
  have e2 : (ts.map fun t => He.dicW K (t.1 K))[i]? = (ts.map fun t => some (He.keysIn w.params t.2))[i]? := by rw [e]
  rw [List.getElem?_map, List.getElem?_map, h] at e2
  exact He.dicW_ok (Option.some.inj e2)
end
/-! ### a table of ints, at every text -/
def intEnt (e : DictEntry) : Option (Str × Int) := match e.key, e.val with
  | .str x _, .int i _ => some (x, i)
  | _, _ => none
def tabI (K : Frag) (a : Addr) (kvs : List (Str × Int)) : Bool := match K.lookup a with
  | some ⟨_, _, .dict es _, _⟩ => decide (es.toList.map intEnt = kvs.map some)
  | _ => false
def lookI (kvs : List (Str × Int)) (z : Str) : Option Int := (kvs.find? fun q => q.1 == z).map (·.2)
theorem intEnt_some {e : DictEntry} {q : Str × Int} (h : intEnt e = some q) : (∃ t, e.key = .str q.1 t) ∧ ∃ t, e.val = .int q.2 t := by
  unfold intEnt at h
  split at h
  · rename_i x tx i ti hk hv
    have h2 := Option.some.inj h
    subst h2
    exact ⟨⟨tx, hk⟩, ti, hv⟩
  · cases h
theorem find_ent (z : Str) : ∀ {l : List DictEntry} {kvs : List (Str × Int)}, l.map intEnt = kvs.map some →
    (l.any (·.refKey) = false) ∧ (match l.find? (·.key.isStr z) with
      | some e => ∃ i t, lookI kvs z = some i ∧ e.val = .int i t
      | none => lookI kvs z = none)
  | [], [], _ => ⟨rfl, rfl⟩
  | [], _ :: _, h => by cases h
  | _ :: _, [], h => by cases h
  | e :: r, q :: kvs, h => by
    have h1 : intEnt e :: r.map intEnt = some q :: kvs.map some := h
    injection h1 with h2 h3
    obtain ⟨⟨t, hk⟩, u, hv⟩ := intEnt_some h2
    obtain ⟨i1, i2⟩ := find_ent z h3
    have er : e.refKey = false := by
      unfold DictEntry.refKey
      rw [hk]
    have es : e.key.isStr z = (q.1 == z) := by
      rw [hk]
      rfl
    refine ⟨by rw [List.any_cons, er, i1]; rfl, ?_⟩
    have el : lookI (q :: kvs) z = if (q.1 == z) = true then some q.2 else lookI kvs z := by
      unfold lookI
      rw [List.find?_cons]
      cases q.1 == z <;> rfl
    rw [List.find?_cons, es, el]
    cases hq : q.1 == z with
    | true => exact ⟨q.2, u, rfl, hv⟩
    | false => exact i2
theorem tabI_ok {K : Frag} {a : Addr} {kvs : List (Str × Int)} (h : tabI K a kvs = true) (z : Str) : ∃ r, PySem.W.nsIn K a z = some r ∧ match lookI kvs z with
    | none => r = none
    | some i => ∃ t, r = some (.int i t) := by
  unfold tabI at h
  unfold PySem.W.nsIn
  split at h
  · rename_i es n sl e
    rw [e]
    have h2 := of_decide_eq_true h
    obtain ⟨i1, i2⟩ := find_ent z h2
    cases hf : es.toList.find? (·.key.isStr z) with
    | none =>
      rw [hf] at i2
      have i3 : lookI kvs z = none := i2
      rw [i3]
      refine ⟨none, ?_, rfl⟩
      show (match es.toList.find? (·.key.isStr z) with | some e => some (some e.val) | none => if es.toList.any (·.refKey) then none else some none) = some none
      rw [hf, i1]
      rfl
    | some e =>
      rw [hf] at i2
      obtain ⟨i, t, j1, j2⟩ := i2
      rw [j1]
      refine ⟨some e.val, ?_, t, by rw [j2]⟩
      show (match es.toList.find? (·.key.isStr z) with | some e => some (some e.val) | none => if es.toList.any (·.refKey) then none else some none) = _
      rw [hf]
  · cases h
end FhY
set_option Elab.async false
set_option linter.all false
set_option maxRecDepth 100000
set_option maxHeartbeats 4000000
/-! FyE: the hook of FyD that looks at sys.modules, too -/
namespace FhY
open PySem PySem.Spec PyProof.Rows L2 Fh
open PySem.W (Frag)
def asYM (n : Nat) (g : Addr → Option Obj) : List Addr := sysModules :: asY n g
def obsYM (n : Nat) (fa : List He.Fa) (fn : List He.DefD) (gs : List GDef) (ts : List He.Tab) (ex : Frag → Bool) (g : Addr → Option Obj) : AlYT := obsKT fa fn gs ts ex (He.frT g (asYM n g))
def hookYM (n : Nat) (fa : List He.Fa) (fn : List He.DefD) (gs : List GDef) (ts : List He.Tab) (ex : Frag → Bool) : PySem.W.Hook where
  α := AlYT
  obs := fun s => obsYM n fa fn gs ts ex s.heap.get?
  val := fun w => valYT fn gs ts w
  says := fun w h => ∃ K : Frag, K.In h ∧ obsKT fa fn gs ts ex K = valYT fn gs ts w
  of := fun _ _ e => ⟨_, He.frT_in, e⟩
  keeps := fun _ _ _ ⟨K, hK, c⟩ k => ⟨K, PySem.W.Frag.In.keeps hK k, c⟩
theorem obsYM_eq {n : Nat} {fa : List He.Fa} {fn : List He.DefD} {gs : List GDef} {ts : List He.Tab} {ex : Frag → Bool} {g : Addr → Option Obj} {s : Shared} (h : ∀ a, g a = s.heap.get? a) : obsYM n fa fn gs ts ex g = (hookYM n fa fn gs ts ex).obs s := by
  have e : g = s.heap.get? := funext h
  rw [e] <;> rfl
end FhY
set_option Elab.async false
set_option linter.all false
set_option maxRecDepth 100000
set_option maxHeartbeats 1000000
/-! FzH: a lambda as a value (made, perhaps never called); a def whose code object is known -/
namespace Fh
open PySem PySem.Spec PyProof.Rows L2
open PySem.W (Frag)
/-- the lambda's value is new to the abstract heap; the tables may have grown -/
def tLamV (T : List (Addr × Str)) : TE := fun _ H Q => LamX.Tabs T H ∧ ∀ (f : Addr) (H1 : Hp), LamX.ExtN H H1 → LamX.Tabs T H1 → H1 f = none → Q (.ref f) H1
def freeB (sc scope : Scope) : Bool := scope.names.all fun y => !decide (y.2 = .free) || decide (sc.names.lookup y.1 = some .cell) || decide (sc.names.lookup y.1 = some .free)
theorem free_by {X : Cx} {sc scope : Scope} (e : X.env.scope = sc) (h : freeB sc scope = true) (ok : X.Ok) : ∀ y ∈ scope.names, y.2 = .free → ∃ c, X.env.cells.lookup y.1 = some c := fun y hy z => by
  subst e
  unfold freeB at h
  simp only [Bool.or_eq_true, Bool.not_eq_true', decide_eq_true_eq, decide_eq_false_iff_not, List.all_eq_true] at h
  rcases h y hy with (q | q) | q
  · exact absurd z q
  · exact ok.has _ (.inl q)
  · exact ok.has _ (.inr q)
theorem pe_lam {X : Cx} {T : List (Addr × Str)} {c P : Addr} {params : Arguments} {body : Expr} {scope sc : Scope} {pos : Pos} (TB : LamX.TabB X.base X.mg c P) (hcode : X.env.code = .ref c) (hm : (P, X.env.qual ++ "<lambda>") ∈ T)
    (hu : ∀ p ∈ T, p.1 = P → p.2 = X.env.qual ++ "<lambda>") (hdef : defaultsOf params X.env = ([], [])) (es : X.env.scope = sc) (hf : freeB sc scope = true) : PE X (.Lambda params body scope pos) (tLamV T) := by
  refine ⟨fun pins s σ H Q I h => ?_⟩
  obtain ⟨hT, h⟩ := h
  exact LamX.lam_make2 I TB hcode hm hu hT hdef (free_by es hf I.ok) fun f c' pm ctv H1 s' I1 eN T1 _ hfn _ _ => ⟨.ref f, H1, I1, rfl, h f H1 eN T1 hfn⟩
/-- a def whose code object stands at c -/
structure FunC (K : Frag) (x qual : Str) (st : Stmt) (f c : Addr) (fd : FuncData) : Prop where
  ex : ∃ (oc : Value) (od : Option Addr) (kV doc pm : Value) (an : Option Addr) (ct : Value) (osl : Array (Option Value)),
    fd = PySem.W.fnOf x qual (defArgs st) (defBody st) (defScope st) .none kV doc pm an (.ref c) ct ∧ K.lookup f = some ⟨oc, od, .func fd, osl⟩ ∧ PySem.W.codeIn K (.ref c) qual = true
  kp : PySem.W.keepIn K (.ref f) = true
section
variable {P : Program} {w : World} {K : Frag} {mg : Str → Option Value} {base : Heap}
theorem FunC.fun_ {x qual : Str} {st : Stmt} {f c : Addr} {fd : FuncData} (F : FunC K x qual st f c fd) : Fun K x qual st f fd := by
  obtain ⟨oc, od, kV, doc, pm, an, ct, osl, e, lk, hcd⟩ := F.ex
  exact ⟨⟨oc, od, kV, doc, pm, an, .ref c, ct, osl, e, lk, hcd⟩, F.kp⟩
theorem FunC.of {x qual : Str} {st : Stmt} {p : Str × Option Str} {fd : FuncData} (F : Fun K x qual st (He.fAd K p) fd) : FunC K x qual st (He.fAd K p) (He.codeOf K p) fd := by
  obtain ⟨oc, od, kV, doc, pm, an, cdv, ct, osl, e, lk, hcd⟩ := F.ex
  obtain ⟨c, rfl⟩ := He.codeIn_ref hcd
  have q : He.codeOf K p = c := He.codeOf_eq lk (by rw [e])
  rw [q]
  exact ⟨⟨oc, od, kV, doc, pm, an, ct, osl, e, lk, hcd⟩, F.kp⟩
theorem FunC.ok {x qual : Str} {st : Stmt} {f c : Addr} {fd : FuncData} {N ps : List Str} {k : Nat} {sp : Sp} (F : FunC K x qual st f c fd) (S : FnScope N ps (defScope st)) (len : ∀ vs H Q E, sp vs H Q E → vs.length = ps.length)
    (hbody : ∀ (A : Around) (outer : List Env) (s : Shared) (H : Hp) (vs : List V) (Q : VK) (E : XK), Room k (A.deeper (envOfC qual (defScope st) s.heap.objs.size f (.ref c))) → sp vs H Q E →
      ∃ t, PSs (cxOf CX0 P w K mg base N qual (defScope st) f (.ref c) A outer s H E).nox (defBody st) t ∧ t { nx := fun _ H' => Q .non H', rt := Q } (start N vs) H) : FnOk P w K mg base CX0 (k + 1) f fd ps sp := by
  obtain ⟨oc, od, kV, doc, pm, an, ct, osl, rfl, lk, hcd⟩ := F.ex
  refine fn_of lk hcd S len fun A outer s H vs Q E hr hsp => ?_
  obtain ⟨t, h, q⟩ := hbody A outer s H vs Q E hr hsp
  exact ⟨t, h.nox, q⟩
end
end Fh
namespace Fs
open PySem PySem.Spec PyProof.Rows L2 Fh
open PySem.W (Frag)
theorem KeepT.ext {H H' : Hp} (e : LamX.ExtN H H') : KeepT H H' := fun a xs h => h.elim (fun z => .inl (e _ _ z fun _ q => nomatch q)) fun ⟨o, z⟩ => .inr ⟨o, e _ _ z fun _ q => nomatch q⟩
end Fs
set_option Elab.async false
set_option linter.all false
set_option maxRecDepth 100000
set_option maxHeartbeats 4000000
/-! FyF: the hook of FyE with tables of code objects -/
namespace FhY
open PySem PySem.Spec PyProof.Rows L2 Fh
open PySem.W (Frag)
abbrev AlYX : Type := AlYT × Bool
def obsKX (fa : List He.Fa) (fn : List He.DefD) (gs : List GDef) (ts : List He.Tab) (tf : List He.Defn) (ex : Frag → Bool) (g : Addr → Option Obj) (K : Frag) : AlYX := (obsKT fa fn gs ts ex K, He.tabsB g tf K)
def obsYX (n : Nat) (fa : List He.Fa) (fn : List He.DefD) (gs : List GDef) (ts : List He.Tab) (tf : List He.Defn) (ex : Frag → Bool) (g : Addr → Option Obj) : AlYX := obsKX fa fn gs ts tf ex g (He.frT g (asYM n g))
structure SaysYX (fa : List He.Fa) (fn : List He.DefD) (gs : List GDef) (ts : List He.Tab) (tf : List He.Defn) (ex : Frag → Bool) (w : World) (h : Heap) (K : Frag) : Prop where
  t : obsKT fa fn gs ts ex K = valYT fn gs ts w
  hd : ∀ p ∈ tf, PySem.W.codeHdIn K (He.cT K p).1 (He.cT K p).2 = true
  out : ∀ p ∈ tf, K.lookup (He.cT K p).2 = none
  empty : ∀ p ∈ tf, h.get? (He.cT K p).2 = some { cls := .none, data := .fields #[] }
theorem saysYX_of {n : Nat} {fa : List He.Fa} {fn : List He.DefD} {gs : List GDef} {ts : List He.Tab} {tf : List He.Defn} {ex : Frag → Bool} {w : World} {h : Heap} (e : obsYX n fa fn gs ts tf ex h.get? = (valYT fn gs ts w, true)) : SaysYX fa fn gs ts tf ex w h (He.frT h.get? (asYM n h.get?)) := by
  have e1 : obsKT fa fn gs ts ex (He.frT h.get? (asYM n h.get?)) = valYT fn gs ts w := congrArg (fun z : AlYX => z.1) e
  have h2 : He.tabsB h.get? tf (He.frT h.get? (asYM n h.get?)) = true := congrArg (fun z : AlYX => z.2) e
  have key : ∀ p ∈ tf, PySem.W.codeHdIn (He.frT h.get? (asYM n h.get?)) (He.cT (He.frT h.get? (asYM n h.get?)) p).1 (He.cT (He.frT h.get? (asYM n h.get?)) p).2 = true ∧ ∃ o, h.get? (He.cT (He.frT h.get? (asYM n h.get?)) p).2 = some o ∧ He.emptyTab o = true := fun p hp => by
    obtain ⟨h3, h4⟩ := He.ba (List.all_eq_true.mp h2 p hp)
    refine ⟨h3, ?_⟩
    cases q : h.get? (He.cT (He.frT h.get? (asYM n h.get?)) p).2 with
    | none =>
      rw [q] at h4
      cases h4
    | some o =>
      rw [q] at h4
      exact ⟨o, rfl, h4⟩
  exact ⟨e1, fun p hp => (key p hp).1, fun p hp => by
    obtain ⟨_, o, q, z⟩ := key p hp
    exact He.frT_none q z, fun p hp => by
    obtain ⟨_, o, q, z⟩ := key p hp
    rw [q, He.emptyTab_eq z]⟩
def hookYX (n : Nat) (fa : List He.Fa) (fn : List He.DefD) (gs : List GDef) (ts : List He.Tab) (tf : List He.Defn) (ex : Frag → Bool) : PySem.W.Hook where
  α := AlYX
  obs := fun s => obsYX n fa fn gs ts tf ex s.heap.get?
  val := fun w => (valYT fn gs ts w, true)
  says := fun w h => ∃ K : Frag, K.In h ∧ SaysYX fa fn gs ts tf ex w h K
  of := fun _ _ e => ⟨_, He.frT_in, saysYX_of e⟩
  keeps := fun _ _ _ ⟨K, hK, c⟩ k => ⟨K, PySem.W.Frag.In.keeps hK k, ⟨c.t, c.hd, c.out, fun p hp => k _ _ (c.empty p hp)⟩⟩
theorem obsYX_eq {n : Nat} {fa : List He.Fa} {fn : List He.DefD} {gs : List GDef} {ts : List He.Tab} {tf : List He.Defn} {ex : Frag → Bool} {g : Addr → Option Obj} {s : Shared} (h : ∀ a, g a = s.heap.get? a) : obsYX n fa fn gs ts tf ex g = (hookYX n fa fn gs ts tf ex).obs s := by
  have e : g = s.heap.get? := funext h
  rw [e] <;> rfl
/-- the tables of defs, each with the name of its lambdas -/
theorem tabs_start {K : Frag} {tq : List (He.Defn × Str)} {H : Hp} (h : ∀ p ∈ tq.map (fun p => He.cT K p.1), H p.2 = some (.tbl #[])) : LamX.Tabs (tq.map fun p => ((He.cT K p.1).2, p.2)) H := fun x hx => by
  obtain ⟨p, hp, rfl⟩ := List.mem_map.mp hx
  exact LamX.TabS.nil (h _ (List.mem_map.mpr ⟨p, hp, rfl⟩))
theorem tabs_apart {K : Frag} {tq : List (He.Defn × Str)} (nd : (tq.map fun p => (He.cT K p.1).2).Nodup) {p : He.Defn × Str} (hp : p ∈ tq) : ∀ x ∈ tq.map (fun p => ((He.cT K p.1).2, p.2)), x.1 = (He.cT K p.1).2 → x.2 = p.2 := fun x hx e => by
  obtain ⟨q, hq, rfl⟩ := List.mem_map.mp hx
  have : q = p := by
    have pq := List.pairwise_iff_getElem.mp (List.pairwise_map.mp nd)
    obtain ⟨i, hi, e1⟩ := List.mem_iff_getElem.mp hq
    obtain ⟨j, hj, e2⟩ := List.mem_iff_getElem.mp hp
    subst e1 e2
    rcases Nat.lt_trichotomy i j with z | z | z
    · exact absurd e (pq i j hi hj z)
    · subst z; rfl
    · exact absurd e.symm (pq j i hj hi z)
  rw [this]
end FhY
set_option Elab.async false
set_option linter.all false
set_option maxRecDepth 100000
set_option maxHeartbeats 0
namespace Fp4
open PySem PySem.Spec PyProof.Rows L2 Fh Fs FhY
open PySem.W (Frag)
abbrev sErrI : Stmt := inClass (top 2) 0
abbrev sErrP : Stmt := inClass (top 1) 0
def fewestL : List (Str × Int) := [("then", 0), ("either", 1), ("any", 1), ("again", 1), ("beside", 2)]
def mostL : List (Str × Int) := [("again", 1), ("beside", 2)]
theorem fewest_eq (z : Str) : lookI fewestL z = fewest z := by
  unfold lookI fewest fewestL
  simp only [List.find?_cons, List.find?_nil]
  by_cases h1 : z = "then"
  · subst h1; rfl
  by_cases h2 : z = "either"
  · subst h2; rfl
  by_cases h3 : z = "any"
  · subst h3; rfl
  by_cases h4 : z = "again"
  · subst h4; rfl
  by_cases h5 : z = "beside"
  · subst h5; rfl
  rw [if_neg h1, if_neg h2, if_neg h3, if_neg h4, if_neg h5, beq_eq_false_iff_ne.mpr (Ne.symm h1), beq_eq_false_iff_ne.mpr (Ne.symm h2), beq_eq_false_iff_ne.mpr (Ne.symm h3), beq_eq_false_iff_ne.mpr (Ne.symm h4), beq_eq_false_iff_ne.mpr (Ne.symm h5)]
  rfl
theorem most_eq (z : Str) : lookI mostL z = most z := by
  unfold lookI most mostL
  simp only [List.find?_cons, List.find?_nil]
  by_cases h4 : z = "again"
  · subst h4; rfl
  by_cases h5 : z = "beside"
  · subst h5; rfl
  rw [if_neg h4, if_neg h5, beq_eq_false_iff_ne.mpr (Ne.symm h4), beq_eq_false_iff_ne.mpr (Ne.symm h5)]
  rfl
def exB (K : Frag) : Bool := clB K ("InvalidText", .ve, ["index"]) && (tabI K (He.ga K "FEWEST") fewestL && (tabI K (He.ga K "MOST") mostL && (clB K ("InvalidPlan", .ve, ["value"]) && (He.tupB K "DONE" [.str "then"] && ((K.lookup sysModules).isSome && (He.eqO (PySem.W.nsIn K cStatics sharingNotToldKey) (some none)))))))
def ts : List He.Tab := [(fun K => He.ga K "FEWEST", fewestL.map (·.1)), (fun K => He.ga K "MOST", mostL.map (·.1))]
def ckD : He.DefD := ⟨("check_plan", none), "check_plan", "check_plan", defArgs sCk, defBody sCk, defScope sCk, [.bl false], []⟩
def fn : List He.DefD := [dDef "is_word_of_plans" sIwp, dDef "has_right_number" sHrn, dDef "_word_end" sWe, dDef "_next_part" sNp, dDef "_read_parts" sRps, dDef "read_part" sRp, dDef "read_plan" sRd, ckD, dDef "_is_right_alone" sAl, dDef "is_word" sWord, dDef "_law_pen" sPen, dDef "_law_draw" sDraw, dDef "_law_pick" sPick, dDef "_law_words" sWds, dDef "_law_plan" sPl, dDef "_law_text" sTx, dDef "_law_read" sLrd, dDef "_law_bent" sBe, dDef "is_plan" sIsP, dDef "plan_text" sPt, dDef "text_of" sTo, dDef "law" sLaw, dMeth "InvalidText" "__init__" "InvalidText.__init__" sErrI, dMeth "InvalidPlan" "__init__" "InvalidPlan.__init__" sErrP]
def fa : List He.Fa := [.glo "is_word_of_plans", .glo "has_right_number", .glo "_word_end", .glo "_next_part", .glo "_read_parts", .glo "read_part", .glo "read_plan", .glo "check_plan", .glo "_is_right_alone", .glo "is_word", .glo "_law_pen", .glo "_law_draw", .glo "_law_pick", .glo "_law_words", .glo "_law_plan", .glo "_law_text", .glo "_law_read", .glo "_law_bent", .glo "is_plan", .glo "plan_text", .glo "text_of", .glo "law", .free "isinstance", .free "str", .free "len", .free "all", .free "tuple", .free "list", .free "int", .free "range", .free "min", .free "repr", .int "LONGEST" 8, .str "LETTERS" "abcdefghijklmnopqrstuvwxyz", .glo "InvalidText", .glo "InvalidPlan", .glo "FEWEST", .glo "MOST", .glo "DONE"]
def names : List Str := (["__name__", "InvalidPlan", "InvalidText", "LETTERS", "LONGEST", "is_word", "DONE", "FEWEST", "MOST", "is_word_of_plans", "has_right_number", "_is_right_alone", "check_plan", "text_of", "_word_end", "_next_part", "_read_parts", "read_part", "is_plan", "plan_text"] : List Str) ++ (["read_plan", "_law_pen", "_law_draw", "_law_pick", "_law_words", "_law_plan", "_law_text", "_law_read", "_law_bent"] : List Str)
abbrev L : PySem.W.OpenLaw := PySem.Challenge.rw_fewhands_k24_whole_texts_of_plans_bent
abbrev R : PySem.W.OpenRow := PySem.W.OpenLaw.row L
abbrev hk : PySem.W.Hook := hookYM 7 fa fn [] ts exB
def ob (s : PySem.W.SharedT) : AlYT := obsYM 7 fa fn [] ts exB (HandSHeadRun.getT s)
theorem ob_eq (s : PySem.W.SharedT) : ob s = hk.obs s.abs := obsYM_eq (HandSHeadRun.getT_eq s)
theorem run (w : World) : HandSHeadRun.RunEq R (PySem.W.view R.prog [34]) hk ob 8000 names w := by
  intro os
  rw [split_ft w]
  generalize w.params.followText "special-get-raises" = b
  cases b
  · kernel_rfl
  · kernel_rfl
section
variable {P : Program} {w : World} {K : Frag} {h : Heap} {mg : Str → Option Value}
theorem relI_of {o : Option Int} {r : Option Value} (h : match o with
    | none => r = none
    | some i => ∃ t, r = some (.int i t)) : relI o r := by
  cases o with
  | none => exact h
  | some i => exact h
theorem facts {f : Addr} (X : K.In h) (G : h.Ns mainGlobals mg) (hfa : mg ("law" : Str) = some (.ref f)) (c : obsKT fa fn [] ts exB K = valYT fn [] ts w) :
    ∃ fd : FuncData, (∀ (s : Shared) (v : Value), BindsTo s fd ⟨[v], []⟩ [("_law_script", v)]) ∧ ∀ base : Heap, K.In base → base.Ns mainGlobals mg → FnG P w K mg base CX0 110 f fd ["_law_script"] (spLaw K) := by
  have cy := saysT_y c
  have d := says_d cy
  obtain ⟨bT, m⟩ := He.ba (says_more cy)
  obtain ⟨bF, m⟩ := He.ba m
  obtain ⟨bM, m⟩ := He.ba m
  obtain ⟨bP, m⟩ := He.ba m
  obtain ⟨bD, m⟩ := He.ba m
  obtain ⟨bS, bK⟩ := He.ba m
  have D1 := saysT_tab c 0
  have D2 := saysT_tab c 1
  obtain ⟨fd0, F0⟩ := funT d 0 (x := "is_word_of_plans") (st := sIwp) rfl
  obtain ⟨fd1, F1⟩ := funT d 1 (x := "has_right_number") (st := sHrn) rfl
  obtain ⟨fd2, F2⟩ := funT d 2 (x := "_word_end") (st := sWe) rfl
  obtain ⟨fd3, F3⟩ := funT d 3 (x := "_next_part") (st := sNp) rfl
  obtain ⟨fd4, F4⟩ := funT d 4 (x := "_read_parts") (st := sRps) rfl
  obtain ⟨fd5, F5⟩ := funT d 5 (x := "read_part") (st := sRp) rfl
  obtain ⟨fd6, F6⟩ := funT d 6 (x := "read_plan") (st := sRd) rfl
  obtain ⟨fd7, F7⟩ : ∃ fd, FunCk K (He.ga K "check_plan") fd := by
    obtain ⟨fd, F⟩ := d.def_ 7 (d := ckD) rfl
    exact ⟨fd, F⟩
  obtain ⟨fd8, F8⟩ := funT d 8 (x := "_is_right_alone") (st := sAl) rfl
  obtain ⟨fd9, F9⟩ := funT d 9 (x := "is_word") (st := sWord) rfl
  obtain ⟨fd10, F10⟩ := funT d 10 (x := "_law_pen") (st := sPen) rfl
  obtain ⟨fd11, F11⟩ := funT d 11 (x := "_law_draw") (st := sDraw) rfl
  obtain ⟨fd12, F12⟩ := funT d 12 (x := "_law_pick") (st := sPick) rfl
  obtain ⟨fd13, F13⟩ := funT d 13 (x := "_law_words") (st := sWds) rfl
  obtain ⟨fd14, F14⟩ := funT d 14 (x := "_law_plan") (st := sPl) rfl
  obtain ⟨fd15, F15⟩ := funT d 15 (x := "_law_text") (st := sTx) rfl
  obtain ⟨fd16, F16⟩ := funT d 16 (x := "_law_read") (st := sLrd) rfl
  obtain ⟨fd17, F17⟩ := funT d 17 (x := "_law_bent") (st := sBe) rfl
  obtain ⟨fd18, F18⟩ := funT d 18 (x := "is_plan") (st := sIsP) rfl
  obtain ⟨fd19, F19⟩ := funT d 19 (x := "plan_text") (st := sPt) rfl
  obtain ⟨fd20, F20⟩ := funT d 20 (x := "text_of") (st := sTo) rfl
  obtain ⟨fd21, F21⟩ := funT d 21 (x := "law") (st := sLaw) rfl
  have g0 := (He.glo_ok X G (d.fact 0 (f := .glo "is_word_of_plans") rfl))
  have g1 := (He.glo_ok X G (d.fact 1 (f := .glo "has_right_number") rfl))
  have g2 := (He.glo_ok X G (d.fact 2 (f := .glo "_word_end") rfl))
  have g3 := (He.glo_ok X G (d.fact 3 (f := .glo "_next_part") rfl))
  have g4 := (He.glo_ok X G (d.fact 4 (f := .glo "_read_parts") rfl))
  have g5 := (He.glo_ok X G (d.fact 5 (f := .glo "read_part") rfl))
  have g6 := (He.glo_ok X G (d.fact 6 (f := .glo "read_plan") rfl))
  have g7 := (He.glo_ok X G (d.fact 7 (f := .glo "check_plan") rfl))
  have g8 := (He.glo_ok X G (d.fact 8 (f := .glo "_is_right_alone") rfl))
  have g9 := (He.glo_ok X G (d.fact 9 (f := .glo "is_word") rfl))
  have g10 := (He.glo_ok X G (d.fact 10 (f := .glo "_law_pen") rfl))
  have g11 := (He.glo_ok X G (d.fact 11 (f := .glo "_law_draw") rfl))
  have g12 := (He.glo_ok X G (d.fact 12 (f := .glo "_law_pick") rfl))
  have g13 := (He.glo_ok X G (d.fact 13 (f := .glo "_law_words") rfl))
  have g14 := (He.glo_ok X G (d.fact 14 (f := .glo "_law_plan") rfl))
  have g15 := (He.glo_ok X G (d.fact 15 (f := .glo "_law_text") rfl))
  have g16 := (He.glo_ok X G (d.fact 16 (f := .glo "_law_read") rfl))
  have g17 := (He.glo_ok X G (d.fact 17 (f := .glo "_law_bent") rfl))
  have g18 := (He.glo_ok X G (d.fact 18 (f := .glo "is_plan") rfl))
  have g19 := (He.glo_ok X G (d.fact 19 (f := .glo "plan_text") rfl))
  have g20 := (He.glo_ok X G (d.fact 20 (f := .glo "text_of") rfl))
  have g21 := (He.glo_ok X G (d.fact 21 (f := .glo "law") rfl))
  obtain ⟨fdEI, FEI⟩ := funM d 22 (cn := "InvalidText") (m := "__init__") (q := "InvalidText.__init__") (st := sErrI) rfl
  have CII := clB_one bT
  have eiI : EK K (He.ga K "InvalidText") .ve := CII.ei
  have ETI : PySem.ErrN.ErrNxt K mg (He.ga K "InvalidText") (He.ma K (He.ga K "InvalidText") "__init__") := errN_of (He.glo_ok X G (d.fact 34 (f := .glo "InvalidText") rfl)) eiI (CII.no "index" List.mem_cons_self) CII.iC CII.tI (by
    obtain ⟨oc, od, kV, doc, pm, an, cdv, ct, osl, e, lk, hcd⟩ := FEI.ex
    refine ⟨oc, od, kV, doc, pm, an, cdv, ct, osl, ⟨8, 17, 8, 21⟩, ⟨8, 23, 8, 28⟩, ⟨9, 8, 9, 12⟩, ⟨9, 8, 9, 18⟩, ⟨9, 21, 9, 26⟩, ⟨9, 8, 9, 26⟩, ?_, hcd⟩
    rw [lk, e]
    rfl)
  obtain ⟨fdEP, FEP⟩ := funM d 23 (cn := "InvalidPlan") (m := "__init__") (q := "InvalidPlan.__init__") (st := sErrP) rfl
  have CIP := clB_one bP
  have eiP : EK K (He.ga K "InvalidPlan") .ve := CIP.ei
  have ETP : PySem.ErrP.ErrPxt K mg (He.ga K "InvalidPlan") (He.ma K (He.ga K "InvalidPlan") "__init__") := errP_of (He.glo_ok X G (d.fact 35 (f := .glo "InvalidPlan") rfl)) eiP (CIP.no "value" List.mem_cons_self) CIP.iC CIP.tI (by
    obtain ⟨oc, od, kV, doc, pm, an, cdv, ct, osl, e, lk, hcd⟩ := FEP.ex
    refine ⟨oc, od, kV, doc, pm, an, cdv, ct, osl, ⟨4, 17, 4, 21⟩, ⟨4, 23, 4, 28⟩, ⟨5, 8, 5, 12⟩, ⟨5, 8, 5, 18⟩, ⟨5, 21, 5, 26⟩, ⟨5, 8, 5, 26⟩, ?_, hcd⟩
    rw [lk, e]
    rfl)
  have T : TxtR K mg w (He.ga K "FEWEST") (He.ga K "MOST") (He.ga K "DONE") (He.ga K "InvalidText") (He.ma K (He.ga K "InvalidText") "__init__") := ⟨(He.free_ok X G (d.fact 22 (f := .free "isinstance") rfl)), (He.free_ok X G (d.fact 23 (f := .free "str") rfl)), (He.free_ok X G (d.fact 24 (f := .free "len") rfl)), (He.str_ok X G (d.fact 33 (f := .str "LETTERS" "abcdefghijklmnopqrstuvwxyz") rfl)), (He.int_ok X G (d.fact 32 (f := .int "LONGEST" 8) rfl)), (He.glo_ok X G (d.fact 36 (f := .glo "FEWEST") rfl)), (He.glo_ok X G (d.fact 37 (f := .glo "MOST") rfl)), (He.glo_ok X G (d.fact 38 (f := .glo "DONE") rfl)), fun H => He.tupB_ok bD H, D1, D2,
    fun z => by
      obtain ⟨r, h1, h2⟩ := tabI_ok bF z
      rw [fewest_eq] at h2
      exact ⟨r, h1, relI_of h2⟩,
    fun z => by
      obtain ⟨r, h1, h2⟩ := tabI_ok bM z
      rw [most_eq] at h2
      exact ⟨r, h1, relI_of h2⟩, ETI⟩
  have R : Rdr K mg w (He.ga K "FEWEST") (He.ga K "MOST") (He.ga K "DONE") (He.ga K "InvalidText") (He.ma K (He.ga K "InvalidText") "__init__") (He.ga K "is_word_of_plans") (He.ga K "has_right_number") (He.ga K "_word_end") (He.ga K "_next_part") (He.ga K "_read_parts") (He.ga K "read_part") (He.ga K "read_plan") fd0 fd1 fd2 fd3 fd4 fd5 fd6 := ⟨T, errC_of eiI, F0, F1, F2, F3, F4, F5, F6, g0, g1, g2, g3, g4, g5, g6⟩
  have C : CkG K mg w (He.ga K "FEWEST") (He.ga K "MOST") (He.ga K "DONE") (He.ga K "InvalidText") (He.ma K (He.ga K "InvalidText") "__init__") (He.ga K "InvalidPlan") (He.ma K (He.ga K "InvalidPlan") "__init__") (He.ga K "check_plan") (He.ga K "_is_right_alone") (He.ga K "is_word") (He.ga K "is_word_of_plans") (He.ga K "has_right_number") fd7 fd8 fd9 fd0 fd1 := ⟨T, ⟨(He.free_ok X G (d.fact 25 (f := .free "all") rfl)), (He.free_ok X G (d.fact 26 (f := .free "tuple") rfl))⟩, ETP, F7, F8, F9, F0, F1, g7, g8, g9, g0, g1⟩
  have Z : Defs K mg (He.ga K "_law_pen") (He.ga K "_law_draw") (He.ga K "_law_pick") (He.ga K "_law_words") (He.ga K "_law_plan") (He.ga K "_law_text") (He.ga K "_law_read") (He.ga K "_law_bent") (He.ga K "is_plan") (He.ga K "plan_text") (He.ga K "text_of") fd10 fd11 fd12 fd13 fd14 fd15 fd16 fd17 fd18 fd19 fd20 := ⟨F10, F11, F12, F13, F14, F15, F16, F17, F18, F19, F20, g10, g11, g12, g13, g14, g15, g16, g17, g18, g19, g20⟩
  have TP : TxtP mg := ⟨(He.free_ok X G (d.fact 27 (f := .free "list") rfl)), (He.free_ok X G (d.fact 28 (f := .free "int") rfl)), (He.free_ok X G (d.fact 24 (f := .free "len") rfl))⟩
  have TQ : TxtQ mg := ⟨(He.free_ok X G (d.fact 29 (f := .free "range") rfl)), (He.free_ok X G (d.fact 30 (f := .free "min") rfl)), (He.free_ok X G (d.fact 31 (f := .free "repr") rfl))⟩
  have e := hfa.symm.trans g21
  cases e
  have b : ∀ (s : Shared) (v : Value), BindsTo s fd21 ⟨[v], []⟩ [("_law_script", v)] := by
    obtain ⟨oc, od, kV, doc, pm, an, cdv, ct, osl, e, _, _⟩ := F21.ex
    intro s v
    rw [e]
    exact .of_eq rfl
  exact ⟨fd21, b, fun base _ _ => ok_law F21 C R Z TP TQ ETP.te ETI.te (He.eqO_ok bK) bS⟩
end
end Fp4
set_option Elab.async false
set_option linter.all false
set_option maxRecDepth 100000
set_option maxHeartbeats 0
open PySem PySem.W PySem.Calls PyProof.Rows
theorem PySem.Challenge.cw_fewhands_k24_whole_texts_of_plans_bent_holds : PySem.Challenge.rw_fewhands_k24_whole_texts_of_plans_bent.Holds := by
  w_on; o_law
  refine HandSHeadRun.head_any (r := OpenLaw.row PySem.Challenge.rw_fewhands_k24_whole_texts_of_plans_bent) (q := view (OpenLaw.row PySem.Challenge.rw_fewhands_k24_whole_texts_of_plans_bent).prog [34]) (H := Fp4.hk) (ob := Fp4.ob) (M := 8000) (loose := Fp4.names) (d := HandSHeadRun.topDef (OpenLaw.row PySem.Challenge.rw_fewhands_k24_whole_texts_of_plans_bent).prog 34) (kwd := []) Fp4.ob_eq
    (by kernel_rfl) (fun s => by kernel_rfl) Fp4.run (by kernel_rfl) (by kernel_rfl) (by kernel_rfl) (by rfl) (by first | assumption | decide +kernel) (by decide +kernel) ⟨rfl, rfl, rfl, rfl, rfl, by decide +kernel⟩ ?hw ?hc
  case hw => w_witness2
  case hc =>
    refine Fh.walk_ofGE (l := PySem.Challenge.rw_fewhands_k24_whole_texts_of_plans_bent) (n := 63) (k := 110) (x := "_law_script") (CX := L2.CX0) rfl (by decide) (by kernel_rfl) ⟨rfl, by decide, by decide⟩ ?F (fun _ _ _ _ z => z)
    intro w mg fa h Y G hmg0
    obtain ⟨K, KX, c⟩ := Y
    have hmg : mg ("law" : PySem.Str) = some (.ref fa) := by
      have e : (HandSHeadRun.topDef (OpenLaw.row PySem.Challenge.rw_fewhands_k24_whole_texts_of_plans_bent).prog 34).name = ("law" : PySem.Str) := by kernel_rfl
      rw [← e]
      exact hmg0
    obtain ⟨fd, hb, hF⟩ := Fp4.facts (P := (PySem.Challenge.rw_fewhands_k24_whole_texts_of_plans_bent).prog) (w := w) KX G hmg c
    exact ⟨K, fd, Fp4.spLaw K, KX, hb, fun H a ns hl _ _ hS => ⟨a, ns, rfl, hS, hl, fun _ => rfl⟩, hF⟩
