import PyProof.Rows.All
import Wide.All
import OpenK.AllK
import Wide.FinOn
import PyProof.ReprRoads
import HandS.ForMost
import HandS.EndBits
import KE.KExcInit
import HandS.Exc
import HandS.ExcInit
import HandS.ExcOwn
import HandS.IsInst
import HandS.ExcIs
import HandS.Defaults
import KE.KExcIs
import HandS.ExcValue
import HandS.DeepEq
import HandS.DictComp
import HandS.Star
import HandS.MakeKw
import HandS.MakeKwOnly
import HandS.ClsMeth
import HandS.Property
import HandS.CallLocal
import KE.KParD
import PyProof.InstNe
import OpenK.KMeth
import KE.KOpsOwn
import HandS.SlotsOwn
import HandS.Set
import HandS.SetFor
import HandS.Strs
import HandS.SetKeys
import HandS.Conv
import HandS.ListItems
import KE.KDictSum
import HandS.Walk
import KE.KEqDict
import HandS.Text
import PyProof.ReprLen
import PyProof.TupleOfSeq
import HandS.ForExc
import HandS.More
import HandS.Dict
import PyProof.EqAt
import PyProof.NeKinds
import HandS.RaiseMore
import KE.KStateDown
import HandS.Head0
import HandS.Head1
import HandS.Head2
import HandS.HeadEnd
import HandS.HeadHook1
import HandS.HeadHook2
import HandS.HeadHook3
import HandS.HeadHook4
import HandS.NoneIn
import PyProof.TupleKey
import PyProof.DictFindH
import HandS.Small
import PyProof.DictRoadsH
import HandS.Iter
import HandS.Nested
import KE.KSuper
import HandS.Lambda
import HandS.EndTab
import HandS.List
import PySem.Challenge.RW_fewhands_k07_books_made
import HandS.TupAny
import HandS.TryOnly
import HandS.Codes
import HandS.FStr
import PyProof.AutoSeq1
import HandS.SortKw
import HandS.WordsDict
import HandS.Comp
import HandS.TryMany
import HandS.TupLe
import OpenK.KOps
import HandS.OwnEq
import HandS.DictEq
import HandS.Deep
import HandS.Style
import HandS.Finally
set_option Elab.async false
set_option linter.all false
set_option maxRecDepth 100000
set_option maxHeartbeats 4000000
/-! FhA: a def's promise where no repr is under way (FnG), data in the abstract heap (DA), repr of it -/
namespace Fh
open PySem PySem.Spec PyProof.Rows L2
/-! ### 1. promises that hold where the stack shows no repr -/
structure FnG (P : Program) (w : World) (K : PySem.W.Frag) (mg : Str → Option Value) (base : Heap) (CX : CXT) (k : Nat) (f : Addr) (fd : FuncData) (ps : List Str) (sp : Sp) : Prop where
  len : ∀ vs H Q E, sp vs H Q E → vs.length = ps.length
  run : ∀ (A : Around) (outer : List Env) (s : Shared) (H : Hp) (args : Args) (us : List Value) (vs : List V) (Q : VK) (E : XK), A.guards = some [] → Room k A → Env0 P w K mg base A outer s H →
    BindsTo s fd args (ps.zip us) → Vals vs us → sp vs H Q E → codeAny (model P w) A (.call (.ref f) args) (CR CX outer P w H s Q E) s
theorem guards_deeper (A : Around) (env : Env) : (A.deeper env).guards = A.guards := by
  first
    | rfl
    | simp [Around.deeper]
/-- the body's rule under no repr -/
theorem FunG_ok {P : Program} {w : World} {K : PySem.W.Frag} {mg : Str → Option Value} {base : Heap} {x qual : Str} {st : Stmt} {f : Addr} {fd : FuncData} {N ps : List Str} {k : Nat} {sp : Sp} {CX : CXT}
    (F : Fun K x qual st f fd) (S : FnScope N ps (defScope st)) (len : ∀ vs H Q E, sp vs H Q E → vs.length = ps.length)
    (hbody : ∀ (cdv : Value) (A : Around) (outer : List Env) (s : Shared) (H : Hp) (vs : List V) (Q : VK) (E : XK), A.guards = some [] → Room k (A.deeper (envOfC qual (defScope st) s.heap.objs.size f cdv)) → sp vs H Q E →
      ∃ t, PSs (cxOf CX P w K mg base N qual (defScope st) f cdv A outer s H E) (defBody st) t ∧ t { nx := fun _ H' => Q .non H', rt := Q } (start N vs) H) : FnG P w K mg base CX (k + 1) f fd ps sp := by
  obtain ⟨oc, od, kV, doc, pm, an, cdv, ct, osl, rfl, lk, hcd⟩ := F.ex
  refine ⟨len, fun A outer s H args us vs Q E hg hr e0 hb rv hsp => ?_⟩
  have nvs := len vs H Q E hsp
  have inK : K.In s.heap := e0.mod.kin.keeps (fun b o z => (e0.bs b o z).1)
  have nolim : s.heap.NoLimit := e0.mod.nolimit.keeps (fun b o z => (e0.bs b o z).1)
  have kinds : ∀ y ∈ ps.zip us, (defScope st).names.lookup y.1 = some .local ∨ ((defScope st).names.lookup y.1 = some .cell ∧ ((cellsFrom (s.heap.objs.size + 1) (defScope st).names []).lookup y.1).isSome = true) := by
    rintro ⟨n, v⟩ hy
    cases S.par n (List.of_mem_zip hy).1 with
    | inl q => exact Or.inl q
    | inr q => exact Or.inr ⟨q, PySem.W.cellsFrom_some _ _ _ (Or.inl q)⟩
  refine codeAny_call_function hr.depth (inK _ _ lk) rfl S.co S.gen rfl (PySem.W.codeRec_of inK hcd) (hb _ _ _ _ ?_)
  refine wpAny_newFunctionEnv_cells S.kind kinds fun env henv s1 ic => ?_
  subst henv
  refine ⟨nolim.keeps ic.toInCall.keep, codeAny_func ?_⟩
  obtain ⟨t, ht, hq⟩ := hbody cdv A outer s H vs Q E hg (hr.deeper _) hsp
  have J0 : Inv (cxOf CX P w K mg base N qual (defScope st) f cdv A outer s H E) [] (start N vs) H s1 := inv_start S hr.hd e0 nvs rv ic
  refine wpAny_mono (ht.run [] s1 (start N vs) H _ J0 hq) ?_ (fun e s' z => z)
  intro fl s' hs
  match fl, hs with
  | .ret u, hs =>
    obtain ⟨v, σ', H', J, ru, q⟩ := hs
    exact ⟨v, H', J.os, J.bare, J.base, J.hok, ru, q⟩
  | .next, hs =>
    obtain ⟨σ', H', J, q⟩ := hs
    exact ⟨V.non, H', J.os, J.bare, J.base, J.hok, rfl, q⟩
  | .brk, hs =>
    obtain ⟨_, _, _, q⟩ := hs
    exact q.elim
  | .cont, hs =>
    obtain ⟨_, _, _, q⟩ := hs
    exact q.elim
section
variable {X : Cx} {CX : CXT} {k : Nat} {f : Addr} {fd : FuncData} {ps : List Str} {sp : Sp} {dvs : List V} {ds : List Value} {E : XK} {x : Str} {p pos : Pos} {e : Expr} {es : List Expr} {t : TA}
theorem run_fnG {pins : List (Addr × Obj)} {σ : L2.St} {H : Hp} {s : Shared} {Q : VK} {us : List Value} {vs : List V} (F : FnG X.prog X.w X.K X.mg X.base CX k f fd ps sp) (hg : X.A.guards = some []) (hr : Room k X.A) (hb : Binds X.K fd ps ds) (hd : Vals dvs ds)
    (hx : Passes CX X E) (I : Inv X pins σ H s) (r : Vals vs us) (h : sp (vs ++ dvs) H Q E) : wpAny (model X.prog X.w) X.A (call (.ref f) us) (EP X pins σ Q) X.xe s := by
  have both : Vals (vs ++ dvs) (us ++ ds) := r.append hd
  have many : (us ++ ds).length = ps.length := by
    rw [← both.length]
    exact F.len _ _ _ _ h
  refine wpAny_call (codeAny_mono (F.run X.A X.stack s H ⟨us, []⟩ (us ++ ds) (vs ++ dvs) Q E hg hr I.env0 (hb s us I.kIn many) both h) ?_)
  intro res s' hq
  match res, hq with
  | .error er, hq => exact hx pins σ H s er s' I hq
  | .ok (.ret u), hq => exact I.after hq
theorem pe_callG (F : FnG X.prog X.w X.K X.mg X.base CX k f fd ps sp) (hgd : X.A.guards = some []) (hr : Room k X.A) (hg : Gl X x) (hm : X.mg x = some (.ref f)) (hk : PySem.W.keepIn X.K (.ref f) = true) (hb : Binds X.K fd ps ds) (hd : Vals dvs ds) (hx : Passes CX X E)
    (ha : PA X (e :: es) t) (hdb : (x == ("__debug__" : Str)) = false := by decide) (he : starEach (e :: es) X.env = (false, eval e X.env) :: starEach es X.env := by rfl) (hpl : (backTo pos (starEach es X.env)).any (·.1) = false := by rfl) :
    PE X (.Call (.Name x p) (e :: es) [] pos) (tCall sp dvs E t) :=
  ⟨fun pins s σ H Q I h => wpAny_Call_Name_kw (ld_glob I hg hm (PySem.W.callWith_K (h₀ := X.base) I.ok.mod.kin hk
    (thn (ha.run pos pins s σ H _ I h) fun us s1 ⟨vs, H1, I1, r, q⟩ => ⟨I1.kIn, run_fnG F hgd hr hb hd hx I1 r q⟩) he hpl) hdb)⟩
end
/-! ### 2. the end of a law whose def is promised under no repr -/
/-- from FnG to a promise of calls at one A: an FnOk is asked by the library; here its core is gone through anew -/
theorem law_callG {P : Program} {w : World} {K : PySem.W.Frag} {mg mb : Str → Option Value} {CX : CXT} {k : Nat} {fa a : Addr} {fd : FuncData} {x : Str} {sp : Sp} {s1 : Shared} {vs : List Value} {ns : List Int}
    (KX : K.In s1.heap) (hns : s1.heap.Ns mainGlobals mg) (hb : s1.heap.Ns builtinsNs mb) (hbb : ∀ x : Str, x ≠ "__name__" → mb x = bootBuiltins x) (hlim : s1.heap.NoLimit) (hg : s1.gens = #[])
    (ha : s1.heap.get? a = some { cls := .type "list", data := .seq vs.toArray }) (hi : IntsAre vs ns) (hl : ns.length ≤ sizeLine) (hr : Room k callerA)
    (F : ∀ base : Heap, K.In base → base.Ns mainGlobals mg → FnG P w K mg base CX k fa fd [x] sp) (hbind : ∀ (s : Shared) (u : Value), BindsTo s fd ⟨[u], []⟩ [(x, u)])
    (hsp : ∀ H : Hp, Only H → SqL K H a (ns.map V.int) → sp [.ref a] H (fun v _ => v = .bl true) fun _ _ _ => False)
    (hCX : ∀ H e s', CX [] H s1 (fun _ _ _ => False) e s' → False) :
    codeAny (model P w) callerA (.call (.ref fa) ⟨[.ref a], []⟩) (fun r s' => r = .ok (.ret (.bool true)) ∧ OldK s1.heap s'.heap ∧ s'.os = s1.os ∧ AllBare s'.gens) s1 := by
  have rv := vals_ints hi
  have lenV := hi.length
  -- H tracks at most the script, and that as a known object
  have main : ∀ H : Hp, Only H → SqL K H a (ns.map V.int) → HOk P w H s1.heap → (∀ b, H b ≠ none → b = a) → (H a ≠ none → K.lookup a = none) →
      codeAny (model P w) callerA (.call (.ref fa) ⟨[.ref a], []⟩) (fun r s' => r = .ok (.ret (.bool true)) ∧ OldK s1.heap s'.heap ∧ s'.os = s1.os ∧ AllBare s'.gens) s1 := by
    intro H hO hS hok only noK
    have under : ∀ {b : Addr} {o : Obj}, s1.heap.get? b = some o → H b = none → (hidT s1.heap H).get? b = some o := fun z n => hidT_get z n
    have dictFree : ∀ {b : Addr} {o : Obj} {es : Array DictEntry} {ep : Nat}, s1.heap.get? b = some o → o.data = .dict es ep → H b = none := by
      intro b o es ep z d
      by_cases q : H b = none
      · exact q
      · have hba : b = a := only b q
        rw [hba, ha] at z
        have zo := Option.some.inj z
        rw [← zo] at d
        exact nomatch (show Data.seq vs.toArray _ = Data.dict es ep from d)
    have nsU : ∀ {b : Addr} {m : Str → Option Value}, s1.heap.Ns b m → (hidT s1.heap H).Ns b m := fun {b m} ⟨o, es, ep, z, d, r⟩ => ⟨o, es, ep, under z (dictFree z d), d, r⟩
    have kU : K.In (hidT s1.heap H) := by
      intro b o z
      refine under (KX b o z) ?_
      by_cases q : H b = none
      · exact q
      · have hba : b = a := only b q
        rw [hba] at z q
        rw [noK q] at z
        exact nomatch z
    have mU : Mod K mg (hidT s1.heap H) := ⟨kU, nsU hns, ⟨mb, nsU hb, hbb⟩, (let ⟨mc, h1, h2⟩ := hlim; ⟨mc, nsU h1, h2⟩)⟩
    have e0 : Env0 P w K mg (hidT s1.heap H) callerA [] s1 H := ⟨rfl, mU, fun b o z => of_hidT z, Nat.le_of_eq (hidT_size _ _), trivial, fun b q => (nomatch (show b ∈ ([] : List Addr) from q)), hok, .of_eq hg⟩
    refine codeAny_mono ((F _ kU (nsU hns)).run callerA [] s1 H ⟨[.ref a], []⟩ [.ref a] [.ref a] _ _ rfl hr e0 (hbind s1 (.ref a)) (.cons rfl .nil) (hsp H hO hS)) ?_
    intro r s' hq
    match r, hq with
    | .error e, hq => exact (hCX H e s' hq).elim
    | .ok (.ret u), hq =>
      obtain ⟨v, H', os, bare, un, hok', ru, q⟩ := hq
      have q1 : v = .bl true := q
      rw [q1] at ru
      have q2 : u = Value.bool true := ru
      subst q2
      refine ⟨rfl, OldK.of_keep (fun b o z => ?_), os, bare⟩
      by_cases n : H b = none
      · exact un.keep b o z n (fun y => (nomatch (show b ∈ ([] : List Addr) from y))) (fun y => (nomatch y))
      · cases hO b with
        | inl y => exact absurd y n
        | inr y =>
          obtain ⟨ob, xs, y⟩ := y
          have y2 := un.frzs b ob _ y
          have g1 := (hok b _ y).1
          have g2 := (hok' b _ y2).1
          rw [z] at g1
          rw [Option.some.inj g1]
          exact g2
  by_cases hk : K.lookup a = none
  · refine main (fun b => if b = a then some (.frz { cls := .type "list", data := .seq vs.toArray } (.lst (ns.map V.int))) else none) ?_ ?_ ?_ ?_ (fun _ => hk)
    · intro b
      by_cases hb : b = a
      · exact Or.inr ⟨_, _, if_pos hb⟩
      · exact Or.inl (if_neg hb)
    · exact Or.inl (Or.inr ⟨{ cls := .type "list", data := .seq vs.toArray }, if_pos rfl⟩)
    · intro b u z
      by_cases hb : b = a
      · rw [hb] at z ⊢
        have z2 := Option.some.inj ((if_pos rfl).symm.trans z)
        rw [← z2]
        exact ⟨ha, by rw [List.length_map]; exact hl, vs, _, rv, ha⟩
      · exact nomatch (if_neg hb).symm.trans z
    · intro b z
      by_cases hb : b = a
      · exact hb
      · exact absurd (if_neg hb) z
  · obtain ⟨o, ho⟩ := Option.ne_none_iff_exists'.mp hk
    have z := KX a o ho
    rw [ha] at z
    have zo := Option.some.inj z
    subst zo
    refine main (fun _ => none) (fun _ => Or.inl rfl) (Or.inr ⟨_, vs.toArray, _, ho, rfl, rfl, rfl, ?_, ?_⟩) (fun b u y => (nomatch (show (none : Option HO) = some u from y))) (fun b y => absurd rfl y) (fun y => absurd rfl y)
    · rw [List.size_toArray, lenV]
      exact hl
    · simpa using rv
/-! ### 3. data in the abstract heap -/
def kP : Key → PyData
  | .inl i => .int i
  | .inr x => .str x
mutual
/-- v is the data d -/
inductive DA (N : Addr → Prop) (H : Hp) : V → PyData → Prop where
  | non : DA N H .non .none
  | bl (b : Bool) : DA N H (.bl b) (.bool b)
  | int (i : Int) : DA N H (.int i) (.int i)
  | str (x : Str) : DA N H (.str x) (.str x)
  | lst {a : Addr} {xs : List V} {ds : List PyData} : H a = some (.lst xs) → a ≠ sysModules → ¬ N a → DAs N H xs ds → DA N H (.ref a) (.list ds)
  | tup {a : Addr} {xs : List V} {ds : List PyData} : H a = some (.tup xs) → ¬ N a → DAs N H xs ds → DA N H (.ref a) (.tuple ds)
  | dK {a : Addr} {es : List (Key × V)} {kvs : List (PyData × PyData)} : H a = some (.dK es) → ¬ N a → DKs N H es kvs → DA N H (.ref a) (.dict kvs)
inductive DAs (N : Addr → Prop) (H : Hp) : List V → List PyData → Prop where
  | nil : DAs N H [] []
  | cons {x : V} {d : PyData} {xs : List V} {ds : List PyData} : DA N H x d → DAs N H xs ds → DAs N H (x :: xs) (d :: ds)
inductive DKs (N : Addr → Prop) (H : Hp) : List (Key × V) → List (PyData × PyData) → Prop where
  | nil : DKs N H [] []
  | cons {k : Key} {v : V} {d : PyData} {es : List (Key × V)} {kvs : List (PyData × PyData)} : DA N H v d → DKs N H es kvs → DKs N H ((k, v) :: es) ((kP k, d) :: kvs)
end
mutual
theorem DA.same {N : Addr → Prop} {H H' : Hp} (s : Same H H') : ∀ {v : V} {d : PyData}, DA N H v d → DA N H' v d
  | _, _, .non => .non
  | _, _, .bl b => .bl b
  | _, _, .int i => .int i
  | _, _, .str x => .str x
  | _, _, .lst h n m r => .lst (s _ _ h) n m (DAs.same s r)
  | _, _, .tup h m r => .tup (s _ _ h) m (DAs.same s r)
  | _, _, .dK h m r => .dK (s _ _ h) m (DKs.same s r)
theorem DAs.same {N : Addr → Prop} {H H' : Hp} (s : Same H H') : ∀ {v : List V} {d : List PyData}, DAs N H v d → DAs N H' v d
  | _, _, .nil => .nil
  | _, _, .cons h r => .cons (DA.same s h) (DAs.same s r)
theorem DKs.same {N : Addr → Prop} {H H' : Hp} (s : Same H H') : ∀ {v : List (Key × V)} {d : List (PyData × PyData)}, DKs N H v d → DKs N H' v d
  | _, _, .nil => .nil
  | _, _, .cons h r => .cons (DA.same s h) (DKs.same s r)
end
theorem key_reads {h : Heap} {k : Key} {u : Value} (z : keyIs k u = true) : Reads h u (kP k) [] := by
  cases k with
  | inl i =>
    obtain ⟨t, e⟩ := Value.isInt_shape (show Value.isInt i u = true from z)
    rw [e]
    exact .int i t
  | inr x =>
    obtain ⟨t, e⟩ := Value.isStrOf_shape (show Value.isStrOf x u = true from z)
    rw [e]
    exact .str x t
section
variable {P : Program} {w : World} {N : Addr → Prop} {H : Hp} {h : Heap}
mutual
theorem DA.reads (ok : HOk P w H h) : ∀ {v : V} {d : PyData} {u : Value}, DA N H v d → RelV v u → ∃ as, Reads h u d as ∧ sysModules ∉ as
  | _, _, u, .non, r => by
    have e : u = Value.none := r
    rw [e]
    exact ⟨[], .none, List.not_mem_nil⟩
  | _, _, u, .bl b, r => by
    have e : u = Value.bool b := r
    rw [e]
    exact ⟨[], .bool b, List.not_mem_nil⟩
  | _, _, u, .int i, r => by
    obtain ⟨t, e⟩ := (show ∃ t, u = Value.int i t from r)
    rw [e]
    exact ⟨[], .int i t, List.not_mem_nil⟩
  | _, _, u, .str x, r => by
    obtain ⟨t, e⟩ := (show ∃ t, u = Value.str x t from r)
    rw [e]
    exact ⟨[], .str x t, List.not_mem_nil⟩
  | _, _, u, .lst (a := a) (xs := xs) hA n _ rs, r => by
    have e : u = Value.ref a := r
    rw [e]
    obtain ⟨_, its, m, rv, ho⟩ := (show ObjOk P w H h a (.lst xs) from ok a _ hA)
    obtain ⟨as, ra, ns⟩ := DAs.reads ok rs rv
    exact ⟨a :: as, .list ho rfl rfl (by simpa using ra), fun z => (List.mem_cons.mp z).elim (fun y => n y.symm) ns⟩
  | _, _, u, .tup (a := a) (xs := xs) hA _ rs, r => by
    have e : u = Value.ref a := r
    rw [e]
    obtain ⟨_, its, rv, o, ho, hc, m, hd⟩ := (show ObjOk P w H h a (.tup xs) from ok a _ hA)
    obtain ⟨as, ra, ns⟩ := DAs.reads ok rs rv
    exact ⟨as, .tuple ho hc hd (by simpa using ra), ns⟩
  | _, _, u, .dK (a := a) (es := es) hA _ rs, r => by
    have e : u = Value.ref a := r
    rw [e]
    obtain ⟨_, hs, vs, rv, o, ds, ep, ho, hx, hd, _, hp, _⟩ := (show ObjOk P w H h a (.dK es) from ok a _ hA)
    obtain ⟨as, bs, r1, r2, n1, n2⟩ := DKs.reads ok rs rv hp
    refine ⟨a :: as ++ bs, .dict ho hx.1 hd r1 r2, fun z => ?_⟩
    rcases List.mem_append.mp z with y | y
    · rcases List.mem_cons.mp y with x | x
      · exact absurd x.symm (beq_eq_false_iff_ne.mp hs)
      · exact n1 x
    · exact n2 y
theorem DAs.reads (ok : HOk P w H h) : ∀ {vs : List V} {ds : List PyData} {us : List Value}, DAs N H vs ds → Vals vs us → ∃ as, ReadsAll h us ds as ∧ sysModules ∉ as
  | _, _, _, .nil, .nil => ⟨[], .nil, List.not_mem_nil⟩
  | _, _, _, .cons hd rs, .cons r1 r2 => by
    obtain ⟨as, a1, a2⟩ := DA.reads ok hd r1
    obtain ⟨bs, b1, b2⟩ := DAs.reads ok rs r2
    exact ⟨as ++ bs, .cons a1 b1, fun z => (List.mem_append.mp z).elim a2 b2⟩
theorem DKs.reads (ok : HOk P w H h) : ∀ {es : List (Key × V)} {kvs : List (PyData × PyData)} {vs : List (Key × Value)} {ds : List DictEntry}, DKs N H es kvs → KV es vs → Pairs (mixKind P w) ds vs →
    ∃ as bs, ReadsAll h (ds.map (·.key)) (kvs.map (·.1)) as ∧ ReadsAll h (ds.map (·.val)) (kvs.map (·.2)) bs ∧ sysModules ∉ as ∧ sysModules ∉ bs
  | _, _, _, _, .nil, .nil, .nil => ⟨[], [], .nil, .nil, List.not_mem_nil, List.not_mem_nil⟩
  | _, _, _, _, .cons hd rs, .cons r1 r2, .cons p1 p2 p3 => by
    obtain ⟨as, bs, a1, b1, a2, b2⟩ := DKs.reads ok rs r2 p3
    obtain ⟨cs, c1, c2⟩ := DA.reads ok hd (show RelV _ _ from p2 ▸ r1.2)
    have k1 := key_reads (h := h) p1
    rw [← r1.1] at k1
    exact ⟨[] ++ as, cs ++ bs, .cons k1 a1, .cons c1 b1, a2, fun z => (List.mem_append.mp z).elim c2 b2⟩
end
end
/-! ### 4. repr of data -/
def rRepr : List V → Hp → VK → Prop := fun xs H Q => ∃ (N : Addr → Prop) (v : V) (d : PyData), xs = [v] ∧ DA N H v d ∧ d.showable = true ∧ d.depth ≤ 60 ∧ d.shown.length ≤ sizeLine ∧ Q (.str d.shown) H
end Fh
set_option Elab.async false
set_option linter.all false
set_option maxRecDepth 100000
set_option maxHeartbeats 4000000
namespace PySem
end PySem
set_option Elab.async false
set_option linter.all false
set_option maxRecDepth 100000
set_option maxHeartbeats 4000000
namespace Fh
open PySem PySem.Spec PyProof.Rows L2
open PySem.W (Frag)
/-- what the written part says of an own error class at C, straight below the built-in class with mro bmB -/
structure EI (K : Frag) (C : Addr) (bmB : List Value) (newId : String) : Prop where
  q : PySem.W.excInitIn K C bmB newId = true
  mro : (PySem.W.clsIn K C).map (·.mro) = some (.ref C :: bmB)
  hd : PySem.W.hasDictIn K C = true
  ty : PySem.W.typeIn K (.ref C) = some (.type "type")
  sa : PySem.W.findIn K (.ref C) "__setattr__" = some (some (.builtin "object.__setattr__"))
  ga : PySem.W.findIn K (.ref C) "__getattribute__" = some (some (.builtin "BaseException.__getattribute__"))
  gg : PySem.W.findIn K (.ref C) "__getattr__" = some none
  cl : PySem.W.findIn K (.ref C) "__class__" = some (some (.builtin "object.__class__"))
  kC : PySem.W.keepIn K (.ref C) = true
  hn : PySem.W.specialIn K (.builtin "object.__class__") "__get__" = some (some (.builtin "getset_descriptor.__get__"))
  ht : PySem.W.takesIn K (.builtin "object.__class__") = some true
section
variable {K : Frag} {C : Addr} {bmB : List Value} {newId : String}
theorem EI.cls (T : EI K C bmB newId) : ∃ cd, PySem.W.clsIn K C = some cd ∧ cd.mro = .ref C :: bmB := Option.map_eq_some_iff.mp T.mro
theorem EI.sub (T : EI K C bmB newId) {b : Value} : PySem.W.subIn K (.ref C) b = some (List.contains (.ref C :: bmB) b) := by
  obtain ⟨cd, h1, h2⟩ := T.cls
  show PySem.W.mroIn K C b = _
  unfold PySem.W.mroIn
  rw [h1, Option.bind_some, h2, if_neg (by simp)]
theorem EI.mroI (T : EI K C bmB newId) {b : Value} : PySem.W.mroIn K C b = some (List.contains (.ref C :: bmB) b) := T.sub
theorem EI.tail (T : EI K C bmB newId) : PySem.W.excTail bmB bmB = true := by
  have q := T.q
  obtain ⟨cd, h1, h2⟩ := T.cls
  unfold PySem.W.clsIn at h1
  unfold PySem.W.excInitIn at q
  split at h1
  · rename_i c d cd' sl ho
    have e := Option.some.inj h1
    subst e
    rw [ho] at q
    split at q
    · rename_i dd cd2 sl2 ho2
      have e2 := Option.some.inj ho2
      injection e2 with e3 e4 e5 e6
      injection e5 with e5
      subst e5
      rw [h2] at q
      split at q
      · rename_i C' bm _ _ _ _ _ _ hm _
        injection hm with hm1 hm2
        subst hm2
        simp only [Bool.and_eq_true] at q
        exact q.2
      · exact nomatch q
    · exact nomatch q
  · exact nomatch h1
theorem EI.over (T : EI K C bmB newId) : PySem.W.excOver K C bmB = true := by
  obtain ⟨cd, h1, h2⟩ := T.cls
  unfold PySem.W.excOver
  rw [h1]
  show (match cd.mro with | .ref C' :: bm => C' == C && PySem.W.excTail bmB bm | _ => false) = true
  rw [h2]
  show (C == C && PySem.W.excTail bmB bmB) = true
  rw [T.tail]
  simp
end
/-! ### self.f = v in such a class's __init__ -/
section
variable {prog : Program} {w : World} {A : Around} {R : Result → Shared → Prop} {hp : Heap} {g : Array GenState} {d : Drawn} {t : Nat} {os : OsState} {K : Frag} {C : Addr} {bmB : List Value} {newId B : String} {name : Str} {tk : Tok} {v : Value} {x : Addr} {fv : Array Value}
open Builtin Builtin.ObjectAttr in
theorem osaG_new (T : EI K C bmB newId) (SF : StoreFacts B bmB "object.__setattr__" "object") (X : K.In hp) (hx : hp.get? x = some { cls := .ref C, data := .fields fv }) (no : PySem.W.findIn K (.ref C) name = some none)
    (hq : ∀ h' tk' dx, (∀ b o, b ≠ x → hp.get? b = some o → h'.get? b = some o) → hp.objs.size ≤ dx → dx ≠ x → h'.get? x = some { cls := .ref C, dict := some dx, data := .fields fv } →
      h'.Ns1 dx (fun y => if y = name then some v else none) → R (.ok (.ret .none)) ⟨h', g, d, tk', os⟩) :
    codeAny (model prog w) A (.call (.builtin "object.__setattr__") ⟨[.ref x, .str name tk, v], []⟩) R ⟨hp, g, d, t, os⟩ := by
  obtain ⟨cd, hcd, hdict⟩ := PySem.W.any_some T.hd
  have apart : x ≠ hp.objs.size := Nat.ne_of_lt (Heap.lt_size hx)
  have hcls : PySem.W.Looks (model prog w) hp (classData C) cd := PySem.W.looks_clsIn X hcd
  refine PySem.W.osa_openX (od := none) (r := none) SF X ⟨hx, rfl, rfl, trivial⟩ T.over ?_ fun b => ?_
  · unfold PySem.W.takerIn
    rw [no]
    rfl
  · show wpAny _ _ (storeInOwnDict (.ref x) (.ref C) (.str name tk) name v b) _ _ _
    obtain ⟨n1, n2, n3, n4, n5, n6, n7, n8, n9, n10, n11⟩ := cd
    have e6 : n6 = true := hdict
    subst e6
    unfold storeInOwnDict ownDictForStores
    repeat (first
      | with_reducible refine HandSPX.store_in_new ?_ ?_
      | with_reducible refine wpAny_loadPart_at hx ?_
      | with_reducible refine hcls.at ?_
      | wp_step)
    · exact ⟨_, #[], _, (Heap.get?_update_ne _ _ _ _ apart.symm).trans (Heap.get?_push_at rfl rfl), rfl, fun e he => absurd he (by simp), fun _ => rfl⟩
    · intro h' tk' ns same
      have hx1 : (hp.push { cls := .type "dict", data := .dict #[] }).get? x = some { cls := .ref C, data := .fields fv } := Heap.get?_push_of_some _ hx
      refine hq h' tk' hp.objs.size (fun b o hb ho => ?_) (Nat.le_refl _) apart.symm ?_ ns
      · exact (same.2 b (Nat.ne_of_lt (Heap.lt_size ho))).trans ((Heap.get?_update_ne _ _ _ _ hb).trans (Heap.get?_push_of_some _ ho))
      · exact (same.2 x apart).trans (Heap.get?_update_self _ hx1 rfl)
end
/-! ### C(..): made, by positions, by keywords -/
end Fh
set_option Elab.async false
set_option linter.all false
set_option maxRecDepth 100000
set_option maxHeartbeats 4000000
namespace Fh
open PySem PySem.Spec PyProof.Rows L2
open PySem.W (Frag)
/-- an error of the class at C stands at a, with the fields fs -/
def ErrAt (H : Hp) (a C : Addr) (fs : List (Str × V)) : Prop := (fs = [] ∧ H a = some (exo a C none)) ∨ ∃ d, H a = some (exo a C (some d)) ∧ H d = some (exd d fs)
theorem ErrAt.same {H H' : Hp} {a C : Addr} {fs : List (Str × V)} (s : Same H H') (h : ErrAt H a C fs) : ErrAt H' a C fs := by
  rcases h with ⟨e, h⟩ | ⟨d, h1, h2⟩
  · exact Or.inl ⟨e, s _ _ h⟩
  · exact Or.inr ⟨d, s _ _ h1, s _ _ h2⟩
section
variable {K : Frag} {C D : Addr} {bmB bmD : List Value} {newId newD : String}
theorem EI.kitT (T : EI K C bmB newId) {t : String} (hm : PySem.W.kitMeta t = true) : PySem.W.kitOne K (.ref C) (.type t) = some (bmB.contains (.type t)) := by
  unfold PySem.W.kitOne
  rw [if_neg (by simp)]
  show (if PySem.W.kitMeta t = true then PySem.W.subIn K (.ref C) (.type t) else none) = _
  rw [if_pos hm, T.sub, List.contains_cons]
  rfl
end
/-! ### a list display whose address is not that of sys.modules -/
def tLstS (t : TA) : TE := fun σ H Q => t σ H fun xs H1 => xs.length ≤ sizeLine ∧ ∀ p, H1 p = none → p ≠ sysModules → Q (.ref p) (upd H1 p (.lst xs))
theorem pe_lstS {X : Cx} {es : List Expr} {t : TA} {pos : Pos} (h : PA X es t) : PE X (.List es pos) (tLstS t) := by
  refine ⟨fun pins s σ H Q I hq => wpAny_List_spliced (thn (h.run pos pins s σ H _ I hq) fun us s1 ⟨xs, H1, I1, r, z, q⟩ => ⟨by rw [← r.length]; exact z, ?_⟩)⟩
  have new : H1 s1.heap.objs.size = none := I1.hok.fresh (Nat.le_refl _)
  have far : s1.heap.objs.size ≠ sysModules := Nat.ne_of_gt I1.big
  exact ⟨.ref s1.heap.objs.size, upd H1 s1.heap.objs.size (.lst xs), I1.laid (t' := s1.toks) (fun b u e => Heap.get?_push_of_some _ e) (Nat.le_refl _) ⟨z, us, 0, r, Heap.get?_push_size _ rfl⟩, rfl, q _ new far⟩
/-! ### a value and itself -/
end Fh
set_option Elab.async false
set_option linter.all false
set_option maxRecDepth 100000
set_option maxHeartbeats 4000000
namespace Fh
open PySem PySem.Spec PyProof.Rows L2
open PySem.W (Frag)
theorem PE.imp {X : Cx} {e : Expr} {t t' : TE} (h : PE X e t) (i : ∀ σ H Q, t' σ H Q → t σ H Q) : PE X e t' := ⟨fun pins s σ H Q I q => h.run pins s σ H Q I (i σ H Q q)⟩
theorem PA.imp {X : Cx} {e : List Expr} {t t' : TA} (h : PA X e t) (i : ∀ σ H Q, t' σ H Q → t σ H Q) : PA X e t' := ⟨fun pos pins s σ H Q I q => h.run pos pins s σ H Q I (i σ H Q q)⟩
theorem PS.imp {X : Cx} {e : Stmt} {t t' : TS} (h : PS X e t) (i : ∀ D σ H, t' D σ H → t D σ H) : PS X e t' := ⟨fun pins s σ H D I q => h.run pins s σ H D I (i D σ H q)⟩
theorem Same.upd {H H' : Hp} {p : Addr} {o : HO} (s : Same H H') (n : H' p = none) : Same H (upd H' p o) := fun b u e => by
  rw [upd_ne (ne_of_none (s b u e) n)]
  exact s b u e
theorem Same.new {H : Hp} {p : Addr} {o : HO} (n : H p = none) : Same H (L2.upd H p o) := Same.upd (Same.refl H) n
/-! ### written data -/
/-- N: addresses that stand already and are kept apart -/
def Kept (N : Addr → Prop) (H : Hp) : Prop := ∀ a, N a → H a ≠ none
theorem Kept.same {N : Addr → Prop} {H H' : Hp} (k : Kept N H) (s : Same H H') : Kept N H' := fun a n z => by
  cases e : H a with
  | none => exact k a n e
  | some o =>
    rw [s a o e] at z
    exact nomatch z
theorem Kept.not {N : Addr → Prop} {H : Hp} (k : Kept N H) {p : Addr} (n : H p = none) : ¬ N p := fun z => k p z n
def tD (N : Addr → Prop) (d : PyData) : TE := fun _ H Q => Kept N H ∧ ∀ x H', Same H H' → DA N H' x d → Q x H'
def tDs (N : Addr → Prop) (ds : List PyData) : TA := fun _ H Q => Kept N H ∧ ∀ xs H', Same H H' → DAs N H' xs ds → Q xs H'
theorem DAs.length {N : Addr → Prop} {H : Hp} : ∀ {xs : List V} {ds : List PyData}, DAs N H xs ds → xs.length = ds.length
  | _, _, .nil => rfl
  | _, _, .cons _ r => congrArg Nat.succ (DAs.length r)
theorem DAs.append {N : Addr → Prop} {H : Hp} : ∀ {xs ys : List V} {ds es : List PyData}, DAs N H xs ds → DAs N H ys es → DAs N H (xs ++ ys) (ds ++ es)
  | _, _, _, _, .nil, h => h
  | _, _, _, _, .cons a r, h => .cons a (DAs.append r h)
theorem DAs.get {N : Addr → Prop} {H : Hp} : ∀ {xs : List V} {ds : List PyData}, DAs N H xs ds → ∀ {i : Nat} {x : V}, xs[i]? = some x → ∃ d, ds[i]? = some d ∧ DA N H x d
  | _, _, .nil, _, _, e => by simp at e
  | _, _, .cons a r, 0, x, e => by
    simp at e
    subst e
    exact ⟨_, rfl, a⟩
  | _, _, .cons a r, i + 1, x, e => by
    obtain ⟨d, h1, h2⟩ := DAs.get r (i := i) (x := x) (by simpa using e)
    exact ⟨d, by simpa using h1, h2⟩
section
variable {X : Cx} {e : Expr} {es : List Expr} {d : PyData} {ds : List PyData} {pos pos' pos2 : Pos} {j : Nat} {N : Addr → Prop}
theorem pd_non {j} : PE X (.Constant .none j pos) (tD N .none) := PE.imp pe_non fun σ H Q q => q.2 _ H (Same.refl H) .non
theorem pd_bl {b j} : PE X (.Constant (.bool b) j pos) (tD N (.bool b)) := PE.imp pe_bl fun σ H Q q => q.2 _ H (Same.refl H) (.bl b)
theorem pd_int {i j} : PE X (.Constant (.int i) j pos) (tD N (.int i)) := PE.imp pe_int fun σ H Q q => q.2 _ H (Same.refl H) (.int i)
theorem pd_str {x j} : PE X (.Constant (.str x) j pos) (tD N (.str x)) := PE.imp pe_str fun σ H Q q => q.2 _ H (Same.refl H) (.str x)
theorem pd_neg {i j} : PE X (.UnaryOp .USub (.Constant (.int i) j pos) pos') (tD N (.int (-i))) := PE.imp (pe_un un_neg pe_int) fun σ H Q q => ⟨i, rfl, q.2 _ H (Same.refl H) (.int _)⟩
theorem pd_pow {i j : Int} {a b} (h0 : 0 ≤ j ∧ j ≤ 1000000 ∧ i.natAbs < 2 ^ 64) : PE X (.BinOp (.Constant (.int i) a pos) .Pow (.Constant (.int j) b pos') pos2) (tD N (.int (i ^ j.toNat))) :=
  PE.imp (pe_op op_pow pe_int pe_int) fun σ H Q q => ⟨i, j, rfl, rfl, h0, q.2 _ H (Same.refl H) (.int _)⟩
theorem pds_nil : PA X [] (tDs N []) := PA.imp pa_nil fun σ H Q q => q.2 [] H (Same.refl H) .nil
theorem pds_cons (h : PE X e (tD N d)) (r : PA X es (tDs N ds)) (hs : starEach (e :: es) X.env = (false, eval e X.env) :: starEach es X.env := by rfl) : PA X (e :: es) (tDs N (d :: ds)) :=
  PA.imp (pa_cons h r hs) fun σ H Q q => ⟨q.1, fun x H1 s1 d1 => ⟨q.1.same s1, fun xs H2 s2 d2 => q.2 (x :: xs) H2 (s1.trans s2) (.cons (DA.same s2 d1) d2)⟩⟩
theorem pd_tup {x1} (h : PA X es (tDs N ds)) (hz : ds.length ≤ sizeLine := by decide) : PE X (.Tuple es x1 pos) (tD N (.tuple ds)) :=
  PE.imp (pe_tup h) fun σ H Q q => ⟨q.1, fun xs H1 s1 d1 => ⟨by rw [d1.length]; exact hz, fun p n => q.2 _ _ (Same.upd s1 n) (.tup upd_same ((q.1.same s1).not n) (DAs.same (Same.new n) d1))⟩⟩
theorem pd_lst (h : PA X es (tDs N ds)) (hz : ds.length ≤ sizeLine := by decide) : PE X (.List es pos) (tD N (.list ds)) :=
  PE.imp (pe_lstS h) fun σ H Q q => ⟨q.1, fun xs H1 s1 d1 => ⟨by rw [d1.length]; exact hz, fun p n far => q.2 _ _ (Same.upd s1 n) (.lst upd_same far ((q.1.same s1).not n) (DAs.same (Same.new n) d1))⟩⟩
theorem pd_dict0 : PE X (.Dict [] [] pos) (tD N (.dict [])) := PE.imp pe_dnewK fun σ H Q q p n => q.2 _ _ (Same.new n) (.dK upd_same (q.1.not n) .nil)
/-- {'k': a constant} -/
theorem pd_dictI {k : Str} {i : Int} {a b} : PE X (.Dict [some (.Constant (.str k) a pos)] [.Constant (.int i) b pos'] pos2) (tD N (.dict [(.str k, .int i)])) := by
  refine PE.imp (pe_disp (pps_cons pe_str pe_int pps_nil) (by rfl) (by rfl) (fun z => by cases z) (show 1 ≤ 15 by decide)) fun σ H Q q p n => ?_
  refine ⟨upd_same, [(Sum.inr k, .int i)], rfl, (show 1 ≤ 15 by decide), ?_⟩
  rw [upd_upd]
  exact q.2 _ _ (Same.new n) (.dK upd_same (q.1.not n) (.cons (k := Sum.inr k) (.int i) .nil))
/-- {'k': []} -/
theorem pd_dictL {k : Str} {a} : PE X (.Dict [some (.Constant (.str k) a pos)] [.List [] pos'] pos2) (tD N (.dict [(.str k, .list [])])) := by
  refine PE.imp (pe_disp (pps_cons pe_str (pe_lstS pa_nil) pps_nil) (by rfl) (by rfl) (fun z => by cases z) (show 1 ≤ 15 by decide)) fun σ H Q q p n => ?_
  refine ⟨by decide, fun l nl far => ?_⟩
  have pl : p ≠ l := fun z => by
    rw [← z, upd_same] at nl
    exact nomatch nl
  have hl : H l = none := by
    rw [upd_ne (Ne.symm pl)] at nl
    exact nl
  refine ⟨by rw [upd_ne pl, upd_same], [(Sum.inr k, .ref l)], rfl, (show 1 ≤ 15 by decide), ?_⟩
  refine q.2 _ _ (fun b u z => ?_) (.dK upd_same (q.1.not n) (.cons (k := Sum.inr k) (.lst (by rw [upd_ne (Ne.symm pl), upd_same]) far (q.1.not hl) .nil) .nil))
  rw [upd_ne (ne_of_none z n), upd_ne (ne_of_none z hl), upd_ne (ne_of_none z n)]
  exact z
end
/-! ### the pen of a law: its ints, its place, its rest -/
/-- a pen at p, its list at c; its place is at most n -/
structure PenAt (H : Hp) (p c : Addr) (n : Nat) : Prop where
  pc : p ≠ c
  ex : ∃ (cs : List Int) (spot rest : Int), H p = some (.dK [(Sum.inr "cells", .ref c), (Sum.inr "spot", .int spot), (Sum.inr "rest", .int rest)]) ∧ H c = some (.lst (cs.map V.int)) ∧ cs.length ≤ 1000 ∧ 0 ≤ spot ∧ spot ≤ n
/-- all but p stays -/
def But (p : Addr) (H H' : Hp) : Prop := ∀ b o, b ≠ p → H b = some o → H' b = some o
theorem But.refl (p : Addr) (H : Hp) : But p H H := fun _ _ _ h => h
theorem But.trans {p : Addr} {H H1 H2 : Hp} (a : But p H H1) (b : But p H1 H2) : But p H H2 := fun x o n h => b x o n (a x o n h)
theorem But.of {p : Addr} {H H1 : Hp} (a : Same H H1) : But p H H1 := fun x o _ h => a x o h
theorem But.upd {p : Addr} {H H1 : Hp} {u : HO} (a : But p H H1) : But p H (L2.upd H1 p u) := fun x o n h => by
  rw [upd_ne n]
  exact a x o n h
theorem PenAt.same {H H' : Hp} {p c : Addr} {n m : Nat} (s : Same H H') (h : PenAt H p c n) (hm : n ≤ m) : PenAt H' p c m := by
  obtain ⟨a, cs, spot, rest, h1, h2, h3, h4, h5⟩ := h
  exact ⟨a, cs, spot, rest, s _ _ h1, s _ _ h2, h3, h4, by omega⟩
mutual
theorem DA.but {N : Addr → Prop} {p : Addr} {H H' : Hp} (s : But p H H') (hp : N p) : ∀ {v : V} {d : PyData}, DA N H v d → DA N H' v d
  | _, _, .non => .non
  | _, _, .bl b => .bl b
  | _, _, .int i => .int i
  | _, _, .str x => .str x
  | _, _, .lst h n m r => .lst (s _ _ (fun z => m (z ▸ hp)) h) n m (DAs.but s hp r)
  | _, _, .tup h m r => .tup (s _ _ (fun z => m (z ▸ hp)) h) m (DAs.but s hp r)
  | _, _, .dK h m r => .dK (s _ _ (fun z => m (z ▸ hp)) h) m (DKs.but s hp r)
theorem DAs.but {N : Addr → Prop} {p : Addr} {H H' : Hp} (s : But p H H') (hp : N p) : ∀ {v : List V} {d : List PyData}, DAs N H v d → DAs N H' v d
  | _, _, .nil => .nil
  | _, _, .cons h r => .cons (DA.but s hp h) (DAs.but s hp r)
theorem DKs.but {N : Addr → Prop} {p : Addr} {H H' : Hp} (s : But p H H') (hp : N p) : ∀ {v : List (Key × V)} {d : List (PyData × PyData)}, DKs N H v d → DKs N H' v d
  | _, _, .nil => .nil
  | _, _, .cons h r => .cons (DA.but s hp h) (DKs.but s hp r)
end
end Fh
set_option Elab.async false
set_option linter.all false
set_option maxRecDepth 100000
set_option maxHeartbeats 4000000
namespace Fh
open PySem PySem.Spec PyProof.Rows L2
open PySem.W (Frag)
/-! ### a pen's pairs -/
def penKV (c : Addr) (s r : Int) : List (Key × V) := [(Sum.inr "cells", .ref c), (Sum.inr "spot", .int s), (Sum.inr "rest", .int r)]
theorem pen_cells {c : Addr} {s r : Int} : valV (penKV c s r) (Sum.inr "cells" : Key) = some (.ref c) := by
  first
    | rfl
    | simp [penKV, valV]
theorem pen_spot {c : Addr} {s r : Int} : valV (penKV c s r) (Sum.inr "spot" : Key) = some (.int s) := by
  first
    | rfl
    | simp [penKV, valV]
theorem pen_rest {c : Addr} {s r : Int} : valV (penKV c s r) (Sum.inr "rest" : Key) = some (.int r) := by
  first
    | rfl
    | simp [penKV, valV]
theorem put_spot {c : Addr} {s r z : Int} : putK (penKV c s r) (Sum.inr "spot" : Key) (.int z) = penKV c z r := by
  first
    | rfl
    | simp [penKV, putK]
theorem put_rest {c : Addr} {s r z : Int} : putK (penKV c s r) (Sum.inr "rest" : Key) (.int z) = penKV c s z := by
  first
    | rfl
    | simp [penKV, putK]
/-- a pen stands at p, its list at c; its place is s, its rest r -/
structure PenS (H : Hp) (p c : Addr) (cs : List Int) (s r : Int) : Prop where
  pc : p ≠ c
  hp : H p = some (.dK (penKV c s r))
  hc : H c = some (.lst (cs.map V.int))
  hl : cs.length ≤ 1000
theorem PenAt.open {H : Hp} {p c : Addr} {n : Nat} (h : PenAt H p c n) : ∃ cs s r, PenS H p c cs s r ∧ 0 ≤ s ∧ s ≤ n := by
  obtain ⟨a, cs, s, r, h1, h2, h3, h4, h5⟩ := h
  exact ⟨cs, s, r, ⟨a, h1, h2, h3⟩, h4, h5⟩
theorem PenS.at_ {H : Hp} {p c : Addr} {cs : List Int} {s r : Int} {n : Nat} (h : PenS H p c cs s r) (h0 : 0 ≤ s) (h1 : s ≤ n) : PenAt H p c n := ⟨h.pc, cs, s, r, h.hp, h.hc, h.hl, h0, h1⟩
theorem PenS.put {H : Hp} {p c : Addr} {cs : List Int} {s r s' r' : Int} (h : PenS H p c cs s r) : PenS (upd H p (.dK (penKV c s' r'))) p c cs s' r' :=
  ⟨h.pc, upd_same, by rw [upd_ne (Ne.symm h.pc)]; exact h.hc, h.hl⟩
theorem PenS.same {H H' : Hp} {p c : Addr} {cs : List Int} {s r : Int} (h : PenS H p c cs s r) (z : Same H H') : PenS H' p c cs s r := ⟨h.pc, z _ _ h.hp, z _ _ h.hc, h.hl⟩
section
variable {X : Cx} {o i : Expr} {x : Str} {p1 p2 p3 : Pos} {a k : Nat}
/-- pen['rest'], pen['spot'], pen['cells']: the pen's name stands in the slot k -/
def tPenV (g : Addr → Int → Int → V) (k : Nat) : TE := fun σ H Q => ∃ p c cs s r, σ[k]? = some (some (V.ref p)) ∧ PenS H p c cs s r ∧ Q (g c s r) H
theorem pe_rest (hu : X.A.units + 1 < cLine) (ho : PE X o (tVar k)) : PE X (.Subscript o (.Constant (.str "rest") a p2) p3) (tPenV (fun _ _ r => .int r) k) :=
  PE.imp (pe_dget hu ho pe_str (fun _ _ => rfl)) fun σ H Q ⟨p, c, cs, s, r, h1, h2, q⟩ => ⟨_, h1, p, _, rfl, by rw [← pen_rest (c := c) (s := s) (r := r)]; exact DGet.k (k := Sum.inr "rest") h2.hp, q⟩
theorem pe_spot (hu : X.A.units + 1 < cLine) (ho : PE X o (tVar k)) : PE X (.Subscript o (.Constant (.str "spot") a p2) p3) (tPenV (fun _ s _ => .int s) k) :=
  PE.imp (pe_dget hu ho pe_str (fun _ _ => rfl)) fun σ H Q ⟨p, c, cs, s, r, h1, h2, q⟩ => ⟨_, h1, p, _, rfl, by rw [← pen_spot (c := c) (s := s) (r := r)]; exact DGet.k (k := Sum.inr "spot") h2.hp, q⟩
theorem pe_cells (hu : X.A.units + 1 < cLine) (ho : PE X o (tVar k)) : PE X (.Subscript o (.Constant (.str "cells") a p2) p3) (tPenV (fun c _ _ => .ref c) k) :=
  PE.imp (pe_dget hu ho pe_str (fun _ _ => rfl)) fun σ H Q ⟨p, c, cs, s, r, h1, h2, q⟩ => ⟨_, h1, p, _, rfl, by rw [← pen_cells (c := c) (s := s) (r := r)]; exact DGet.k (k := Sum.inr "cells") h2.hp, q⟩
end
theorem fm_lo (z b : Int) (h0 : 0 < b) (h1 : b < 2 ^ 64) : -(2 ^ 64) < z.fmod b ∧ z.fmod b < 2 ^ 64 := by
  have l := Int.fmod_nonneg_of_pos z h0
  have u := Int.fmod_lt_of_pos z h0
  omega
/-- the statement that takes a cell of the script, if there is one -/
def tCellIf : TS := fun D σ H => ∃ (p c : Addr) (cs : List Int) (z y re sz : Int) (m : V) (dg mx : Option V), σ = [some (.ref p), some m, dg, some (.int z), some (.int y), mx] ∧ PenS H p c cs sz re ∧ 0 ≤ z ∧
  ∀ (cell : Int) (H' : Hp), Same H H' → D.nx [some (.ref p), some m, dg, some (.int z), some (.int cell), mx] H'
/-! ### what a draw promises -/
def spDraw : Sp := fun vs H Q _ => ∃ (p c : Addr) (n : Nat) (m : Int), vs = [.ref p, .int m] ∧ PenAt H p c n ∧ n ≤ 1000000 ∧ 1 ≤ m ∧ m ≤ 1000000 ∧
  ∀ (k : Int) (H' : Hp), 0 ≤ k → k < m → PenAt H' p c (n + 1) → But p H H' → Q (.int k) H'
/-- items[draw]: an item of a list -/
def spPick (K : Frag) : Sp := fun vs H Q _ => ∃ (p c : Addr) (n : Nat) (l : Addr) (xs : List V), vs = [.ref p, .ref l] ∧ PenAt H p c n ∧ n ≤ 1000000 ∧ H l = some (.lst xs) ∧ 1 ≤ xs.length ∧ xs.length ≤ 1000 ∧
  ∀ (i : Nat) (x : V) (H' : Hp), xs[i]? = some x → PenAt H' p c (n + 1) → But p H H' → Q x H'
/-- the script's pen -/
def spPen (K : Frag) : Sp := fun vs H Q _ => ∃ (a : Addr) (ns : List Int), vs = [.ref a] ∧ SqL K H a (ns.map V.int) ∧ ns.length ≤ 63 ∧
  ∀ (p c : Addr) (H' : Hp), Same H H' → H p = none → PenAt H' p c 0 → Q (.ref p) H'
theorem dp_ints {K : Frag} {H : Hp} : ∀ cs : List Int, DpAll K H (cs.map V.int) (cs.map PyData.int)
  | [] => .nil
  | z :: cs => .cons (.int z) (dp_ints cs)
theorem lay_ints : ∀ cs : List Int, PyData.canLayAll0 (cs.map PyData.int) = true
  | [] => rfl
  | z :: cs => by
    show (PyData.canLay0 (.int z) && PyData.canLayAll0 (cs.map PyData.int)) = true
    rw [lay_ints cs]
    rfl
theorem depth_ints : ∀ cs : List Int, PyData.depthAll (cs.map PyData.int) ≤ 1
  | [] => by
    show PyData.depthAll [] ≤ 1
    simp [PyData.depthAll]
  | z :: cs => by
    have h := depth_ints cs
    simp only [List.map_cons, PyData.depthAll, PyData.depth]
    omega
theorem shaped_ints (cs : List Int) : SeqAt.shaped (.list (cs.map PyData.int)) = true := by
  have h1 := lay_ints cs
  have h2 := depth_ints cs
  have h3 : PyData.depth (.list (cs.map PyData.int)) ≤ 64 := by
    simp only [PyData.depth]
    omega
  unfold SeqAt.shaped
  rw [decide_eq_true h3, Bool.and_true]
  simpa [PyData.canLay0] using h1
theorem int_map_get {cs : List Int} {i : Nat} (h : i < cs.length) : (cs.map V.int)[i]? = some (.int cs[i]) := by
  rw [List.getElem?_map, List.getElem?_eq_getElem h]
  rfl
/-- slices at a start of 0 keep ints -/
theorem cut_ints (ns : List Int) (lo hi : Option Int) : ∃ ms : List Int, cutV (ns.map V.int) lo hi = ms.map V.int ∧ ms.length ≤ ns.length := by
  unfold cutV
  refine ⟨(ns.drop (HT.sIx (ns.map V.int).length 0 lo)).take (HT.sIx (ns.map V.int).length (ns.map V.int).length hi - HT.sIx (ns.map V.int).length 0 lo), ?_, ?_⟩
  · rw [List.map_take, List.map_drop]
  · rw [List.length_take, List.length_drop]
    omega
end Fh
set_option Elab.async false
set_option linter.all false
set_option maxRecDepth 100000
set_option maxHeartbeats 4000000
namespace Fh
open PySem PySem.Spec PyProof.Rows L2
open PySem.W (Frag)
/-! ### the four built-in classes below which a package's errors stand -/
inductive BK where
  | ve | le | oe | re
  deriving DecidableEq
def BK.nm : BK → String
  | .ve => "ValueError"
  | .le => "LookupError"
  | .oe => "OverflowError"
  | .re => "RuntimeError"
def BK.nw : BK → String
  | .ve => "ValueError.__new__"
  | .le => "LookupError.__new__"
  | .oe => "OverflowError.__new__"
  | .re => "RuntimeError.__new__"
def BK.ni : BK → String
  | .ve => "ValueError.__init__"
  | .le => "LookupError.__init__"
  | .oe => "OverflowError.__init__"
  | .re => "RuntimeError.__init__"
def BK.bm : BK → List Value
  | .oe => [.type "OverflowError", .type "ArithmeticError", .type "Exception", .type "BaseException", .type "object"]
  | b => [.type b.nm, .type "Exception", .type "BaseException", .type "object"]
def BK.no : BK → Int
  | .ve => 0
  | .le => 1
  | .oe => 2
  | .re => 3
theorem BK.fb : ∀ b : BK, ExcBaseFacts b.nm b.nw b.ni b.bm
  | .ve => PySem.F.excBase_ValueError
  | .le => PySem.F.excBase_LookupError
  | .oe => PySem.F.excBase_OverflowError
  | .re => PySem.F.excBase_RuntimeError
theorem BK.sf : ∀ b : BK, StoreFacts b.nm b.bm "object.__setattr__" "object"
  | .ve => PySem.F.store_ValueError
  | .le => PySem.F.store_LookupError
  | .oe => PySem.F.store_OverflowError
  | .re => PySem.F.store_RuntimeError
abbrev EK (K : Frag) (C : Addr) (b : BK) : Prop := EI K C b.bm b.nw
/-! ### a class of one field -/
/-! ### a new error and its dict in the heap -/
/-! ### (C(v), C(f=v)) -/
/-! ### isinstance(e, C) by the classes' places -/
end Fh
set_option Elab.async false
set_option linter.all false
set_option maxRecDepth 100000
set_option maxHeartbeats 4000000
namespace Fh
open PySem PySem.Spec PyProof.Rows L2
open PySem.W (Frag)
/-! ### found = found + [..] -/
def tGrowD (N : Addr → Prop) (ds : List PyData) : TS := fun D σ H => ∃ (p l : Addr) (xs : List V) (cs : List PyData), σ = [some (.ref p), some (.ref l)] ∧ Kept N H ∧ H l = some (.lst xs) ∧ DAs N H xs cs ∧ cs.length + ds.length ≤ 1000 ∧
  ∀ l' ys H', Same H H' → H' l' = some (.lst ys) → DAs N H' ys (cs ++ ds) → D.nx [some (.ref p), some (.ref l')] H'
theorem grow_D {N : Addr → Prop} {ds : List PyData} (D : Ends) (σ : L2.St) (H : Hp) (h : tGrowD N ds D σ H) : tAsg (tOp rCat (tVar 1) (tLst (tDs N ds))) (gName 1) D σ H := by
  obtain ⟨p, l, xs, cs, rfl, kp, hl, da, hz, q⟩ := h
  refine ⟨_, rfl, kp, fun ys H1 s1 d1 => ⟨?_, fun p1 n1 => ?_⟩⟩
  · rw [d1.length, sizeLine_eq]
    omega
  refine ⟨l, p1, xs, ys, rfl, rfl, Same.upd s1 n1 _ _ hl, upd_same, ?_, fun p2 n2 => ?_⟩
  · rw [da.length, d1.length, sizeLine_eq]
    omega
  · have s2 := Same.upd (o := .lst ys) s1 n1
    have s3 := Same.upd (o := .lst (xs ++ ys)) s2 n2
    exact q p2 _ _ s3 upd_same ((DAs.same s3 da).append (DAs.same ((Same.new n1).trans (Same.new n2)) d1))
def tStartD (N : Addr → Prop) (ds : List PyData) : TS := fun D σ H => ∃ (p : Addr) (o : Option V), σ = [some (.ref p), o] ∧ Kept N H ∧ ds.length ≤ 1000 ∧
  ∀ l' ys H', Same H H' → H' l' = some (.lst ys) → DAs N H' ys ds → D.nx [some (.ref p), some (.ref l')] H'
theorem start_D {N : Addr → Prop} {ds : List PyData} (D : Ends) (σ : L2.St) (H : Hp) (h : tStartD N ds D σ H) : tAsg (tLst (tDs N ds)) (gName 1) D σ H := by
  obtain ⟨p, o, rfl, kp, hz, q⟩ := h
  refine ⟨kp, fun ys H1 s1 d1 => ⟨?_, fun p1 n1 => q p1 ys _ (Same.upd s1 n1) upd_same (DAs.same (Same.new n1) d1)⟩⟩
  rw [d1.length, sizeLine_eq]
  omega
/-! ### values that a law may ask anything of -/
def isDictD : PyData → Bool
  | .dict _ => true
  | _ => false
def okD (d : PyData) : Bool := d.showable && decide (d.depth ≤ 60) && decide (d.shown.length ≤ sizeLine) && ((SeqAt.shaped d && PyData.eqv d d) || isDictD d) && d.shown.cps.all (fun c => decide (c < 0x110000))
theorem okD_repr {d : PyData} (h : okD d = true) : d.showable = true ∧ d.depth ≤ 60 ∧ d.shown.length ≤ sizeLine := by
  unfold okD at h
  simp only [Bool.and_eq_true, decide_eq_true_eq] at h
  exact ⟨h.1.1.1.1, h.1.1.1.2, h.1.1.2⟩
theorem okD_lay {d : PyData} (h : okD d = true) : PyData.canLay0 (.str d.shown) = true := by
  unfold okD at h
  rw [Bool.and_eq_true] at h
  show PyData.canLay0 (.str d.shown) = true
  unfold PyData.canLay0
  exact h.2
end Fh
set_option Elab.async false
set_option linter.all false
set_option maxRecDepth 100000
set_option maxHeartbeats 4000000
/-! FsA: a def of **names called with keywords, a class made so -/
namespace Fs
open PySem PySem.Spec PyProof.Rows L2
open PySem.W (Frag)
/-! ### the dict of the keywords -/
/-! ### a def of **nm -/
/-! ### a class whose __init__ is such a def -/
end Fs
set_option Elab.async false
set_option linter.all false
set_option maxRecDepth 100000
set_option maxHeartbeats 4000000
/-! FsB: own ==, !=, [], operators of instances -/
namespace PySem
namespace FsX
open Builtin
section
variable {prog : Program} {w : World} {A : Around} {E : Value → Shared → Prop} {s : Shared} {K : PySem.W.Frag} {x C f : Addr} {ox : Obj} {od : Option Obj} {b tb : Value}
theorem slot_check {M : Model} {id owner n : String} {rest : List Value} {Q : Unit → Shared → Prop} (hk : builtinKind id = some .slot) (hs : splitId id = some (owner, n)) (ha : argsOk id ⟨.ref x :: rest, []⟩)
    (X : K.In s.heap) (I : PySem.W.InstAt s.heap x ox C od) (hob : PySem.W.subIn K (.ref C) (.type owner) = some true) (hq : Q () s) : wpAny M A (checkBuiltinCall id ⟨.ref x :: rest, []⟩) Q E s := by
  simp only [checkBuiltinCall, hk, hs]
  refine wpAny_bind ?_
  unfold isInstance
  refine wpAny_bind (I.type.here ?_)
  refine (PySem.W.looks_subIn X hob).here ?_
  simp only [Bool.not_true, Bool.false_eq_true, if_false]
  cases hsig : Manifest.signature? id with
  | none => exact wpAny_pure hq
  | some sig =>
    simp only [argsOk, hsig] at ha
    have h2 : Bind.checkArgs id sig ⟨.ref x :: rest, []⟩ = pure () := ha
    show wpAny M A (Bind.checkArgs id sig ⟨.ref x :: rest, []⟩) Q E _
    rw [h2]; exact wpAny_pure hq
theorem objNe_K (hu : A.units < cLine) (X : K.In s.heap) (I : PySem.W.InstAt s.heap x ox C od) (hs : PySem.W.findIn K (.ref C) "__eq__" = some (some (.ref f))) (hf : PySem.W.isFn K (.ref f) = true) {Q : Fin → Shared → Prop}
    (hcall : wpAny (model prog w) A (call (.ref f) [.ref x, b]) (fun v s' => ∃ c, v = .bool c ∧ Q (.done (.ret (.bool (!c)))) s') E s) :
    wpAny (model prog w) A (Builtin.«object.__ne__» ⟨[.ref x, b], []⟩) Q E s := by
  obtain ⟨h, g, d, t, os⟩ := s
  unfold Builtin.«object.__ne__»
  repeat (first
    | with_reducible refine wpAny_cRoomFor hu ?_
    | (refine wpAny_bind (m := callSpecialIfBound? (.ref x) (Str.ofString "__eq__") [b])
        (PySem.W.ifBound_K X I hs hf (wpAny_mono hcall (fun r s' hr => by
          obtain ⟨c, rfl, hq⟩ := hr
          repeat (first | exact hq | exact wpAny_pure hq | exact wpAny_truthy_bool hq | (refine wpAny_bind (m := truthy (.bool _)) (wpAny_truthy_bool ?_)) | wp_step)) fun _ _ e => e)))
    | wp_step)
theorem tryNe_K (hu : A.units + 1 < cLine) (X : K.In s.heap) (I : PySem.W.InstAt s.heap x ox C od) (hs : PySem.W.findIn K (.ref C) "__eq__" = some (some (.ref f))) (hf : PySem.W.isFn K (.ref f) = true)
    (hn : PySem.W.findIn K (.ref C) "__ne__" = some (some (.builtin "object.__ne__"))) (hob : PySem.W.subIn K (.ref C) (.type "object") = some true) {Q : Option Value → Shared → Prop}
    (hcall : wpAny (model prog w) A.in1 (call (.ref f) [.ref x, b]) (fun v s' => ∃ c, v = .bool c ∧ Q (some (.bool (!c))) s') E s) :
    wpAny (model prog w) A (tryCompare (.ref x) "__ne__" b) Q E s := by
  simp only [tryCompare, callSpecialIfBound?, bindSpecialIfBound?]
  refine wpAny_bind (wpAny_holding (wpAny_bind (wpAny_bind (wpAny_bind (I.type.here ((PySem.W.looks_findIn X hn).here ?_))))))
  have S := F.cmp_object.ne
  simp only [S.bind]
  refine wpAny_bind (wpAny_askSetting (wpAny_ite ?_))
  have go : wpAny (model prog w) A (call (.builtin "object.__ne__") ([.ref x] ++ [b])) (fun v s' => ∃ c, v = .bool c ∧ Q (some (.bool c)) s') E s :=
    wpAny_call (codeAny_call_builtin S.plain F.cmpEntry_ne (slot_check F.cmpKind_ne F.cmpSplit_ne (F.cmpArgs_ne _ _) X I hob
      (objNe_K (A := A.in1) hu X I hs hf (wpAny_mono hcall (fun v s' hv => by
        obtain ⟨c, rfl, hq⟩ := hv
        first | exact ⟨c, rfl, !c, rfl, hq⟩ | exact ⟨c, rfl, ⟨!c, rfl, hq⟩⟩) fun _ _ e => e))))
  have fin : wpAny (model prog w) A (call (.builtin "object.__ne__") ([.ref x] ++ [b]) >>= fun v => pure (some v)) (fun r s' => ∃ c, r = some (.bool c) ∧ Q (some (.bool c)) s') E s :=
    wpAny_bind (wpAny_mono go (fun v s' ⟨c, e, hq⟩ => wpAny_pure ⟨c, by rw [e], hq⟩) fun _ _ e => e)
  have fin2 : wpAny (model prog w) A (call (.builtin "object.__ne__") ([.ref x] ++ [b]) >>= fun v => pure (some v)) (fun a s' => wpAny (model prog w) A (match a with | some .notImplemented | none => pure none | some v => pure (some v)) Q E s') E s :=
    wpAny_mono fin (fun r s' ⟨c, e, hq⟩ => by subst e; exact wpAny_pure hq) fun _ _ e => e
  split
  · exact wpAny_bind (wpAny_pure (wpAny_pure fin2))
  · exact wpAny_tryCatch (wpAny_bind (wpAny_pure (wpAny_pure fin2)))
theorem cmpNe_K {Q : Value → Shared → Prop} (hu : A.units + 1 < cLine) (X : K.In s.heap) (I : PySem.W.InstAt s.heap x ox C od) (hb : PySem.W.Looks (model prog w) s.heap (typeOf b) tb) (hn : PySem.W.notFirst K C tb = true)
    (hs : PySem.W.findIn K (.ref C) "__eq__" = some (some (.ref f))) (hf : PySem.W.isFn K (.ref f) = true) (hne : PySem.W.findIn K (.ref C) "__ne__" = some (some (.builtin "object.__ne__"))) (hob : PySem.W.subIn K (.ref C) (.type "object") = some true)
    (hcall : wpAny (model prog w) A.in1 (call (.ref f) [.ref x, b]) (fun v s' => ∃ c, v = .bool c ∧ Q (.bool (!c)) s') E s) : wpAny (model prog w) A (richCompare .NotEq (.ref x) b) Q E s := by
  have one : wpAny (model prog w) A (tryCompare (.ref x) "__ne__" b) (fun r s' => ∃ v, r = some v ∧ Q v s') E s :=
    tryNe_K hu X I hs hf hne hob (wpAny_mono hcall (fun v s' ⟨c, e, hq⟩ => ⟨c, e, _, rfl, hq⟩) fun _ _ e => e)
  unfold richCompare
  simp only [oneThing_ref]
  refine wpAny_holding (wpAny_bind (wpAny_cRoomFor (Nat.lt_of_succ_lt hu) ?_))
  rw [cmpInfo_NotEq]
  dsimp only
  refine wpAny_bind (I.type.here (wpAny_bind (hb.here ?_)))
  split
  · rename_i q
    have e : PySem.W.subIn K tb (.ref C) = some false := by
      rcases Bool.or_eq_true_iff.mp hn with e | e
      · rw [beq_iff_eq.mp e] at q; simp at q
      · exact beq_iff_eq.mp e
    refine wpAny_bind ((PySem.W.looks_subIn X e).here ?_)
    simp only [Bool.false_eq_true, if_false]
    refine wpAny_bind (wpAny_mono one (fun r s' z => ?_) fun _ _ e => e)
    obtain ⟨v, rfl, hq⟩ := z
    exact wpAny_pure hq
  · refine wpAny_bind (wpAny_pure ?_)
    simp only [Bool.false_eq_true, if_false]
    refine wpAny_bind (wpAny_mono one (fun r s' z => ?_) fun _ _ e => e)
    obtain ⟨v, rfl, hq⟩ := z
    exact wpAny_pure hq
end
end FsX
end PySem
set_option Elab.async false
set_option linter.all false
set_option maxRecDepth 100000
set_option maxHeartbeats 4000000
/-! FsC: own ==, !=, [], operators of instances, over the layer -/
namespace Fs
open PySem PySem.Spec PyProof.Rows L2
open PySem.W (Frag)
section
variable {X : Cx} {CX : CXT} {k n : Nat} {g C : Addr} {sp : Sp} {E : XK} {a b : Expr} {pos : Pos} {ta tb : TE}
/-- the type of the right operand is not one below C -/
def Oth (K : Frag) (C : Addr) (H : Hp) (y : V) : Prop := (∃ b dy ys, y = .ref b ∧ H b = some (.ins C dy ys)) ∨ ∃ b kvs, y = .ref b ∧ H b = some (.dK kvs) ∧ PySem.W.notFirst K C (.type "dict") = true
theorem Oth.looks {K : Frag} {pins : List (Addr × Obj)} {s : Shared} {σ : L2.St} {H : Hp} {y : V} {u : Value} (o : Oth K C H y) (I : Inv X pins σ H s) (ry : RelV y u) :
    ∃ tb, PySem.W.Looks (model X.prog X.w) s.heap (typeOf u) tb ∧ PySem.W.notFirst K C tb = true := by
  rcases o with ⟨b, dy, ys, rfl, eb⟩ | ⟨b, kvs, rfl, eb, hn⟩
  · obtain rfl : u = Value.ref b := ry
    obtain ⟨mA, O, _, _, _, _⟩ := ins_get I.hok eb
    obtain ⟨od, J, _⟩ := O.look
    exact ⟨.ref C, J.type, by unfold PySem.W.notFirst; simp⟩
  · obtain rfl : u = Value.ref b := ry
    obtain ⟨_, _, vs, _, ob, es, ep, h1, h2, _⟩ := dk_of I.hok eb
    refine ⟨.type "dict", ?_, hn⟩
    have e := (PySem.W.Looks.ld (M := model X.prog X.w) (part := none) h1).andThen (f := fun o => pure o.cls) .now
    intro A Q E s k q
    refine wpAny_typeOf_ref (k _ _ h1) ?_
    rw [h2.1]
    exact q
/-- x != y by the own ==: the other answer -/
def rNeO (K : Frag) (C : Addr) (sp : Sp) (E : XK) : R2 := fun x y H Q => ∃ a dx fs, x = .ref a ∧ H a = some (.ins C dx fs) ∧ Oth K C H y ∧ sp [x, y] H (fun v H' => ∃ c, v = .bl c ∧ Q (.bl (!c)) H') E
theorem op_neO (hs : PySem.W.findIn X.K (.ref C) "__eq__" = some (some (.ref g))) (hf : PySem.W.isFn X.K (.ref g) = true) (hne : PySem.W.findIn X.K (.ref C) "__ne__" = some (some (.builtin "object.__ne__"))) (hob : PySem.W.subIn X.K (.ref C) (.type "object") = some true)
    (F : FnR X.prog X.w X.K X.mg X.base CX n g sp) (hr : Room (n + 1) X.A) (hx : Passes CX X E) : OpR X (compareOp .NotEq) (rNeO X.K C sp E) := by
  intro pins s σ H x y v u Q I rx ry h
  obtain ⟨a, dx, fs, rfl, ea, o, q⟩ := h
  cases (show v = Value.ref a from rx)
  obtain ⟨mA, O, _, _, _, _⟩ := ins_get I.hok ea
  obtain ⟨od, J, _⟩ := O.look
  obtain ⟨tb, ht, hn⟩ := o.looks I ry
  show wpAny _ _ (richCompare .NotEq _ _) _ _ _
  refine PySem.FsX.cmpNe_K (by have := hr.un; omega) I.kIn J ht hn hs hf hne hob ?_
  refine wpAny_mono (wpAny_call (SlX.run_at (us := [.ref a, u]) (ws := [.ref a, y]) F hr.in1 I.env0.in1 hx I (.cons rfl (.cons ry .nil)) q)) (fun w s' z => ?_) fun _ _ x => x
  obtain ⟨z', H', I', rz, c, ec, qz⟩ := z
  subst ec
  cases (show w = Value.bool c from rz)
  exact ⟨c, rfl, .bl (!c), H', I', rfl, qz⟩
end
/-! ### calls: a local name that holds a class, a classmethod by keywords -/
end Fs
set_option Elab.async false
set_option linter.all false
set_option maxRecDepth 100000
set_option maxHeartbeats 4000000
/-! FsD: set(d) of a dict of texts, sorted of it; tuple(d), list(d.values()) -/
namespace Fs
open PySem PySem.Spec PyProof.Rows L2
open PySem.W (Frag)
/-! ### a set by its elements in some order -/
def SR {K : Type} [DecidableEq K] {P : Program} {w : World} (knd : PySem.KeyKind P w K) (h : Heap) (a : Addr) (l : List (Int × Value)) : Prop :=
  ∃ o ep t es, h.get? a = some o ∧ o.ExactSet ∧ o.data = .set es ep t ∧ es.toList.Perm l ∧ ElemsOf knd l ∧ l.length < scanBound ∧ t.fits es.size = true ∧ Ris t.place.toList ∧ (w.params.followText "set-order" = true ∨ t.led = true)
theorem SR.move {K : Type} [DecidableEq K] {P : Program} {w : World} {knd : PySem.KeyKind P w K} {h h' : Heap} {a : Addr} {l : List (Int × Value)} (R : SR knd h a l) (k : ∀ o, h.get? a = some o → h'.get? a = some o) : SR knd h' a l :=
  let ⟨o, ep, t, es, ho, r⟩ := R
  ⟨o, ep, t, es, k o ho, r⟩
section
variable {K : Type} [DecidableEq K] {P : Program} {w : World} {knd : PySem.KeyKind P w K} {A : Around} {E : Value → Shared → Prop} {s : Shared} {a : Addr} {l : List (Int × Value)}
/-- the elements are stored, the table is laid anew where it is too full -/
theorem sr_tail {g : Bool → Sem Unit} (hg : ∀ (b : Bool) (s1 : Shared) (Q' : Unit → Shared → Prop), Q' () s1 → wpAny (model P w) A (g b) Q' E s1) {o : Obj} {es : Array (Int × Value)} {ep : Nat} {t : SetTable} (ho : s.heap.get? a = some o) (hx : o.ExactSet) (hd : o.data = .set es ep t)
    {es1 : Array (Int × Value)} {t2 : SetTable} {l' : List (Int × Value)} (pm : es1.toList.Perm l') (el : ElemsOf knd l') (hb : l'.length < scanBound) (hf : t2.fits es1.size = true) (hr : Ris t2.place.toList) (hl : w.params.followText "set-order" = true ∨ t2.led = true) {dm : Bool}
    {R : Option Bool → Shared → Prop} (hR : ∀ h', Heap.SameBut a s.heap h' → SR knd h' a l' → R (some true) { s with heap := h' }) :
    wpAny (model P w) A (storeSet a es1 t2 >>= fun _ => if (!dm && t2.tooFull) = true then (g (relayAll t2 es1 (SetTable.grown es1.size)).2.2 >>= fun _ => storeSet a (relayAll t2 es1 (SetTable.grown es1.size)).1 (relayAll t2 es1 (SetTable.grown es1.size)).2.1 >>= fun _ => pure (some true)) else pure (some true)) R E s := by
  have size1 : es1.size = l'.length := by rw [← Array.length_toList, pm.length_eq]
  have room1 : es1.size < scanBound := size1 ▸ hb
  refine wpAny_bind (wpAny_storeSet_of ho hd ?_ (fits_of_scanBound room1))
  have stored := store_at (es' := es1) (t' := t2) ho hd
  have other := Heap.SameBut.update s.heap a (Obj.putSet es1 t2)
  split
  · have w1 := relayAll_perm t2 es1 (SetTable.grown es1.size)
    have w2 := relayAll_fits t2 es1 (SetTable.grown es1.size)
    have w3 := relayAll_ris t2 es1 (SetTable.grown es1.size)
    have w4 := relayAll_led t2 es1 (SetTable.grown es1.size)
    generalize relayAll t2 es1 (SetTable.grown es1.size) = Z at w1 w2 w3 w4 ⊢
    obtain ⟨es2, t3, gv⟩ := Z
    dsimp only at w1 w2 w3 w4 ⊢
    have size2 : es2.size = l'.length := by rw [← Array.length_toList, (w1.trans pm).length_eq]
    have room2 : es2.size < scanBound := size2 ▸ hb
    refine wpAny_bind (hg _ _ _ (wpAny_bind (wpAny_storeSet_of stored rfl (wpAny_pure (hR _ (other.trans (Heap.SameBut.update _ a _)) ?_)) (fits_of_scanBound room2))))
    exact ⟨_, _, t3, es2, store_at (es' := es2) (t' := t3) stored rfl, hx, rfl, w1.trans pm, el, hb, w2, w3, hl.imp id fun z => by rw [w4]; exact z⟩
  · exact wpAny_pure (hR _ other ⟨_, _, t2, es1, stored, hx, rfl, pm, el, hb, hf, hr, hl⟩)
/-- an element that isn't there is added -/
theorem sr_add {k : K} {x : Value} {Q : Bool → Shared → Prop} (R : SR knd s.heap a l) (hkey : knd.is k x = true) (hsc : x.scannable = true) (no : ∀ e ∈ l, knd.is k e.2 = false) (room : l.length + 1 < scanBound)
    (hQ : ∀ h', Heap.SameBut a s.heap h' → SR knd h' a (l ++ [(knd.hash k, x)]) → Q true { s with heap := h' }) : wpAny (model P w) A (setAddHashed a x (knd.hash k)) Q E s := by
  obtain ⟨o, ep, t, es, ho, hx, hd, pm, el, hb, hf, hr, hl⟩ := R
  have el0 : ElemsOf knd es.toList := fun e he => el e (pm.mem_iff.mp he)
  have size0 : es.size < scanBound := by rw [← Array.length_toList, pm.length_eq]; exact hb
  have nf : List.findIdx? (fun e => knd.is k e.2) es.toList = none := List.findIdx?_eq_none_iff.mpr fun e he => no e (pm.mem_iff.mp he)
  have gw : ∀ (b : Bool) (s1 : Shared) (Q' : Unit → Shared → Prop), Q' () s1 → wpAny (model P w) A (match b with | true => rule "set.scan.the-table-gave-way" | false => pure ()) Q' E s1 := fun b s1 Q' q => by
    cases b
    · exact wpAny_pure q
    · exact wpAny_rule q
  unfold setAddHashed setAddHashedIn
  refine wpAny_holding (wpAny_bind (wpAny_setState_of ho hd hf ?_))
  dsimp only
  rw [byScan_of hsc size0 el0]
  simp only [↓reduceIte]
  unfold setAddByScan
  refine wpAny_bind (wpAny_bind (wpAny_rule (wpAny_bind (wpAny_setScan_of hkey ho hd hf el0 ?_))))
  rw [nf]
  dsimp only
  have w1 := layNew_perm t es (knd.hash k) x
  have w2 := layNew_fits t es (knd.hash k) x
  have w3 := layNew_ris t es (knd.hash k) x hr
  have w4 := layNew_led t es (knd.hash k) x
  generalize layNew t es (knd.hash k) x = Z at w1 w2 w3 w4 ⊢
  obtain ⟨es1, t1, dm, gv⟩ := Z
  dsimp only at w1 w2 w3 w4 ⊢
  rw [Array.toList_push] at w1
  have pm1 : es1.toList.Perm (l ++ [(knd.hash k, x)]) := w1.trans (pm.append_right _)
  have el1 : ElemsOf knd (l ++ [(knd.hash k, x)]) := fun e he => by
    rcases List.mem_append.mp he with q | q
    · exact el e q
    · rw [List.mem_singleton.mp q]
      exact ⟨⟨k, hkey, rfl⟩, hsc⟩
  have hb1 : (l ++ [(knd.hash k, x)]).length < scanBound := by rw [List.length_append]; exact room
  have led1 : w.params.followText "set-order" = true ∨ t1.led = true := hl.imp id fun z => by rw [w4]; exact z
  refine wpAny_bind (gw _ _ _ ?_)
  split
  · refine wpAny_bind ?_
    rw [hashByValue_scannable 8 hsc]
    refine wpAny_pure (sr_tail (knd := knd) gw ho hx hd pm1 el1 hb1 ?_ ?_ ?_ fun h' sb r => ?_)
    · split
      · exact w2
      · exact SetTable.fits_plain_off w2
    · split <;> exact w3
    · split <;> exact led1
    · dsimp only
      exact wpAny_pure (hQ h' sb r)
  · refine wpAny_bind (wpAny_pure ?_)
    simp only [↓reduceIte]
    refine sr_tail (knd := knd) gw ho hx hd pm1 el1 hb1 w2 w3 led1 fun h' sb r => ?_
    dsimp only
    exact wpAny_pure (hQ h' sb r)
end
section
variable {K : Type} [DecidableEq K] {P : Program} {w : World} {knd : PySem.KeyKind P w K} {A : Around} {E : Value → Shared → Prop} {s : Shared} {a d : Addr}
/-- a set without elements -/
def noSet (w : World) : Obj := { cls := .type "set", dict := none, data := .set #[] 0 (.fresh 0 0 (!w.params.followText "set-order")) }
theorem led_new (w : World) : w.params.followText "set-order" = true ∨ (SetTable.fresh 0 0 (!w.params.followText "set-order")).led = true := by
  show _ ∨ (!w.params.followText "set-order") = true
  cases w.params.followText "set-order"
  · exact .inr rfl
  · exact .inl rfl
theorem sr_new {h : Heap} (ho : h.get? a = some (noSet w)) : SR knd h a [] :=
  ⟨_, 0, _, #[], ho, ⟨rfl, rfl, rfl⟩, rfl, List.Perm.refl _, (fun e he => nomatch he), by decide, rfl, List.Pairwise.nil, led_new w⟩
theorem relaid_nil (t : SetTable) (n : Nat) : ∃ t', t.relaid #[] n = some (t', #[]) ∧ t'.place = #[] ∧ t'.led = t.led ∧ t'.dummies = #[] := by
  have nl : ∀ m, ((List.range (m + 1)).filterMap fun j => (((Array.replicate (m + 1) (none : Option Nat)).getD j none).map fun z => (j, z))) = [] := fun m => by
    rw [List.filterMap_eq_nil_iff]
    intro j hj
    have q : (Array.replicate (m + 1) (none : Option Nat)).getD j none = none := by
      rw [Array.getD_eq_getD_getElem?]
      cases e : (Array.replicate (m + 1) (none : Option Nat))[j]? with
      | none => rfl
      | some z =>
        rw [Array.getElem?_replicate] at e
        split at e
        · rw [← Option.some.inj e]; rfl
        · cases e
    rw [q]
    rfl
  have e : t.relaid #[] n = some ({ mask := SetTable.sizeAbove n - 1, place := (((List.range (SetTable.sizeAbove n - 1 + 1)).filterMap fun j => (((Array.replicate (SetTable.sizeAbove n - 1 + 1) (none : Option Nat)).getD j none).map fun z => (j, z))).map (·.1)).toArray, dummies := #[], finger := t.finger, led := t.led, moves := t.movedTo (SetTable.sizeAbove n - 1), plain := t.plain }, (((List.range (SetTable.sizeAbove n - 1 + 1)).filterMap fun j => (((Array.replicate (SetTable.sizeAbove n - 1 + 1) (none : Option Nat)).getD j none).map fun z => (j, z))).map (·.2)).toArray) := rfl
  rw [nl] at e
  exact ⟨_, e, rfl, rfl, rfl⟩
theorem sr_room {n : Nat} {Q : Unit → Shared → Prop} (hn : n < 64) (ho : s.heap.get? a = some (noSet w)) (hQ : ∀ h', Heap.SameBut a s.heap h' → SR knd h' a [] → Q () { s with heap := h' }) : wpAny (model P w) A (setRoomFor a n) Q E s := by
  unfold setRoomFor
  refine wpAny_bind (wpAny_setState_of ho rfl rfl ?_)
  cases q : SetTable.roomFor (SetTable.fresh 0 0 (!w.params.followText "set-order")) n with
  | none => exact wpAny_pure (hQ s.heap (Heap.SameBut.refl a s.heap) (sr_new ho))
  | some m =>
    have hm : m = n * 2 := by
      unfold SetTable.roomFor at q
      split at q
      · have e := Option.some.inj q
        have z : (SetTable.fresh 0 0 (!w.params.followText "set-order")).place.size = 0 := rfl
        rw [z] at e
        omega
      · cases q
    have all : ∀ i, i < 64 → SetTable.sizeAbove (i * 2) ≤ 256 := by decide +kernel
    have line : ¬ SetTable.sizeAbove m > sizeLine := by
      have := all n hn
      rw [hm, sizeLine_eq]
      omega
    obtain ⟨t', e1, e2, e3, e4⟩ := relaid_nil (SetTable.fresh 0 0 (!w.params.followText "set-order")) m
    unfold setRelay
    dsimp only
    refine wpAny_bind (wpAny_setState_of ho rfl rfl ?_)
    dsimp only
    rw [if_neg line]
    try refine wpAny_bind (wpAny_pure ?_)
    have ro : (#[] : Array (Int × Value)).map (·.1) = #[] := by simp
    rw [ro, e1]
    refine wpAny_bind (wpAny_pure ?_)
    refine wpAny_storeSet_of ho rfl (hQ _ (Heap.SameBut.update ..) ?_) (Nat.zero_le _)
    exact ⟨_, _, t', #[], store_at (es' := #[]) (t' := t') ho rfl, ⟨rfl, rfl, rfl⟩, rfl, List.Perm.refl _, (fun e he => nomatch he), by decide, by
      unfold SetTable.fits SetTable.fill
      rw [e2, e4]
      simp, by rw [e2]; exact List.Pairwise.nil, (led_new w).imp id fun z => by rw [e3]; exact z⟩
end
/-! ### set(d) -/
def entOf (e : DictEntry) : Int × Value := (e.hash, e.key)
section
variable {K : Type} [DecidableEq K] {P : Program} {w : World} {knd : PySem.KeyKind P w K} {A : Around} {E : Value → Shared → Prop} {s : Shared} {a d : Addr}
theorem pairs_at {des : List DictEntry} {kvs : List (K × Value)} (p : Pairs knd des kvs) : ∀ {i : Nat} {e : DictEntry}, des[i]? = some e → ∃ q, kvs[i]? = some q ∧ knd.is q.1 e.key = true := by
  induction p with
  | nil => intro i e h; cases h
  | @cons e0 kv es kvs h1 h2 r ih =>
    intro i e h
    cases i with
    | zero =>
      cases h
      exact ⟨kv, rfl, h1⟩
    | succ i => exact ih h
/-- the entry at i has a key that none ahead of it has -/
theorem pairs_new {des : List DictEntry} {kvs : List (K × Value)} (p : Pairs knd des kvs) (nd : (kvs.map (·.1)).Nodup) {i : Nat} {e : DictEntry} (he : des[i]? = some e) {q : K × Value} (hq : kvs[i]? = some q) :
    ∀ x ∈ (des.take i).map entOf, knd.is q.1 x.2 = false := by
  intro x hx
  obtain ⟨e2, h2, rfl⟩ := List.mem_map.mp hx
  obtain ⟨j, hj, e3⟩ := List.mem_iff_getElem.mp h2
  have lj : j < i ∧ j < des.length := by
    rw [List.length_take] at hj
    omega
  have ej : des[j]? = some e2 := by
    rw [List.getElem_take] at e3
    rw [List.getElem?_eq_getElem lj.2, e3]
  obtain ⟨q2, g2, k2⟩ := pairs_at p ej
  cases c : knd.is q.1 e2.key with
  | false => exact c
  | true =>
    have same : q.1 = q2.1 := knd.inj e2.key q.1 q2.1 c k2
    have m1 : (kvs.map (·.1))[i]? = some q.1 := by rw [List.getElem?_map, hq]; rfl
    have m2 : (kvs.map (·.1))[j]? = some q2.1 := by rw [List.getElem?_map, g2]; rfl
    have li : i < (kvs.map (·.1)).length := (List.getElem?_eq_some_iff.mp m1).1
    have lj2 : j < (kvs.map (·.1)).length := (List.getElem?_eq_some_iff.mp m2).1
    have ne := List.pairwise_iff_getElem.mp nd j i lj2 li lj.1
    rw [List.getElem?_eq_getElem li] at m1
    rw [List.getElem?_eq_getElem lj2] at m2
    exact absurd ((Option.some.inj m2).trans (same.symm.trans (Option.some.inj m1).symm)) ne
theorem take_one {α : Type} {l : List α} {i : Nat} {x : α} (h : l[i]? = some x) : l.take (i + 1) = l.take i ++ [x] := by rw [List.take_add_one, h]; rfl
theorem set_of_dict {o : Obj} {des : Array DictEntry} {ep : Nat} {kvs : List (K × Value)} {Q : Unit → Shared → Prop} (hda : d ≠ a) (hd : (d == sysModules) = false) (ho : s.heap.get? d = some o) (hx : o.ExactDict) (hdt : o.data = .dict des ep) (hk : PySem.KeysOf knd des) (hsc : ∀ e ∈ des, e.key.scannable = true)
    (p : Pairs knd des.toList kvs) (nd : (kvs.map (·.1)).Nodup) (few : des.size < 64) (hs : s.heap.get? a = some (noSet w))
    (hQ : ∀ h', Heap.SameBut a s.heap h' → SR knd h' a (des.toList.map entOf) → Q () { s with heap := h' }) : wpAny (model P w) A (Builtin.Frozenset.updateFrom "set.__init__" a (.ref d)) Q E s := by
  have hT : s.TypeIs (.ref d) "dict" := ⟨o, ho, hx.1⟩
  have n1 := PySem.F.sub_dict_set
  have n2 := PySem.F.sub_dict_frozenset
  unfold Builtin.Frozenset.updateFrom Builtin.Frozenset.isAnySet
  refine wpAny_bind ?_
  unfold orM
  refine wpAny_bind (wpAny_isInstance (T := "dict") (b := false) hT n1 ?_)
  show wpAny _ _ (isInstance (.ref d) (.type "frozenset")) _ _ _
  refine wpAny_isInstance (T := "dict") (b := false) hT n2 ?_
  simp only [Bool.false_eq_true, if_false]
  refine wpAny_bind (wpAny_typeOf hT ?_)
  simp only [beq_self_eq_true, if_true]
  refine wpAny_bind (wpAny_rule (wpAny_bind (wpAny_pure ?_)))
  try dsimp only
  rw [hd]
  simp only [Bool.false_eq_true, if_false]
  refine wpAny_bind (wpAny_dictEpoch ho hdt ?_)
  refine wpAny_bind (wpAny_dictEntries ho hdt ?_)
  refine wpAny_bind (sr_room (knd := knd) few hs fun h1 b1 r1 => ?_)
  have ho1 : h1.get? d = some o := (b1.2 d hda).trans ho
  refine wpAny_bind (wpAny_dictEntries (s := { s with heap := h1 }) ho1 hdt ?_)
  refine wpAny_bind (TI.forIn_rng (n := des.size) _ (fun rest _ s' => ∃ i h', rest = List.range' i (des.size - i) ∧ i ≤ des.size ∧ s' = { s with heap := h' } ∧ Heap.SameBut a s.heap h' ∧ SR knd h' a ((des.toList.take i).map entOf)) _ ?_ ?_ _ ?_)
  · rintro x rest b s' ⟨i, h', e1, e2, rfl, e4, e5⟩
    have hi : i < des.size := by
      rcases Nat.lt_or_ge i des.size with q | q
      · exact q
      · rw [Nat.sub_eq_zero_of_le q] at e1
        cases e1
    have hxi : x = i ∧ rest = List.range' (i + 1) (des.size - (i + 1)) := by
      have : des.size - i = (des.size - (i + 1)) + 1 := by omega
      rw [this, List.range'_succ] at e1
      injection e1 with q1 q2
      exact ⟨q1, q2⟩
    obtain ⟨rfl, rfl⟩ := hxi
    have ho2 : h'.get? d = some o := (e4.2 d hda).trans ho
    have hl : x < des.toList.length := by rw [Array.length_toList]; exact hi
    have ex : des[x]? = some des[x] := Array.getElem?_eq_getElem hi
    have exl : des.toList[x]? = some des[x] := by rw [Array.getElem?_toList]; exact ex
    obtain ⟨q, g1, g2⟩ := pairs_at p exl
    obtain ⟨k0, g3, g4⟩ := hk des[x] (Array.getElem_mem hi)
    have same : k0 = q.1 := knd.inj _ _ _ g3 g2
    rw [same] at g4
    refine wpAny_bind (wpAny_dictEntries (s := { s with heap := h' }) ho2 hdt ?_)
    rw [ex]
    dsimp only
    refine wpAny_bind (wpAny_holding ?_)
    rw [g4]
    refine sr_add (s := { s with heap := h' }) e5 g2 (hsc _ (Array.getElem_mem hi)) (pairs_new p nd exl g1) ?_ fun h2 sb r2 => ?_
    · rw [List.length_map, List.length_take, Array.length_toList]
      show min x des.size + 1 < 4096
      omega
    · have ho3 : h2.get? d = some o := (sb.2 d hda).trans ho2
      refine wpAny_bind (wpAny_dictEpoch (s := { s with heap := h2 }) ho3 hdt ?_)
      simp only [bne_self_eq_false, Bool.false_eq_true, if_false]
      refine wpAny_pure ⟨x + 1, h2, rfl, hi, rfl, e4.trans sb, ?_⟩
      rw [take_one exl, List.map_append]
      show SR knd h2 a (_ ++ [(des[x].hash, des[x].key)])
      rw [g4]
      exact r2
  · rintro b s' ⟨i, h', e1, e2, rfl, e4, e5⟩
    have hi : i = des.size := by
      rcases Nat.lt_or_ge i des.size with q | q
      · have : des.size - i = (des.size - (i + 1)) + 1 := by omega
        rw [this, List.range'_succ] at e1
        cases e1
      · omega
    subst hi
    rw [List.take_of_length_le (by rw [Array.length_toList]; omega)] at e5
    exact wpAny_pure (hQ h' e4 e5)
  · exact ⟨0, h1, by rw [Nat.sub_zero], Nat.zero_le _, rfl, b1, r1⟩
end
/-! ### the calls -/
section
variable {K : Type} [DecidableEq K] {P : Program} {w : World} {knd : PySem.KeyKind P w K} {A : Around} {E : Value → Shared → Prop} {s : Shared} {a d : Addr}
set_option maxHeartbeats 8000000 in
theorem call_set_dict {o : Obj} {des : Array DictEntry} {ep : Nat} {kvs : List (K × Value)} {Q : Value → Shared → Prop} (hd : (d == sysModules) = false) (ho : s.heap.get? d = some o) (hx : o.ExactDict) (hdt : o.data = .dict des ep) (hk : PySem.KeysOf knd des) (hsc : ∀ e ∈ des, e.key.scannable = true)
    (p : Pairs knd des.toList kvs) (nd : (kvs.map (·.1)).Nodup) (few : des.size < 64)
    (hQ : ∀ h', (∀ b u, s.heap.get? b = some u → h'.get? b = some u) → SR knd h' s.heap.objs.size (des.toList.map entOf) → Q (.ref s.heap.objs.size) { s with heap := h' }) : wpAny (model P w) A (call (.type "set") [.ref d]) Q E s := by
  obtain ⟨c, tl, hmro⟩ := F.called_set.mro
  have hmade := F.called_set.made
  have hsub := F.called_set.sub
  have h1 := F.called_set.notType
  have h2 := F.called_set.canCreate
  have hct := F.typeCall_set_1 (.ref d)
  have hli := F.called_set.init.lookup
  have hbi := F.called_set.init.bind (.ref s.heap.objs.size)
  have hS : (s.heap.push (noSet w)).get? s.heap.objs.size = some (noSet w) := Heap.get?_push_size _ rfl
  have hT : Shared.TypeIs { s with heap := s.heap.push (noSet w) } (.ref s.heap.objs.size) "set" := ⟨_, hS, rfl⟩
  refine wpAny_call (codeAny_of_tree ?_)
  show wpAny _ _ (callAny (.type "set") _) _ _ _
  refine wpAny_pure ⟨Code.quiet_builtin _ (by decide +kernel), codeAny_builtin F.entry_type_call ?_⟩
  rw [Around.under_plain (weight_type_call_type "set" [.ref d] []) rfl]
  repeat (any_goals (first | assumption | wp_step))
  refine codeAny_mono (code_set_led1 (.ref d) (E := E) (Q₁ := fun obj s1 => obj = .ref s.heap.objs.size ∧ s1 = { s with heap := s.heap.push (noSet w) }) ⟨rfl, rfl⟩) fun r s1 hr => ?_
  match r, hr with
  | .error e, hr => exact hr
  | .ok .next, hr => exact hr.elim
  | .ok .brk, hr => exact hr.elim
  | .ok .cont, hr => exact hr.elim
  | .ok (.ret obj), hr =>
    obtain ⟨rfl, rfl⟩ := hr
    repeat (any_goals (first | assumption | wp_step))
    refine codeAny_mono (codeAny_call_builtin (R := wants (fun r s2 => r = .none ∧ Q (.ref s.heap.objs.size) s2) E) F.called_set.init.plain F.entry_set_init (check_set_init_1 hT ?_)) fun r2 s2 hr2 => ?_
    · have hda : d ≠ s.heap.objs.size := Nat.ne_of_lt (Heap.lt_size ho)
      have up : ∀ {A' : Around} {Q' : Unit → Shared → Prop} {E' : Value → Shared → Prop}, (∀ h', Heap.SameBut s.heap.objs.size (s.heap.push (noSet w)) h' → SR knd h' s.heap.objs.size (des.toList.map entOf) → Q' () { s with heap := h' }) →
          wpAny (model P w) A' (Builtin.Frozenset.updateFrom "set.__init__" s.heap.objs.size (.ref d)) Q' E' { s with heap := s.heap.push (noSet w) } := fun q =>
        set_of_dict (s := { s with heap := s.heap.push (noSet w) }) hda hd (Heap.get?_push_of_some _ ho) hx hdt hk hsc p nd few hS q
      unfold Builtin.«set.__init__» noKeywords
      generalize hU : Builtin.Frozenset.updateFrom = U at up ⊢
      wp_walk
      refine up fun h' sb r => ?_
      show wpAny _ _ (ret Value.none) _ _ _
      exact wpAny_pure ⟨rfl, hQ h' (fun b u e => (sb.2 b (Nat.ne_of_lt (Heap.lt_size e))).trans (Heap.get?_push_of_some _ e)) r⟩
    · match r2, hr2 with
      | .error e, hr2 => exact hr2
      | .ok .next, hr2 => exact hr2.elim
      | .ok .brk, hr2 => exact hr2.elim
      | .ok .cont, hr2 => exact hr2.elim
      | .ok (.ret v), hr2 =>
        obtain ⟨rfl, hq⟩ := hr2
        repeat (any_goals (first | assumption | wp_step))
end
/-! ### sorted of such a set -/
def strOf (v : Value) : Str := match v with
  | .str x _ => x
  | _ => Str.empty
theorem strs_all : ∀ {us : List Value}, (∀ u ∈ us, ∃ x t, u = Value.str x t) → StrsAre us (us.map strOf)
  | [], _ => .nil
  | u :: us, h => by
    obtain ⟨x, t, rfl⟩ := h u List.mem_cons_self
    exact .cons x t (strs_all fun v hv => h v (List.mem_cons_of_mem _ hv))
section
variable {P : Program} {w : World} {A : Around} {E : Value → Shared → Prop} {s : Shared} {a : Addr} {l : List (Int × Value)}
theorem sorted_sr {Q : Value → Shared → Prop} (R : SR (mixKind P w) s.heap a l) (hh : A.handled = none) (few : l.length < 64) (hs : ∀ e ∈ l, ∃ x t, e.2 = Value.str x t)
    (hQ : ∀ s' p (out : Array Value) (c : Nat) (ys : List Str), (∀ b o, s.heap.get? b = some o → s'.heap.get? b = some o) → s'.gens = s.gens → s'.os = s.os → s.heap.objs.size ≤ p → s'.heap.get? p = some (seqObj "list" out c) → StrsAre out.toList ys →
      ys.Perm (l.map fun e => strOf e.2) → sortedS ys = true → Q (.ref p) s') : wpAny (model P w) A (call (.builtin "sorted") [.ref a]) Q E s := by
  obtain ⟨o, ep, t, es, ho, hx, hd, pm, el, hb, hf, hr, hl⟩ := R
  have size1 : es.size < scanBound := by rw [← Array.length_toList, pm.length_eq]; exact hb
  refine Calls.call_function_entry PyProof.Rows.kind_sorted PyProof.Rows.plain_sorted PyProof.Rows.entry_sorted (PyProof.Rows.args_sorted1 _) ?_
  unfold Builtin.«sorted»
  refine wpAny_bind (m := checkCount "sorted" 1 1 _) (wpAny_pure (wpAny_bind (collect_set (A := A.in1) hh ⟨o, ho, hx.1, hd⟩ hf size1 hr hl fun s1 vs k1 hz g1 o1 pv => ?_)))
  have pl : vs.Perm (l.map (·.2)) := pv.trans (pm.map _)
  have lv : vs.length = l.length := by rw [pl.length_eq, List.length_map]
  have hI : StrsAre vs (vs.map strOf) := strs_all fun v hv => by
    obtain ⟨e, he, q⟩ := List.mem_map.mp (pl.mem_iff.mp hv)
    obtain ⟨x, t, h1⟩ := hs e he
    exact ⟨x, t, by rw [← q, h1]⟩
  have pk : (vs.map strOf).Perm (l.map fun e => strOf e.2) := by
    have q := pl.map strOf
    rw [List.map_map] at q
    exact q
  refine wpAny_bind (wpAny_newList ?_ (by rw [lv, sizeLine_eq]; omega))
  have hoL : (s1.heap.push (seqObj "list" vs.toArray 0)).get? s1.heap.objs.size = some (seqObj "list" vs.toArray 0) := Heap.get?_push_size _ rfl
  refine wpAny_bind (wpAny_holding (wpAny_call_entry PyProof.Rows.slot_list_sort ⟨_, hoL, rfl⟩ PyProof.Rows.entry_list_sort
    (list_sort_treeK PyProof.Rows.strKind_oneLt (s := { s1 with heap := s1.heap.push (seqObj "list" vs.toArray 0) }) hoL hI.keysOf (fun v1 v2 rest e => keyKind_strs (by rw [← e]; exact hI)) (by rw [lv]; exact few) fun st' hp hs2 => ⟨_, rfl, ?_⟩)
    (PyProof.Rows.args_list_sort _)))
  obtain ⟨ys, q1, q2, q3⟩ := sorted_out_str hI hp hs2
  obtain ⟨c, hc⟩ := PyProof.Rows.sortedHeap_at (vs := vs) (out := (arrOf st').map (·.2)) hoL
  refine wpAny_pure ⟨_, rfl, hQ _ s1.heap.objs.size _ c ys (fun b u e => ?_) g1 o1 hz hc q1 (q2.trans pk) q3⟩
  have q := k1 b u e
  have hlt := Heap.lt_size q
  show (PyProof.Rows.sortedHeap (s1.heap.push (seqObj "list" vs.toArray 0)) s1.heap.objs.size vs _).get? b = some u
  rw [PyProof.Rows.sortedHeap_old (Nat.ne_of_lt hlt) (by rw [size_push']; exact Nat.lt_succ_of_lt hlt)]
  exact Heap.get?_push_of_some _ q
end
/-! ### over the layer -/
/-- the set of the texts ks -/
def SetS (P : Program) (w : World) (a : Addr) (ks : List Str) : HO := .ext fun h => ∃ l, SR (mixKind P w) h a l ∧ (∀ e ∈ l, ∃ x t, e.2 = Value.str x t) ∧ (l.map fun e => strOf e.2) = ks
section
variable {X : Cx}
/-- set(d), d a dict whose keys are texts -/
theorem cr_setD : CallR X (.type "set") (fun xs H Q => ∃ (a : Addr) (kvs : List (Key × V)) (ks : List Str), xs = [.ref a] ∧ H a = some (.dK kvs) ∧ kvs.map (·.1) = ks.map Sum.inr ∧ ks.length < 64 ∧ ∀ p, H p = none → Q (.ref p) (upd H p (SetS X.prog X.w p ks))) := by
  intro pins s σ H xs us Q I r h
  obtain ⟨a, kvs, ks, rfl, hd, hks, few, q⟩ := h
  rw [Vals.ref1 r]
  obtain ⟨z, lo, vs, rel, o, des, ep, ho, hx, hdt, hk, pr, nd⟩ := dk_of I.hok hd
  have keys : vs.map (·.1) = ks.map Sum.inr := rel.keys.symm.trans hks
  have lens : vs.length = ks.length := by
    have e := congrArg List.length keys
    rw [List.length_map, List.length_map] at e
    exact e
  have plen : ∀ {xs : List DictEntry} {ys : List (Key × Value)}, Pairs (mixKind X.prog X.w) xs ys → xs.length = ys.length := by
    intro xs ys p
    induction p with
    | nil => rfl
    | cons _ _ _ ih => rw [List.length_cons, List.length_cons, ih]
  have few2 : des.size < 64 := by rw [← Array.length_toList, plen pr, lens]; exact few
  have txt : ∀ (i : Nat) (e : DictEntry), des.toList[i]? = some e → ∃ y t, ks[i]? = some y ∧ e.key = Value.str y t := fun i e he => by
    obtain ⟨p, g1, g2⟩ := pairs_at pr he
    have g3 : (vs.map (·.1))[i]? = some p.1 := by rw [List.getElem?_map, g1]; rfl
    rw [keys, List.getElem?_map] at g3
    cases e4 : ks[i]? with
    | none => rw [e4] at g3; cases g3
    | some y =>
      rw [e4] at g3
      have e5 : Sum.inr y = p.1 := Option.some.inj g3
      rw [← e5] at g2
      obtain ⟨t, ev⟩ := Value.isStrOf_shape (x := y) (v := e.key) g2
      exact ⟨y, t, rfl, ev⟩
  have txt2 : ∀ e ∈ des.toList, ∃ y t, e.key = Value.str y t := fun e he => by
    obtain ⟨i, hi, e2⟩ := List.mem_iff_getElem.mp he
    obtain ⟨y, t, _, q⟩ := txt i e (by rw [List.getElem?_eq_getElem hi, e2])
    exact ⟨y, t, q⟩
  refine call_set_dict (knd := mixKind X.prog X.w) lo ho hx hdt hk (fun e he => ?_) pr nd few2 fun h' kp R => ?_
  · obtain ⟨y, t, q⟩ := txt2 e (by simpa using he)
    rw [q]
    rfl
  · have es : ((des.toList.map entOf).map fun e => strOf e.2) = ks := by
      rw [List.map_map]
      refine List.ext_getElem? fun i => ?_
      rw [List.getElem?_map]
      cases e : des.toList[i]? with
      | none =>
        have : ks.length ≤ i := by rw [← lens, ← plen pr]; exact List.getElem?_eq_none_iff.mp e
        rw [List.getElem?_eq_none_iff.mpr this]
        rfl
      | some x =>
        obtain ⟨y, t, g1, g2⟩ := txt i x e
        rw [g1]
        show some (strOf x.key) = some y
        rw [g2]
        rfl
    have st : ∀ e ∈ des.toList.map entOf, ∃ x t, e.2 = Value.str x t := fun e he => by
      obtain ⟨e2, h2, rfl⟩ := List.mem_map.mp he
      exact txt2 e2 h2
    refine ⟨.ref s.heap.objs.size, upd H s.heap.objs.size (SetS X.prog X.w s.heap.objs.size ks), I.laid (t' := s.toks) kp (Nat.le_refl _) ⟨⟨_, R, st, es⟩, let ⟨o, _, _, _, e, _⟩ := R; ⟨o, e⟩, fun h1 h2 ⟨l, r1, r2, r3⟩ k => ⟨l, r1.move k, r2, r3⟩⟩, rfl, q _ (I.hok.fresh (Nat.le_refl _))⟩
/-- sorted of it -/
theorem cr_sortedTx (hc : X.calm = true) : CallR X (.builtin "sorted") (fun xs H Q => ∃ (a : Addr) (ks : List Str), xs = [.ref a] ∧ H a = some (SetS X.prog X.w a ks) ∧ ks.length < 64 ∧ ∀ ys p, ys.Perm ks → sortedS ys = true → H p = none → Q (.ref p) (upd H p (.lst (ys.map V.str)))) := by
  intro pins s σ H xs us Q I r h
  obtain ⟨a, ks, rfl, ha, few, q⟩ := h
  obtain ⟨⟨l, R, st, rfl⟩, _⟩ := I.hok a _ ha
  rw [Vals.ref1 r]
  rw [List.length_map] at few
  refine sorted_sr R (I.ok.hd hc) few st fun s' p out c ys k g o hp hg hi pm so => ?_
  have hlen : (ys.map V.str).length ≤ sizeLine := by rw [List.length_map, pm.length_eq, List.length_map, sizeLine_eq]; omega
  have hn : H p = none := I.hok.fresh hp
  have J : Inv X pins σ (upd H p (.lst (ys.map V.str))) { s with heap := s'.heap, gens := s'.gens, drawn := s'.drawn, toks := s'.toks } :=
    I.call (ch := []) (Un.laid k hp hn) (I.hok.laid k hp ⟨hlen, out.toList, c, vals_of_strs hi, hg⟩) (by rw [g]; exact I.bare) (fun _ z => nomatch z)
  have e : s' = { s with heap := s'.heap, gens := s'.gens, drawn := s'.drawn, toks := s'.toks } := by
    cases s'
    cases s
    cases o
    rfl
  rw [e]
  exact ⟨.ref p, _, J, rfl, q ys p pm so hn⟩
end
end Fs
set_option Elab.async false
set_option linter.all false
set_option maxRecDepth 100000
set_option maxHeartbeats 4000000
/-! FsE: tuple(d), list(d.values()) -/
namespace Fs
open PySem PySem.Spec PyProof.Rows L2
open PySem.W (Frag)
section
variable {P : Program} {w : World} {A : Around} {E : Value → Shared → Prop} {s : Shared} {T : String} {r d : Addr} {n : Nat} {Pv : Nat → Value → Prop} {OK : Heap → Prop}
theorem new_tuple_of {Q1 : Value → Shared → Prop} (S : PySem.W.KdlSrc P w T r d n Pv OK) (nt : isSubtype (.type T) (.type "tuple") = pure false) (hne : (Value.type T == Value.type "tuple") = false) (hh : A.handled = none) (ok : OK s.heap) (hn : n ≤ sizeLine)
    (h : ∀ (h' : Heap) (tk : Nat) (acc : Array Value), (∀ b o, s.heap.get? b = some o → h'.get? b = some o) → ItemsOf Pv acc n → Q1 (.ref h'.objs.size) { s with heap := h'.push { cls := .type "tuple", data := .seq acc }, toks := tk }) :
    codeAny (model P w) A (.call (.builtin "tuple.__new__") ⟨[.type "tuple", .ref r], []⟩) (wants Q1 E) s := by
  refine codeAny_of_tree ?_
  show wpAny _ A.in1 (do checkBuiltinCall "tuple.__new__" ⟨[.type "tuple", .ref r], []⟩; again (.builtin "tuple.__new__" ⟨[.type "tuple", .ref r], []⟩)) _ _ s
  refine wpAny_bind (wpAny_of_eq (F.newCall_tuple_1 _) (wpAny_pure ⟨plainId_quiet F.plain_tuple_new _, codeAny_builtin F.entry_tuple_new ?_⟩))
  rw [Around.under_plainId F.plain_tuple_new _]
  have hsub := sub_tuple_self
  have hinit := init_tuple_lookup
  have hmh := madeHere_tuple
  have hTI := S.type s ok
  have hh1 : A.in1.handled = none := hh
  wp_walk using wpAny_typeOf hTI, PySem.W.kdu_collect (A := A.in1) S hh1 ok hn
  intro h' tk acc hk hacc
  show wpAny _ _ (Builtin.Tuple.tupleExact acc.toList.toArray >>= fun v => ret v) _ _ _
  have ea : acc.toList.toArray = acc := by simp
  rw [ea]
  unfold Builtin.Tuple.tupleExact
  exact wpAny_bind (wpAny_newObj_type (wpAny_pure (h h' tk acc hk hacc)) (by show acc.size ≤ sizeLine; rw [hacc.1]; exact hn))
theorem call_tuple_src {Q : Value → Shared → Prop} (S : PySem.W.KdlSrc P w T r d n Pv OK) (nt : isSubtype (.type T) (.type "tuple") = pure false) (hne : (Value.type T == Value.type "tuple") = false) (hh : A.handled = none) (ok : OK s.heap) (hn : n ≤ sizeLine)
    (h : ∀ (h' : Heap) (tk : Nat) (acc : Array Value), (∀ b o, s.heap.get? b = some o → h'.get? b = some o) → ItemsOf Pv acc n → Q (.ref h'.objs.size) { s with heap := h'.push { cls := .type "tuple", data := .seq acc }, toks := tk }) :
    wpAny (model P w) A (call (.type "tuple") [.ref r]) Q E s := by
  refine callType_codes (Q₁ := fun obj s1 => s1.TypeIs obj "tuple" ∧ Q obj s1) F.called_tuple (F.typeCall_tuple_1 _) F.entry_object_init
    (new_tuple_of (A := A.in1) S nt hne hh ok hn fun h' tk acc hk hacc => ⟨⟨_, Heap.get?_push_size _ rfl, rfl⟩, h h' tk acc hk hacc⟩) fun obj s1 h1 => ?_
  exact ⟨h1.1, F.args_object_init_2 obj _, object_init_meets F.called_tuple.init.lookup F.called_tuple.made (by decide) P w A.in1 _ s1 ⟨h1.1, rfl, h1.2⟩⟩
end
theorem dict_no_tuple : isSubtype (.type "dict") (.type "tuple") = pure false := by rw [isSubtype_type]; kernel_rfl
section
variable {X : Cx}
/-- tuple(d): its keys -/
theorem call_tupleD (hc : X.calm = true) : CallR X (.type "tuple") (fun xs H Q => ∃ (a : Addr) (kvs : List (Key × V)), xs = [.ref a] ∧ H a = some (.dK kvs) ∧ ∀ p, H p = none → Q (.ref p) (upd H p (.tup (kvs.map fun kv => kV kv.1)))) := by
  intro pins s σ H xs us Q I r h
  obtain ⟨a, kvs, rfl, hd, q⟩ := h
  rw [Vals.ref1 r]
  obtain ⟨z, lo, vs, rel, dd⟩ := dk_of I.hok hd
  obtain ⟨ep, hat⟩ := dd.dictAt
  have lens : kvs.length = vs.length := Paired.length rel
  have ek : (kvs.map fun kv => kV kv.1) = vs.map fun p => kV p.1 := by
    have e := congrArg (List.map kV) rel.keys
    rw [List.map_map, List.map_map] at e
    exact e
  refine call_tuple_src (PySem.W.kdl_dict (knd := mixKind X.prog X.w) (kvs := vs) (ep := ep) lo) dict_no_tuple (by decide) (I.ok.hd hc) hat (by rw [← lens]; exact z) fun h' tk acc hk hacc => ?_
  have hv : Vals (vs.map fun p => kV p.1) acc.toList := by
    refine vals_of_at (by rw [List.length_map, Array.length_toList]; exact hacc.1.symm) fun j x u e1 e2 => ?_
    obtain ⟨k, y, g1, g2⟩ := hacc.2 j u (by rw [← Array.getElem?_toList]; exact e2)
    rw [List.getElem?_map, g1] at e1
    rw [← Option.some.inj e1]
    exact keyIs_rel (show keyIs k u = true from g2)
  have I1 : Inv X pins σ H { s with heap := h', toks := tk } := I.kept hk
  refine ⟨.ref h'.objs.size, upd H h'.objs.size (.tup (kvs.map fun kv => kV kv.1)), I1.laid (t' := tk) (fun b u e => Heap.get?_push_of_some _ e) (Nat.le_refl _) (show ObjOk X.prog X.w _ _ _ (.tup _) from ⟨by rw [List.length_map]; exact z, acc.toList, by rw [ek]; exact hv, by rw [Array.toArray_toList]; exact IsTup.new _ _⟩), rfl, q _ (I1.hok.fresh (Nat.le_refl _))⟩
end
/-- a turn of a comprehension without a test -/
theorem yes_of {σ : L2.St} {H : Hp} {A B : Hp → Prop} (h : A H) : tYes σ H (fun b H3 => if b = true then A H3 else B H3) := by
  show if true = true then A H else B H
  rw [if_pos rfl]
  exact h
/-- what can't be reached -/
theorem pss_no {X : Cx} {ss : List Stmt} : PSs X ss (fun _ _ _ => False) := ⟨fun _ _ _ _ _ _ h => h.elim⟩
end Fs
set_option Elab.async false
set_option linter.all false
set_option maxRecDepth 100000
set_option maxHeartbeats 4000000
/-! FsF: dict comprehensions by turns; numbers by names -/
namespace Fs
open PySem PySem.Spec PyProof.Rows L2 Fh
open PySem.W (Frag)
section
variable {J : It} {n : Nat} {G : Hp → Prop} {Y : Nat → Hp → V → Hp → Prop}
/-- a dict comprehension over a walk: Pv by the turn and the heap -/
theorem dc_it (w : Walk J n G Y) {g : TG} {tt : TT} {tk tv : TE} {vs : List Nat} {σ : L2.St} {H1 : Hp} {D : Addr} {Qd : Hp → Prop} (Pv : Nat → Hp → Prop) (h0 : Pv 0 (upd H1 D (.dK []))) (hG : ∀ i H, i ≤ n → Pv i H → G H)
    (hs : ∀ i x H H', i < n → Pv i H → Y i H x H' → g x (wipe σ vs) H' fun σ2 H2 => wipe σ2 vs = wipe σ vs ∧ tt σ2 H2 fun b H3 =>
      if b = true then tk σ2 H3 fun y H4 => tv σ2 H4 fun z H5 => ∃ kvs k, y = kV k ∧ H5 D = some (.dK kvs) ∧ kvs.length < sizeLine ∧ Pv (i + 1) (upd H5 D (.dK (putK kvs k z))) else Pv (i + 1) H3) (hd : ∀ H, Pv n H → Qd H) :
    ∃ W : Nat → Nat → Hp → Prop, (∃ m, W 0 m (upd H1 D (.dK []))) ∧ ∀ i m H, W i m H →
      (J.stop i H ∧ Qd H) ∨ (J.go i H ∧ ∃ Nx : Hp → Prop, (∀ H', Nx H' → ∃ m', m' < m ∧ W (i + 1) m' H') ∧ ∀ x H', J.yld i H x H' → g x (wipe σ vs) H' fun σ2 H2 => wipe σ2 vs = wipe σ vs ∧ tt σ2 H2 fun b H3 =>
        if b = true then tk σ2 H3 fun y H4 => tv σ2 H4 fun z H5 => ∃ kvs k, y = kV k ∧ H5 D = some (.dK kvs) ∧ kvs.length < sizeLine ∧ Nx (upd H5 D (.dK (putK kvs k z))) else Nx H3) := by
  refine ⟨fun i m H => m + i = n ∧ Pv i H, ⟨n, rfl, h0⟩, fun i m H ⟨e, p⟩ => ?_⟩
  cases m with
  | zero =>
    rw [Nat.zero_add] at e
    subst e
    exact .inl ⟨w.stops H (hG _ H (Nat.le_refl _) p), hd H p⟩
  | succ m =>
    have hlt : i < n := by omega
    have q := hG i H (Nat.le_of_lt hlt) p
    exact .inr ⟨w.goes i H hlt q, Pv (i + 1), fun H' p' => ⟨m, Nat.lt_succ_self m, by omega, p'⟩, fun x H' y => hs i x H H' hlt p (w.yields i H x H' hlt q y)⟩
end
/-! ### numbers by names -/
abbrev Num : Type := List (Str × Int)
def cD (m : Num) : List (Key × V) := m.map fun q => (.inr q.1, .int q.2)
def names (m : Num) : List Str := m.map (·.1)
theorem cD_len (m : Num) : (cD m).length = m.length := List.length_map _
theorem cD_snoc (m : Num) (y : Str) (n : Int) : cD (m ++ [(y, n)]) = cD m ++ [(.inr y, .int n)] := by
  unfold cD
  rw [List.map_append]
  rfl
theorem at_str {ys : List Str} {i : Nat} {x : V} (h : (ys.map V.str)[i]? = some x) : ∃ y, ys[i]? = some y ∧ x = .str y ∧ y ∈ ys := by
  rw [List.getElem?_map] at h
  cases e : ys[i]? with
  | none => rw [e] at h; cases h
  | some y =>
    rw [e] at h
    exact ⟨y, rfl, (Option.some.inj h).symm, List.mem_of_getElem? e⟩
theorem take_snoc {ys : List Str} {i : Nat} {y : Str} (h : ys[i]? = some y) : ys.take (i + 1) = ys.take i ++ [y] := by
  rw [List.take_add_one, h]
  rfl
theorem not_before {ys : List Str} {i : Nat} {y : Str} (nd : ys.Nodup) (h : ys[i]? = some y) : y ∉ ys.take i := by
  intro z
  obtain ⟨j, hj, e⟩ := List.mem_iff_getElem.mp z
  have hl : j < i ∧ j < ys.length := by
    rw [List.length_take] at hj
    omega
  have li : i < ys.length := (List.getElem?_eq_some_iff.mp h).1
  have ne := List.pairwise_iff_getElem.mp nd j i hl.2 li hl.1
  rw [List.getElem_take] at e
  rw [List.getElem?_eq_getElem li] at h
  exact ne (e.trans (Option.some.inj h).symm)
end Fs
set_option Elab.async false
set_option linter.all false
set_option maxRecDepth 100000
set_option maxHeartbeats 4000000
/-! FsG: == of two dicts of numbers, both answers -/
namespace Fs
open PySem PySem.Spec PyProof.Rows L2 Fh
open PySem.W (Frag)
end Fs
set_option Elab.async false
set_option linter.all false
set_option maxRecDepth 100000
set_option maxHeartbeats 4000000
/-! FsH: words -/
namespace Fs
open PySem PySem.Spec PyProof.Rows L2 Fh
open PySem.W (Frag)
def abc : List Nat := (Str.ofString "abcdefghijklmnopqrstuvwxyz").cps.toList
def Low (x : Str) : Prop := ∀ c ∈ x.cps.toList, c ∈ abc
theorem len_tl (x : Str) : x.length = x.cps.toList.length := (Array.length_toList).symm
theorem app_tl (x y : Str) : (x ++ y).cps.toList = x.cps.toList ++ y.cps.toList := by
  show (x.cps ++ y.cps).toList = _
  exact Array.toList_append
theorem app_len (x y : Str) : (x ++ y).length = x.length + y.length := by rw [len_tl, len_tl, len_tl, app_tl, List.length_append]
theorem Low.app {x y : Str} (a : Low x) (b : Low y) : Low (x ++ y) := fun c hc => by
  rw [app_tl] at hc
  rcases List.mem_append.mp hc with z | z
  · exact a c z
  · exact b c z
theorem Low.one {c : Nat} (h : c ∈ abc) : Low ⟨#[c]⟩ := fun d hd => by
  rcases List.mem_cons.mp (show d ∈ [c] from hd) with z | z
  · rw [z]; exact h
  · cases z
theorem Low.cut {z : Str} (h : Low z) (lo hi : Option Int) : Low (cutS z lo hi) := fun c hc => by
  unfold cutS at hc
  exact h c (List.mem_of_mem_drop (List.mem_of_mem_take hc))
theorem cut_parts {z : Str} {k : Nat} (h : k ≤ z.length) : (cutS z none (some (k : Int))).length + (cutS z (some (k : Int)) none).length = z.length := by
  have e1 : (cutS z none (some (k : Int))).length = k := by
    rw [len_tl]
    unfold cutS
    rw [HT.sIx_none, HT.sIx_nat, Nat.min_eq_left h]
    show ((z.cps.toList.drop 0).take (k - 0)).length = k
    rw [List.drop_zero, Nat.sub_zero, List.length_take, ← len_tl]
    omega
  have e2 : (cutS z (some (k : Int)) none).length = z.length - k := by
    rw [len_tl]
    unfold cutS
    rw [HT.sIx_none, HT.sIx_nat, Nat.min_eq_left h]
    show ((z.cps.toList.drop k).take (z.length - k)).length = _
    rw [List.length_take, List.length_drop, ← len_tl]
    omega
  omega
theorem joinL_nil : ∀ ps : List (List Nat), TL.joinL [] ps = ps.flatten
  | [] => rfl
  | [p] => by
    show p = [p].flatten
    simp
  | p :: q :: r => by
    show p ++ ([] ++ TL.joinL [] (q :: r)) = _
    rw [List.nil_append, joinL_nil (q :: r)]
    rfl
theorem join_tl (ys : List Str) : (Txt.join (Str.ofString "") ys).cps.toList = (ys.map fun y => y.cps.toList).flatten := by
  have h := TL.tl_join (Str.ofString "") ys
  have e : TL.tl (Str.ofString "") = [] := by decide +kernel
  rw [e, joinL_nil] at h
  rw [TL.join_eq]
  exact h
theorem join_low {ys : List Str} (h : ∀ y ∈ ys, Low y ∧ y.length = 1) : Low (Txt.join (Str.ofString "") ys) ∧ (Txt.join (Str.ofString "") ys).length = ys.length ∧ (ys.map (·.length)).sum = ys.length := by
  refine ⟨fun c hc => ?_, ?_, ?_⟩
  · rw [join_tl] at hc
    obtain ⟨l, hl, hc2⟩ := List.mem_flatten.mp hc
    obtain ⟨y, hy, rfl⟩ := List.mem_map.mp hl
    exact (h y hy).1 c hc2
  · rw [len_tl, join_tl]

    induction ys with
    | nil => rfl
    | cons y ys ih =>
      have h1 := (h y List.mem_cons_self).2
      rw [len_tl] at h1
      rw [List.map_cons, List.flatten_cons, List.length_append, ih fun z hz => h z (List.mem_cons_of_mem _ hz), h1, List.length_cons]
      omega
  · skip
    induction ys with
    | nil => rfl
    | cons y ys ih =>
      rw [List.map_cons, List.sum_cons, ih fun z hz => h z (List.mem_cons_of_mem _ hz), (h y List.mem_cons_self).2, List.length_cons]
      omega
def zs : Str := Str.ofString "zzzzzzzz"
theorem ne_zs_len {x : Str} (h : x.length ≤ 7) : x ≠ zs := fun e => by
  rw [e] at h
  exact absurd h (by decide +kernel)
theorem ne_zs_w {x y : Str} (h : 119 ∈ y.cps.toList) : x ++ y ≠ zs := fun e => by
  have m : 119 ∈ (x ++ y).cps.toList := by
    rw [app_tl]
    exact List.mem_append_right _ h
  rw [e] at m
  exact absurd m (by decide +kernel)
theorem pen_off {H : Hp} {p c D : Addr} {n : Nat} {o : HO} (h : PenAt H p c n) (h1 : D ≠ p) (h2 : D ≠ c) : PenAt (upd H D o) p c n := by
  obtain ⟨cs, s, r, S, s0, s1⟩ := h.open
  exact PenS.at_ ⟨S.pc, by rw [upd_ne (Ne.symm h1)]; exact S.hp, by rw [upd_ne (Ne.symm h2)]; exact S.hc, S.hl⟩ s0 s1
theorem pen_apart {H H' : Hp} {p c D : Addr} {n : Nat} (h : PenAt H p c n) (sm : Same H H') (hD : H' D = none) : D ≠ p ∧ D ≠ c := by
  obtain ⟨cs, s, r, S, _, _⟩ := h.open
  constructor
  · intro e
    rw [e, sm _ _ S.hp] at hD
    cases hD
  · intro e
    rw [e, sm _ _ S.hc] at hD
    cases hD
theorem but_none {p b : Addr} {H H' : Hp} (h : But p H H') (hb : H' b = none) (ne : b ≠ p) : H b = none := by
  cases q : H b with
  | none => rfl
  | some u => rw [h b u ne q] at hb; cases hb
end Fs
set_option Elab.async false
set_option linter.all false
set_option maxRecDepth 100000
set_option maxHeartbeats 4000000
/-! FsI: two sorted rearrangements of the same texts are the same -/
namespace Fs
open PySem PySem.Spec PyProof.Rows L2 Fh
theorem rising_pairs : ∀ (l : List Str) (p : Str), risingS p l = true → (p :: l).Pairwise fun a b => a.cps.toList ≤ b.cps.toList
  | [], p, _ => List.pairwise_singleton _ _
  | x :: r, p, h => by
    obtain ⟨h1, h2⟩ := Bool.and_eq_true_iff.mp (show (!ltCps x.cps.toList p.cps.toList && risingS x r) = true from h)
    have ih := rising_pairs r x h2
    have px : p.cps.toList ≤ x.cps.toList := by
      rw [ltCps_eq] at h1
      have : ¬ x.cps.toList < p.cps.toList := by simpa using h1
      exact List.not_lt.mp this
    refine List.pairwise_cons.mpr ⟨fun y hy => ?_, ih⟩
    rcases List.mem_cons.mp hy with e | e
    · rw [e]; exact px
    · exact List.le_trans px ((List.pairwise_cons.mp ih).1 y e)
theorem sorted_same {xs ys : List Str} (p : xs.Perm ys) (h1 : sortedS xs = true) (h2 : sortedS ys = true) : xs = ys := by
  have pw : ∀ l : List Str, sortedS l = true → l.Pairwise fun a b => a.cps.toList ≤ b.cps.toList := fun l h => by
    cases l with
    | nil => exact List.Pairwise.nil
    | cons x r => exact rising_pairs r x h
  refine List.Perm.eq_of_pairwise (fun a b _ _ u v => ?_) (pw _ h1) (pw _ h2) p
  have e := List.le_antisymm u v
  have e2 : a.cps = b.cps := Array.toList_inj.mp e
  cases a
  cases b
  cases e2
  rfl
end Fs
set_option Elab.async false
set_option linter.all false
set_option maxRecDepth 100000
set_option maxHeartbeats 4000000
/-! FsJ: numbers by names as data; pairs laid one by one; those above 0 once more -/
namespace Fs
open PySem PySem.Spec PyProof.Rows L2 Fh
open PySem.W (Frag)
/-! ### as data -/
/-- few of them, with short names and numbers -/
structure Lite (m : Num) : Prop where
  few : m.length ≤ 64
  each : ∀ q ∈ m, q.1.length ≤ 8 ∧ (∀ c ∈ q.1.cps.toList, c < 16 ^ 8) ∧ q.2.natAbs < 10 ^ 33
theorem Lite.tail {q : Str × Int} {m : Num} (h : Lite (q :: m)) : Lite m := ⟨by have := h.few; rw [List.length_cons] at this; omega, fun p hp => h.each p (List.mem_cons_of_mem _ hp)⟩
/-- may be shown -/
def Rp (d : PyData) : Prop := d.showable = true ∧ d.depth ≤ 60 ∧ d.shown.length ≤ sizeLine
/-! ### pairs laid one by one -/
/-! ### those above 0 -/
theorem lookup_mem {m : Num} {y : Str} {n : Int} (e : m.lookup y = some n) : (y, n) ∈ m := by
  induction m with
  | nil => cases e
  | cons q m ih =>
    rw [List.lookup_cons] at e
    cases c : (y == q.1) with
    | true =>
      rw [c] at e
      have e2 := eq_of_beq c
      have e3 : q.2 = n := Option.some.inj e
      rw [e2, ← e3]; exact List.mem_cons_self
    | false =>
      rw [c] at e
      exact List.mem_cons_of_mem _ (ih e)
end Fs
set_option Elab.async false
set_option linter.all false
set_option maxRecDepth 100000
set_option maxHeartbeats 4000000
/-! FsK: slices of texts, pairs laid by a comprehension -/
namespace Fs
open PySem PySem.Spec PyProof.Rows L2 Fh
open PySem.W (Frag)
theorem cut_strs (ys : List Str) (lo hi : Option Int) : ∃ ms : List Str, cutV (ys.map V.str) lo hi = ms.map V.str ∧ ms.length ≤ ys.length ∧ ∀ x ∈ ms, x ∈ ys := by
  unfold cutV
  refine ⟨(ys.drop (HT.sIx (ys.map V.str).length 0 lo)).take (HT.sIx (ys.map V.str).length (ys.map V.str).length hi - HT.sIx (ys.map V.str).length 0 lo), ?_, ?_, fun x hx => List.mem_of_mem_drop (List.mem_of_mem_take hx)⟩
  · rw [List.map_take, List.map_drop]
  · rw [List.length_take, List.length_drop]
    omega
/-- tuples of a key and its value, none of them at p or at E -/
def Prs (H : Hp) (p E : Addr) (ps : List Addr) (l : Num) : Prop := Paired (fun q (kv : Key × V) => H q = some (.tup [kV kv.1, kv.2]) ∧ q ≠ p ∧ q ≠ E) ps (cD l)
theorem Prs.nil {H : Hp} {p E : Addr} : Prs H p E [] [] := Paired.nil
theorem Prs.but {H H' : Hp} {p E : Addr} {ps : List Addr} {l : Num} (h : Prs H p E ps l) (b : But p H H') : Prs H' p E ps l := Paired.mono (fun q kv z => ⟨b _ _ z.2.1 z.1, z.2⟩) h
theorem Prs.snoc {H : Hp} {p E T : Addr} {ps : List Addr} {l : Num} {y : Str} {n : Int} {o : HO} (h : Prs H p E ps l) (nT : H T = none) (Tp : T ≠ p) (TE : T ≠ E) :
    Prs (upd (upd H T (.tup [.str y, .int n])) E o) p E (ps ++ [T]) (l ++ [(y, n)]) := by
  unfold Prs
  rw [cD_snoc]
  have h2 : Paired (fun q (kv : Key × V) => (upd (upd H T (.tup [.str y, .int n])) E o) q = some (.tup [kV kv.1, kv.2]) ∧ q ≠ p ∧ q ≠ E) ps (cD l) := Paired.mono (fun q kv z => ⟨by
    rw [upd_ne z.2.2, upd_ne (ne_of_none z.1 nT)]
    exact z.1, z.2⟩) h
  refine Paired.snoc h2 ⟨?_, Tp, TE⟩
  rw [upd_ne TE, upd_same]
  rfl
theorem Prs.len {H : Hp} {p E : Addr} {ps : List Addr} {l : Num} (h : Prs H p E ps l) : ps.length = l.length := by
  have e := Paired.length h
  rw [cD_len] at e
  exact e
theorem ne_new {H : Hp} {a b : Addr} {o : HO} (ha : H a = some o) (hb : H b = none) : b ≠ a := fun z => by
  rw [z, ha] at hb
  cases hb
theorem none_back {Ha Hb : Hp} {b : Addr} (sm : Same Ha Hb) (hb : Hb b = none) : Ha b = none := by
  cases q : Ha b with
  | none => rfl
  | some o => rw [sm b o q] at hb; cases hb
theorem str_map_get {ys : List Str} {i : Nat} {x : V} (h : (ys.map V.str)[i]? = some x) : ∃ y, x = .str y ∧ ys[i]? = some y ∧ y ∈ ys := by
  obtain ⟨y, h1, h2, h3⟩ := at_str h
  exact ⟨y, h2, h1, h3⟩
end Fs
set_option Elab.async false
set_option linter.all false
set_option maxRecDepth 100000
set_option maxHeartbeats 8000000
/-! FtA: sets of texts from lists and tuples, their len -/
namespace Fs
open PySem PySem.Spec PyProof.Rows L2 Fh
open PySem.W (Frag)
section
variable {K : Type} [DecidableEq K] {P : Program} {w : World} {knd : PySem.KeyKind P w K} {A : Around} {E : Value → Shared → Prop} {s : Shared} {a : Addr} {l : List (Int × Value)}
/-- an element that is there already -/
theorem sr_have {k : K} {x : Value} {Q : Bool → Shared → Prop} (R : SR knd s.heap a l) (hkey : knd.is k x = true) (hsc : x.scannable = true) (yes : ∃ e ∈ l, knd.is k e.2 = true)
    (hQ : Q false s) : wpAny (model P w) A (setAddHashed a x (knd.hash k)) Q E s := by
  obtain ⟨o, ep, t, es, ho, hx, hd, pm, el, hb, hf, hr, hl⟩ := R
  have el0 : ElemsOf knd es.toList := fun e he => el e (pm.mem_iff.mp he)
  have size0 : es.size < scanBound := by rw [← Array.length_toList, pm.length_eq]; exact hb
  unfold setAddHashed setAddHashedIn
  refine wpAny_holding (wpAny_bind (wpAny_setState_of ho hd hf ?_))
  dsimp only
  rw [byScan_of hsc size0 el0]
  simp only [↓reduceIte]
  unfold setAddByScan
  refine wpAny_bind (wpAny_bind (wpAny_rule (wpAny_bind (wpAny_setScan_of hkey ho hd hf el0 ?_))))
  cases nf : List.findIdx? (fun e => knd.is k e.2) es.toList with
  | none =>
    obtain ⟨e, he, z⟩ := yes
    have := List.findIdx?_eq_none_iff.mp nf e (pm.mem_iff.mpr he)
    rw [z] at this
    cases this
  | some i =>
    dsimp only
    refine wpAny_pure ?_
    exact wpAny_pure hQ
end
/-- the elements in the order in which they are met -/
def addT (ks : List Str) (x : Str) : List Str := if x ∈ ks then ks else ks ++ [x]
def ded (xs : List Str) : List Str := xs.foldl addT []
theorem ded_snoc (xs : List Str) (x : Str) : ded (xs ++ [x]) = addT (ded xs) x := by unfold ded; rw [List.foldl_append]; rfl
theorem foldl_addT : ∀ (xs ks : List Str), ks.Nodup → (xs.foldl addT ks).Nodup ∧ (∀ y, y ∈ xs.foldl addT ks ↔ y ∈ ks ∨ y ∈ xs) ∧ (xs.foldl addT ks).length ≤ ks.length + xs.length
  | [], ks, nd => ⟨nd, fun y => by simp, Nat.le_refl _⟩
  | x :: xs, ks, nd => by
    have n1 : (addT ks x).Nodup := by
      unfold addT
      split
      · exact nd
      · rename_i h
        refine List.nodup_append.mpr ⟨nd, List.pairwise_singleton _ _, fun a ha b hb => ?_⟩
        rw [List.mem_singleton.mp hb]
        exact fun z => h (z ▸ ha)
    have m1 : ∀ y, y ∈ addT ks x ↔ y ∈ ks ∨ y = x := fun y => by
      unfold addT
      split
      · rename_i h
        exact ⟨.inl, fun z => z.elim id fun e => by rw [e]; exact h⟩
      · rw [List.mem_append, List.mem_singleton]
    have l1 : (addT ks x).length ≤ ks.length + 1 := by
      unfold addT
      split
      · omega
      · rw [List.length_append]; exact Nat.le_refl _
    obtain ⟨a1, a2, a3⟩ := foldl_addT xs (addT ks x) n1
    refine ⟨a1, fun y => ?_, ?_⟩
    · show y ∈ xs.foldl addT (addT ks x) ↔ _
      rw [a2, m1, List.mem_cons, or_assoc]
    · show (xs.foldl addT (addT ks x)).length ≤ _
      rw [List.length_cons]
      omega
theorem ded_nodup (xs : List Str) : (ded xs).Nodup := (foldl_addT xs [] List.nodup_nil).1
theorem ded_mem {xs : List Str} {y : Str} : y ∈ ded xs ↔ y ∈ xs := by
  have e := (foldl_addT xs [] List.nodup_nil).2.1 y
  show y ∈ xs.foldl addT [] ↔ y ∈ xs
  simpa using e
theorem ded_len (xs : List Str) : (ded xs).length ≤ xs.length := by
  have e := (foldl_addT xs [] List.nodup_nil).2.2
  show (xs.foldl addT []).length ≤ _
  simpa using e
theorem ded_self {xs : List Str} (nd : xs.Nodup) : ded xs = xs := by
  have go : ∀ (xs ks : List Str), (ks ++ xs).Nodup → xs.foldl addT ks = ks ++ xs := by
    intro xs
    induction xs with
    | nil => intro ks _; simp
    | cons x xs ih =>
      intro ks h
      have nx : x ∉ ks := fun z => (List.nodup_append.mp h).2.2 _ z _ List.mem_cons_self rfl
      show xs.foldl addT (addT ks x) = _
      have e : addT ks x = ks ++ [x] := by unfold addT; rw [if_neg nx]
      rw [e, ih _ (by simpa using h)]
      simp
  exact go xs [] (by simpa using nd)
/-- what stands at a: the texts ks, in some order -/
def SRt (P : Program) (w : World) (h : Heap) (a : Addr) (ks : List Str) : Prop := ∃ l, SR (mixKind P w) h a l ∧ (∀ e ∈ l, ∃ x t, e.2 = Value.str x t) ∧ (l.map fun e => strOf e.2) = ks
theorem SRt.move {P : Program} {w : World} {h h' : Heap} {a : Addr} {ks : List Str} (R : SRt P w h a ks) (k : ∀ o, h.get? a = some o → h'.get? a = some o) : SRt P w h' a ks :=
  let ⟨l, r, p, q⟩ := R
  ⟨l, r.move k, p, q⟩
section
variable {prog : Program} {w : World} {A : Around} {R : Result → Shared → Prop} {I : Addr} {fp wr : List Addr} {G : Array GenState → Array GenState → Prop} {n : Nat} {Pv : Nat → Value → Prop} {St : Nat → Shared → Prop}
theorem addTx {E : Value → Shared → Prop} {s : Shared} {S : Addr} {ks : List Str} {x : Str} {t : Tok} {Q : Bool → Shared → Prop} (R : SRt prog w s.heap S ks) (few : ks.length < 100)
    (hQ : ∀ b h' tk, s.toks ≤ tk → Heap.SameBut S s.heap h' → SRt prog w h' S (addT ks x) → Q b { s with heap := h', toks := tk }) : wpAny (model prog w) A (setAdd S (.str x t)) Q E s := by
  obtain ⟨l, r, pt, rfl⟩ := R
  rw [List.length_map] at few
  have hk : (mixKind prog w).is (Sum.inr x) (.str x t) = true := keyIs_str x t
  unfold setAdd
  refine wpAny_holding (wpAny_bind ((mixKind prog w).pyHash (k := Sum.inr x) hk ?_))
  by_cases hx : x ∈ l.map fun e => strOf e.2
  · obtain ⟨e, he, ee⟩ := List.mem_map.mp hx
    obtain ⟨y, u, ey⟩ := pt e he
    have exy : y = x := by rw [← ee, ey]; rfl
    refine sr_have (knd := mixKind prog w) (s := { s with toks := s.toks + 1 }) r hk rfl ⟨e, he, by rw [ey, exy]; exact keyIs_str x u⟩ ?_
    refine hQ false s.heap (s.toks + 1) (Nat.le_succ _) (Heap.SameBut.refl S s.heap) ⟨l, r, pt, ?_⟩
    unfold addT
    rw [if_pos hx]
  · refine sr_add (knd := mixKind prog w) (s := { s with toks := s.toks + 1 }) r hk rfl (fun e he => ?_) (by show l.length + 1 < 4096; omega) fun h' sb r2 => ?_
    · cases c : (mixKind prog w).is (Sum.inr x) e.2 with
      | false => rfl
      | true =>
        obtain ⟨u, ev⟩ := Value.isStrOf_shape (x := x) (v := e.2) c
        exact absurd (List.mem_map.mpr ⟨e, he, by rw [ev]; rfl⟩) hx
    · refine hQ true h' (s.toks + 1) (Nat.le_succ _) sb ⟨_, r2, fun e he => ?_, ?_⟩
      · rcases List.mem_append.mp he with z | z
        · exact pt e z
        · rw [List.mem_singleton.mp z]
          exact ⟨x, t, rfl⟩
      · rw [List.map_append]
        unfold addT
        rw [if_neg hx]
        rfl
theorem loopTx (Wk : WalksS prog w A.in1 I fp wr G n Pv St) (S : Addr) (far : S ∉ fp) (xs : List Str) (size : xs.length = n) (few : n < 64)
    (vals : ∀ i v, Pv i v → ∃ t, v = .str (xs.getD i Str.empty) t) :
    ∀ (k i : Nat) (s : Shared), n - i = k → i ≤ n → St i s → SRt prog w s.heap S (ded (xs.take i)) →
      (∀ s', Moved (S :: wr) G s s' → SRt prog w s'.heap S (ded xs) → R (.ok (.ret .none)) s') →
      codeAny (model prog w) A (.builtin "set.update.loop" ⟨[.ref S, .ref I], []⟩) R s := by
  have offw : S ∉ wr := fun h => far (Wk.sub _ h)
  have more : ∀ b ∈ wr, b ∈ S :: wr := fun b hb => List.mem_cons_of_mem _ hb
  intro k
  induction k with
  | zero =>
    intro i s hk hi st0 was fin
    have hin : i = n := by omega
    subst hin
    rw [List.take_of_length_le (by omega)] at was
    refine codeAny_builtin PyProof.Rows.F.entry_set_update_loop ?_
    rw [Around.under_plainId PyProof.Rows.F.plain_set_update_loop _]
    show wpAny _ A.in1 (pyNext (.ref I) >>= _) _ _ s
    refine wpAny_bind (Wk.done s _ _ st0 fun s' mv => ?_)
    show wpAny _ A.in1 (ret Value.none) _ _ s'
    exact wpAny_pure (fin s' (mv.mono more) (was.move fun o ho => mv.heap S _ offw ho))
  | succ k ih =>
    intro i s hk hi st0 was fin
    have below : i < n := by omega
    refine codeAny_builtin PyProof.Rows.F.entry_set_update_loop ?_
    rw [Around.under_plainId PyProof.Rows.F.plain_set_update_loop _]
    show wpAny _ A.in1 (pyNext (.ref I) >>= _) _ _ s
    refine wpAny_bind (Wk.item i s _ _ below st0 fun v s' isat st1 mv => ?_)
    obtain ⟨t, rfl⟩ := vals i v isat
    have was1 : SRt prog w s'.heap S (ded (xs.take i)) := was.move fun o ho => mv.heap S _ offw ho
    show wpAny _ A.in1 (holding [Value.str (xs.getD i Str.empty) t] (setAdd S (.str (xs.getD i Str.empty) t)) >>= _) _ _ s'
    have f1 := ded_len (xs.take i)
    rw [List.length_take] at f1
    have gx : xs[i]? = some (xs.getD i Str.empty) := by
      rw [List.getD_eq_getElem?_getD, List.getElem?_eq_getElem (by omega)]
      rfl
    refine wpAny_bind (wpAny_holding (addTx was1 (by omega) fun b h' tk htk hsb hS2 => ?_))
    have nowi : SRt prog w h' S (ded (xs.take (i + 1))) := by
      rw [take_snoc gx, ded_snoc]
      exact hS2
    refine wpAny_pure ⟨plainId_quiet PyProof.Rows.F.plain_set_update_loop _, ih (i + 1) _ (by omega) below (Wk.frame _ s' _ _ st1 htk fun b hb o e => ?_) nowi fun s'' mv2 hS'' => ?_⟩
    · rw [hsb.2 b (fun h : b = S => far (by rw [← h]; exact hb))]; exact e
    · refine fin s'' (Moved.trans Wk.gtrans ((mv.mono more).then_heap htk fun b o hb e => ?_) mv2) hS''
      rw [hsb.2 b (fun h : b = S => hb (by rw [h]; exact List.mem_cons_self))]; exact e
end
section
variable {prog : Program} {w : World} {A : Around} {E : Value → Shared → Prop} {s : Shared}
set_option maxHeartbeats 8000000 in
/-- set(a list of texts) -/
theorem set_list {d : Addr} {arr : Array Value} {ys : List Str} {Q : Value → Shared → Prop} (calm : A.handled = none) (src : s.heap.IsList d arr) (tx : PyProof.Rows.StrsAre arr.toList ys) (few : ys.length < 64)
    (hQ : ∀ (h2 : Heap) (tk : Nat), (∀ b u, s.heap.get? b = some u → h2.get? b = some u) → SRt prog w h2 s.heap.objs.size (ded ys) → Q (.ref s.heap.objs.size) { s with heap := h2, toks := tk }) :
    wpAny (model prog w) A (call (.type "set") [.ref d]) Q E s := by
  obtain ⟨c0, c1, c2⟩ := F.called_set.mro
  have c3 := F.called_set.made
  have c4 := F.called_set.sub
  have c5 := F.called_set.notType
  have c6 := F.called_set.canCreate
  have c7 := F.typeCall_set_1 (.ref d)
  have c8 := F.called_set.init.lookup
  have c9 := F.called_set.init.bind (.ref s.heap.objs.size)
  have new0 : (s.heap.push (noSet w)).get? s.heap.objs.size = some (noSet w) := Heap.get?_push_size _ rfl
  have ty0 : Shared.TypeIs { s with heap := s.heap.push (noSet w) } (.ref s.heap.objs.size) "set" := ⟨_, new0, rfl⟩
  refine wpAny_call (codeAny_of_tree ?_)
  show wpAny _ _ (callAny (.type "set") _) _ _ _
  refine wpAny_pure ⟨Code.quiet_builtin _ (by decide +kernel), codeAny_builtin F.entry_type_call ?_⟩
  rw [Around.under_plain (weight_type_call_type "set" [.ref d] []) rfl]
  repeat (any_goals (first | assumption | wp_step))
  refine codeAny_mono (code_set_led1 (.ref d) (E := E) (Q₁ := fun ob s1 => ob = .ref s.heap.objs.size ∧ s1 = { s with heap := s.heap.push (noSet w) }) ⟨rfl, rfl⟩) fun r s1 hr => ?_
  match r, hr with
  | .error e, hr => exact hr
  | .ok .next, hr => exact hr.elim
  | .ok .brk, hr => exact hr.elim
  | .ok .cont, hr => exact hr.elim
  | .ok (.ret ob), hr =>
    obtain ⟨rfl, rfl⟩ := hr
    repeat (any_goals (first | assumption | wp_step))
    refine codeAny_mono (codeAny_call_builtin (R := wants (fun r s2 => r = .none ∧ Q (.ref s.heap.objs.size) s2) E) F.called_set.init.plain F.entry_set_init (check_set_init_1 ty0 ?_)) fun r2 s2 hr2 => ?_
    · obtain ⟨ob, hob, cl, nl, dt⟩ := src
      obtain ⟨k1, k2, k3, k4⟩ := ob
      simp only at cl dt
      subst cl; subst dt
      have old0 : (s.heap.push (noSet w)).get? d = some { cls := .type "list", dict := k2, data := .seq arr nl, slots := k4 } := Heap.get?_push_of_some _ hob
      have u1 := F.sub_list_set
      have u2 := F.sub_list_frozenset
      have u3 : (Value.type "list" == Value.type "dict") = false := by decide
      have src1 : (s.heap.push (noSet w)).IsList d arr := ⟨_, old0, rfl, nl, rfl⟩
      unfold Builtin.«set.__init__» noKeywords Builtin.Frozenset.updateFrom
      generalize eP : pyIter = PI
      wp_walk
      subst eP
      refine wpAny_pyIter_list src1 ?_
      refine wpAny_bind (wpAny_runValue ?_)
      have dS : d < s.heap.objs.size := Heap.lt_size hob
      have calm3 : A.in1.in1.in1.handled = none := by simp [calm]
      have dne : d ≠ (s.heap.push (noSet w)).objs.size := by
        rw [Heap.size_push]; exact Nat.ne_of_lt (Nat.lt_succ_of_lt dS)
      have off0 : s.heap.objs.size ∉ [(s.heap.push (noSet w)).objs.size, d] := by
        rw [Heap.size_push]
        intro z
        rcases List.mem_cons.mp z with y | y
        · exact absurd y (Nat.ne_of_lt (Nat.lt_succ_self _))
        · exact absurd (List.mem_singleton.mp y) (Nat.ne_of_gt dS)
      have len0 : ys.length = arr.size := by rw [← StrsAre.len_eq tx, Array.length_toList]
      refine loopTx ((Walks.list calm3 _ d dne arr).toS) s.heap.objs.size off0 ys len0 (by rw [← len0]; exact few) (fun j v hv => SS.strs_at tx j v (by rw [Array.getElem?_toList]; exact hv)) (arr.size - 0) 0 _ (by omega) (Nat.zero_le _)
        ⟨⟨_, Heap.get?_push_size _ rfl, rfl, rfl⟩, (src1.push _)⟩ ⟨[], sr_new (Heap.get?_push_of_some _ new0), (fun _ z => nomatch z), rfl⟩ ?_
      intro s3 mv rr
      obtain ⟨h3, g3, d3, t3, o3⟩ := s3
      have e1 : g3 = s.gens := mv.gens
      have e2 : d3 = s.drawn := mv.drawn
      have e3 : o3 = s.os := mv.os
      subst e1; subst e2; subst e3
      show wpAny _ _ _ _ _ _
      refine wpAny_pure ?_
      show wpAny _ _ (ret Value.none) _ _ _
      refine wpAny_pure ⟨rfl, hQ h3 t3 (fun b u e => ?_) rr⟩
      have lb : b < s.heap.objs.size := Heap.lt_size e
      refine mv.heap b u (fun z => ?_) (Heap.get?_push_of_some _ (Heap.get?_push_of_some _ e))
      rcases List.mem_cons.mp z with y | y
      · exact absurd y (Nat.ne_of_lt lb)
      · rw [Heap.size_push] at y
        exact absurd (List.mem_singleton.mp y) (Nat.ne_of_lt (Nat.lt_succ_of_lt lb))
    · match r2, hr2 with
      | .error e, hr2 => exact hr2
      | .ok .next, hr2 => exact hr2.elim
      | .ok .brk, hr2 => exact hr2.elim
      | .ok .cont, hr2 => exact hr2.elim
      | .ok (.ret v), hr2 =>
        obtain ⟨rfl, hq⟩ := hr2
        repeat (any_goals (first | assumption | wp_step))
end
section
variable {prog : Program} {w : World} {A : Around} {E : Value → Shared → Prop} {s : Shared}
set_option maxHeartbeats 8000000 in
/-- set(a tuple of texts) -/
theorem set_tuple {d : Addr} {arr : Array Value} {ys : List Str} {Q : Value → Shared → Prop} (calm : A.handled = none) (src : s.heap.IsTuple d arr) (tx : PyProof.Rows.StrsAre arr.toList ys) (few : ys.length < 64)
    (hQ : ∀ (h2 : Heap) (tk : Nat), (∀ b u, s.heap.get? b = some u → h2.get? b = some u) → SRt prog w h2 s.heap.objs.size (ded ys) → Q (.ref s.heap.objs.size) { s with heap := h2, toks := tk }) :
    wpAny (model prog w) A (call (.type "set") [.ref d]) Q E s := by
  obtain ⟨c0, c1, c2⟩ := F.called_set.mro
  have c3 := F.called_set.made
  have c4 := F.called_set.sub
  have c5 := F.called_set.notType
  have c6 := F.called_set.canCreate
  have c7 := F.typeCall_set_1 (.ref d)
  have c8 := F.called_set.init.lookup
  have c9 := F.called_set.init.bind (.ref s.heap.objs.size)
  have new0 : (s.heap.push (noSet w)).get? s.heap.objs.size = some (noSet w) := Heap.get?_push_size _ rfl
  have ty0 : Shared.TypeIs { s with heap := s.heap.push (noSet w) } (.ref s.heap.objs.size) "set" := ⟨_, new0, rfl⟩
  refine wpAny_call (codeAny_of_tree ?_)
  show wpAny _ _ (callAny (.type "set") _) _ _ _
  refine wpAny_pure ⟨Code.quiet_builtin _ (by decide +kernel), codeAny_builtin F.entry_type_call ?_⟩
  rw [Around.under_plain (weight_type_call_type "set" [.ref d] []) rfl]
  repeat (any_goals (first | assumption | wp_step))
  refine codeAny_mono (code_set_led1 (.ref d) (E := E) (Q₁ := fun ob s1 => ob = .ref s.heap.objs.size ∧ s1 = { s with heap := s.heap.push (noSet w) }) ⟨rfl, rfl⟩) fun r s1 hr => ?_
  match r, hr with
  | .error e, hr => exact hr
  | .ok .next, hr => exact hr.elim
  | .ok .brk, hr => exact hr.elim
  | .ok .cont, hr => exact hr.elim
  | .ok (.ret ob), hr =>
    obtain ⟨rfl, rfl⟩ := hr
    repeat (any_goals (first | assumption | wp_step))
    refine codeAny_mono (codeAny_call_builtin (R := wants (fun r s2 => r = .none ∧ Q (.ref s.heap.objs.size) s2) E) F.called_set.init.plain F.entry_set_init (check_set_init_1 ty0 ?_)) fun r2 s2 hr2 => ?_
    · obtain ⟨ob, hob, cl, nl, dt⟩ := src
      obtain ⟨k1, k2, k3, k4⟩ := ob
      simp only at cl dt
      subst cl; subst dt
      have old0 : (s.heap.push (noSet w)).get? d = some { cls := .type "tuple", dict := k2, data := .seq arr nl, slots := k4 } := Heap.get?_push_of_some _ hob
      have u1 := F.sub_tuple_set
      have u2 := F.sub_tuple_frozenset
      have u3 : (Value.type "tuple" == Value.type "dict") = false := by decide
      have src1 : (s.heap.push (noSet w)).IsTuple d arr := ⟨_, old0, rfl, nl, rfl⟩
      unfold Builtin.«set.__init__» noKeywords Builtin.Frozenset.updateFrom
      generalize eP : pyIter = PI
      wp_walk
      subst eP
      refine wpAny_pyIter_tuple src1 ?_
      refine wpAny_bind (wpAny_runValue ?_)
      have dS : d < s.heap.objs.size := Heap.lt_size hob
      have calm3 : A.in1.in1.in1.handled = none := by simp [calm]
      have dne : d ≠ (s.heap.push (noSet w)).objs.size := by
        rw [Heap.size_push]; exact Nat.ne_of_lt (Nat.lt_succ_of_lt dS)
      have off0 : s.heap.objs.size ∉ [(s.heap.push (noSet w)).objs.size, d] := by
        rw [Heap.size_push]
        intro z
        rcases List.mem_cons.mp z with y | y
        · exact absurd y (Nat.ne_of_lt (Nat.lt_succ_self _))
        · exact absurd (List.mem_singleton.mp y) (Nat.ne_of_gt dS)
      have len0 : ys.length = arr.size := by rw [← StrsAre.len_eq tx, Array.length_toList]
      refine loopTx ((Walks.tuple calm3 _ d dne arr).toS) s.heap.objs.size off0 ys len0 (by rw [← len0]; exact few) (fun j v hv => SS.strs_at tx j v (by rw [Array.getElem?_toList]; exact hv)) (arr.size - 0) 0 _ (by omega) (Nat.zero_le _)
        ⟨⟨_, Heap.get?_push_size _ rfl, rfl, rfl⟩, (src1.push _)⟩ ⟨[], sr_new (Heap.get?_push_of_some _ new0), (fun _ z => nomatch z), rfl⟩ ?_
      intro s3 mv rr
      obtain ⟨h3, g3, d3, t3, o3⟩ := s3
      have e1 : g3 = s.gens := mv.gens
      have e2 : d3 = s.drawn := mv.drawn
      have e3 : o3 = s.os := mv.os
      subst e1; subst e2; subst e3
      show wpAny _ _ _ _ _ _
      refine wpAny_pure ?_
      show wpAny _ _ (ret Value.none) _ _ _
      refine wpAny_pure ⟨rfl, hQ h3 t3 (fun b u e => ?_) rr⟩
      have lb : b < s.heap.objs.size := Heap.lt_size e
      refine mv.heap b u (fun z => ?_) (Heap.get?_push_of_some _ (Heap.get?_push_of_some _ e))
      rcases List.mem_cons.mp z with y | y
      · exact absurd y (Nat.ne_of_lt lb)
      · rw [Heap.size_push] at y
        exact absurd (List.mem_singleton.mp y) (Nat.ne_of_lt (Nat.lt_succ_of_lt lb))
    · match r2, hr2 with
      | .error e, hr2 => exact hr2
      | .ok .next, hr2 => exact hr2.elim
      | .ok .brk, hr2 => exact hr2.elim
      | .ok .cont, hr2 => exact hr2.elim
      | .ok (.ret v), hr2 =>
        obtain ⟨rfl, hq⟩ := hr2
        repeat (any_goals (first | assumption | wp_step))
end
section
variable {X : Cx}
/-- set(xs), xs a list or tuple of texts -/
theorem cr_setL (hc : X.calm = true) : CallR X (.type "set") (fun xs H Q => ∃ (a : Addr) (ys : List Str), xs = [.ref a] ∧ (SqL X.K H a (ys.map V.str) ∨ SqT X.K H a (ys.map V.str)) ∧ ys.length < 64 ∧ ∀ p, H p = none → Q (.ref p) (upd H p (SetS X.prog X.w p (ded ys)))) := by
  intro pins s σ H xs us Q I r h
  obtain ⟨a, ys, rfl, hq, few, q⟩ := h
  rw [Vals.ref1 r]
  have fin : ∀ (h2 : Heap) (tk : Nat), (∀ b u, s.heap.get? b = some u → h2.get? b = some u) → SRt X.prog X.w h2 s.heap.objs.size (ded ys) → EP X pins σ Q (.ref s.heap.objs.size) { s with heap := h2, toks := tk } := fun h2 tk kp ⟨l, R, st, es⟩ =>
    ⟨.ref s.heap.objs.size, upd H s.heap.objs.size (SetS X.prog X.w s.heap.objs.size (ded ys)), I.laid (t' := tk) kp (Nat.le_refl _) ⟨⟨l, R, st, es⟩, let ⟨o, _, _, _, e, _⟩ := R; ⟨o, e⟩, fun h1 h2 ⟨l, r1, r2, r3⟩ k => ⟨l, r1.move k, r2, r3⟩⟩, rfl, q _ (I.hok.fresh (Nat.le_refl _))⟩
  rcases hq with hq | hq
  · obtain ⟨its, rv, pl, hz⟩ := I.list hq
    exact set_list (I.ok.hd hc) pl.isList (by simpa using strsAre_of rv) few fin
  · obtain ⟨its, rv, pl, hz⟩ := I.tuple hq
    exact set_tuple (I.ok.hd hc) pl (by simpa using strsAre_of rv) few fin
/-- len(s) -/
theorem cr_lenS : CallR X (.builtin "len") (fun xs H Q => ∃ (a : Addr) (ks : List Str), xs = [.ref a] ∧ H a = some (SetS X.prog X.w a ks) ∧ ks.length < 1000 ∧ Q (.int ks.length) H) := by
  intro pins s σ H xs us Q I r h
  obtain ⟨a, ks, rfl, ha, few, q⟩ := h
  obtain ⟨⟨l, R, st, rfl⟩, _⟩ := I.hok a _ ha
  rw [Vals.ref1 r]
  rw [List.length_map] at few q
  obtain ⟨o, ep, t, es, ho, hx, hd, pm, el, hb, hf, hr, hl⟩ := R
  have sz : es.size = l.length := by rw [← Array.length_toList, pm.length_eq]
  refine call_len_set ho hx hd hf (by rw [sz]; omega) ⟨.int l.length, H, I.tok _, ⟨_, by rw [sz]⟩, q⟩
end
end Fs
set_option Elab.async false
set_option linter.all false
set_option maxRecDepth 100000
set_option maxHeartbeats 8000000
/-! FtB: sorted of lists and tuples of texts, a walk over either, names = a list -/
namespace Fs
open PySem PySem.Spec PyProof.Rows L2 Fh
open PySem.W (Frag)
section
variable {P : Program} {w : World} {A : Around} {E : Value → Shared → Prop} {s : Shared} {d : Addr}
theorem sorted_seq {o : Obj} {T : String} {arr : Array Value} {nl : Nat} {ys : List Str} {Q : Value → Shared → Prop} (hT : T = "list" ∨ T = "tuple") (ho : s.heap.get? d = some o) (hc : o.cls = .type T) (hd : o.data = .seq arr nl) (tx : StrsAre arr.toList ys) (few : ys.length < 64)
    (hQ : ∀ (s' : Shared) (h1 : Heap) (out : Array Value) (c : Nat) (zs : List Str), (∀ b o, s.heap.get? b = some o → h1.get? b = some o) → (∀ b o, h1.get? b = some o → s'.heap.get? b = some o) → s'.gens = s.gens → s'.os = s.os → s'.heap.get? h1.objs.size = some (seqObj "list" out c) → StrsAre out.toList zs →
      zs.Perm ys → sortedS zs = true → Q (.ref h1.objs.size) s') : wpAny (model P w) A (call (.builtin "sorted") [.ref d]) Q E s := by
  have len0 : ys.length = arr.size := by rw [← StrsAre.len_eq tx, Array.length_toList]
  refine Calls.call_function_entry PyProof.Rows.kind_sorted PyProof.Rows.plain_sorted PyProof.Rows.entry_sorted (PyProof.Rows.args_sorted1 _) ?_
  unfold Builtin.«sorted»
  refine wpAny_bind (m := checkCount "sorted" 1 1 _) (wpAny_pure (wpAny_bind (wpAny_collect_seq d hT ho hc hd (fun h1 k1 => ?_) (by rw [sizeLine_eq]; omega))))
  have lv : arr.toList.length = ys.length := by rw [Array.length_toList, len0]
  refine wpAny_bind (wpAny_newList ?_ (by rw [lv, sizeLine_eq]; omega))
  have hoL : (h1.push (seqObj "list" arr.toList.toArray 0)).get? h1.objs.size = some (seqObj "list" arr.toList.toArray 0) := Heap.get?_push_size _ rfl
  refine wpAny_bind (wpAny_holding (wpAny_call_entry PyProof.Rows.slot_list_sort ⟨_, hoL, rfl⟩ PyProof.Rows.entry_list_sort
    (list_sort_treeK PyProof.Rows.strKind_oneLt (s := { s with heap := h1.push (seqObj "list" arr.toList.toArray 0) }) hoL tx.keysOf (fun v1 v2 rest e => keyKind_strs (by rw [← e]; exact tx)) (by rw [lv]; exact few) fun st' hp hs2 => ⟨_, rfl, ?_⟩)
    (PyProof.Rows.args_list_sort _)))
  obtain ⟨zs, q1, q2, q3⟩ := sorted_out_str tx hp hs2
  obtain ⟨c, hc2⟩ := PyProof.Rows.sortedHeap_at (vs := arr.toList) (out := (arrOf st').map (·.2)) hoL
  refine wpAny_pure ⟨_, rfl, hQ _ h1 _ c zs k1 (fun b u q => ?_) rfl rfl hc2 q1 q2 q3⟩
  have hlt := Heap.lt_size q
  show (PyProof.Rows.sortedHeap (h1.push (seqObj "list" arr.toList.toArray 0)) h1.objs.size arr.toList _).get? b = some u
  rw [PyProof.Rows.sortedHeap_old (Nat.ne_of_lt hlt) (by rw [size_push']; exact Nat.lt_succ_of_lt hlt)]
  exact Heap.get?_push_of_some _ q
end
section
variable {X : Cx}
/-- sorted(xs), xs a list or tuple of texts -/
theorem cr_sortedSeq : CallR X (.builtin "sorted") (fun xs H Q => ∃ (a : Addr) (ys : List Str), xs = [.ref a] ∧ (SqL X.K H a (ys.map V.str) ∨ SqT X.K H a (ys.map V.str)) ∧ ys.length < 64 ∧ ∀ zs p, zs.Perm ys → sortedS zs = true → H p = none → Q (.ref p) (upd H p (.lst (zs.map V.str)))) := by
  intro pins s σ H xs us Q I r h
  obtain ⟨a, ys, rfl, hq, few, q⟩ := h
  rw [Vals.ref1 r]
  have fin : ∀ (s' : Shared) (h1 : Heap) (out : Array Value) (c : Nat) (zs : List Str), (∀ b o, s.heap.get? b = some o → h1.get? b = some o) → (∀ b o, h1.get? b = some o → s'.heap.get? b = some o) → s'.gens = s.gens → s'.os = s.os → s'.heap.get? h1.objs.size = some (seqObj "list" out c) → StrsAre out.toList zs →
      zs.Perm ys → sortedS zs = true → EP X pins σ Q (.ref h1.objs.size) s' := fun s' h1 out c zs k1 k g o hg hi pm so => by
    have hlen : (zs.map V.str).length ≤ sizeLine := by rw [List.length_map, pm.length_eq, sizeLine_eq]; omega
    have I1 : Inv X pins σ H { s with heap := h1 } := I.kept (t' := s.toks) k1
    have hn : H h1.objs.size = none := I1.hok.fresh (Nat.le_refl _)
    have J : Inv X pins σ (upd H h1.objs.size (.lst (zs.map V.str))) s' :=
      I1.call' (ch := []) o (Un.laid (h := h1) k (Nat.le_refl _) hn) (I1.hok.laid (h := h1) k (Nat.le_refl _) ⟨hlen, out.toList, c, vals_of_strs hi, hg⟩) (by rw [g]; exact I.bare) (fun _ z => nomatch z)
    exact ⟨.ref h1.objs.size, _, J, rfl, q zs _ pm so hn⟩
  rcases hq with hq | hq
  · obtain ⟨its, rv, ⟨o, n, ho, hc, _, hd⟩, hz⟩ := I.list hq
    exact sorted_seq (.inl rfl) ho hc hd (by simpa using strsAre_of rv) few fin
  · obtain ⟨its, rv, ⟨o, ho, hc, n, hd⟩, hz⟩ := I.tuple hq
    exact sorted_seq (.inr rfl) ho hc hd (by simpa using strsAre_of rv) few fin
/-- over a list or a tuple -/
def iSeq (K : Frag) (tl : TE) : TI := fun σ H R => tl σ H fun x H1 => ∃ a, x = .ref a ∧ (((∃ xs, SqL K H1 a xs) ∧ R (Itl K a) H1) ∨ ((∃ xs, SqT K H1 a xs) ∧ R (Itt K a) H1))
theorem ty_l {K : Frag} {H : Hp} {a : Addr} {xs : List V} (h : SqL K H a xs) : TyX K H (.ref a) (.type "list") := by
  rcases h with (h | ⟨o, h⟩) | ⟨o, its, n, hk, hc, _⟩
  · exact .base (.lst h)
  · exact .base (.frz h)
  · exact .kList hk hc
theorem ty_t {K : Frag} {H : Hp} {a : Addr} {xs : List V} (h : SqT K H a xs) : TyX K H (.ref a) (.type "tuple") := by
  rcases h with (h | ⟨o, h⟩) | ⟨o, its, n, hk, hc, _⟩
  · exact .base (.tup h)
  · exact .fTuple h
  · exact .kTuple hk hc
end
section
variable {X : Cx} {tg e : Expr} {tl : TE}
theorem pi_seq (he : PE X e tl) : PI X tg e (iSeq X.K tl) := by
  refine ⟨fun pins s σ H R I h => thn (he.run pins s σ H _ I h) fun u s2 ⟨x, H2, I2, rx, d, ex, q⟩ => ?_⟩
  subst ex
  obtain rfl : u = Value.ref d := rx
  have it0 := I2.hok.fresh (Nat.le_refl s2.heap.objs.size)
  have one : ∀ c ∈ [s2.heap.objs.size], c = s2.heap.objs.size := fun c hc => List.mem_singleton.mp hc
  rcases q with ⟨⟨xs, hq⟩, q⟩ | ⟨⟨xs, hq⟩, q⟩
  · obtain ⟨us, ru, pu, _⟩ := I2.list hq
    exact wpAny_pyIter_list pu.isList ⟨_, [s2.heap.objs.size], _, _, H2, rfl, I2.kept (t' := s2.toks) (fun c o z => Heap.get?_push_of_some _ z), turn_list d _, ⟨_, Heap.get?_push_size _ rfl, rfl, rfl⟩, fun c hc => by rw [one c hc]; exact I2.fpOk (Nat.le_refl _) it0, q⟩
  · obtain ⟨us, ru, pu, _⟩ := I2.tuple hq
    exact wpAny_pyIter_tuple (show s2.heap.IsTuple d us.toArray from pu) ⟨_, [s2.heap.objs.size], _, _, H2, rfl, I2.kept (t' := s2.toks) (fun c o z => Heap.get?_push_of_some _ z), turn_tuple d _, ⟨_, Heap.get?_push_size _ rfl, rfl, rfl⟩, fun c hc => by rw [one c hc]; exact I2.fpOk (Nat.le_refl _) it0, q⟩
theorem sqT_same {K : Frag} {H H' : Hp} {a : Addr} {xs : List V} (s : Same H H') (h : SqT K H a xs) : SqT K H' a xs := by
  rcases h with (h | ⟨o, h⟩) | h
  · exact .inl (.inl (s _ _ h))
  · exact .inl (.inr ⟨o, s _ _ h⟩)
  · exact .inr h
theorem mpP {R G : Prop} (h : R → G) (r : R) : G := h r
end
/-! ### names = a list -/
end Fs
set_option Elab.async false
set_option linter.all false
set_option maxRecDepth 100000
set_option maxHeartbeats 4000000
/-! FyA: the error InvalidText(field) over the layer: made and raised, read and asked for its class where it is caught -/
namespace PySem
namespace ErrN
open PySem.W PySem.Calls PyProof.Rows PySem.HandSPX
/-! ### the text of __init__ -/
def iA (p1 p2 : Pos) : Arguments := { posonlyargs := [], args := [{ arg := "self", annotation := none, pos := p1 }, { arg := "index", annotation := none, pos := p2 }], vararg := none, kwonlyargs := [], kw_defaults := [], kwarg := none, defaults := [] }
def iB (q1 q2 q3 q4 : Pos) : List Stmt := [.Assign [.Attribute (.Name "self" q1) "index" q2] (.Name "index" q3) q4]
def iS : Scope := { kind := .function, names := [(PySem.Str.ofString "self", .local), (PySem.Str.ofString "index", .local)], isGenerator := false, isCoroutine := false, more := [] }
/-- what the written part says of Low, at C, and of its __init__, at fI -/
structure ErrNxt (K : Frag) (mg : Str → Option Value) (C fI : Addr) : Prop where
  gC : mg "InvalidText" = some (.ref C)
  cls : ∃ nm q N bs bm sn sub ab col dd k0 k1 k2 k3 k5, K.lookup C = some (excClassObj nm q C N bs bm true sn sub ab col dd k0 k1 k2 k3 k5 "ValueError.__new__") ∧ refsVE bm = true
  sa : findIn K (.ref C) "__setattr__" = some (some (.builtin "object.__setattr__"))
  ga : findIn K (.ref C) "__getattribute__" = some (some (.builtin "BaseException.__getattribute__"))
  gg : findIn K (.ref C) "__getattr__" = some none
  noN : findIn K (.ref C) "index" = some none
  iC : findIn K (.ref C) "__init__" = some (some (.ref fI))
  tC : typeIn K (.ref fI) = some (.type "function")
  kC : keepIn K (.ref C) = true
  exC : subIn K (.ref C) (.type "BaseException") = some true
  tyC : typeIn K (.ref C) = some (.type "type")
  hdC : hasDictIn K C = true
  te : exmOne K (.ref C) (.ref C) = some true
  fn : ∃ (oc : Value) (od : Option Addr) (kV doc pm : Value) (an : Option Addr) (cdv ct : Value) (osl : Array (Option Value)) (p1 p2 q1 q2 q3 q4 : Pos),
    K.lookup fI = some ⟨oc, od, .func (fnOf "__init__" "InvalidText.__init__" (iA p1 p2) (iB q1 q2 q3 q4) iS .none kV doc pm an cdv ct), osl⟩ ∧ codeIn K cdv "InvalidText.__init__" = true
end ErrN
end PySem
namespace L2
open PySem PySem.Spec PyProof.Rows
end L2
set_option Elab.async false
set_option linter.all false
set_option maxRecDepth 100000
set_option maxHeartbeats 4000000
/-! FyB: d.get(k, x) of a dict of the written part -/
namespace Fs
open PySem PySem.Spec PyProof.Rows L2 Fh
open PySem.W (Frag)
def tKGet (K : Frag) (w : World) (td ty tx : TE) : TE := fun σ H Q => td σ H fun x H1 => ∃ (d : Addr) (es : Array DictEntry) (n : Nat), x = .ref d ∧ KDict K w d es n ∧ ty σ H1 fun y H2 => tx σ H2 fun z H3 =>
  ∃ (q : Str) (r : Option Value) (v : V), y = .str q ∧ PySem.W.nsIn K d q = some r ∧ (match r with | none => v = z | some u => RelV v u) ∧ Q v H3
section
variable {X : Cx} {o e f : Expr} {apos cpos : Pos} {td ty tx : TE}
theorem pe_kget (ho : PE X o td) (he : PE X e ty) (hf : PE X f tx) (m : M2 X o "get" apos e f cpos) : PE X (.Call (.Attribute o "get" apos) [e, f] [] cpos) (tKGet X.K X.w td ty tx) := by
  refine ⟨fun pins s σ H Q I h => ?_⟩
  refine wpAny_Call_method m.base m.few m.line PySem.F.plainAttrs_dict PySem.F.slot_dict_get PySem.F.type_dict_get (thn (ho.run pins s σ H _ I h) fun u s1 ⟨x, H1, I1, rx, d, es, n, ex, D, q1⟩ => ?_)
  subst ex
  obtain rfl : u = Value.ref d := rx
  refine ⟨kd_type D I1, fun b q => ?_, ?_⟩
  · cases q
    exact ⟨_, I1.kIn _ _ D.at_, rfl⟩
  rw [m.trees]
  refine Calls.callWith_builtin rfl (Calls.evalArgs_plain (Calls.spliced_cons (thn (he.run pins s1 σ H1 _ I1 q1) fun iv s2 ⟨y, H2, I2, ry, q2⟩ =>
    Calls.spliced_cons (thn (hf.run pins s2 σ H2 _ I2 q2) fun fv s3 ⟨z, H3, I3, rz, q, r, v, ey, hr, hv, q3⟩ => Calls.spliced_nil ?_))))
  subst ey
  obtain ⟨t, rfl⟩ := (show ∃ t, iv = Value.str q t from ry)
  refine call_meetsIn PySem.F.slot_dict_get (kd_type D I3) PySem.F.entry_dict_get (PySem.F.args_dict_get_3 _ _ _) (meets_dict_get_default (strKind X.prog X.w) d (strKind_is X.prog X.w q t) D.low fv) ⟨_, PySem.W.mapOf_K (prog := X.prog) I3.kIn D.at_ D.lit, ?_⟩
  rw [PySem.W.find_K D.at_ hr]
  refine ⟨v, H3, I3.tok _, ?_, q3⟩
  cases r with
  | none => rw [hv]; exact rz
  | some u => exact hv
end
end Fs
set_option Elab.async false
set_option linter.all false
set_option maxRecDepth 100000
set_option maxHeartbeats 4000000
/-! FtD: the error InvalidTask(field) over the layer: made and raised, read and asked for its class where it is caught -/
namespace PySem
end PySem
namespace L2
open PySem PySem.Spec PyProof.Rows
end L2
set_option Elab.async false
set_option linter.all false
set_option maxRecDepth 100000
set_option maxHeartbeats 4000000
/-! FtC: own == of an instance beside a tuple, a text, None -/
namespace Fs
open PySem PySem.Spec PyProof.Rows L2 Fh
open PySem.W (Frag)
section
variable {X : Cx} {CX : CXT} {n : Nat} {g C : Addr} {sp : Sp} {E : XK}
/-- what a right operand of another type is -/
def OthT (H : Hp) (y : V) (t : Value) : Prop := (∃ b xs, y = .ref b ∧ H b = some (.tup xs) ∧ t = .type "tuple") ∨ (∃ z, y = .str z ∧ t = .type "str") ∨ (y = .non ∧ t = .type "NoneType")
theorem OthT.looks {pins : List (Addr × Obj)} {s : Shared} {σ : L2.St} {H : Hp} {y : V} {u t : Value} (o : OthT H y t) (I : Inv X pins σ H s) (ry : RelV y u) : PySem.W.Looks (model X.prog X.w) s.heap (typeOf u) t := by
  rcases o with ⟨b, xs, rfl, eb, rfl⟩ | ⟨z, rfl, rfl⟩ | ⟨rfl, rfl⟩
  · obtain rfl : u = Value.ref b := ry
    obtain ⟨its, rv, ⟨ob, ho, hc, m, hd⟩, hz⟩ := I.tuple (SqT.of eb)
    intro A Q E s k q
    refine wpAny_typeOf_ref (k _ _ ho) ?_
    rw [hc]
    exact q
  · obtain ⟨tk, rfl⟩ := ry
    intro A Q E s k q
    exact wpAny_pure q
  · obtain rfl : u = Value.none := ry
    intro A Q E s k q
    exact wpAny_pure q
end
end Fs
set_option Elab.async false
set_option linter.all false
set_option maxRecDepth 100000
set_option maxHeartbeats 4000000
/-! FtE: values of any kind, as data, at the top loosely held; what isinstance tells of them -/
namespace Fs
open PySem PySem.Spec PyProof.Rows L2 Fh
open PySem.W (Frag)
/-! ### isinstance of the error that a suite holds -/
structure ErrC (K : Frag) (C : Addr) : Prop where
  is : (PySem.W.clsIn K C).isSome = true
  cl : PySem.W.findIn K (.ref C) "__class__" = some (some (.builtin "object.__class__"))
  hn : PySem.W.specialIn K (.builtin "object.__class__") "__get__" = some (some (.builtin "getset_descriptor.__get__"))
  ht : PySem.W.takesIn K (.builtin "object.__class__") = some true
  hm : PySem.W.mroIn K C (.type "object") = some true
def rIsED (K : Frag) (C a : Addr) (cls : Value) (d : Option Addr) : List V → Hp → VK → Prop := fun xs H Q => ∃ (dd : Addr) (fs : List (Str × V)) (c : V) (cv : Value) (b : Bool), xs = [.ref a, c] ∧ cls = .ref C ∧ d = some dd ∧ H dd = some (.xd fs) ∧ ClsV c cv ∧ PySem.W.kitOne K (.ref C) cv = some b ∧ Q (.bl b) H
/-! ### values of any kind -/
def IsD (N : Addr → Prop) (H : Hp) (v : V) : PyData → Prop
  | .none => v = .non
  | .bool b => v = .bl b
  | .int i => v = .int i
  | .str x => v = .str x
  | .list ds => ∃ a xs, v = .ref a ∧ ¬ N a ∧ H a = some (.lst xs) ∧ DAs N H xs ds
  | .tuple ds => ∃ a xs, v = .ref a ∧ ¬ N a ∧ H a = some (.tup xs) ∧ DAs N H xs ds
  | .dict _ => ∃ a es, v = .ref a ∧ ¬ N a ∧ H a = some (.dK es)
theorem IsD.of {N : Addr → Prop} {H : Hp} {v : V} {d : PyData} (h : DA N H v d) : IsD N H v d := by
  cases h with
  | non => exact rfl
  | bl b => exact rfl
  | int i => exact rfl
  | str x => exact rfl
  | lst h1 h2 h3 h4 => exact ⟨_, _, rfl, h3, h1, h4⟩
  | tup h1 h3 h4 => exact ⟨_, _, rfl, h3, h1, h4⟩
  | dK h1 h3 _ => exact ⟨_, _, rfl, h3, h1⟩
theorem IsD.same {N : Addr → Prop} {H H' : Hp} {v : V} {d : PyData} (s : Same H H') (h : IsD N H v d) : IsD N H' v d := by
  cases d with
  | none => exact h
  | bool b => exact h
  | int i => exact h
  | str x => exact h
  | list ds => obtain ⟨a, xs, e, n, z, r⟩ := h; exact ⟨a, xs, e, n, s _ _ z, DAs.same s r⟩
  | tuple ds => obtain ⟨a, xs, e, n, z, r⟩ := h; exact ⟨a, xs, e, n, s _ _ z, DAs.same s r⟩
  | dict kvs => obtain ⟨a, es, e, n, z⟩ := h; exact ⟨a, es, e, n, s _ _ z⟩
theorem IsD.but {N : Addr → Prop} {p : Addr} {H H' : Hp} {v : V} {d : PyData} (s : But p H H') (hp : N p) (h : IsD N H v d) : IsD N H' v d := by
  have ne : ∀ {a : Addr}, ¬ N a → a ≠ p := fun n e => n (e ▸ hp)
  cases d with
  | none => exact h
  | bool b => exact h
  | int i => exact h
  | str x => exact h
  | list ds => obtain ⟨a, xs, e, n, z, r⟩ := h; exact ⟨a, xs, e, n, s _ _ (ne n) z, DAs.but s hp r⟩
  | tuple ds => obtain ⟨a, xs, e, n, z, r⟩ := h; exact ⟨a, xs, e, n, s _ _ (ne n) z, DAs.but s hp r⟩
  | dict kvs => obtain ⟨a, es, e, n, z⟩ := h; exact ⟨a, es, e, n, s _ _ (ne n) z⟩
def tyn : PyData → String
  | .none => "NoneType"
  | .bool _ => "bool"
  | .int _ => "int"
  | .str _ => "str"
  | .list _ => "list"
  | .tuple _ => "tuple"
  | .dict _ => "dict"
theorem IsD.ty {K : Frag} {N : Addr → Prop} {H : Hp} {v : V} {d : PyData} (h : IsD N H v d) : TyX K H v (.type (tyn d)) := by
  cases d with
  | none => rw [show v = .non from h]; exact .base .non
  | bool b => rw [show v = .bl b from h]; exact .base (.bl b)
  | int i => rw [show v = .int i from h]; exact .base (.int i)
  | str x => rw [show v = .str x from h]; exact .base (.str x)
  | list ds => obtain ⟨a, xs, e, n, z, r⟩ := h; rw [e]; exact ty_l (SqL.of z)
  | tuple ds => obtain ⟨a, xs, e, n, z, r⟩ := h; rw [e]; exact ty_t (SqT.of z)
  | dict kvs => obtain ⟨a, es, e, n, z⟩ := h; rw [e]; exact .base (.dK z)
def isStr : PyData → Bool
  | .str _ => true
  | _ => false
def isInt : PyData → Bool
  | .int _ => true
  | .bool _ => true
  | _ => false
theorem kit_str (K : Frag) (d : PyData) : PySem.W.kitOne K (.type (tyn d)) (.type "str") = some (isStr d) := by cases d <;> rfl
/-! ### words, names, whole numbers -/
def abcN : List Nat := (Str.ofString "abcdefghijklmnopqrstuvwxyz").cps.toList
def sgB (x : Str) : List Bool := x.cps.toList.map fun c => decide (c ∈ abcN)
def wordB (x : Str) : Bool := decide (1 ≤ x.length) && (decide (x.length ≤ 8) && (sgB x).all id)
def wordD : PyData → Bool
  | .str x => wordB x
  | _ => false
def smS (d : PyData) : Prop := ∀ x, d = .str x → x.length ≤ 1000
def Sm : PyData → Prop
  | .str x => x.length ≤ 1000
  | .list ds => ds.length ≤ 50 ∧ ∀ d ∈ ds, smS d
  | .tuple ds => ds.length ≤ 50 ∧ ∀ d ∈ ds, smS d
  | _ => True
theorem Sm.str {d : PyData} (h : Sm d) : smS d := fun x e => by rw [e] at h; exact h
end Fs
namespace Fs
open PySem PySem.Spec PyProof.Rows L2 Fh
open PySem.W (Frag)
/-! ### what stays when one instance is filled -/
def KeepD (H H' : Hp) : Prop := ∀ b o, H b = some o → (∀ C dx fs, o ≠ .ins C dx fs) → H' b = some o
mutual
theorem DA.keep {N : Addr → Prop} {H H' : Hp} (s : KeepD H H') : ∀ {v : V} {d : PyData}, DA N H v d → DA N H' v d
  | _, _, .non => .non
  | _, _, .bl b => .bl b
  | _, _, .int i => .int i
  | _, _, .str x => .str x
  | _, _, .lst h n m r => .lst (s _ _ h (fun _ _ _ z => nomatch z)) n m (DAs.keep s r)
  | _, _, .tup h m r => .tup (s _ _ h (fun _ _ _ z => nomatch z)) m (DAs.keep s r)
  | _, _, .dK h m r => .dK (s _ _ h (fun _ _ _ z => nomatch z)) m (DKs.keep s r)
theorem DAs.keep {N : Addr → Prop} {H H' : Hp} (s : KeepD H H') : ∀ {v : List V} {d : List PyData}, DAs N H v d → DAs N H' v d
  | _, _, .nil => .nil
  | _, _, .cons h r => .cons (DA.keep s h) (DAs.keep s r)
theorem DKs.keep {N : Addr → Prop} {H H' : Hp} (s : KeepD H H') : ∀ {v : List (Key × V)} {d : List (PyData × PyData)}, DKs N H v d → DKs N H' v d
  | _, _, .nil => .nil
  | _, _, .cons h r => .cons (DA.keep s h) (DKs.keep s r)
end
theorem IsD.keep {N : Addr → Prop} {H H' : Hp} {v : V} {d : PyData} (s : KeepD H H') (h : IsD N H v d) : IsD N H' v d := by
  cases d with
  | none => exact h
  | bool b => exact h
  | int i => exact h
  | str x => exact h
  | list ds => obtain ⟨a, xs, e, n, z, r⟩ := h; exact ⟨a, xs, e, n, s _ _ z (fun _ _ _ z => nomatch z), DAs.keep s r⟩
  | tuple ds => obtain ⟨a, xs, e, n, z, r⟩ := h; exact ⟨a, xs, e, n, s _ _ z (fun _ _ _ z => nomatch z), DAs.keep s r⟩
  | dict kvs => obtain ⟨a, es, e, n, z⟩ := h; exact ⟨a, es, e, n, s _ _ z (fun _ _ _ z => nomatch z)⟩
end Fs
set_option Elab.async false
set_option linter.all false
set_option maxRecDepth 100000
set_option maxHeartbeats 4000000
/-! FtF: a list beside [] -/
namespace Fs
open PySem PySem.Spec PyProof.Rows L2 Fh
open PySem.W (Frag)
section
variable {X : Cx}
def rNeE (K : Frag) : R2 := fun x y H Q => ∃ (a b : Addr) (xs : List V), x = .ref a ∧ y = .ref b ∧ SqL K H a xs ∧ SqL K H b [] ∧ Q (.bl (!xs.isEmpty)) H
theorem op_neE (hu : X.A.units < cLine) : OpR X (compareOp .NotEq) (rNeE X.K) := by
  intro pins s σ H x y v u Q I rx ry h
  obtain ⟨a, b, xs, rfl, rfl, ha, hb, q⟩ := h
  cases (show v = Value.ref a from rx)
  cases (show u = Value.ref b from ry)
  obtain ⟨i1, r1, p1, _⟩ := I.list ha
  obtain ⟨i2, r2, p2, _⟩ := I.list hb
  have l2 : i2 = [] := by cases r2; rfl
  subst l2
  cases xs with
  | nil =>
    have l1 : i1 = [] := by cases r1; rfl
    subst l1
    exact SeqAt.RcNeAt.lists (e := fun _ => true) p1.isList p2.isList rfl hu (fun j h1 _ => absurd h1 (Nat.not_lt_zero _)) _ _ _ _ ⟨.bl false, H, I, rfl, q⟩
  | cons z zs =>
    cases r1 with
    | cons rz rr => exact SeqAt.RcNeAt.lists_lengths p1.isList p2.isList (by simp) hu _ _ _ _ ⟨.bl true, H, I, rfl, q⟩
end
end Fs
namespace Fs
open PySem PySem.Spec PyProof.Rows L2 Fh
open PySem.W (Frag)
/-- what a drawn value of any kind may be: apart from all of N -/
def spAnyN (ds : List PyData) : Sp := fun vs H Q _ => ∃ (N : Addr → Prop) (p c : Addr) (n : Nat), vs = [.ref p] ∧ N p ∧ Kept N H ∧ PenAt H p c n ∧ n ≤ 1000000 ∧
  ∀ (d : PyData) (x : V) (H' : Hp), d ∈ ds → DA N H' x d → PenAt H' p c (n + 1) → But p H H' → Q x H'
def IsDs (N : Addr → Prop) (H : Hp) : List V → List PyData → Prop
  | [], [] => True
  | v :: vs, d :: ds => (IsD N H v d ∧ Sm d) ∧ IsDs N H vs ds
  | _, _ => False
theorem IsDs.keep {N : Addr → Prop} {H H' : Hp} (k : ∀ v d, IsD N H v d → IsD N H' v d) : ∀ {vs : List V} {ds : List PyData}, IsDs N H vs ds → IsDs N H' vs ds
  | [], [], _ => trivial
  | v :: vs, d :: ds, h => ⟨⟨k _ _ h.1.1, h.1.2⟩, IsDs.keep k h.2⟩
  | [], _ :: _, h => h.elim
  | _ :: _, [], h => h.elim
theorem IsDs.snoc {N : Addr → Prop} {H : Hp} {v : V} {d : PyData} (e : IsD N H v d) (m : Sm d) : ∀ {vs : List V} {ds : List PyData}, IsDs N H vs ds → IsDs N H (vs ++ [v]) (ds ++ [d])
  | [], [], _ => ⟨⟨e, m⟩, trivial⟩
  | v :: vs, d :: ds, h => ⟨h.1, IsDs.snoc e m h.2⟩
  | [], _ :: _, h => h.elim
  | _ :: _, [], h => h.elim
theorem IsDs.len {N : Addr → Prop} {H : Hp} : ∀ {vs : List V} {ds : List PyData}, IsDs N H vs ds → vs.length = ds.length
  | [], [], _ => rfl
  | v :: vs, d :: ds, h => congrArg (· + 1) h.2.len
  | [], _ :: _, h => h.elim
  | _ :: _, [], h => h.elim
end Fs
set_option Elab.async false
set_option linter.all false
set_option maxRecDepth 100000
set_option maxHeartbeats 4000000
/-! FhY: a head by facts with getters and classmethods, the statics among what is looked at -/
namespace FhY
open PySem PySem.Spec PyProof.Rows L2 Fh
open PySem.W (Frag)
/-- the def in a property's, a classmethod's record -/
def getA (K : Frag) (T : String) (p : Addr) : Addr := match PySem.W.recIn K p T with
  | some (.ref g :: _) => g
  | _ => 0
def recB (K : Frag) (T : String) (p : Addr) : Bool := match PySem.W.recIn K p T with
  | some (.ref _ :: _) => true
  | _ => false
theorem recB_ok {K : Frag} {T : String} {p : Addr} (h : recB K T p = true) : ∃ rest, PySem.W.recIn K p T = some (.ref (getA K T p) :: rest) := by
  unfold recB at h
  unfold getA
  split at h
  · rename_i g r e
    exact ⟨r, by rw [e]⟩
  · cases h
def propB (K : Frag) (C : Addr) (f : Str) : Bool := He.eqO (PySem.W.findIn K (.ref C) f) (some (some (.ref (He.ma K C f)))) && (He.eqO (PySem.W.specialIn K (.ref (He.ma K C f)) "__get__") (some (some (.builtin "property.__get__"))) &&
  (decide (PySem.W.takesIn K (.ref (He.ma K C f)) = some true) && recB K "property" (He.ma K C f)))
theorem propB_ok {K : Frag} {C : Addr} {f : Str} (h : propB K C f = true) : PropOf K C f (He.ma K C f) (getA K "property" (He.ma K C f)) := by
  obtain ⟨h1, h⟩ := He.ba h
  obtain ⟨h2, h⟩ := He.ba h
  obtain ⟨h3, h4⟩ := He.ba h
  exact ⟨He.eqO_ok h1, He.eqO_ok h2, of_decide_eq_true h3, recB_ok h4⟩
/-! ### a def that stands in such a record -/
structure GDef where
  at_ : Frag → Addr
  name : Str
  qual : Str
  params : Arguments
  body : List Stmt
  scope : Scope
def gW (K : Frag) (a : Addr) : He.FnW := match K.lookup a with
  | some ⟨_, _, .func fd, _⟩ => some (fd.name, fd.qualname, fd.params, fd.body, fd.scope, fd.globals, fd.closure, fd.builtins)
  | _ => none
def GDef.val (d : GDef) : He.FnW := some (d.name, d.qual, d.params, .stmts d.body, d.scope, mainGlobals, [], builtinsNs)
def GDef.ok (K : Frag) (d : GDef) : Bool := PySem.W.keepIn K (.ref (d.at_ K)) && (match K.lookup (d.at_ K) with
  | some ⟨_, _, .func fd, _⟩ => PySem.W.codeIn K fd.code d.qual && (He.dflB K fd.defaults [] && He.kwdB K fd.kwdefaults [])
  | _ => false)
theorem GDef.funD {K : Frag} {d : GDef} (e : gW K (d.at_ K) = d.val) (c : d.ok K = true) : ∃ fd, FunD K d.name d.qual d.params d.body d.scope [] [] (d.at_ K) fd := by
  obtain ⟨kp, c2⟩ := He.ba c
  unfold gW at e
  cases q : K.lookup (d.at_ K) with
  | none =>
    rw [q] at c2
    cases c2
  | some o =>
    obtain ⟨oc, od, dt, osl⟩ := o
    rw [q] at c2 e
    cases dt with
    | func fd =>
      obtain ⟨n1, n2, n3, n4, n5, n6, n7, n8, n9, n10, n11, n12, n13, n14, n15⟩ := fd
      have e2 : (some (n1, n2, n3, n4, n5, n6, n7, n15) : He.FnW) = some (d.name, d.qual, d.params, .stmts d.body, d.scope, mainGlobals, [], builtinsNs) := e
      simp only [Option.some.injEq, Prod.mk.injEq] at e2
      obtain ⟨h1, h2, h3, h4, h5, h6, h7, h8⟩ := e2
      subst h1 h2 h3 h4 h5 h6 h7 h8
      have c3 : (PySem.W.codeIn K n13 d.qual && (He.dflB K n8 [] && He.kwdB K n9 [])) = true := c2
      obtain ⟨k1, k2⟩ := He.ba c3
      obtain ⟨k3, k4⟩ := He.ba k2
      exact ⟨_, ⟨oc, od, n8, n9, n10, n11, n12, n13, n14, osl, rfl, q, k1, He.dflB_ok k3, He.kwdB_ok k4⟩, kp⟩
    | _ => cases c2
/-! ### the Hook -/
abbrev AlY : Type := (He.AlD × List He.FnW) × Bool
def obsK (fa : List He.Fa) (fn : List He.DefD) (gs : List GDef) (ex : Frag → Bool) (K : Frag) : AlY := ((He.obsD fa fn K, gs.map fun d => gW K (d.at_ K)), ex K && gs.all fun d => d.ok K)
def valY (fn : List He.DefD) (gs : List GDef) : AlY := ((He.valD fn, gs.map GDef.val), true)
section
variable {fa : List He.Fa} {fn : List He.DefD} {gs : List GDef} {ex : Frag → Bool} {K : Frag}
theorem says_d (c : obsK fa fn gs ex K = valY fn gs) : He.SaysD fa fn K := congrArg (fun z : AlY => z.1.1) c
theorem says_more (c : obsK fa fn gs ex K = valY fn gs) : ex K = true := (He.ba (show (ex K && gs.all fun d => d.ok K) = true from congrArg (fun z : AlY => z.2) c)).1
theorem says_get (c : obsK fa fn gs ex K = valY fn gs) (i : Nat) {d : GDef} (h : gs[i]? = some d := by rfl) : ∃ fd, FunD K d.name d.qual d.params d.body d.scope [] [] (d.at_ K) fd := by
  have c2 := (He.ba (show (ex K && gs.all fun d => d.ok K) = true from congrArg (fun z : AlY => z.2) c)).2
  have e : gs.map (fun d => gW K (d.at_ K)) = gs.map GDef.val := congrArg (fun z : AlY => z.1.2) c
  have e2 : (gs.map fun d => gW K (d.at_ K))[i]? = (gs.map GDef.val)[i]? := by rw [e]
  rw [List.getElem?_map, List.getElem?_map, h] at e2
  exact GDef.funD (Option.some.inj e2) (List.all_eq_true.mp c2 d (List.mem_of_getElem? h))
end
end FhY
set_option Elab.async false
set_option linter.all false
set_option maxRecDepth 100000
set_option maxHeartbeats 4000000
/-! FhZ: errors' classes by the head's facts, a law's end -/
namespace Fh
open PySem PySem.Spec PyProof.Rows L2
open PySem.W (Frag)
/-! ### a def by the head's facts -/
theorem funD {K : Frag} {x qual : Str} {st : Stmt} {f : Addr} {fd : FuncData} (F : FunD K x qual (defArgs st) (defBody st) (defScope st) [] [] f fd) : Fun K x qual st f fd := by
  obtain ⟨oc, od, dV, kV, doc, pm, an, cdv, ct, osl, rfl, lk, hcd, hd, _⟩ := F.ex
  rcases hd with ⟨_, rfl⟩ | ⟨h, _⟩
  · exact ⟨⟨oc, od, kV, doc, pm, an, cdv, ct, osl, rfl, lk, hcd⟩, F.kp⟩
  · exact absurd rfl h
def dDef (x : Str) (st : Stmt) : He.DefD := ⟨(x, none), x, x, defArgs st, defBody st, defScope st, [], []⟩
def dMeth (c m q : Str) (st : Stmt) : He.DefD := ⟨(c, some m), m, q, defArgs st, defBody st, defScope st, [], []⟩
/-! ### an error's class by the head's facts -/
def eqT (a b : Option Value) : Bool := decide (a = b)
def eiB (K : Frag) (C : Addr) (b : BK) : Bool := PySem.W.excInitIn K C b.bm b.nw && (decide ((PySem.W.clsIn K C).map (·.mro) = some (.ref C :: b.bm)) && (PySem.W.hasDictIn K C && (eqT (PySem.W.typeIn K (.ref C)) (some (.type "type")) &&
  (He.eqO (PySem.W.findIn K (.ref C) "__setattr__") (some (some (.builtin "object.__setattr__"))) && (He.eqO (PySem.W.findIn K (.ref C) "__getattribute__") (some (some (.builtin "BaseException.__getattribute__"))) &&
  (He.eqO (PySem.W.findIn K (.ref C) "__getattr__") (some none) && (He.eqO (PySem.W.findIn K (.ref C) "__class__") (some (some (.builtin "object.__class__"))) && (PySem.W.keepIn K (.ref C) &&
  (He.eqO (PySem.W.specialIn K (.builtin "object.__class__") "__get__") (some (some (.builtin "getset_descriptor.__get__"))) && decide (PySem.W.takesIn K (.builtin "object.__class__") = some true))))))))))
theorem eiB_ok {K : Frag} {C : Addr} {b : BK} (h : eiB K C b = true) : EK K C b := by
  obtain ⟨h1, h⟩ := He.ba h
  obtain ⟨h2, h⟩ := He.ba h
  obtain ⟨h3, h⟩ := He.ba h
  obtain ⟨h4, h⟩ := He.ba h
  obtain ⟨h5, h⟩ := He.ba h
  obtain ⟨h6, h⟩ := He.ba h
  obtain ⟨h7, h⟩ := He.ba h
  obtain ⟨h8, h⟩ := He.ba h
  obtain ⟨h9, h⟩ := He.ba h
  obtain ⟨h10, h11⟩ := He.ba h
  exact ⟨h1, of_decide_eq_true h2, h3, of_decide_eq_true h4, He.eqO_ok h5, He.eqO_ok h6, He.eqO_ok h7, He.eqO_ok h8, h9, He.eqO_ok h10, of_decide_eq_true h11⟩
abbrev ClR : Type := Str × BK × List Str
def clB (K : Frag) (r : ClR) : Bool := eiB K (He.ga K r.1) r.2.1 && (match r.2.2 with
  | [] => PySem.W.excIn K (He.ga K r.1) r.2.1.bm r.2.1.nw
  | fs => He.eqO (PySem.W.findIn K (.ref (He.ga K r.1)) "__init__") (some (some (.ref (He.ma K (He.ga K r.1) "__init__")))) && (eqT (PySem.W.typeIn K (.ref (He.ma K (He.ga K r.1) "__init__"))) (some (.type "function")) &&
    fs.all fun f => He.eqO (PySem.W.findIn K (.ref (He.ga K r.1)) f) (some none)))
structure ClI (K : Frag) (r : ClR) : Prop where
  ei : EK K (He.ga K r.1) r.2.1
  iC : PySem.W.findIn K (.ref (He.ga K r.1)) "__init__" = some (some (.ref (He.ma K (He.ga K r.1) "__init__")))
  tI : PySem.W.typeIn K (.ref (He.ma K (He.ga K r.1) "__init__")) = some (.type "function")
  no : ∀ f ∈ r.2.2, PySem.W.findIn K (.ref (He.ga K r.1)) f = some none
theorem clB_one {K : Frag} {n : Str} {b : BK} {f : Str} {fs : List Str} (h : clB K (n, b, f :: fs) = true) : ClI K (n, b, f :: fs) := by
  obtain ⟨h1, h⟩ := He.ba h
  obtain ⟨h2, h⟩ := He.ba h
  obtain ⟨h3, h4⟩ := He.ba h
  exact ⟨eiB_ok h1, He.eqO_ok h2, of_decide_eq_true h3, fun g hg => He.eqO_ok (List.all_eq_true.mp h4 g hg)⟩
/-- a law's end: the head's facts in hand -/
theorem walk_ofGE {l : PySem.W.OpenLaw} {n k : Nat} {q : Program} {loose : List Str} {XP : (Str → Option Value) → Heap → Prop} {YP : World → Heap → Prop} {d : DefRec} {CX : CXT} {x : Str}
    (hn : l.most = some n) (hn2 : n ≤ sizeLine) (hdf : d.params.defaults = []) (hr : Room k callerA)
    (F : ∀ (w : World) (mg : Str → Option Value) (fa : Addr) (h : Heap), YP w h → h.Ns mainGlobals mg → mg d.name = some (.ref fa) →
      ∃ (K : Frag) (fd : FuncData) (sp : Sp), K.In h ∧ (∀ (s : Shared) (u : Value), BindsTo s fd ⟨[u], []⟩ [(x, u)]) ∧
        (∀ (H : Hp) (a : Addr) (ns : List Int), ns.length ≤ n → (∀ z ∈ ns, Builtin.Int.intBits z ≤ 1048576) → Only H → SqL K H a (ns.map V.int) → sp [.ref a] H (fun v _ => v = .bl true) fun _ _ _ => False) ∧
        ∀ base : Heap, K.In base → base.Ns mainGlobals mg → FnG l.prog w K mg base CX k fa fd [x] sp)
    (hCX : ∀ (H : Hp) (s : Shared) (e : Value) (s' : Shared), CX [] H s (fun _ _ _ => False) e s' → False) :
    PySem.W.WalkO q loose XP YP l.row.toRowW d [] (fun f vs => PySem.call f vs) := by
  refine Att.attach_callB hn hdf fun w s0 s1 mg mb fa o pm cd doc a vs ns G Y ho hd hcd hmg hobj hints hlen hbits hg => ?_
  obtain ⟨K, fd, sp, KX, hb, hsp, hF⟩ := F w mg fa _ Y G.T.g hmg
  exact law_callG KX G.T.g G.T.b G.T.builtins G.T.nolimit hg hobj hints (Nat.le_trans hlen hn2) hr hF hb (fun H hO hS => hsp H a ns hlen hbits hO hS) (fun H e s' => hCX H s1 e s')
end Fh
namespace FhY
open PySem PySem.Spec PyProof.Rows L2 Fh
open PySem.W (Frag)
theorem funM {fa : List He.Fa} {fn : List He.DefD} {K : Frag} (c : He.SaysD fa fn K) (i : Nat) {cn m q : Str} {st : Stmt} (h : fn[i]? = some (dMeth cn m q st)) : ∃ fd, Fun K m q st (He.ma K (He.ga K cn) m) fd := by
  obtain ⟨fd, F⟩ := c.def_ i h
  exact ⟨fd, funD F⟩
theorem funT {fa : List He.Fa} {fn : List He.DefD} {K : Frag} (c : He.SaysD fa fn K) (i : Nat) {x : Str} {st : Stmt} (h : fn[i]? = some (dDef x st)) : ∃ fd, Fun K x x st (He.ga K x) fd := by
  obtain ⟨fd, F⟩ := c.def_ i h
  exact ⟨fd, funD F⟩
/-- a getter, a classmethod's def -/
def gDef (c m q : Str) (T : String) (st : Stmt) : GDef := ⟨fun K => getA K T (He.ma K (He.ga K c) m), m, q, defArgs st, defBody st, defScope st⟩
theorem funG {fa : List He.Fa} {fn : List He.DefD} {gs : List GDef} {ex : Frag → Bool} {K : Frag} (c : obsK fa fn gs ex K = valY fn gs) (i : Nat) {cn m q : Str} {T : String} {st : Stmt} (h : gs[i]? = some (gDef cn m q T st)) :
    ∃ fd, Fun K m q st (getA K T (He.ma K (He.ga K cn) m)) fd := by
  obtain ⟨fd, F⟩ := says_get c i h
  exact ⟨fd, funD F⟩
end FhY
set_option Elab.async false
set_option linter.all false
set_option maxRecDepth 100000
set_option maxHeartbeats 4000000
/-! FtG: the error's row of facts by the head's Bools -/
namespace Fs
open PySem PySem.Spec PyProof.Rows L2 Fh
open PySem.W (Frag)
theorem ei_obj {K : Frag} {C : Addr} {bmB : List Value} {nw : String} (T : EI K C bmB nw) : ∃ nm q N bs sn sub ab col dd k0 k1 k2 k3 k5, K.lookup C = some (excClassObj nm q C N bs bmB true sn sub ab col dd k0 k1 k2 k3 k5 nw) := by
  have q := T.q
  have m := T.mro
  have hd := T.hd
  unfold PySem.W.hasDictIn at hd
  unfold PySem.W.clsIn at m hd
  unfold PySem.W.excInitIn at q
  split at q
  · rename_i dd cd sl ho
    rw [ho] at m hd
    split at q
    · rename_i C' bm k0 k1 k2 k3 n k5 hm hs
      simp only [Bool.and_eq_true, beq_iff_eq, Bool.not_eq_true'] at q
      obtain ⟨⟨⟨rfl, rfl⟩, hdel⟩, ht⟩ := q
      obtain ⟨nm, bs, mro, ns, qn, hdc, sn, sub, ab, col, del⟩ := cd
      dsimp only at hm hdel
      subst hm hdel
      have m2 : some (Value.ref C' :: bm) = some (Value.ref C' :: bmB) := m
      injection m2 with m3
      injection m3 with _ m4
      subst m4
      have hd2 : hdc = true := hd
      subst hd2
      have hsl : sl = #[k0, k1, k2, k3, some (.builtin n), k5] := by
        obtain ⟨l⟩ := sl
        simp only at hs
        rw [hs]
      subst hsl
      exact ⟨nm, qn, ns, bs, sn, sub, ab, col, dd, k0, k1, k2, k3, k5, ho⟩
    · cases q
  · cases q
theorem errC_of {K : Frag} {C : Addr} (T : EK K C .ve) : ErrC K C := by
  obtain ⟨cd, h1, _⟩ := T.cls
  exact ⟨by rw [h1]; rfl, T.cl, T.hn, T.ht, by rw [T.mroI]; rfl⟩
end Fs
set_option Elab.async false
set_option linter.all false
set_option maxRecDepth 100000
set_option maxHeartbeats 4000000
/-! FxF: the error InvalidStaff(value) over the layer: made and raised, read and asked for its class where it is caught -/
namespace PySem
end PySem
namespace L2
open PySem PySem.Spec PyProof.Rows
end L2
set_option Elab.async false
set_option linter.all false
set_option maxRecDepth 100000
set_option maxHeartbeats 4000000
/-! FtH: the error TooFew(kind), over OverflowError, over the layer -/
namespace PySem
end PySem
namespace L2
open PySem PySem.Spec PyProof.Rows
end L2
set_option Elab.async false
set_option linter.all false
set_option maxRecDepth 100000
set_option maxHeartbeats 4000000
/-! FxA: dicts whose keys are None, ints, texts and tuples of these, mixed: a key sought, an item stored -/
namespace Fs
open PySem PySem.Spec PyProof.Rows L2 Fh
open PySem.W (Frag)
inductive MK where
  | non | key (k : Key) | tup (ks : List Key)
  deriving DecidableEq
section
variable (P : Program) (w : World)
def mHash : MK → Int
  | .non => reduceHash 0xFCA86420
  | .key k => keyH w k
  | .tup ks => tupleKeyHash (mixKind P w) ks
def mEnt (x : MK × Value × Value) : DictEntry := ⟨mHash P w x.1, x.2.1, x.2.2⟩
end
end Fs
set_option Elab.async false
set_option linter.all false
set_option maxRecDepth 100000
set_option maxHeartbeats 4000000
/-! FxB: a key sought in a mixed dict -/
namespace Fs
open PySem PySem.Spec PyProof.Rows L2 Fh
open PySem.W (Frag)
def DictM (P : Program) (w : World) (h : Heap) (d : Addr) (xs : List (MK × Value × Value)) : Prop :=
  ∃ o es ep, h.get? d = some o ∧ o.ExactDict ∧ o.data = .dict es ep ∧ es.toList = xs.map (mEnt P w) ∧ (xs.map (·.1)).Nodup
/-- what is left to look at, and what has been found of the key k -/
structure Left (xs : List (MK × Value × Value)) (k : MK) (rest : List Nat) (hit : Option Nat) : Prop where
  all : ∀ j p, xs[j]? = some (k, p) → j ∈ rest ∨ hit = some j
  got : ∀ j, hit = some j → j ∉ rest ∧ ∃ p, xs[j]? = some (k, p)
  nd : rest.Nodup
  there : ∀ j ∈ rest, ∃ y, xs[j]? = some y
section
variable {xs : List (MK × Value × Value)} {k : MK} {rest : List Nat} {hit : Option Nat} {x : Nat}
theorem Left.take (L : Left xs k (x :: rest) none) {p : Value × Value} (h : xs[x]? = some (k, p)) : Left xs k rest (some x) := by
  obtain ⟨a, b⟩ := List.nodup_cons.mp L.nd
  refine ⟨fun j q e => ?_, fun j e => ?_, b, fun j m => L.there j (List.mem_cons_of_mem _ m)⟩
  · rcases L.all j q e with z | z
    · rcases List.mem_cons.mp z with y | y
      · exact .inr (congrArg some y.symm)
      · exact .inl y
    · cases z
  · cases e
    exact ⟨a, p, h⟩
end
end Fs
set_option Elab.async false
set_option linter.all false
set_option maxRecDepth 100000
set_option maxHeartbeats 4000000
/-! FxC: d[k] = v of a mixed dict; as an own object of the abstract heap -/
namespace Fs
open PySem PySem.Spec PyProof.Rows L2 Fh
open PySem.W (Frag)
section
variable {P : Program} {w : World} {A : Around} {E : Value → Shared → Prop} {s : Shared}
theorem DictM.typeIs {d : Addr} {xs : List (MK × Value × Value)} (hm : DictM P w s.heap d xs) : s.TypeIs (.ref d) "dict" :=
  let ⟨o, _, _, ho, hc, _⟩ := hm; ⟨o, ho, hc.1⟩
end
end Fs
set_option Elab.async false
set_option linter.all false
set_option maxRecDepth 100000
set_option maxHeartbeats 4000000
/-! FxD: a mixed dict as an own object: an item stored, its keys walked, its repr, its class -/
namespace Fs
open PySem PySem.Spec PyProof.Rows L2 Fh
open PySem.W (Frag)
abbrev ME : Type := MK × V × V
def OD (P : Program) (w : World) (a : Addr) (xs : List ME) : HO := .ext fun h => xs.length ≤ sizeLine ∧ (a == sysModules) = false ∧ ∃ ys : List (MK × Value × Value), Paired (fun x y => x.1 = y.1 ∧ RelV x.2.1 y.2.1 ∧ RelV x.2.2 y.2.2) xs ys ∧ DictM P w h a ys
/-- the key's value is the key -/
def KOk (H : Hp) (x : ME) : Prop := match x.1 with
  | .non => x.2.1 = .non
  | .key k => x.2.1 = kV k
  | .tup ks => ∃ q, x.2.1 = .ref q ∧ H q = some (.tup (ks.map kV))
abbrev RelM (x : ME) (y : MK × Value × Value) : Prop := x.1 = y.1 ∧ RelV x.2.1 y.2.1 ∧ RelV x.2.2 y.2.2
end Fs
set_option Elab.async false
set_option linter.all false
set_option maxRecDepth 100000
set_option maxHeartbeats 4000000
/-! FxE: a mixed dict: its keys walked, its class, its repr -/
namespace Fs
open PySem PySem.Spec PyProof.Rows L2 Fh
open PySem.W (Frag)
/-! ### isinstance -/
/-! ### repr -/
def mP : MK → PyData
  | .non => .none
  | .key k => kP k
  | .tup ks => .tuple (ks.map kP)
/-- the entries are data -/
inductive MDs (N : Addr → Prop) (H : Hp) : List ME → List (PyData × PyData) → Prop where
  | nil : MDs N H [] []
  | cons {x : ME} {d : PyData} {xs : List ME} {ds : List (PyData × PyData)} : KOk H x → DA N H x.2.2 d → MDs N H xs ds → MDs N H (x :: xs) ((mP x.1, d) :: ds)
section
variable {P : Program} {w : World} {N : Addr → Prop} {H H' : Hp} {h : Heap}
theorem KOk.same (s : Same H H') {x : ME} (k : KOk H x) : KOk H' x := by
  obtain ⟨m, u, v⟩ := x
  cases m with
  | non => exact k
  | key k => assumption
  | tup ks =>
    obtain ⟨q, e, hq⟩ := (show ∃ q, u = .ref q ∧ H q = some (.tup (ks.map kV)) from k)
    exact ⟨q, e, s _ _ hq⟩
theorem MDs.same (s : Same H H') {xs : List ME} {ds : List (PyData × PyData)} (m : MDs N H xs ds) : MDs N H' xs ds := by
  induction m with
  | nil => exact .nil
  | cons k d _ ih => exact .cons (k.same s) (DA.same s d) ih
theorem tup_reads (P : Program) (w : World) {ks : List Key} {vs : List Value} (r : Vals (ks.map kV) vs) : ReadsAll h vs (ks.map kP) [] := by
  induction ks generalizing vs with
  | nil => cases r; exact .nil
  | cons k ks ih =>
    cases r with
    | cons r1 r2 =>
      have z := key_reads (h := h) (kV_is (P := P) (w := w) r1)
      exact .cons z (ih r2)
theorem mk_reads (ok : HOk P w H h) {x : ME} {u : Value} (hk : KOk H x) (r : RelV x.2.1 u) : Reads h u (mP x.1) [] := by
  obtain ⟨k, v, y⟩ := x
  cases k with
  | non =>
    have e : v = .non := hk
    rw [e] at r
    rw [show u = Value.none from r]
    exact .none
  | key k =>
    have e : v = kV k := hk
    rw [e] at r
    exact key_reads (kV_is (P := P) (w := w) r)
  | tup ks =>
    obtain ⟨q, e, hq⟩ := (show ∃ q, v = .ref q ∧ H q = some (.tup (ks.map kV)) from hk)
    rw [e] at r
    rw [show u = Value.ref q from r]
    obtain ⟨_, its, rv, o, ho, hc, m, hd⟩ := (show ObjOk P w H h q (.tup (ks.map kV)) from ok q _ hq)
    exact .tuple ho hc hd (by simpa using tup_reads P w rv)
theorem MDs.reads (ok : HOk P w H h) {xs : List ME} {ds : List (PyData × PyData)} (m : MDs N H xs ds) : ∀ {ys : List (MK × Value × Value)}, Paired RelM xs ys →
    ∃ bs, ReadsAll h ((ys.map (mEnt P w)).map (·.key)) (ds.map (·.1)) [] ∧ ReadsAll h ((ys.map (mEnt P w)).map (·.val)) (ds.map (·.2)) bs ∧ sysModules ∉ bs := by
  induction m with
  | nil => intro ys r; cases r; exact ⟨[], .nil, .nil, List.not_mem_nil⟩
  | @cons x d xs ds k da _ ih =>
    intro ys r
    cases r with
    | @cons _ y _ ys r1 r2 =>
      obtain ⟨bs, a1, b1, n1⟩ := ih r2
      obtain ⟨cs, c1, c2⟩ := DA.reads ok da r1.2.2
      exact ⟨cs ++ bs, .cons (mk_reads ok k r1.2.1) a1, .cons c1 b1, fun z => (List.mem_append.mp z).elim c2 n1⟩
end
def rReprO (P : Program) (w : World) : List V → Hp → VK → Prop := fun xs H Q => rRepr xs H Q ∨ ∃ (N : Addr → Prop) (a : Addr) (ms : List ME) (ds : List (PyData × PyData)), xs = [.ref a] ∧ H a = some (OD P w a ms) ∧ MDs N H ms ds ∧
  (PyData.dict ds).showable = true ∧ (PyData.dict ds).depth ≤ 60 ∧ (PyData.dict ds).shown.length ≤ sizeLine ∧ Q (.str (PyData.dict ds).shown) H
end Fs
set_option Elab.async false
set_option linter.all false
set_option maxRecDepth 100000
set_option maxHeartbeats 4000000
/-! FvA: a method whose last row is super().__init__(e, .., k = v, ..) -/
namespace SuX
open PySem PySem.Spec PyProof.Rows L2 Fh NdefX
open PySem.W (Frag)
/-- what of the text such a method must have: it stands at f, closes over the cell at cc, which holds its class C; f2 is the __init__ above C -/
structure Sup (P : Program) (K : Frag) (F : NF) (f C f2 cc : Addr) (ar : Arg) : Prop where
  fn : ∃ (oc : Value) (od : Option Addr) (fd : FuncData) (osl : Array (Option Value)), K.lookup f = some ⟨oc, od, .func fd, osl⟩ ∧ (fd.params.posonlyargs ++ fd.params.args).head? = some ar
  code : ∃ (ccl : Value) (cdd : Option Addr) (vs : Array Value) (ccs : Array (Option Value)) (file : Str) (tf : Tok), K.lookup F.c = some ⟨ccl, cdd, .fields vs, ccs⟩ ∧ vs[2]? = some (.str file tf) ∧ ((P.main.file : Str) == file) = true
  cl : F.cl = [(("__class__" : Str), cc)]
  cell : ∃ (cl : Value) (cld : Option Addr) (csl : Array (Option Value)), K.lookup cc = some ⟨cl, cld, .cell (some (.ref C)), csl⟩
  cls : ∃ cd, PySem.W.clsIn K C = some cd
  sub : PySem.W.mroIn K C (.ref C) = some true
  stat : PySem.W.nsIn K cStatics "thirdparty.any" = some none
  up : PySem.W.ks_superIn K C C "__init__" = some (some (.ref f2))
  ty : PySem.W.typeIn K (.ref f2) = some (.type "function")
  fi : PySem.W.fnIn K f2 = true
  sups : F.scope.names.lookup ("super" : Str) = some .globalImplicit
  clss : F.scope.names.lookup ("__class__" : Str) = some .free
  slf : F.scope.names.lookup ar.arg = some .local
  top : (P.main.scope.names.lookup ("super" : Str)).isSome = false
end SuX
set_option Elab.async false
set_option linter.all false
set_option maxRecDepth 100000
set_option maxHeartbeats 4000000
/-! FvB: such methods as promises: plain ones, ones of *names and a keyword; defaults; the class made by positions and a keyword -/
namespace SuX
open PySem PySem.Spec PyProof.Rows L2 Fh Fs NdefX
open PySem.W (Frag)
/-- a def as it stands behind the top that closes over cells: dvs its defaults, kws its keyword-only defaults -/
structure FunC (K : Frag) (F : NF) (dvs : List V) (kws : List (Str × V)) (f : Addr) (fd : FuncData) : Prop where
  ex : ∃ (oc : Value) (od : Option Addr) (dV kV doc pm : Value) (an : Option Addr) (ct : Value) (osl : Array (Option Value)),
    fd = PySem.W.fnX F.name F.qual F.params F.body F.scope F.cl dV kV doc pm an (.ref F.c) ct ∧ K.lookup f = some ⟨oc, od, .func fd, osl⟩ ∧ PySem.W.codeIn K (.ref F.c) F.qual = true ∧ DflV K dV dvs ∧ KwdV K kV kws
section
variable {CX CX2 : CXT} {P : Program} {w : World} {K : Frag} {mg : Str → Option Value} {base : Heap} {N : List Str} {F : NF} {f C f2 cc : Addr} {ar : Arg} {A : Around} {outer : List Env} {s0 : Shared} {H0 : Hp} {E E2 : XK} {k n : Nat} {fd fd2 : FuncData} {ps ps2 ks : List Str} {sp sp2 : Sp}
  {g : List Value → List Value → List Value} {gV : List V → List V → List V} {t tk : TA} {p0 p1 p2 p3 p4 : Pos} {e : Expr} {es : List Expr} {kws : List Keyword} {body : List Stmt} {dvs : List V} {kwd : List (Str × V)}
theorem FunC.kbinds (FF : FunC K F dvs kwd f fd) (n : Nat) (ks : List Str) (ms : List (Str × V)) (g : {α : Type} → List α → List α → List α → List α → List α) (hd : dvs ≠ []) (hk : kwd ≠ []) (hms : ∀ q ∈ ms, q ∈ kwd)
    (hrel : ∀ {vs ds mz zs : List V} {us its mv ws : List Value}, Vals vs us → Vals ds its → Vals mz mv → Vals zs ws → Vals (g vs ds mz zs) (g us its mv ws))
    (h : ∀ (T D : Addr) (doc pm : Value) (an : Option Addr) (ct : Value) (us its mv ws : List Value), us.length = n → its.length = dvs.length → mv.length = ms.length → ws.length = ks.length →
      ∃ k, bindArgs (PySem.W.fnX F.name F.qual F.params F.body F.scope F.cl (.ref T) (.ref D) doc pm an (.ref F.c) ct) ⟨us, ks.zip ws⟩ = seqItems? (.ref T) >>= k ∧ KwChain D ((ms.map (·.1)).zip mv) (k (some its.toArray)) (ps.zip (g us its mv ws))) :
    ∃ its mv : List Value, KBn K fd ps n ks (fun us ws => g us its mv ws) (fun vs zs => g vs dvs (ms.map (·.2)) zs) := by
  obtain ⟨oc, od, dV, kV, doc, pm, an, ct, osl, rfl, lk, hcd, hD, hK⟩ := FF.ex
  rcases hD with ⟨e, _⟩ | ⟨_, T, o, its, m, rfl, lT, oT, rT⟩
  · exact absurd e hd
  · rcases hK with e | ⟨D, rfl, hq⟩
    · exact absurd e hk
    · obtain ⟨mv, hl, rk, hks⟩ := kwd_vals (ms := ms) fun q hm => hq q (hms q hm)
      refine ⟨its, mv, ⟨fun s us ws X l1 l2 => ?_, fun r1 r2 => hrel r1 rT rk r2⟩⟩
      obtain ⟨k, e1, e2⟩ := h T D doc pm an ct us its mv ws l1 rT.length.symm hl l2
      refine BindsTo.of_looks fun M => ?_
      rw [e1]
      exact looks_items X lT oT (KwChain.looks X hks e2)
end
/-! ### C(e, .., k = v, ..), C's __init__ of *names -/
end SuX
set_option Elab.async false
set_option linter.all false
set_option maxRecDepth 100000
set_option maxHeartbeats 4000000
/-! FvC: own == and != between instances of several classes, a class below the left one's first -/
namespace PySem
end PySem
namespace Fs
open PySem PySem.Spec PyProof.Rows L2
open PySem.W (Frag)
end Fs
set_option Elab.async false
set_option linter.all false
set_option maxRecDepth 100000
set_option maxHeartbeats 4000000
/-! FvD: a lambda without parameters handed to a def that tells the field of InvalidTask; a law's end with tables -/
set_option Elab.async false
set_option linter.all false
set_option maxRecDepth 100000
set_option maxHeartbeats 4000000
/-! FvE: a head by facts with getters, methods that close over their class, and tables of code objects -/
namespace FhV
open PySem PySem.Spec PyProof.Rows L2 Fh Fs NdefX SuX FhY
open PySem.W (Frag)
/-- an __init__ that closes over its class -/
structure CDef where
  cls : Str
  qual : Str
  params : Arguments
  body : List Stmt
  scope : Scope
  dfl : List He.Dv
  kwd : List (Str × He.Dv)
  ar : Arg
abbrev CW : Type := Option (Str × Str × Arguments × FuncBody × Scope × Addr × Addr)
def cW (K : Frag) (a : Addr) : CW := match K.lookup a with
  | some ⟨_, _, .func fd, _⟩ => some (fd.name, fd.qualname, fd.params, fd.body, fd.scope, fd.globals, fd.builtins)
  | _ => none
def CDef.at_ (K : Frag) (d : CDef) : Addr := He.ma K (He.ga K d.cls) "__init__"
def CDef.val (d : CDef) : CW := some ("__init__", d.qual, d.params, .stmts d.body, d.scope, mainGlobals, builtinsNs)
def CDef.dvs (K : Frag) (d : CDef) : List V := d.dfl.map (He.Dv.v K)
def CDef.kws (K : Frag) (d : CDef) : List (Str × V) := d.kwd.map fun q => (q.1, q.2.v K)
def cellOf : List (Str × Addr) → Addr
  | [(_, cc)] => cc
  | _ => 0
def codeA : Value → Addr
  | .ref c => c
  | _ => 0
def fileB (K : Frag) (c : Addr) (fl : Str) : Bool := match K.lookup c with
  | some ⟨_, _, .fields vs, _⟩ => (match (vs[2]? : Option Value) with
    | some (Value.str f _) => fl == f
    | _ => false)
  | _ => false
def cellB (K : Frag) (cc C : Addr) : Bool := match K.lookup cc with
  | some ⟨_, _, .cell (some v), _⟩ => decide (v = .ref C)
  | _ => false
/-- f2: the __init__ above -/
def supB (K : Frag) (C f2 : Addr) : Bool := (PySem.W.clsIn K C).isSome && (decide (PySem.W.mroIn K C (.ref C) = some true) && (He.eqO (PySem.W.nsIn K cStatics "thirdparty.any") (some none) && (He.eqO (PySem.W.ks_superIn K C C "__init__") (some (some (.ref f2))) && (Fh.eqT (PySem.W.typeIn K (.ref f2)) (some (.type "function")) && PySem.W.fnIn K f2))))
def CDef.ok (fl : Str) (up : Str) (K : Frag) (d : CDef) : Bool := (match K.lookup (d.at_ K) with
  | some ⟨_, _, .func fd, _⟩ => PySem.W.codeIn K fd.code d.qual && (He.dflB K fd.defaults (d.dvs K) && (He.kwdB K fd.kwdefaults (d.kws K) && (decide (fd.closure = [(("__class__" : Str), cellOf fd.closure)]) && (fileB K (codeA fd.code) fl && cellB K (cellOf fd.closure) (He.ga K d.cls)))))
  | _ => false) && supB K (He.ga K d.cls) (He.ma K (He.ga K up) "__init__")
theorem CDef.get {P : Program} {K : Frag} {d : CDef} {fl up : Str} (e : cW K (d.at_ K) = d.val) (c : d.ok fl up K = true) (hfl : P.main.file = fl) (har : (d.params.posonlyargs ++ d.params.args).head? = some d.ar)
    (h1 : d.scope.names.lookup ("super" : Str) = some .globalImplicit) (h2 : d.scope.names.lookup ("__class__" : Str) = some .free) (h3 : d.scope.names.lookup d.ar.arg = some .local) (h4 : (P.main.scope.names.lookup ("super" : Str)).isSome = false) :
    ∃ (fd : FuncData) (cd cc : Addr), FunC K ⟨"__init__", d.qual, d.params, d.body, d.scope, [(("__class__" : Str), cc)], cd⟩ (d.dvs K) (d.kws K) (d.at_ K) fd ∧ Sup P K ⟨"__init__", d.qual, d.params, d.body, d.scope, [(("__class__" : Str), cc)], cd⟩ (d.at_ K) (He.ga K d.cls) (He.ma K (He.ga K up) "__init__") cc d.ar := by
  obtain ⟨ca, cb⟩ := He.ba c
  unfold supB at cb
  obtain ⟨u1, cb⟩ := He.ba cb
  obtain ⟨u2, cb⟩ := He.ba cb
  obtain ⟨u3, cb⟩ := He.ba cb
  obtain ⟨u4, cb⟩ := He.ba cb
  obtain ⟨u5, u6⟩ := He.ba cb
  unfold cW at e
  cases q : K.lookup (d.at_ K) with
  | none =>
    rw [q] at ca
    cases ca
  | some o =>
    obtain ⟨oc, od, dt, osl⟩ := o
    rw [q] at ca e
    cases dt with
    | func fd =>
      obtain ⟨n1, n2, n3, n4, n5, n6, n7, n8, n9, n10, n11, n12, n13, n14, n15⟩ := fd
      have e2 : (some (n1, n2, n3, n4, n5, n6, n15) : CW) = (some ((Str.ofString "__init__"), d.qual, d.params, FuncBody.stmts d.body, d.scope, mainGlobals, builtinsNs) : CW) := e
      simp only [Option.some.injEq, Prod.mk.injEq] at e2
      obtain ⟨x1, x2, x3, x4, x5, x6, x8⟩ := e2
      subst x1 x2 x3 x4 x5 x6 x8
      obtain ⟨k1, c3⟩ := He.ba (show (PySem.W.codeIn K n13 d.qual && (He.dflB K n8 (d.dvs K) && (He.kwdB K n9 (d.kws K) && (decide (n7 = [(("__class__" : Str), cellOf n7)]) && (fileB K (codeA n13) fl && cellB K (cellOf n7) (He.ga K d.cls)))))) = true from ca)
      obtain ⟨k2, c3⟩ := He.ba c3
      obtain ⟨k3, c3⟩ := He.ba c3
      obtain ⟨k4, c3⟩ := He.ba c3
      obtain ⟨k5, k6⟩ := He.ba c3
      obtain ⟨cd, rfl⟩ := He.codeIn_ref k1
      have k4 := of_decide_eq_true k4
      generalize cellOf n7 = cc at k4 k6
      subst k4
      refine ⟨_, cd, cc, ⟨oc, od, n8, n9, n10, n11, n12, n14, osl, rfl, q, k1, He.dflB_ok k2, He.kwdB_ok k3⟩, ⟨⟨oc, od, _, osl, q, har⟩, ?_, rfl, ?_, ?_, of_decide_eq_true u2, He.eqO_ok u3, He.eqO_ok u4, of_decide_eq_true u5, u6, h1, h2, h3, h4⟩⟩
      · unfold fileB at k5
        show ∃ (ccl : Value) (cdd : Option Addr) (vs : Array Value) (ccs : Array (Option Value)) (file : Str) (tf : Tok), K.lookup cd = some ⟨ccl, cdd, .fields vs, ccs⟩ ∧ vs[2]? = some (.str file tf) ∧ ((P.main.file : Str) == file) = true
        cases q2 : K.lookup (codeA (.ref cd)) with
        | none => rw [q2] at k5; cases k5
        | some o =>
          obtain ⟨o1, o2, o3, o4⟩ := o
          rw [q2] at k5
          cases o3 with
          | fields vs =>
            have k5 : (match (vs[2]? : Option Value) with | some (Value.str f _) => fl == f | _ => false) = true := k5
            split at k5
            · rename_i f t e3
              exact ⟨_, _, vs, _, f, t, q2, e3, by rw [hfl]; exact k5⟩
            · cases k5
          | _ => cases k5
      · unfold cellB at k6
        show ∃ (cl : Value) (cld : Option Addr) (csl : Array (Option Value)), K.lookup cc = some ⟨cl, cld, .cell (some (.ref (He.ga K d.cls))), csl⟩
        cases q2 : K.lookup cc with
        | none => rw [q2] at k6; cases k6
        | some o =>
          obtain ⟨o1, o2, o3, o4⟩ := o
          rw [q2] at k6
          cases o3 with
          | cell v =>
            cases v with
            | none => cases k6
            | some v =>
              have k6 := of_decide_eq_true (show decide (v = Value.ref (He.ga K d.cls)) = true from k6)
              subst k6
              exact ⟨_, _, _, rfl⟩
          | _ => cases k6
      · cases q2 : PySem.W.clsIn K (He.ga K d.cls) with
        | none => rw [q2] at u1; cases u1
        | some cd => exact ⟨cd, rfl⟩
    | _ => cases ca
/-! ### the Hook -/
end FhV
set_option Elab.async false
set_option linter.all false
set_option maxRecDepth 100000
set_option maxHeartbeats 4000000
/-! FxG: a law's end with tables of code objects and a promise under no repr -/
set_option Elab.async false
set_option linter.all false
set_option maxRecDepth 100000
set_option maxHeartbeats 4000000
/-! FxH: what told tells of InvalidStaff: its value's repr, and whether it is a ValueError -/
namespace Fs
open PySem PySem.Spec PyProof.Rows L2 Fh LamX
open PySem.W (Frag)
/-- repr(v) is x -/
def RepIs (P : Program) (w : World) (H : Hp) (v : V) (x : Str) : Prop :=
  (∃ (N : Addr → Prop) (d : PyData), DA N H v d ∧ d.showable = true ∧ d.depth ≤ 60 ∧ d.shown.length ≤ sizeLine ∧ x = d.shown) ∨
  ∃ (N : Addr → Prop) (a : Addr) (ms : List ME) (ds : List (PyData × PyData)), v = .ref a ∧ H a = some (OD P w a ms) ∧ MDs N H ms ds ∧ (PyData.dict ds).showable = true ∧ (PyData.dict ds).depth ≤ 60 ∧ (PyData.dict ds).shown.length ≤ sizeLine ∧ x = (PyData.dict ds).shown
theorem RepIs.go {P : Program} {w : World} {H : Hp} {v : V} {x : Str} {Q : VK} (h : RepIs P w H v x) (q : Q (.str x) H) : rReprO P w [v] H Q := by
  rcases h with ⟨N, d, h1, h2, h3, h4, rfl⟩ | ⟨N, a, ms, ds, rfl, h1, h2, h3, h4, h5, rfl⟩
  · exact .inl ⟨N, v, d, rfl, h1, h2, h3, h4, q⟩
  · exact .inr ⟨N, a, ms, ds, rfl, h1, h2, h3, h4, h5, q⟩
theorem RepIs.same {P : Program} {w : World} {H H' : Hp} {v : V} {x : Str} (s : Same H H') (h : RepIs P w H v x) : RepIs P w H' v x := by
  rcases h with ⟨N, d, h1, h⟩ | ⟨N, a, ms, ds, e, h1, h2, h⟩
  · exact .inl ⟨N, d, DA.same s h1, h⟩
  · exact .inr ⟨N, a, ms, ds, e, s _ _ h1, h2.same s, h⟩
end Fs
set_option Elab.async false
set_option linter.all false
set_option maxRecDepth 100000
set_option maxHeartbeats 4000000
/-! FyC: InvalidText where it is caught, and from the head's facts -/
namespace Fs
open PySem PySem.Spec PyProof.Rows L2 Fh LamX
open PySem.W (Frag)
theorem errN_of {K : Frag} {mg : Str → Option Value} {C : Addr} (gC : mg "InvalidText" = some (.ref C)) (T : EK K C .ve) {fI : Addr} (no : PySem.W.findIn K (.ref C) "index" = some none) (iC : PySem.W.findIn K (.ref C) "__init__" = some (some (.ref fI))) (tI : PySem.W.typeIn K (.ref fI) = some (.type "function"))
    (fn : ∃ (oc : Value) (od : Option Addr) (kV doc pm : Value) (an : Option Addr) (cdv ct : Value) (osl : Array (Option Value)) (p1 p2 q1 q2 q3 q4 : Pos),
      K.lookup fI = some ⟨oc, od, .func (PySem.W.fnOf "__init__" "InvalidText.__init__" (PySem.ErrN.iA p1 p2) (PySem.ErrN.iB q1 q2 q3 q4) PySem.ErrN.iS .none kV doc pm an cdv ct), osl⟩ ∧ PySem.W.codeIn K cdv "InvalidText.__init__" = true) : PySem.ErrN.ErrNxt K mg C fI := by
  obtain ⟨nm, q, N, bs, sn, sub, ab, col, dd, k0, k1, k2, k3, k5, ho⟩ := ei_obj T
  have sB : PySem.W.subIn K (.ref C) (.type "BaseException") = some true := by rw [T.sub]; rfl
  have sC : PySem.W.subIn K (.ref C) (.ref C) = some true := by rw [T.sub, List.contains_cons]; simp
  exact { gC := gC, cls := ⟨nm, q, N, bs, _, sn, sub, ab, col, dd, k0, k1, k2, k3, k5, ho, by decide +kernel⟩, sa := T.sa, ga := T.ga, gg := T.gg, noN := no, iC := iC, tC := tI, kC := T.kC, exC := sB, tyC := T.ty, hdC := T.hd, te := PySem.W.exm_ref sB T.hd T.ty sC, fn := fn }
end Fs
set_option Elab.async false
set_option linter.all false
set_option maxRecDepth 100000
set_option maxHeartbeats 4000000
/-! FzA: plans as data: texts and tuples, also of the written part; what stays where tuples stay; repr of them in a list -/
namespace Fs
open PySem PySem.Spec PyProof.Rows L2 Fh
open PySem.W (Frag)
mutual
/-- v is the plan d: a text, or a tuple of these -/
inductive Pl (K : Frag) (H : Hp) : V → PyData → Prop where
  | str (x : Str) : Pl K H (.str x) (.str x)
  | tup {a : Addr} {xs : List V} {ds : List PyData} : SqT K H a xs → Pls K H xs ds → Pl K H (.ref a) (.tuple ds)
inductive Pls (K : Frag) (H : Hp) : List V → List PyData → Prop where
  | nil : Pls K H [] []
  | cons {x : V} {d : PyData} {xs : List V} {ds : List PyData} : Pl K H x d → Pls K H xs ds → Pls K H (x :: xs) (d :: ds)
end
/-- what is a tuple stays it -/
def KeepT (H H' : Hp) : Prop := ∀ a xs, Rd H a (.tup xs) → Rd H' a (.tup xs)
theorem KeepT.refl (H : Hp) : KeepT H H := fun _ _ h => h
theorem KeepT.trans {H H1 H2 : Hp} (a : KeepT H H1) (b : KeepT H1 H2) : KeepT H H2 := fun x o h => b x o (a x o h)
theorem KeepT.of {H H' : Hp} (s : Same H H') : KeepT H H' := fun a xs h => h.elim (fun z => .inl (s _ _ z)) fun ⟨o, z⟩ => .inr ⟨o, s _ _ z⟩
theorem KeepT.upd {H : Hp} {p : Addr} {o : HO} (n : ∀ xs, ¬ Rd H p (.tup xs)) : KeepT H (L2.upd H p o) := fun a xs h => by
  have ne : a ≠ p := fun e => n xs (e ▸ h)
  rcases h with h | ⟨ob, h⟩
  · exact .inl (by rw [upd_ne ne]; exact h)
  · exact .inr ⟨ob, by rw [upd_ne ne]; exact h⟩
theorem no_tup {H : Hp} {p : Addr} {u : HO} (e : H p = some u) (h1 : ∀ xs, u ≠ .tup xs) (h2 : ∀ o xs, u ≠ .frz o (.tup xs)) : ∀ xs, ¬ Rd H p (.tup xs) := fun xs h => by
  rcases h with h | ⟨o, h⟩
  · rw [e] at h
    exact h1 xs (Option.some.inj h)
  · rw [e] at h
    exact h2 o xs (Option.some.inj h)
theorem KeepT.but {H H' : Hp} {p : Addr} (n : ∀ xs, ¬ Rd H p (.tup xs)) (b : But p H H') : KeepT H H' := fun a xs h => by
  have ne : a ≠ p := fun e => n xs (e ▸ h)
  rcases h with h | ⟨ob, h⟩
  · exact .inl (b _ _ ne h)
  · exact .inr ⟨ob, b _ _ ne h⟩
theorem KeepT.lst {H : Hp} {p : Addr} {xs : List V} {o : HO} (e : H p = some (.lst xs)) : KeepT H (L2.upd H p o) := KeepT.upd (no_tup e (fun _ z => nomatch z) fun _ _ z => nomatch z)
theorem KeepT.new {H : Hp} {p : Addr} {o : HO} (e : H p = none) : KeepT H (L2.upd H p o) := .of (Same.new e)
theorem KeepT.sqT {K : Frag} {H H' : Hp} (k : KeepT H H') {a : Addr} {xs : List V} (h : SqT K H a xs) : SqT K H' a xs := h.imp (k _ _) id
mutual
theorem Pl.keep {K : Frag} {H H' : Hp} (k : KeepT H H') : ∀ {v : V} {d : PyData}, Pl K H v d → Pl K H' v d
  | _, _, .str x => .str x
  | _, _, .tup h r => .tup (k.sqT h) (Pls.keep k r)
theorem Pls.keep {K : Frag} {H H' : Hp} (k : KeepT H H') : ∀ {v : List V} {d : List PyData}, Pls K H v d → Pls K H' v d
  | _, _, .nil => .nil
  | _, _, .cons h r => .cons (Pl.keep k h) (Pls.keep k r)
end
theorem Pl.same {K : Frag} {H H' : Hp} (s : Same H H') {v : V} {d : PyData} (h : Pl K H v d) : Pl K H' v d := h.keep (.of s)
theorem Pls.same {K : Frag} {H H' : Hp} (s : Same H H') {v : List V} {d : List PyData} (h : Pls K H v d) : Pls K H' v d := h.keep (.of s)
theorem Pls.len {K : Frag} {H : Hp} : ∀ {v : List V} {d : List PyData}, Pls K H v d → v.length = d.length
  | _, _, .nil => rfl
  | _, _, .cons _ r => congrArg (· + 1) (Pls.len r)
theorem Pls.append {K : Frag} {H : Hp} : ∀ {v v2 : List V} {d d2 : List PyData}, Pls K H v d → Pls K H v2 d2 → Pls K H (v ++ v2) (d ++ d2)
  | _, _, _, _, .nil, r => r
  | _, _, _, _, .cons h r, r2 => .cons h (Pls.append r r2)
theorem Pls.snoc {K : Frag} {H : Hp} {v : List V} {d : List PyData} {x : V} {e : PyData} (r : Pls K H v d) (h : Pl K H x e) : Pls K H (v ++ [x]) (d ++ [e]) := r.append (.cons h .nil)
theorem Pls.get {K : Frag} {H : Hp} : ∀ {v : List V} {d : List PyData}, Pls K H v d → ∀ {i : Nat} {x : V} {e : PyData}, v[i]? = some x → d[i]? = some e → Pl K H x e
  | _, _, .nil, i, _, _, h, _ => by cases i <;> cases h
  | _, _, .cons h r, 0, _, _, e1, e2 => by cases e1; cases e2; exact h
  | _, _, .cons h r, i + 1, _, _, e1, e2 => r.get (i := i) e1 e2
theorem Pls.at {K : Frag} {H : Hp} {v : List V} {d : List PyData} (r : Pls K H v d) {i : Nat} {x : V} (h : v[i]? = some x) : ∃ e, d[i]? = some e ∧ Pl K H x e := by
  have hi : i < v.length := by
    rcases Nat.lt_or_ge i v.length with z | z
    · exact z
    · rw [List.getElem?_eq_none z] at h; cases h
  have e2 : d[i]? = some (d[i]'(r.len ▸ hi)) := List.getElem?_eq_getElem _
  exact ⟨_, e2, r.get h e2⟩
theorem Pls.drop {K : Frag} {H : Hp} : ∀ (n : Nat) {v : List V} {d : List PyData}, Pls K H v d → Pls K H (v.drop n) (d.drop n)
  | 0, _, _, r => r
  | n + 1, _, _, .nil => .nil
  | n + 1, _, _, .cons _ r => Pls.drop n r
mutual
theorem Pl.dp {K : Frag} {H : Hp} : ∀ {v : V} {d : PyData}, Pl K H v d → Dp K H v d
  | _, _, .str x => .str x
  | _, _, .tup h r => .tup h (Pls.dp r)
theorem Pls.dp {K : Frag} {H : Hp} : ∀ {v : List V} {d : List PyData}, Pls K H v d → DpAll K H v d
  | _, _, .nil => .nil
  | _, _, .cons h r => .cons (Pl.dp h) (Pls.dp r)
end
section
variable {X : Cx} {pins : List (Addr × Obj)} {σ : L2.St} {H : Hp} {s : Shared}
mutual
theorem Pl.reads (I : Inv X pins σ H s) : ∀ {d : PyData} {v : V} {u : Value}, Pl X.K H v d → RelV v u → Reads s.heap u d []
  | _, _, u, .str x, r => by
    obtain ⟨t, e⟩ := (show ∃ t, u = Value.str x t from r)
    rw [e]
    exact .str x t
  | _, _, u, .tup h rs, r => by
    obtain ⟨its, rv, ⟨o, ho, hc, n, hd⟩, _⟩ := I.tuple h
    have e : u = Value.ref _ := r
    rw [e]
    exact .tuple ho hc hd (by simpa using Pls.reads I rs rv)
theorem Pls.reads (I : Inv X pins σ H s) : ∀ {ds : List PyData} {vs : List V} {us : List Value}, Pls X.K H vs ds → Vals vs us → ReadsAll s.heap us ds []
  | _, _, _, .nil, .nil => .nil
  | _, _, _, .cons h rs, .cons r1 r2 => .cons (as := []) (Pl.reads I h r1) (Pls.reads I rs r2)
end
end
/-! ### values of any kind, as parts of what may be a plan -/
mutual
inductive Gd (K : Frag) (H : Hp) : V → PyData → Prop where
  | non : Gd K H .non .none
  | bl (b : Bool) : Gd K H (.bl b) (.bool b)
  | int (i : Int) : Gd K H (.int i) (.int i)
  | str (x : Str) (h : x.length ≤ 1000) : Gd K H (.str x) (.str x)
  | lst {a : Addr} {xs : List V} {ds : List PyData} : H a = some (.lst xs) → Gds K H xs ds → Gd K H (.ref a) (.list ds)
  | tup {a : Addr} {xs : List V} {ds : List PyData} : SqT K H a xs → Gds K H xs ds → Gd K H (.ref a) (.tuple ds)
  | dct {a : Addr} : H a = some (.dK []) → Gd K H (.ref a) (.dict [])
  | dctN {a : Addr} {es : List (Key × V)} {kvs : List (PyData × PyData)} : H a = some (.dK es) → kvs ≠ [] → Gd K H (.ref a) (.dict kvs)
inductive Gds (K : Frag) (H : Hp) : List V → List PyData → Prop where
  | nil : Gds K H [] []
  | cons {x : V} {d : PyData} {xs : List V} {ds : List PyData} : Gd K H x d → Gds K H xs ds → Gds K H (x :: xs) (d :: ds)
end
theorem sqL_same {K : Frag} {H H' : Hp} (s : Same H H') {a : Addr} {xs : List V} (h : SqL K H a xs) : SqL K H' a xs := h.imp (fun z => z.elim (fun z => .inl (s _ _ z)) fun ⟨o, z⟩ => .inr ⟨o, s _ _ z⟩) id
mutual
theorem Gd.same {K : Frag} {H H' : Hp} (s : Same H H') : ∀ {v : V} {d : PyData}, Gd K H v d → Gd K H' v d
  | _, _, .non => .non
  | _, _, .bl b => .bl b
  | _, _, .int i => .int i
  | _, _, .str x h => .str x h
  | _, _, .lst h r => .lst (s _ _ h) (Gds.same s r)
  | _, _, .tup h r => .tup ((KeepT.of s).sqT h) (Gds.same s r)
  | _, _, .dct h => .dct (s _ _ h)
  | _, _, .dctN h n => .dctN (s _ _ h) n
theorem Gds.same {K : Frag} {H H' : Hp} (s : Same H H') : ∀ {v : List V} {d : List PyData}, Gds K H v d → Gds K H' v d
  | _, _, .nil => .nil
  | _, _, .cons h r => .cons (Gd.same s h) (Gds.same s r)
end
theorem Gds.len {K : Frag} {H : Hp} : ∀ {v : List V} {d : List PyData}, Gds K H v d → v.length = d.length
  | _, _, .nil => rfl
  | _, _, .cons _ r => congrArg (· + 1) (Gds.len r)
theorem Gds.get {K : Frag} {H : Hp} : ∀ {v : List V} {d : List PyData}, Gds K H v d → ∀ {i : Nat} {x : V} {e : PyData}, v[i]? = some x → d[i]? = some e → Gd K H x e
  | _, _, .nil, i, _, _, h, _ => by cases i <;> cases h
  | _, _, .cons h r, 0, _, _, e1, e2 => by cases e1; cases e2; exact h
  | _, _, .cons h r, i + 1, _, _, e1, e2 => r.get (i := i) e1 e2
theorem Gds.drop {K : Frag} {H : Hp} : ∀ (n : Nat) {v : List V} {d : List PyData}, Gds K H v d → Gds K H (v.drop n) (d.drop n)
  | 0, _, _, r => r
  | n + 1, _, _, .nil => .nil
  | n + 1, _, _, .cons _ r => Gds.drop n r
theorem Gd.ty {K : Frag} {H : Hp} {v : V} {d : PyData} (h : Gd K H v d) : TyX K H v (.type (tyn d)) := by
  cases h with
  | non => exact .base .non
  | bl b => exact .base (.bl b)
  | int i => exact .base (.int i)
  | str x _ => exact .base (.str x)
  | lst h _ => exact ty_l (SqL.of h)
  | tup h _ => exact ty_t h
  | dct h => exact .base (.dK h)
  | dctN h _ => exact .base (.dK h)
def isTup : PyData → Bool
  | .tuple _ => true
  | _ => false
theorem kit_tup (K : Frag) (d : PyData) : PySem.W.kitOne K (.type (tyn d)) (.type "tuple") = some (isTup d) := by cases d <;> rfl
mutual
def strsShort : PyData → Prop
  | .str x => x.length ≤ 1000
  | .tuple ds => strsShorts ds
  | _ => True
def strsShorts : List PyData → Prop
  | [] => True
  | d :: ds => strsShort d ∧ strsShorts ds
end
mutual
theorem Pl.gd {K : Frag} {H : Hp} : ∀ {v : V} {d : PyData}, Pl K H v d → strsShort d → Gd K H v d
  | _, _, .str x, h => .str x h
  | _, _, .tup h r, g => .tup h (Pls.gd r g)
theorem Pls.gd {K : Frag} {H : Hp} : ∀ {v : List V} {d : List PyData}, Pls K H v d → strsShorts d → Gds K H v d
  | _, _, .nil, _ => .nil
  | _, _, .cons h r, g => .cons (Pl.gd h g.1) (Pls.gd r g.2)
end
end Fs
set_option Elab.async false
set_option linter.all false
set_option maxRecDepth 100000
set_option maxHeartbeats 4000000
/-! FxI: two that were told alike are compared; d[i] = v of a dict of either kind; dicts of small data are shown -/
namespace Fs
open PySem PySem.Spec PyProof.Rows L2 Fh
open PySem.W (Frag)
/-! ### small data -/
/-- small enough to be shown, among others -/
def smD (d : PyData) : Bool := d.showable && decide (d.depth ≤ 5) && PyData.leavesShort 70 d && decide (d.weight ≤ 400)
/-- entries of small data -/
def Ent1 (N : Addr → Prop) (H : Hp) (q : Key × V) : Prop := smD (kP q.1) = true ∧ ∃ d, DA N H q.2 d ∧ smD d = true
def Ent2 (N : Addr → Prop) (H : Hp) (x : ME) : Prop := KOk H x ∧ smD (mP x.1) = true ∧ ∃ d, DA N H x.2.2 d ∧ smD d = true
theorem Ent1.same {N : Addr → Prop} {H H' : Hp} {q : Key × V} (s : Same H H') (h : Ent1 N H q) : Ent1 N H' q := ⟨h.1, h.2.imp fun d z => ⟨DA.same s z.1, z.2⟩⟩
theorem Ent2.same {N : Addr → Prop} {H H' : Hp} {q : ME} (s : Same H H') (h : Ent2 N H q) : Ent2 N H' q := ⟨h.1.same s, h.2.1, h.2.2.imp fun d z => ⟨DA.same s z.1, z.2⟩⟩
end Fs
set_option Elab.async false
set_option linter.all false
set_option maxRecDepth 100000
set_option maxHeartbeats 4000000
/-! FxJ: a promise under no repr of a def found in the written part; rows cut; what stays while tables grow -/
namespace Fs
open PySem PySem.Spec PyProof.Rows L2 Fh
open PySem.W (Frag)
theorem seq_cutS {t u : TS} {D : _} {σ : L2.St} {H : Hp} (inv : L2.St → Hp → Prop) (key : ∀ NX : L2.St → Hp → Prop, (∀ σ' Hc, inv σ' Hc → NX σ' Hc) → t { D with nx := NX } σ H) (rest : ∀ σ' Hc, inv σ' Hc → u D σ' Hc) : tSeq t u D σ H := key (u D) rest
theorem gName_go {i : Nat} {v : V} {σ : L2.St} {H : Hp} {Q : L2.St → Hp → Prop} (h : Q (σ.set i (some v)) H) : gName i v σ H Q := h
end Fs
set_option Elab.async false
set_option linter.all false
set_option maxRecDepth 100000
set_option maxHeartbeats 8000000
namespace Fp1
open PySem PySem.Spec PyProof.Rows L2 Fh Fs
open PySem.W (Frag)
def top (i : Nat) : Stmt := PySem.Challenge.pw_fewhands_k07_books_made.main.body.getD i (.Pass ⟨0, 0, 0, 0⟩)
abbrev sIwp : Stmt := top 21
abbrev sHrn : Stmt := top 22
abbrev sWe : Stmt := top 55
abbrev sNp : Stmt := top 56
abbrev sRps : Stmt := top 57
abbrev sRp : Stmt := top 58
abbrev sRd : Stmt := top 61
/-! ### an own reader: what a text is up to where it goes wrong -/
def fewest (z : Str) : Option Int := if z = "then" then some 0 else if z = "either" then some 1 else if z = "any" then some 1 else if z = "again" then some 1 else if z = "beside" then some 2 else none
def most (z : Str) : Option Int := if z = "again" then some 1 else if z = "beside" then some 2 else none
def rightNo (z : Str) (m : Int) : Bool := match fewest z with
  | some f => decide (f ≤ m) && decide (m ≤ (most z).getD m)
  | none => false
/-! ### what the written part says -/
def relI : Option Int → Option Value → Prop
  | none, r => r = none
  | some i, r => ∃ t, r = some (.int i t)
structure TxtR (K : Frag) (mg : Str → Option Value) (w : World) (aF aM aD CE aE : Addr) : Prop where
  isinstance : mg "isinstance" = none
  str : mg "str" = none
  len : mg "len" = none
  LETTERS : ∃ u, mg "LETTERS" = some (.str "abcdefghijklmnopqrstuvwxyz" u)
  LONGEST : ∃ u, mg "LONGEST" = some (.int 8 u)
  gF : mg "FEWEST" = some (.ref aF)
  gM : mg "MOST" = some (.ref aM)
  gD : mg "DONE" = some (.ref aD)
  sD : ∀ H, SqT K H aD [.str "then"]
  dF : ∃ es n, KDict K w aF es n
  dM : ∃ es n, KDict K w aM es n
  fF : ∀ z, ∃ r, PySem.W.nsIn K aF z = some r ∧ relI (fewest z) r
  fM : ∀ z, ∃ r, PySem.W.nsIn K aM z = some r ∧ relI (most z) r
  ET : PySem.ErrN.ErrNxt K mg CE aE
section
variable {P : Program} {w : World} {K : Frag} {mg : Str → Option Value} {base : Heap} {aF aM aD CE aE : Addr}
theorem relI_some {o : Option Int} {r : Option Value} (h : relI o r) : r.isSome = o.isSome := by
  cases o with
  | none => rw [show r = none from h]; rfl
  | some i =>
    obtain ⟨t, rfl⟩ := h
    rfl
/-! ### the functions -/
theorem scIwp : FnScope ["value"] ["value"] (defScope sIwp) := ⟨rfl, rfl, rfl, by decide +kernel, rfl, by decide +kernel, by decide +kernel⟩
def spHrn : Sp := fun vs H Q _ => ∃ (z : Str) (m : Int), vs = [.str z, .int m] ∧ (fewest z).isSome = true ∧ Q (.bl (rightNo z m)) H
theorem scHrn : FnScope ["word", "many"] ["word", "many"] (defScope sHrn) := ⟨rfl, rfl, rfl, by decide +kernel, rfl, by decide +kernel, by decide +kernel⟩
theorem ok_hrn {f : Addr} {fd : FuncData} (F : Fun K "has_right_number" "has_right_number" sHrn f fd) (T : TxtR K mg w aF aM aD CE aE) : FnOk P w K mg base CX0 1 f fd ["word", "many"] spHrn := by
  refine F.ok scHrn (fun vs H Q E h => ?_) (fun cdv A outer s H vs Q E hr h => ?_)
  · obtain ⟨z, m, rfl, _⟩ := h
    rfl
  · obtain ⟨z, m, rfl, hs, k⟩ := h
    obtain ⟨es, n, D⟩ := T.dF
    obtain ⟨es2, n2, D2⟩ := T.dM
    refine ⟨_, pss_one (ps_ret (pe_chain op_le op_le (pe_ix ix_kdict (pe_glob (v := .ref aF) (by rfl) T.gF rfl) (pv 0) (fun _ _ => rfl)) (pv 1) (pe_kget (pe_glob (v := .ref aM) (by rfl) T.gM rfl) (pv 0) (pv 1) ⟨by rfl, by rfl, by rfl, by rfl⟩))), ?_⟩
    obtain ⟨r, hr1, rl⟩ := T.fF z
    obtain ⟨r2, hr2, rl2⟩ := T.fM z
    cases ef : fewest z with
    | none => rw [ef] at hs; cases hs
    | some i =>
      rw [ef] at rl
      obtain ⟨t, rfl⟩ := rl
      have er : rightNo z m = (decide (i ≤ m) && decide (m ≤ (most z).getD m)) := by unfold rightNo; rw [ef]
      rw [er] at k
      refine ⟨_, rfl, aF, z, .int i, rfl, rfl, ⟨es, n, _, D.at_, D.lit, hr1, ⟨t, rfl⟩⟩, _, rfl, i, m, rfl, rfl, decide (i ≤ m), rfl, ?_⟩
      by_cases h1 : i ≤ m
      · rw [decide_eq_true h1] at k ⊢
        refine iteT ⟨aM, es2, n2, rfl, D2, _, rfl, _, rfl, z, r2, .int ((most z).getD m), rfl, hr2, ?_, m, _, rfl, rfl, k⟩
        cases em : most z with
        | none => rw [em] at rl2; rw [show r2 = none from rl2]; rfl
        | some j =>
          rw [em] at rl2
          obtain ⟨t2, rfl⟩ := rl2
          exact ⟨t2, rfl⟩
      · rw [decide_eq_false h1] at k ⊢
        exact iteF k
theorem str_of_list {z : Str} {l : List Nat} (h : z.cps.toList = l) : z = ⟨l.toArray⟩ := by
  obtain ⟨c⟩ := z
  rw [← h]
end
end Fp1
set_option Elab.async false
set_option linter.all false
set_option maxRecDepth 100000
set_option maxHeartbeats 8000000
namespace Fp1
open PySem PySem.Spec PyProof.Rows L2 Fh Fs
open PySem.W (Frag)
section
variable {P : Program} {w : World} {K : Frag} {mg : Str → Option Value} {base : Heap} {aF aM aD CE aE : Addr}
theorem same_off {H H' : Hp} {l : Addr} {o : HO} (s : Same H H') (n : H l = none) : Same H (upd H' l o) := fun b u z => by
  rw [upd_ne (fun e => by rw [e, n] at z; cases z)]
  exact s _ _ z
end
end Fp1
set_option Elab.async false
set_option linter.all false
set_option maxRecDepth 100000
set_option maxHeartbeats 8000000
namespace Fp1
open PySem PySem.Spec PyProof.Rows L2 Fh Fs
open PySem.W (Frag)
/-- the reader's functions -/
structure Rdr (K : Frag) (mg : Str → Option Value) (w : World) (aF aM aD CE aX aI aH aE aN aS aR aP : Addr) (fI fH fE fN fS fR fP : FuncData) : Prop where
  T : TxtR K mg w aF aM aD CE aX
  EC : ErrC K CE
  FI : Fun K "is_word_of_plans" "is_word_of_plans" sIwp aI fI
  FH : Fun K "has_right_number" "has_right_number" sHrn aH fH
  FE : Fun K "_word_end" "_word_end" sWe aE fE
  FN : Fun K "_next_part" "_next_part" sNp aN fN
  FS : Fun K "_read_parts" "_read_parts" sRps aS fS
  FR : Fun K "read_part" "read_part" sRp aR fR
  FP : Fun K "read_plan" "read_plan" sRd aP fP
  gI : mg "is_word_of_plans" = some (.ref aI)
  gH : mg "has_right_number" = some (.ref aH)
  gE : mg "_word_end" = some (.ref aE)
  gN : mg "_next_part" = some (.ref aN)
  gS : mg "_read_parts" = some (.ref aS)
  gR : mg "read_part" = some (.ref aR)
  gP : mg "read_plan" = some (.ref aP)
end Fp1
set_option Elab.async false
set_option linter.all false
set_option maxRecDepth 100000
set_option maxHeartbeats 4000000
/-! FzB: the error InvalidPlan(value) over the layer: made and raised, read and asked for its class where it is caught -/
namespace PySem
namespace ErrP
open PySem.W PySem.Calls PyProof.Rows PySem.HandSPX
/-! ### the text of __init__ -/
def iA (p1 p2 : Pos) : Arguments := { posonlyargs := [], args := [{ arg := "self", annotation := none, pos := p1 }, { arg := "value", annotation := none, pos := p2 }], vararg := none, kwonlyargs := [], kw_defaults := [], kwarg := none, defaults := [] }
def iB (q1 q2 q3 q4 : Pos) : List Stmt := [.Assign [.Attribute (.Name "self" q1) "value" q2] (.Name "value" q3) q4]
def iS : Scope := { kind := .function, names := [(PySem.Str.ofString "self", .local), (PySem.Str.ofString "value", .local)], isGenerator := false, isCoroutine := false, more := [] }
/-- what the written part says of Low, at C, and of its __init__, at fI -/
structure ErrPxt (K : Frag) (mg : Str → Option Value) (C fI : Addr) : Prop where
  gC : mg "InvalidPlan" = some (.ref C)
  cls : ∃ nm q N bs bm sn sub ab col dd k0 k1 k2 k3 k5, K.lookup C = some (excClassObj nm q C N bs bm true sn sub ab col dd k0 k1 k2 k3 k5 "ValueError.__new__") ∧ refsVE bm = true
  sa : findIn K (.ref C) "__setattr__" = some (some (.builtin "object.__setattr__"))
  ga : findIn K (.ref C) "__getattribute__" = some (some (.builtin "BaseException.__getattribute__"))
  gg : findIn K (.ref C) "__getattr__" = some none
  noN : findIn K (.ref C) "value" = some none
  iC : findIn K (.ref C) "__init__" = some (some (.ref fI))
  tC : typeIn K (.ref fI) = some (.type "function")
  kC : keepIn K (.ref C) = true
  exC : subIn K (.ref C) (.type "BaseException") = some true
  tyC : typeIn K (.ref C) = some (.type "type")
  hdC : hasDictIn K C = true
  te : exmOne K (.ref C) (.ref C) = some true
  fn : ∃ (oc : Value) (od : Option Addr) (kV doc pm : Value) (an : Option Addr) (cdv ct : Value) (osl : Array (Option Value)) (p1 p2 q1 q2 q3 q4 : Pos),
    K.lookup fI = some ⟨oc, od, .func (fnOf "__init__" "InvalidPlan.__init__" (iA p1 p2) (iB q1 q2 q3 q4) iS .none kV doc pm an cdv ct), osl⟩ ∧ codeIn K cdv "InvalidPlan.__init__" = true
theorem one_size (v : Value) : [v].length ≤ sizeLine := by
  rw [sizeLine_eq]
  exact (by decide : 1 ≤ 16777216)
theorem ldC {M : Model} {s : Shared} {name : Str} {scope : Scope} {L a : Addr} {cd : Value} {m : Str → Option Value} {x : Str} {pos : Pos} {v : Value} {Q : Value → Shared → Prop} {A : Around} {E : Value → Shared → Prop} (hn : s.heap.Ns L m) (hv : m x = some v) (h : Q v s)
    (hk : scope.kind = .function := by rfl) (hl : (envOfC name scope L a cd).kindOf x = some .local := by rfl) (hd : (x == ("__debug__" : Str)) = false := by decide) :
    wpAny M A (eval (.Name x pos) (envOfC name scope L a cd)) Q E s := wpAny_Name (wpAny_loadName_local hk hl hn hv h) hd
/-- what __init__ leaves of a fresh exception at x -/
structure InitEnd (h h' : Heap) (x C dx t1 : Addr) (v : Value) : Prop where
  keep : ∀ b o, b ≠ x → h.get? b = some o → h'.get? b = some o
  obj : h'.get? x = some { cls := .ref C, dict := some dx, data := .fields #[.ref t1, .none, .none, .none, .bool false, .none] }
  dbig : h.objs.size ≤ dx
  dne : dx ≠ x
  ns : h'.Ns1 dx (fun y => if y = "value" then some v else none)
/-- a made Low -/
structure OwnMade (h h' : Heap) (e C d : Addr) (v : Value) : Prop where
  keep : ∀ b o, h.get? b = some o → h'.get? b = some o
  new : h.objs.size ≤ e
  obj : ∃ oe vs, h'.get? e = some oe ∧ oe.cls = .ref C ∧ oe.dict = some d ∧ oe.data = .fields vs ∧ vs[1]? = some .none
  dbig : h.objs.size ≤ d
  dne : d ≠ e
  ns : h'.Ns1 d (fun y => if y = "value" then some v else none)
section
variable {prog : Program} {w : World} {A : Around} {E : Value → Shared → Prop} {R : Result → Shared → Prop} {s : Shared} {K : Frag} {mg : Str → Option Value} {C fI : Addr}
theorem errP_init (T : ErrPxt K mg C fI) {x t0 : Addr} {v : Value} (X : K.In s.heap) (hlim : s.heap.NoLimit) (hx : s.heap.get? x = some (excO C t0)) (hnx : K.lookup x = none) (hroom : A.depth < recursionLimit)
    (hq : ∀ h' tk dx, InitEnd s.heap h' x C dx t0 v → R (.ok (.ret .none)) { s with heap := h', toks := tk }) :
    codeAny (model prog w) A (.call (.ref fI) ⟨[.ref x, v], []⟩) R s := by
  obtain ⟨oc, od, kV, doc, pm, an, cdv, ct, osl, p1, p2, q1, q2, q3, q4, ho, hcd⟩ := T.fn
  obtain ⟨nm, q, N, bs, bm, sn, sub, ab, col, dd, k0, k1, k2, k3, k5, hC, hbm⟩ := T.cls
  have hcl : clsIn K C = some { name := nm, bases := bs, mro := .ref C :: bm, ns := N, qualname := q, hasDict := true, slotNames := sn, subclasses := sub, abstract := ab, collection := col, hasDel := false } := by unfold clsIn; rw [hC] <;> rfl
  refine Att.call_fn (binds := [("self", .ref x), ("value", v)]) X hlim ho hcd hroom (BindsTo.of_eq (by first | rfl | with_unfolding_all rfl)) (by first | rfl | decide | with_unfolding_all rfl) (fun s₁ IC => ?_) rfl rfl rfl
  obtain ⟨h₁, tk₁, rfl⟩ := IC.toInCall.same
  have k : ∀ b o, s.heap.get? b = some o → h₁.get? b = some o := IC.toInCall.keep
  have hn := IC.toInCall.ns
  have hxL : s.heap.objs.size ≠ x := Nat.ne_of_gt (Heap.lt_size hx)
  have X₁ : K.In h₁ := X.keeps k
  have hx₁ := k _ _ hx
  -- self.by = by
  show wpAny _ _ (execs _ _) _ _ _
  refine wpAny_execs_cons (plainObj_wpAny_Assign_Attribute ?_)
  refine ldC (v := v) hn (by first | rfl | with_unfolding_all rfl | kernel_rfl) (ldC (v := .ref x) hn (by first | rfl | with_unfolding_all rfl | kernel_rfl) ?_)
  refine set_plain X₁ (ox := excO C t0) (od := none) ⟨hx₁, rfl, rfl, trivial⟩ T.sa ?_
  refine exc_osa X₁ hx₁ hcl (show refsVE (.ref C :: bm) = true from hbm) rfl T.noN (fun h₃ tk₃ dx k₃ dn dne hx₃ hn₃ => ?_)
  show wpAny _ _ (execs _ _) _ _ _
  have z : s.heap.objs.size < h₁.objs.size := hn.lt
  exact wpAny_execs_nil (hq h₃ tk₃ dx ⟨fun b o hb e => k₃ b o hb (k b o e), hx₃, Nat.le_of_lt (Nat.lt_of_lt_of_le z dn), dne, hn₃⟩)
theorem errP_made (T : ErrPxt K mg C fI) {v : Value} (X : K.In s.heap) (hlim : s.heap.NoLimit) (hroom : A.depth + 1 < recursionLimit)
    (hq : ∀ h' tk e d, OwnMade s.heap h' e C d v → R (.ok (.ret (.ref e))) { s with heap := h', toks := tk }) :
    codeAny (model prog w) A (.call (.ref C) ⟨[v], []⟩) R s := by
  obtain ⟨nm, q, N, bs, bm, sn, sub, ab, col, dd, k0, k1, k2, k3, k5, hC, hbm⟩ := T.cls
  obtain ⟨hp, g, dr, tk, os⟩ := s
  have k : ∀ b o, hp.get? b = some o → ((hp.push (kdv_tup [v])).push (excO C hp.objs.size)).get? b = some o := fun b o e => Heap.get?_push_of_some _ (Heap.get?_push_of_some _ e)
  have hget : ((hp.push (kdv_tup [v])).push (excO C hp.objs.size)).get? (hp.objs.size + 1) = some (excO C hp.objs.size) := by heap_get
  have hnx : K.lookup (hp.objs.size + 1) = none := by
    cases e : K.lookup (hp.objs.size + 1) with
    | none => rfl
    | some o =>
      have z : hp.get? (hp.objs.size + 1) = some o := X _ _ e
      exact absurd (Nat.lt_of_succ_lt (Heap.lt_size z)) (Nat.lt_irrefl _)
  refine call_own F.excBase_ValueError (fun X => refsVE_contains X bm hbm) (X _ _ hC) (looks_findIn X T.iC) (fun self => bind_fn X self T.tC) (one_size v) ?_
  refine errP_init (s := ⟨(hp.push (kdv_tup [v])).push (excO C hp.objs.size), g, dr, tk, os⟩) T (X.keeps k) (hlim.keeps k) hget hnx ?_ fun h' tk' dx ⟨k', hx, dn, dne, hns⟩ => ?_
  · show A.depth + 1 < recursionLimit
    exact hroom
  · have old : ∀ b o, hp.get? b = some o → h'.get? b = some o := fun b o e => k' b o (Nat.ne_of_lt (Nat.lt_succ_of_lt (Heap.lt_size e))) (k b o e)
    have z : hp.objs.size + 1 + 1 ≤ dx := by
      first
        | (simpa only [Heap.size_push] using dn)
        | exact dn
        | (have q := dn; rw [Heap.size_push, Heap.size_push] at q; exact q)
    exact ⟨rfl, hq h' tk' (hp.objs.size + 1) dx ⟨old, Nat.le_succ _, ⟨_, _, hx, rfl, rfl, rfl, rfl⟩, Nat.le_trans (Nat.le_trans (Nat.le_succ _) (Nat.le_succ _)) z, dne, hns⟩⟩
end
end ErrP
end PySem
namespace L2
open PySem PySem.Spec PyProof.Rows
theorem relO_errP {v : V} {v' : Value} (r : RelV v v') (f : Str) : RelO (List.lookup f [(("value" : Str), v)]) (if f = "value" then some v' else none) := by
  by_cases hw : f = "value"
  · subst hw
    rw [if_pos rfl]
    have q : List.lookup ("value" : Str) [(("value" : Str), v)] = some v := by simp [List.lookup]
    rw [q]
    exact r
  · rw [if_neg hw]
    have qw : (f == ("value" : Str)) = false := by simpa using hw
    have q2 : List.lookup f [(("value" : Str), v)] = none := by simp [List.lookup, qw]
    rw [q2]
    trivial
section
variable {X : Cx} {C fI : Addr}
/-- Low(e) -/
def tMkErrP (C : Addr) (ta : TA) : St → Hp → XK → Prop := fun σ H Q => ta σ H fun vs H1 => ∃ v, vs = [v] ∧ ∀ d, H1 d = none → Q (.ref C) (some d) (upd H1 d (.xd [(("value" : Str), v)]))
theorem pmk_errP {a : Expr} {ta : TA} {p pos : Pos} {k : Nat} (T : PySem.ErrP.ErrPxt X.K X.mg C fI) (hr : Room k X.A) (ha : PA X [a] ta) (hg : Gl X "InvalidPlan" := by rfl)
    (he : starEach (a :: []) X.env = (false, eval a X.env) :: starEach [] X.env := by rfl) (hpl : (backTo pos (starEach [] X.env)).any (·.1) = false := by rfl) :
    PMk X (.Call (.Name "InvalidPlan" p) [a] [] pos) (tMkErrP C ta) := by
  intro pins s σ H Q I h
  refine wpAny_Call_Name_kw (ld_glob I hg T.gC ?_)
  refine PySem.W.callWith_K (h₀ := X.base) I.ok.mod.kin T.kC (thn (ha.run pos pins s σ H _ I h) fun us s1 hh => ?_) he hpl
  obtain ⟨vs, H1, I1, r1, v, ev, q1⟩ := hh
  subst ev
  refine ⟨I1.kIn, ?_⟩
  cases r1 with
  | cons rv rn =>
    rename_i v' us'
    cases rn
    show wpAny _ _ (call (.ref C) [v']) _ _ _
    have hlim := I1.nolimit
    obtain ⟨hp, g, dr, tk, os⟩ := s1
    refine wpAny_call (PySem.ErrP.errP_made T I1.kIn hlim (by have := hr.dp; omega) fun h' tk' e d M => ?_)
    show MkP X pins σ Q (.ref e) ⟨h', g, dr, tk', os⟩
    obtain ⟨oe, fv, hoe, hc, hd, hdat, h1⟩ := M.obj
    have hns := M.ns
    obtain ⟨G', g1, g2⟩ := restrict h' fun b => decide (b ≠ e)
    have gk : ∀ b, b ≠ e → G'.get? b = h'.get? b := fun b hb => g1 b (decide_eq_true hb)
    have ge : G'.get? e = none := g2 e (by simp)
    have old : ∀ b o, hp.get? b = some o → G'.get? b = some o := fun b o q => (gk b (Nat.ne_of_lt (Nat.lt_of_lt_of_le (Heap.lt_size q) M.new))).trans (M.keep b o q)
    have ob : ObjOk X.prog X.w (upd H1 d (.xd [(("value" : Str), v)])) G' d (.xd [(("value" : Str), v)]) :=
      ⟨_, hns.at (fun o q => (gk d M.dne).trans q), fun f => relO_errP rv f⟩
    have J : Inv X pins σ (upd H1 d (.xd [(("value" : Str), v)])) ⟨G', g, dr, tk', os⟩ := I1.laid (t' := tk') old M.dbig ob
    refine ⟨e, oe, fv, ⟨G', g, dr, tk', os⟩, _, .ref C, some d, rfl, J, fun b o q => ?_, ge, hoe, ⟨hc, hd⟩, hdat, h1, ?_, rfl, I1.bare, raises_own T.exC T.tyC, q1 d (I1.hok.fresh M.dbig)⟩
    · by_cases hb : b = e
      · have q' : G'.get? b = some o := q
        rw [hb, ge] at q'; cases q'
      · exact (gk b hb).symm.trans q
    · rw [upd_ne (Ne.symm M.dne)]
      exact I1.hok.fresh M.new
/-- raise Low(e) -/
def tRaiseErrP (C : Addr) (W : WX) (ta : TA) : TS := fun _ σ H => tMkErrP C ta σ H fun cls d H' => W cls d σ H'
theorem ps_raiseErrP {a : Expr} {ta : TA} {W : WX} {p pos pos2 : Pos} {k : Nat} (hc : X.calm = true) (T : PySem.ErrP.ErrPxt X.K X.mg C fI) (hr : Room k X.A) (tk : Takes X W) (ha : PA X [a] ta) (hg : Gl X "InvalidPlan" := by rfl)
    (he : starEach (a :: []) X.env = (false, eval a X.env) :: starEach [] X.env := by rfl) (hpl : (backTo pos (starEach [] X.env)).any (·.1) = false := by rfl) :
    PS X (.Raise (some (.Call (.Name "InvalidPlan" p) [a] [] pos)) none pos2) (tRaiseErrP C W ta) := ps_raise hc tk (pmk_errP T hr ha hg he hpl)
end
end L2
set_option Elab.async false
set_option linter.all false
set_option maxRecDepth 100000
set_option maxHeartbeats 4000000
/-! FzC: InvalidPlan where it is caught, and from the head's facts -/
namespace Fs
open PySem PySem.Spec PyProof.Rows L2 Fh LamX
open PySem.W (Frag)
theorem errP_of {K : Frag} {mg : Str → Option Value} {C : Addr} (gC : mg "InvalidPlan" = some (.ref C)) (T : EK K C .ve) {fI : Addr} (no : PySem.W.findIn K (.ref C) "value" = some none) (iC : PySem.W.findIn K (.ref C) "__init__" = some (some (.ref fI))) (tI : PySem.W.typeIn K (.ref fI) = some (.type "function"))
    (fn : ∃ (oc : Value) (od : Option Addr) (kV doc pm : Value) (an : Option Addr) (cdv ct : Value) (osl : Array (Option Value)) (p1 p2 q1 q2 q3 q4 : Pos),
      K.lookup fI = some ⟨oc, od, .func (PySem.W.fnOf "__init__" "InvalidPlan.__init__" (PySem.ErrP.iA p1 p2) (PySem.ErrP.iB q1 q2 q3 q4) PySem.ErrP.iS .none kV doc pm an cdv ct), osl⟩ ∧ PySem.W.codeIn K cdv "InvalidPlan.__init__" = true) : PySem.ErrP.ErrPxt K mg C fI := by
  obtain ⟨nm, q, N, bs, sn, sub, ab, col, dd, k0, k1, k2, k3, k5, ho⟩ := ei_obj T
  have sB : PySem.W.subIn K (.ref C) (.type "BaseException") = some true := by rw [T.sub]; rfl
  have sC : PySem.W.subIn K (.ref C) (.ref C) = some true := by rw [T.sub, List.contains_cons]; simp
  exact { gC := gC, cls := ⟨nm, q, N, bs, _, sn, sub, ab, col, dd, k0, k1, k2, k3, k5, ho, by decide +kernel⟩, sa := T.sa, ga := T.ga, gg := T.gg, noN := no, iC := iC, tC := tI, kC := T.kC, exC := sB, tyC := T.ty, hdC := T.hd, te := PySem.W.exm_ref sB T.hd T.ty sC, fn := fn }
end Fs
set_option Elab.async false
set_option linter.all false
set_option maxRecDepth 100000
set_option maxHeartbeats 8000000
/-! what is a plan: is_word, _is_right_alone, check_plan, is_plan -/
namespace Fp1
open PySem PySem.Spec PyProof.Rows L2 Fh Fs
open PySem.W (Frag)
abbrev sWord : Stmt := top 4
abbrev sAl : Stmt := top 23
abbrev sCk : Stmt := top 24
structure TxtK (mg : Str → Option Value) : Prop where
  all : mg "all" = none
  tuple : mg "tuple" = none
/-! ### what is right, as data -/
def wopD : PyData → Bool
  | .str y => (fewest y).isSome
  | _ => false
def aloneD (b : Bool) : PyData → Bool
  | .tuple [] => false
  | .tuple (d :: ds) => match d with
    | .str y => (fewest y).isSome && (!(b && decide (y = "beside")) && rightNo y ds.length)
    | _ => false
  | d => wordD d
def chks (rec : PyData → Option (Option PyData)) : List PyData → Option (Option PyData)
  | [] => some none
  | d :: ds => match rec d with
    | some none => chks rec ds
    | r => r
def chkP (rec : Bool → PyData → Option (Option PyData)) (b : Bool) : PyData → Option (Option PyData)
  | .tuple (.str y :: ds) => chks (rec (b || decide (y = "beside"))) ds
  | _ => some none
/-- the first wrong part, if there is one -/
def chk : Nat → Bool → PyData → Option (Option PyData)
  | 0, _, _ => none
  | n + 1, b, d => if aloneD b d = false then some (some d) else chkP (chk n) b d
theorem str_cases (d : PyData) : (∃ x, d = .str x) ∨ isStr d = false := by
  cases d with
  | str x => exact .inl ⟨x, rfl⟩
  | _ => exact .inr rfl
theorem tup_cases (d : PyData) : (∃ ds, d = .tuple ds) ∨ isTup d = false := by
  cases d with
  | tuple ds => exact .inl ⟨ds, rfl⟩
  | _ => exact .inr rfl
theorem wordD_no {d : PyData} (h : isStr d = false) : wordD d = false := by
  cases d with
  | str x => cases h
  | _ => rfl
theorem wopD_no {d : PyData} (h : isStr d = false) : wopD d = false := by
  cases d with
  | str x => cases h
  | _ => rfl
theorem alone_no {b : Bool} {d : PyData} (h : isTup d = false) : aloneD b d = wordD d := by
  cases d with
  | tuple x => cases h
  | _ => rfl
section
variable {P : Program} {w : World} {K : Frag} {mg : Str → Option Value} {base : Heap} {aF aM aD CE aE CP fP : Addr}
def spWord (K : Frag) : Sp := fun vs H Q _ => ∃ v d, vs = [v] ∧ Gd K H v d ∧ ∀ H', Same H H' → Q (.bl (wordD d)) H'
theorem scWord : FnScope ["value", "letter"] ["value"] (defScope sWord) := ⟨rfl, rfl, rfl, by decide +kernel, rfl, by decide +kernel, by decide +kernel⟩
theorem ok_word {f : Addr} {fd : FuncData} (F : Fun K "is_word" "is_word" sWord f fd) (T : TxtR K mg w aF aM aD CE aE) (TK : TxtK mg) : FnOk P w K mg base CX0 1 f fd ["value"] (spWord K) := by
  refine F.ok scWord (fun vs H Q E h => ?_) (fun cdv A outer s H vs Q E hr h => ?_)
  · obtain ⟨v, d, rfl, _⟩ := h
    rfl
  · obtain ⟨v, d, rfl, hv, k⟩ := h
    obtain ⟨u1, gL⟩ := T.LETTERS
    obtain ⟨u2, gM⟩ := T.LONGEST
    refine ⟨_, pss_cons (ps_if (PW.pt (pw_or (pt_not (pt_val (pe_callB call_isi (by rfl) T.isinstance (by decide +kernel) (pa_cons (pv 0) (pa_cons (pe_bltn (v := .ty "str") (by rfl) T.str (by decide +kernel) rfl (by decide) (by decide)) pa_nil)))))
      (pw_or1 (pt_not (pt_chain op_le op_le pe_int (pe_callB call_len_str (by rfl) T.len PySem.boot_len (pa_cons (pv 0) pa_nil)) (pe_glob (v := .int 8) (by rfl) gM ⟨_, rfl⟩)))))) (pss_one (ps_ret pe_bl)) pss_nil)
      (pss_one (ps_ret (pe_callB (cr_all rfl) (by rfl) TK.all (by decide +kernel) (pa_cons
        (pe_lc (own := [("letter", 1)]) (g := gName 1) (tt := tYes) rfl scWord.nd (pi_str (pv 0)) (blkOk_by (N := ["value", "letter"]) (sc := defScope sWord) (by decide +kernel)) (fun _ _ _ _ _ => pg_name (i := 1) scWord.nd rfl (Or.inl rfl)) (fun _ _ _ _ _ => pts_nil)
          (fun _ _ _ _ _ => pe_cmpR op_in_sign (pv 1) (pe_glob (v := .str "abcdefghijklmnopqrstuvwxyz") (by rfl) gL ⟨_, rfl⟩) (by rfl))) pa_nil)))), ?_⟩
    rcases str_cases d with ⟨x, rfl⟩ | no
    · have lx : x.length ≤ 1000 := by
        cases hv with
        | str _ h => exact h
      obtain rfl : v = .str x := by
        cases hv with
        | str _ h => rfl
      have lz : x.length ≤ sizeLine := by rw [sizeLine_eq]; omega
      refine ⟨_, rfl, _, _, _, _, true, rfl, .ty _, .base (.str x), (by rfl), true, rfl, ?_⟩
      by_cases h1 : 1 ≤ x.length
      · by_cases h2 : x.length ≤ 8
        · refine ⟨_, rfl, x, rfl, lz, _, _, rfl, rfl, true, congrArg V.bl (decide_eq_true (by omega)), iteT ⟨_, _, rfl, rfl, true, congrArg V.bl (decide_eq_true (by omega)), iteF ?_⟩⟩
          refine ⟨_, rfl, x, rfl, fun D hD => ?_⟩
          refine lc_it walk_str (fun i H1 => Same H H1 ∧ H1 D = some (.lst (((sgB x).take i).map V.bl))) ⟨Same.new hD, upd_same⟩ (fun _ _ _ _ => trivial) ?_ ?_
          · rintro i y H1 H2 hi ⟨s1, d1⟩ ⟨rfl, c, hc, rfl⟩
            have gc : x.cps.toList[i]? = some c := by rw [Array.getElem?_toList]; exact hc
            have gs : (sgB x)[i]? = some (decide (c ∈ abcN)) := by unfold sgB; rw [List.getElem?_map, gc]; rfl
            refine ⟨rfl, ?_⟩
            refine yes_of ?_
            refine ⟨_, rfl, c, _, rfl, rfl, _, d1, ?_, ?_⟩
            · rw [List.length_map, List.length_take, sizeLine_eq]
              have : (sgB x).length = x.cps.toList.length := List.length_map ..
              have e2 : x.cps.toList.length = x.length := Array.length_toList
              omega
            · refine ⟨fun b o z => by rw [upd_ne (ne_of_none z hD)]; exact s1 b o z, ?_⟩
              rw [upd_same, List.take_add_one, gs, List.map_append]
              rfl
          · rintro H1 ⟨s1, d1⟩
            have e3 : (sgB x).length = x.cps.size := by unfold sgB; rw [List.length_map]; exact Array.length_toList
            rw [← e3, List.take_length] at d1
            refine ⟨D, sgB x, rfl, SqL.of d1, ?_⟩
            have e : wordD (.str x) = (sgB x).all id := by
              show (decide (1 ≤ x.length) && (decide (x.length ≤ 8) && (sgB x).all id)) = _
              rw [decide_eq_true h1, decide_eq_true h2, Bool.true_and, Bool.true_and]
            rw [← e]
            exact k _ s1
        · have e : wordD (.str x) = false := by
            show (decide (1 ≤ x.length) && (decide (x.length ≤ 8) && (sgB x).all id)) = false
            rw [decide_eq_false h2, Bool.false_and, Bool.and_false]
          refine ⟨_, rfl, x, rfl, lz, _, _, rfl, rfl, true, congrArg V.bl (decide_eq_true (by omega)), iteT ⟨_, _, rfl, rfl, false, congrArg V.bl (decide_eq_false (by omega)), iteT ?_⟩⟩
          rw [← e]
          exact k _ (Same.refl _)
      · have e : wordD (.str x) = false := by
          show (decide (1 ≤ x.length) && (decide (x.length ≤ 8) && (sgB x).all id)) = false
          rw [decide_eq_false h1, Bool.false_and]
        refine ⟨_, rfl, x, rfl, lz, _, _, rfl, rfl, false, congrArg V.bl (decide_eq_false (by omega)), iteF ⟨false, rfl, iteT ?_⟩⟩
        rw [← e]
        exact k _ (Same.refl _)
    · refine ⟨_, rfl, _, _, _, _, false, rfl, .ty _, hv.ty, ?_, false, rfl, iteT ?_⟩
      · rw [← no]
        exact kit_str K d
      · rw [← wordD_no no]
        exact k _ (Same.refl _)
def spWop (K : Frag) : Sp := fun vs H Q _ => ∃ v d, vs = [v] ∧ Gd K H v d ∧ Q (.bl (wopD d)) H
theorem ok_wop {f : Addr} {fd : FuncData} (F : Fun K "is_word_of_plans" "is_word_of_plans" sIwp f fd) (T : TxtR K mg w aF aM aD CE aE) : FnOk P w K mg base CX0 1 f fd ["value"] (spWop K) := by
  refine F.ok scIwp (fun vs H Q E h => ?_) (fun cdv A outer s H vs Q E hr h => ?_)
  · obtain ⟨z, d, rfl, _⟩ := h
    rfl
  · obtain ⟨v, d, rfl, hv, k⟩ := h
    obtain ⟨es, n, D⟩ := T.dF
    refine ⟨_, pss_one (ps_ret (pe_and (pe_callB call_isi (by rfl) T.isinstance (by decide +kernel) (pa_cons (pv 0) (pa_cons (pe_bltn (v := .ty "str") (by rfl) T.str (by decide +kernel) rfl (by decide) (by decide)) pa_nil)))
      (pe_one (pe_cmpR (op_in_kd D) (pv 0) (pe_glob (v := .ref aF) (by rfl) T.gF rfl) (by rfl))))), ?_⟩
    rcases str_cases d with ⟨z, rfl⟩ | no
    · obtain rfl : v = .str z := by
        cases hv with
        | str _ h => rfl
      obtain ⟨r, hr, rl⟩ := T.fF z
      refine ⟨_, rfl, _, _, _, _, true, rfl, .ty _, .base (.str z), (by rfl), true, rfl, iteT ⟨_, rfl, z, r, rfl, rfl, hr, ?_⟩⟩
      rw [relI_some rl]
      exact k
    · refine ⟨_, rfl, _, _, _, _, false, rfl, .ty _, hv.ty, by rw [← no]; exact kit_str K d, false, rfl, iteF ?_⟩
      rw [← wopD_no no]
      exact k
def spAl (K : Frag) : Sp := fun vs H Q _ => ∃ v d b, vs = [v, .bl b] ∧ Gd K H v d ∧ ∀ H', Same H H' → Q (.bl (aloneD b d)) H'
theorem scAl : FnScope ["value", "is_within"] ["value", "is_within"] (defScope sAl) := ⟨rfl, rfl, rfl, by decide +kernel, rfl, by decide +kernel, by decide +kernel⟩
theorem ok_al {f aW aI aH : Addr} {fd fW fI fH : FuncData} (F : Fun K "_is_right_alone" "_is_right_alone" sAl f fd) (FW : Fun K "is_word" "is_word" sWord aW fW) (FI : Fun K "is_word_of_plans" "is_word_of_plans" sIwp aI fI) (FH : Fun K "has_right_number" "has_right_number" sHrn aH fH)
    (gW : mg "is_word" = some (.ref aW)) (gI : mg "is_word_of_plans" = some (.ref aI)) (gH : mg "has_right_number" = some (.ref aH)) (T : TxtR K mg w aF aM aD CE aE) (TK : TxtK mg) : FnOk P w K mg base CX0 2 f fd ["value", "is_within"] (spAl K) := by
  have GW : FnOk P w K mg base CX0 1 aW fW ["value"] (spWord K) := ok_word FW T TK
  have GI : FnOk P w K mg base CX0 1 aI fI ["value"] (spWop K) := ok_wop FI T
  have GH : FnOk P w K mg base CX0 1 aH fH ["word", "many"] spHrn := ok_hrn FH T
  have bW : Binds K fW ["value"] [] := FW.binds (ps := ["value"]) fun _ _ _ _ _ _ us hl => match us, hl with | [_], _ => rfl
  have bI : Binds K fI ["value"] [] := FI.binds (ps := ["value"]) fun _ _ _ _ _ _ us hl => match us, hl with | [_], _ => rfl
  have bH : Binds K fH ["word", "many"] [] := FH.binds (ps := ["word", "many"]) fun _ _ _ _ _ _ us hl => match us, hl with | [_, _], _ => rfl
  refine F.ok scAl (fun vs H Q E h => ?_) (fun cdv A outer s H vs Q E hr h => ?_)
  · obtain ⟨v, d, b, rfl, _⟩ := h
    rfl
  · obtain ⟨v, d, b, rfl, hv, k⟩ := h
    refine' ⟨_, pss_cons ?s1 (pss_cons ?s2 (pss_cons ?s3 (pss_one ?s4))), ?q⟩
    case s1 =>
      refine' ps_if (pt_not (pt_val ?a)) (pss_one (ps_ret ?r)) pss_nil
      case a => exact pe_callB call_isi (by rfl) T.isinstance (by decide +kernel) (pa_cons (pv 0) (pa_cons (pe_bltn (v := .ty "tuple") (by rfl) TK.tuple (by decide +kernel) rfl (by decide) (by decide)) pa_nil))
      case r => exact pe_call GW hr rfl gW FW.kp bW .nil pass0 (pa_cons (pv 0) pa_nil)
    case s2 =>
      refine' ps_if (PW.pt (pw_or (pt_not (pt_truth (pv 0) (fun _ => rfl))) (pw_or1 (pt_not (pt_val ?b))))) (pss_one (ps_ret pe_bl)) pss_nil
      case b => exact pe_call GI hr rfl gI FI.kp bI .nil pass0 (pa_cons (pe_ix ix_tup (pv 0) pe_int (fun _ _ => rfl)) pa_nil)
    case s3 =>
      refine' ps_if (PW.pt (pw_and (pt_val (pv 1)) (pw_and1 ?c))) (pss_one (ps_ret pe_bl)) pss_nil
      case c => exact pt_cmpR op_eq (pe_ix ix_tup (pv 0) pe_int (fun _ _ => rfl)) pe_str (nomark _)
    case s4 =>
      refine' ps_ret ?d
      case d => exact pe_call GH hr rfl gH FH.kp bH .nil pass0 (pa_cons (pe_ix ix_tup (pv 0) pe_int (fun _ _ => rfl)) (pa_cons (pe_op op_sub (pe_callB call_len_seq (by rfl) T.len PySem.boot_len (pa_cons (pv 0) pa_nil)) pe_int) pa_nil))
    case q =>
      have ty := hv.ty
      have kt := kit_tup K d
      rcases tup_cases d with ⟨ds, rfl⟩ | no
      · refine ⟨_, rfl, _, _, _, _, true, rfl, .ty _, ty, kt, true, rfl, iteF ?_⟩
        cases hv with
        | @tup a xs _ hs hp =>
          have lx := hp.len
          cases hp with
          | nil => exact ⟨_, rfl, false, .inr (.inl ⟨_, hs, rfl⟩), iteT (iteT (k H (Same.refl _)))⟩
          | @cons x d0 xs ds0 h0 hp =>
            have hx : atI (x :: xs) ((0 : Nat) : Int) = some x := atI_nat rfl
            refine ⟨_, rfl, true, .inr (.inl ⟨_, hs, rfl⟩), iteF ⟨_, rfl, a, _, 0, x, rfl, rfl, hs, hx, x, d0, rfl, h0, ?_⟩⟩
            rcases str_cases d0 with ⟨y, rfl⟩ | no
            · obtain rfl : x = .str y := by
                cases h0 with
                | str _ h => rfl
              have eq : aloneD b (.tuple (.str y :: ds0)) = ((fewest y).isSome && (!(b && decide (y = "beside")) && rightNo y ds0.length)) := rfl
              rw [eq] at k
              cases hf : (fewest y).isSome with
              | false =>
                rw [hf] at k
                exact ⟨false, congrArg V.bl hf, iteT (k H (Same.refl _))⟩
              | true =>
                rw [hf] at k
                refine ⟨true, congrArg V.bl hf, iteF ⟨_, rfl, b, rfl, ?_⟩⟩
                have eb : decide (V.str y = V.str (Str.ofString "beside")) = decide (y = "beside") := by
                  by_cases h : y = "beside"
                  · rw [decide_eq_true h, decide_eq_true (by rw [h])]
                  · rw [decide_eq_false h, decide_eq_false (fun e => h (by injection e))]
                have num : (((V.str y :: xs).length : Nat) : Int) - 1 = (ds0.length : Nat) := by
                  have : (V.str y :: xs).length = ds0.length + 1 := lx
                  omega
                cases b with
                | false =>
                  refine iteF (iteF ⟨_, rfl, a, _, 0, _, rfl, rfl, hs, hx, _, rfl, a, _, rfl, .inr hs, _, _, rfl, rfl, y, _, rfl, hf, ?_⟩)
                  rw [num]
                  exact k H (Same.refl _)
                | true =>
                  refine iteT ⟨_, rfl, a, _, 0, _, rfl, rfl, hs, hx, rfl, decide (y = "beside"), congrArg V.bl eb, ?_⟩
                  cases hb : decide (y = "beside") with
                  | true =>
                    rw [hb] at k
                    exact iteT (k H (Same.refl _))
                  | false =>
                    rw [hb] at k
                    refine iteF ⟨_, rfl, a, _, 0, _, rfl, rfl, hs, hx, _, rfl, a, _, rfl, .inr hs, _, _, rfl, rfl, y, _, rfl, hf, ?_⟩
                    rw [num]
                    exact k H (Same.refl _)
            · have e0 : aloneD b (.tuple (d0 :: ds0)) = false := by
                cases d0 with
                | str x => cases no
                | _ => rfl
              rw [e0] at k
              exact ⟨false, congrArg V.bl (wopD_no no), iteT (k H (Same.refl _))⟩
      · rw [alone_no no] at k
        exact ⟨_, rfl, _, _, _, _, false, rfl, .ty _, ty, by rw [← no]; exact kt, false, rfl, iteT ⟨_, rfl, v, d, rfl, hv, fun H' s' => k H' s'⟩⟩
end
end Fp1
set_option Elab.async false
set_option linter.all false
set_option maxRecDepth 100000
set_option maxHeartbeats 8000000
/-! check_plan, is_plan -/
namespace Fp1
open PySem PySem.Spec PyProof.Rows L2 Fh Fs
open PySem.W (Frag)
abbrev FunCk (K : Frag) (f : Addr) (fd : FuncData) : Prop := FunD K "check_plan" "check_plan" (defArgs sCk) (defBody sCk) (defScope sCk) [.bl false] [] f fd
section
variable {P : Program} {w : World} {K : Frag} {mg : Str → Option Value} {base : Heap} {aF aM aD CE aE CP fP : Addr}
theorem ck_two {f : Addr} {fd : FuncData} (F : FunCk K f fd) : Binds K fd ["plan", "is_within"] [] := by
  obtain ⟨ds, hv, hb⟩ := FunD.binds1 (ps := ["plan", "is_within"]) F 2 1 (by simp) rfl (fun T kV doc pm an cdv ct us its hu hi => match us, its, hu, hi with | [_, _], [_], _, _ => ⟨_, rfl, rfl⟩)
  cases hv
  exact hb
theorem ck_one {f : Addr} {fd : FuncData} (F : FunCk K f fd) : ∃ ds, Vals [V.bl false] ds ∧ Binds K fd ["plan", "is_within"] ds :=
  FunD.binds1 (ps := ["plan", "is_within"]) F 1 0 (by simp) rfl (fun T kV doc pm an cdv ct us its hu hi => match us, its, hu, hi with | [_], [_], _, _ => ⟨_, rfl, rfl⟩)
/-- InvalidPlan of a value, or the end -/
def spCk (K : Frag) (CP : Addr) (n : Nat) : Sp := fun vs H Q E => ∃ v d b r, vs = [v, .bl b] ∧ Gd K H v d ∧ chk n b d = some r ∧ (r = none → ∀ H', Same H H' → Q .non H') ∧
  ∀ e, r = some e → ∀ v' dd H', Same H H' → Gd K H' v' e → H' dd = some (.xd [("value", v')]) → E (.ref CP) (some dd) H'
theorem scCk : FnScope ["plan", "is_within", "part"] ["plan", "is_within"] (defScope sCk) := ⟨rfl, rfl, rfl, by decide +kernel, rfl, by decide +kernel, by decide +kernel⟩
theorem step_ck {n kk : Nat} {sp' : Sp} {f aA aW aI aH : Addr} {fd fA fW fI fH : FuncData} (hk : 2 ≤ kk) (F : FunCk K f fd) (FA : Fun K "_is_right_alone" "_is_right_alone" sAl aA fA) (FW : Fun K "is_word" "is_word" sWord aW fW) (FI : Fun K "is_word_of_plans" "is_word_of_plans" sIwp aI fI) (FH : Fun K "has_right_number" "has_right_number" sHrn aH fH)
    (gF : mg "check_plan" = some (.ref f)) (gA : mg "_is_right_alone" = some (.ref aA)) (gW : mg "is_word" = some (.ref aW)) (gI : mg "is_word_of_plans" = some (.ref aI)) (gH : mg "has_right_number" = some (.ref aH)) (T : TxtR K mg w aF aM aD CE aE) (TK : TxtK mg) (TE : PySem.ErrP.ErrPxt K mg CP fP)
    (GC : FnOk P w K mg base (L2.CX P w) kk f fd ["plan", "is_within"] sp') (hs : ∀ j, n = j + 1 → sp' = spCk K CP j) : FnOk P w K mg base (L2.CX P w) (kk + 1) f fd ["plan", "is_within"] (spCk K CP n) := by
  have GA : FnOk P w K mg base CX0 2 aA fA ["value", "is_within"] (spAl K) := ok_al FA FW FI FH gW gI gH T TK
  have bA : Binds K fA ["value", "is_within"] [] := FA.binds (ps := ["value", "is_within"]) fun _ _ _ _ _ _ us hl => match us, hl with | [_, _], _ => rfl
  have bC : Binds K fd ["plan", "is_within"] [] := ck_two F
  refine FunD.ok F scCk (fun vs H Q E h => ?_) (fun cdv A outer s H vs Q E hr h => ?_)
  · obtain ⟨v, d, b, r, rfl, _⟩ := h
    rfl
  · obtain ⟨v, d, b, r, rfl, hv, er, k1, k2⟩ := h
    have hr2 : Room 2 _ := hr.mono hk
    have hr1 : Room 1 _ := hr.mono (by omega)
    refine' ⟨_, pss_cons ?s1 (pss_one ?s2), ?q⟩
    case s1 =>
      refine' ps_if (pt_not (pt_val ?a)) (pss_one (ps_raiseErrP rfl TE hr1 (takes_of rfl rfl rfl rfl) ?d)) pss_nil
      case a => exact pe_call GA hr2 rfl gA FA.kp bA .nil pass0 (pa_cons (pv 0) (pa_cons (pv 1) pa_nil))
      case d => exact pa_cons (pv 0) pa_nil
    case s2 =>
      refine' ps_if (pt_val ?a) (pss_one ?f) pss_nil
      case a => exact pe_callB call_isi (by rfl) T.isinstance (by decide +kernel) (pa_cons (pv 0) (pa_cons (pe_bltn (v := .ty "tuple") (by rfl) TK.tuple (by decide +kernel) rfl (by decide) (by decide)) pa_nil))
      case f =>
        refine' ps_for (passes_of rfl) rfl (pi_tup (pe_slice sl_tupA (pv 0) (po_some pe_int) po_none)) (pg_name (i := 2) scCk.nd rfl (Or.inl rfl)) (pss_one (ps_expr ?c))
        case c =>
          refine' pe_call GC hr rfl gF F.kp bC .nil (passes_call (takes_of rfl rfl rfl rfl) fun _ _ _ _ h => h) (pa_cons (pv 2) (pa_cons (pe_or (pv 1) (pe_one ?o)) pa_nil))
          case o => exact pe_cmpR op_eq (pe_ix ix_tup (pv 0) pe_int (fun _ _ => rfl)) pe_str (nomark _)
    case q =>
      cases n with
      | zero => cases er
      | succ n =>
      obtain rfl := hs n rfl
      have er2 : (if aloneD b d = false then some (some d) else chkP (chk n) b d) = some r := er
      clear er
      refine ⟨_, rfl, _, rfl, v, d, b, rfl, hv, fun H1 s1 => ?_⟩
      cases ea : aloneD b d with
      | false =>
        rw [if_pos ea] at er2
        exact ⟨_, rfl, iteT ⟨_, rfl, _, rfl, fun dd ndd => k2 d (Option.some.inj er2).symm v dd _ (s1.trans (Same.new ndd)) (hv.same (s1.trans (Same.new ndd))) upd_same⟩⟩
      | true =>
        rw [if_neg (by rw [ea]; exact fun z => nomatch z)] at er2
        have hv1 := hv.same s1
        have ty := hv1.ty
        have kt := kit_tup K d
        refine ⟨_, rfl, iteF ⟨_, rfl, _, _, _, _, isTup d, rfl, .ty _, ty, kt, _, rfl, ?_⟩⟩
        rcases tup_cases d with ⟨ds, rfl⟩ | no
        · refine iteT ?_
          cases hv1 with
          | @tup a xs _ hs hp =>
          cases hp with
          | nil => cases ea
          | @cons x d0 xs ds0 h0 hp =>
          rcases str_cases d0 with ⟨y, rfl⟩ | no
          · obtain rfl : x = .str y := by
              cases h0 with
              | str _ h => rfl
            have er3 : chks (chk n (b || decide (y = "beside"))) ds0 = some r := er2
            clear er2
            refine ⟨_, rfl, 1, rfl, a, _, rfl, hs, ?_, fun _ q nq => ?_⟩
            · rintro ⟨z, _⟩
              have z : min 1 (xs.length + 1) = 0 := z
              omega
            have cv : cutV (V.str y :: xs) (some 1) none = xs := by
              show ((V.str y :: xs).drop (min 1 (xs.length + 1))).take (xs.length + 1 - min 1 (xs.length + 1)) = xs
              rw [show min 1 (xs.length + 1) = 1 by omega, List.drop_one, List.tail_cons, List.take_of_length_le (by omega)]
            rw [cv]
            have sq : Same H1 (upd H1 q (.tup xs)) := Same.new nq
            have gq : (upd H1 q (.tup xs)) q = some (.tup xs) := upd_same
            generalize upd H1 q (.tup xs) = H2 at sq gq ⊢
            have eb : decide (V.str y = V.str (Str.ofString "beside")) = decide (y = "beside") := by
              by_cases h : y = "beside"
              · rw [decide_eq_true h, decide_eq_true (by rw [h])]
              · rw [decide_eq_false h, decide_eq_false (fun e => h (by injection e))]
            have hs2 := (KeepT.of sq).sqT hs
            have hp2 := hp.same sq
            have s2 := s1.trans sq
            have lx := hp.len
            clear sq hs hp s1 nq
            refine ⟨q, rfl, ⟨_, SqT.of gq⟩, ?_⟩
            refine for_it (walk_tup (K := K) (a := q) (xs := xs)) (fun i σ Hh => ∃ o, σ = [some (.ref a), some (.bl b), o] ∧ Same H2 Hh ∧ chks (chk n (b || decide (y = "beside"))) (ds0.drop i) = some r) ⟨none, rfl, Same.refl _, er3⟩ (fun i σ Hh _ ⟨_, _, z, _⟩ => SqT.of (z _ _ gq)) ?_ ?_
            · rintro i x σ Ha Hb hi ⟨o, rfl, sa, ec⟩ ⟨rfl, gx⟩
              have di : i < ds0.length := by omega
              have gd : ds0[i]? = some ds0[i] := List.getElem?_eq_getElem di
              have hx := (hp2.get gx gd).same sa
              rw [List.drop_eq_getElem_cons di] at ec
              generalize ds0[i] = di' at hx ec gd
              have ec2 : (match chk n (b || decide (y = "beside")) di' with | some none => chks (chk n (b || decide (y = "beside"))) (ds0.drop (i + 1)) | r => r) = some r := ec
              clear ec
              have arg : spCk K CP n [x, .bl (b || decide (y = "beside"))] Hb (fun _ H1 => ∃ o, [some (V.ref a), some (V.bl b), some x] = [some (V.ref a), some (V.bl b), o] ∧ Same H2 H1 ∧ chks (chk n (b || decide (y = "beside"))) (ds0.drop (i + 1)) = some r) E := by
                cases e1 : chk n (b || decide (y = "beside")) di' with
                | none => rw [e1] at ec2; cases ec2
                | some r' =>
                  rw [e1] at ec2
                  refine ⟨x, di', _, r', rfl, hx, e1, fun e H' s' => ?_, fun e ee v' dd H' s' gv hdd => ?_⟩
                  · subst e
                    exact ⟨_, rfl, sa.trans s', ec2⟩
                  · subst ee
                    exact k2 e (Option.some.inj ec2).symm v' dd H' (s2.trans (sa.trans s')) gv hdd
              refine ⟨_, rfl, _, rfl, b, rfl, ?_⟩
              cases b with
              | true => exact iteT arg
              | false =>
                refine iteF ⟨_, rfl, a, _, 0, _, rfl, rfl, (KeepT.of sa).sqT hs2, atI_nat rfl, rfl, ?_⟩
                rw [eb]
                exact arg
            · rintro σ Ha ⟨o, rfl, sa, ec⟩
              rw [lx, List.drop_length] at ec
              exact k1 (Option.some.inj ec).symm Ha (s2.trans sa)
          · exfalso
            cases d0 with
            | str x => cases no
            | _ => cases ea
        · rw [no]
          refine iteF (k1 ?_ H1 s1)
          cases d with
          | tuple _ => cases no
          | _ => exact (Option.some.inj er2).symm
/-- all that check_plan leans on -/
structure CkG (K : Frag) (mg : Str → Option Value) (w : World) (aF aM aD CE aE CP fP aC aA aW aI aH : Addr) (fC fA fW fI fH : FuncData) : Prop where
  T : TxtR K mg w aF aM aD CE aE
  TK : TxtK mg
  TE : PySem.ErrP.ErrPxt K mg CP fP
  FC : FunCk K aC fC
  FA : Fun K "_is_right_alone" "_is_right_alone" sAl aA fA
  FW : Fun K "is_word" "is_word" sWord aW fW
  FI : Fun K "is_word_of_plans" "is_word_of_plans" sIwp aI fI
  FH : Fun K "has_right_number" "has_right_number" sHrn aH fH
  gC : mg "check_plan" = some (.ref aC)
  gA : mg "_is_right_alone" = some (.ref aA)
  gW : mg "is_word" = some (.ref aW)
  gI : mg "is_word_of_plans" = some (.ref aI)
  gH : mg "has_right_number" = some (.ref aH)
variable {aC aA aW aI aH : Addr} {fC fA fW fI fH : FuncData}
theorem ok_ck (G : CkG K mg w aF aM aD CE aE CP fP aC aA aW aI aH fC fA fW fI fH) : ∀ n, FnOk P w K mg base (L2.CX P w) (n + 3) aC fC ["plan", "is_within"] (spCk K CP n)
  | 0 => by
    refine FunD.ok G.FC scCk (fun vs H Q E h => ?_) (fun cdv A outer s H vs Q E hr h => ?_)
    · obtain ⟨v, d, b, r, rfl, _⟩ := h
      rfl
    · obtain ⟨v, d, b, r, rfl, _, er, _⟩ := h
      cases er
  | n + 1 => step_ck (by omega) G.FC G.FA G.FW G.FI G.FH G.gC G.gA G.gW G.gI G.gH G.T G.TK G.TE (ok_ck G n) (fun j e => by cases e; rfl)
end
end Fp1
set_option Elab.async false
set_option linter.all false
set_option maxRecDepth 100000
set_option maxHeartbeats 4000000
namespace Fp1
open PySem PySem.Spec PyProof.Rows L2 Fh Fs
open PySem.W (Frag)
/-! ### the pen of this law -/
abbrev sPen : Stmt := top 80
abbrev sDraw : Stmt := top 81
abbrev sPick : Stmt := top 82
structure TxtP (mg : Str → Option Value) : Prop where
  list : mg "list" = none
  int : mg "int" = none
  len : mg "len" = none
section
variable {P : Program} {w : World} {K : Frag} {mg : Str → Option Value} {base : Heap}
theorem scPen : FnScope ["_law_script"] ["_law_script"] (defScope sPen) := ⟨rfl, rfl, rfl, by decide +kernel, rfl, by decide +kernel, by decide +kernel⟩
theorem ok_pen {f : Addr} {fd : FuncData} (F : Fun K "_law_pen" "_law_pen" sPen f fd) (T : TxtP mg) : FnOk P w K mg base CX0 1 f fd ["_law_script"] (spPen K) := by
  refine F.ok scPen (fun vs H Q E h => ?_) (fun cdv A outer s H vs Q E hr h => ?_)
  · obtain ⟨a, ns, rfl, _⟩ := h
    rfl
  · obtain ⟨a, ns, rfl, hS, hn, k⟩ := h
    refine ⟨_, pss_one (ps_ret (pe_disp (pps_cons pe_str (pe_callTy call_list_of (by rfl) T.list (by decide +kernel) (pa_cons (pe_slice sl_list (pv 0) po_none (po_some pe_int)) pa_nil))
      (pps_cons pe_str pe_int (pps_cons pe_str pe_int pps_nil))) (by rfl) (by rfl) (fun z => by cases z) (by decide))), ?_⟩
    intro p np
    obtain ⟨ms, em, lm⟩ := cut_ints ns none (some 63)
    refine ⟨.ref a, rfl, 63, rfl, a, ns.map V.int, rfl, (Same.new np).seq hS, fun q nq => ?_⟩
    have pq : p ≠ q := fun z => by
      rw [← z, upd_same] at nq
      exact nomatch nq
    have hq : H q = none := by
      rw [upd_ne (Ne.symm pq)] at nq
      exact nq
    refine ⟨q, _, rfl, Or.inl (SqL.of upd_same), fun c nc => ?_⟩
    have pc : p ≠ c := fun z => by
      rw [← z, upd_ne pq, upd_same] at nc
      exact nomatch nc
    have qc : q ≠ c := fun z => by
      rw [← z, upd_same] at nc
      exact nomatch nc
    have hc : H c = none := by
      rw [upd_ne (Ne.symm qc), upd_ne (Ne.symm pc)] at nc
      exact nc
    refine ⟨by rw [upd_ne pc, upd_ne pq, upd_same], penKV c 0 0, rfl, (show 3 ≤ 15 by decide), ?_⟩
    refine k p c _ (fun b u z => ?_) np ⟨pc, ms, 0, 0, upd_same, ?_, by omega, by omega, by omega⟩
    · rw [upd_ne (ne_of_none z np), upd_ne (ne_of_none z hc), upd_ne (ne_of_none z hq), upd_ne (ne_of_none z np)]
      exact z
    · rw [upd_ne (Ne.symm pc), upd_same, em]
theorem scDraw : FnScope ["_law_pen_here", "_law_size", "_law_digit", "_law_spot", "_law_cell", "_law_mixed"] ["_law_pen_here", "_law_size"] (defScope sDraw) := ⟨rfl, rfl, rfl, by decide +kernel, rfl, by decide +kernel, by decide +kernel⟩
theorem ok_draw {f : Addr} {fd : FuncData} (F : Fun K "_law_draw" "_law_draw" sDraw f fd) (T : TxtP mg) : FnOk P w K mg base CX0 1 f fd ["_law_pen_here", "_law_size"] spDraw := by
  refine F.ok scDraw (fun vs H Q E h => ?_) (fun cdv A outer s H vs Q E hr h => ?_)
  · obtain ⟨p, c, n, m, rfl, _⟩ := h
    rfl
  · obtain ⟨p, c, n, m, rfl, hP, hn, hm, hM, k⟩ := h
    obtain ⟨cs, sp, re, S, s0, s1⟩ := hP.open
    have hu := hu_of hr
    have hu64 := hr.units
    have nc := S.pc
    refine ⟨_, pss_cons (ps_if (pt_cmpR op_ge (pe_rest hu (pv 0)) (pv 1) (nomark _))
        (pss_cons (ps_set (i := 2) scDraw.nd rfl (Or.inl rfl) (pe_op op_modN (pe_callTy call_int1 (by rfl) T.int (by decide +kernel) (pa_cons (pe_rest hu (pv 0)) pa_nil)) (pv 1)))
        (pss_cons (ps_dput hu (pv 0) pe_str (pe_op op_fdivN (pe_rest hu (pv 0)) (pv 1)) rfl)
        (pss_one (ps_ret (pv 2))))) pss_nil)
      (pss_cons (ps_set (i := 3) scDraw.nd rfl (Or.inl rfl) (pe_spot hu (pv 0)))
      (pss_cons (ps_dput hu (pv 0) pe_str (pe_op op_add (pv 3) pe_int) rfl)
      (pss_cons (ps_set (i := 4) scDraw.nd rfl (Or.inl rfl) (pe_op op_add (pe_op op_mul pe_int (pv 3)) pe_int))
      (pss_cons (PS.imp (t' := tCellIf) (ps_if (pt_cmpR (op_neD hu64) (pe_cells hu (pv 0)) (pe_lst pa_nil) (nomark _))
        (pss_one (ps_set (i := 4) scDraw.nd rfl (Or.inl rfl) (pe_ix ix_list (pe_cells hu (pv 0)) (pe_op op_modN (pe_callTy call_int1 (by rfl) T.int (by decide +kernel) (pa_cons (pv 3) pa_nil)) (pe_callB call_len_seq (by rfl) T.len PySem.boot_len (pa_cons (pe_cells hu (pv 0)) pa_nil))) (fun _ _ => rfl)))) pss_nil) (fun D σ H2 ⟨p, c, cs, z, y, re, sz, m, dg, mx, es, S, z0, q⟩ => by
          subst es
          refine ⟨p, c, cs, sz, re, rfl, S, (Nat.zero_le _), fun q1 n1 => ?_⟩
          have S1 := S.same (Same.new (o := .lst []) n1)
          refine ⟨_, _, Dp.lst (SqL.of S1.hc) (dp_ints cs), Dp.lst (SqL.of upd_same) .nil, shaped_ints cs, by decide +kernel, _, rfl, ?_⟩
          cases cs with
          | nil => exact iteF (q y _ (Same.new n1))
          | cons c0 cr =>
            refine iteT ?_
            have pos : (0 : Int) < ((c0 :: cr : List Int).length : Int) := by
              rw [List.length_cons]
              omega
            have i0 : 0 ≤ z.fmod ((c0 :: cr : List Int).length : Int) := Int.fmod_nonneg_of_pos z pos
            have i1 : z.fmod ((c0 :: cr : List Int).length : Int) < ((c0 :: cr : List Int).length : Int) := Int.fmod_lt_of_pos z pos
            obtain ⟨j, ej⟩ := Int.eq_ofNat_of_zero_le i0
            have hj : j < (c0 :: cr : List Int).length := by omega
            refine ⟨p, c, c0 :: cr, sz, re, rfl, S1, _, rfl, Or.inl ⟨_, rfl, p, c, c0 :: cr, sz, re, rfl, S1, c, _, rfl, Or.inl (SqL.of S1.hc), _, _, rfl, rfl, ?_, ?_⟩⟩
            · rw [List.length_map]
              omega
            · refine ⟨c, _, _, .int ((c0 :: cr : List Int)[j]'hj), rfl, rfl, SqL.of S1.hc, ?_, q _ _ (Same.new n1)⟩
              rw [List.length_map, ej]
              exact atI_nat (int_map_get hj)))
      (pss_cons (ps_if (PW.pt (pw_and (pt_cmpR op_lt (pv 3) (pe_callB call_len_seq (by rfl) T.len PySem.boot_len (pa_cons (pe_cells hu (pv 0)) pa_nil)) (nomark _)) (pw_and1 (pt_cmpR op_ge (pv 4) (pe_op op_pow pe_int pe_int) (nomark _)))))
        (pss_cons (ps_dput hu (pv 0) pe_str (pe_op op_fdivN (pe_op op_sub (pv 4) (pe_op op_pow pe_int pe_int)) (pv 1)) rfl)
        (pss_one (ps_ret (pe_op op_modN (pe_callTy call_int1 (by rfl) T.int (by decide +kernel) (pa_cons (pe_op op_sub (pv 4) (pe_op op_pow pe_int pe_int)) pa_nil)) (pv 1))))) pss_nil)
      (pss_cons (ps_set (i := 5) scDraw.nd rfl (Or.inl rfl) (pe_op op_mul (pe_op op_modN (pe_callTy call_int1 (by rfl) T.int (by decide +kernel) (pa_cons (pv 4) pa_nil)) pe_int) pe_int))
      (pss_cons (ps_set (i := 5) scDraw.nd rfl (Or.inl rfl) (pe_op op_modN (pe_callTy call_int1 (by rfl) T.int (by decide +kernel) (pa_cons (pe_op op_add (pe_op op_add (pe_op op_add (pv 5) (pe_op op_mul (pe_op op_mul pe_int (pv 3)) (pv 3))) (pe_op op_mul pe_int (pv 3))) pe_int) pa_nil)) pe_int))
      (pss_cons (ps_set (i := 5) scDraw.nd rfl (Or.inl rfl) (pe_op op_modN (pe_callTy call_int1 (by rfl) T.int (by decide +kernel) (pa_cons (pe_op op_mul (pv 5) (pe_op op_add (pv 5) pe_int)) pa_nil)) pe_int))
      (pss_one (ps_ret (pe_op op_modN (pe_callTy call_int1 (by rfl) T.int (by decide +kernel) (pa_cons (pe_op op_fdivN (pe_op op_modN (pe_callTy call_int1 (by rfl) T.int (by decide +kernel) (pa_cons (pe_op op_add (pe_op op_mul (pv 5) (pv 5)) (pe_op op_mul pe_int (pv 5))) pa_nil)) pe_int) pe_int) pa_nil)) (pv 1)))))))))))), ?_⟩
    have modLo : ∀ z : Int, 0 ≤ z.fmod m := fun z => Int.fmod_nonneg_of_pos z (by omega)
    have modHi : ∀ z : Int, z.fmod m < m := fun z => Int.fmod_lt_of_pos z (by omega)
    have mm : m ≠ 0 := by omega
    have mq : m ≠ 0 ∧ m.natAbs < 1073741824 := ⟨mm, by omega⟩
    -- if pen['rest'] >= size
    refine ⟨p, c, cs, sp, re, rfl, S, _, rfl, _, _, rfl, rfl, _, rfl, ?_⟩
    refine ite2 (fun _ => ?_) (fun _ => ?_)
    · refine ⟨p, c, cs, sp, re, rfl, S, Or.inl ⟨_, rfl, _, rfl, _, _, rfl, rfl, mm, ?_⟩⟩
      refine ⟨p, c, cs, sp, re, rfl, S, _, rfl, _, _, rfl, rfl, mq, _, rfl, p, _, rfl, DPut.k (k := Sum.inr "rest") S.hp (by show 3 < sizeLine; decide), ?_⟩
      rw [put_rest]
      refine ⟨_, rfl, k _ _ (modLo _) (modHi _) (S.put.at_ s0 (by omega)) (But.refl p H).upd⟩
    -- spot = pen['spot']; pen['spot'] = spot + 1; cell = 67 * spot + 41
    refine ⟨p, c, cs, sp, re, rfl, S, ?_⟩
    refine ⟨_, rfl, _, _, rfl, rfl, _, rfl, p, _, rfl, DPut.k (k := Sum.inr "spot") S.hp (by show 3 < sizeLine; decide), ?_⟩
    rw [put_spot]
    have S1 : PenS (upd H p (.dK (penKV c (sp + 1) re))) p c cs (sp + 1) re := S.put
    have B1 : But p H (upd H p (.dK (penKV c (sp + 1) re))) := (But.refl p H).upd
    generalize upd H p (.dK (penKV c (sp + 1) re)) = H1 at S1 B1 ⊢
    refine ⟨_, rfl, _, _, rfl, rfl, Or.inl (by omega), _, _, rfl, rfl, ?_⟩
    refine ⟨p, c, cs, sp, _, re, sp + 1, _, _, _, rfl, S1, s0, fun cell H2 z2 => ?_⟩
    have S2 := S1.same z2
    have B2 : But p H H2 := B1.trans (But.of z2)
    -- if spot < len(cells) and cell >= 10 ** 18
    refine ⟨_, rfl, p, c, cs, sp + 1, re, rfl, S2, c, _, rfl, Or.inl (SqL.of S2.hc), _, _, rfl, rfl, _, rfl, ?_⟩
    refine ite2 (fun _ => ?_) (fun _ => ?_)
    · refine ⟨_, rfl, _, _, rfl, rfl, ⟨by decide, by decide, by decide⟩, _, _, rfl, rfl, _, rfl, ?_⟩
      refine ite2 (fun _ => ?_) (fun _ => ?_)
      · refine ⟨_, rfl, _, _, rfl, rfl, ⟨by decide, by decide, by decide⟩, _, _, rfl, rfl, _, rfl, _, _, rfl, rfl, mq, _, rfl, p, _, rfl, DPut.k (k := Sum.inr "rest") S2.hp (by show 3 < sizeLine; decide), ?_⟩
        rw [put_rest]
        refine ⟨_, rfl, _, _, rfl, rfl, ⟨by decide, by decide, by decide⟩, _, _, rfl, rfl, Or.inl ⟨_, rfl, _, rfl, _, _, rfl, rfl, mm, ?_⟩⟩
        exact k _ _ (modLo _) (modHi _) (S2.put.at_ (by omega) (by omega)) B2.upd
      · refine ⟨_, rfl, Or.inl ⟨_, rfl, _, _, rfl, rfl, (show (2147483353 : Int) ≠ 0 by decide), _, _, rfl, rfl, Or.inl ?_, ?_⟩⟩
        · exact fm_lo _ _ (by decide) (by decide)
        refine ⟨_, rfl, _, rfl, _, _, rfl, rfl, Or.inl ⟨by decide, by decide⟩, _, rfl, _, _, rfl, rfl, Or.inl ?_, _, _, rfl, rfl, _, rfl, _, _, rfl, rfl, Or.inl ⟨by decide, by decide⟩, _, _, rfl, rfl, _, _, rfl, rfl, Or.inl ⟨_, rfl, _, _, rfl, rfl, (show (2147483399 : Int) ≠ 0 by decide), ?_⟩⟩
        · omega
        refine ⟨_, rfl, _, rfl, _, _, rfl, rfl, _, _, rfl, rfl, Or.inl ?_, Or.inl ⟨_, rfl, _, _, rfl, rfl, (show (2147483423 : Int) ≠ 0 by decide), ?_⟩⟩
        · exact fm_lo _ _ (by decide) (by decide)
        refine ⟨_, rfl, _, rfl, _, _, rfl, rfl, Or.inl ?_, _, rfl, _, _, rfl, rfl, Or.inl ⟨by decide, by decide⟩, _, _, rfl, rfl, Or.inl ⟨_, rfl, _, _, rfl, rfl, (show (2147483477 : Int) ≠ 0 by decide), _, _, rfl, rfl, ⟨by decide, by decide⟩, Or.inl ⟨_, rfl, _, rfl, _, _, rfl, rfl, mm, ?_⟩⟩⟩
        · exact fm_lo _ _ (by decide) (by decide)
        exact k _ _ (modLo _) (modHi _) (S2.at_ (by omega) (by omega)) B2
    · refine iteF ?_
      refine ⟨_, rfl, Or.inl ⟨_, rfl, _, _, rfl, rfl, (show (2147483353 : Int) ≠ 0 by decide), _, _, rfl, rfl, Or.inl ?_, ?_⟩⟩
      · exact fm_lo _ _ (by decide) (by decide)
      refine ⟨_, rfl, _, rfl, _, _, rfl, rfl, Or.inl ⟨by decide, by decide⟩, _, rfl, _, _, rfl, rfl, Or.inl ?_, _, _, rfl, rfl, _, rfl, _, _, rfl, rfl, Or.inl ⟨by decide, by decide⟩, _, _, rfl, rfl, _, _, rfl, rfl, Or.inl ⟨_, rfl, _, _, rfl, rfl, (show (2147483399 : Int) ≠ 0 by decide), ?_⟩⟩
      · omega
      refine ⟨_, rfl, _, rfl, _, _, rfl, rfl, _, _, rfl, rfl, Or.inl ?_, Or.inl ⟨_, rfl, _, _, rfl, rfl, (show (2147483423 : Int) ≠ 0 by decide), ?_⟩⟩
      · exact fm_lo _ _ (by decide) (by decide)
      refine ⟨_, rfl, _, rfl, _, _, rfl, rfl, Or.inl ?_, _, rfl, _, _, rfl, rfl, Or.inl ⟨by decide, by decide⟩, _, _, rfl, rfl, Or.inl ⟨_, rfl, _, _, rfl, rfl, (show (2147483477 : Int) ≠ 0 by decide), _, _, rfl, rfl, ⟨by decide, by decide⟩, Or.inl ⟨_, rfl, _, rfl, _, _, rfl, rfl, mm, ?_⟩⟩⟩
      · exact fm_lo _ _ (by decide) (by decide)
      exact k _ _ (modLo _) (modHi _) (S2.at_ (by omega) (by omega)) B2
theorem scPick : FnScope ["_law_pen_here", "_law_items"] ["_law_pen_here", "_law_items"] (defScope sPick) := ⟨rfl, rfl, rfl, by decide +kernel, rfl, by decide +kernel, by decide +kernel⟩
theorem ok_pick {f fD : Addr} {fd fdD : FuncData} (F : Fun K "_law_pick" "_law_pick" sPick f fd) (FD : Fun K "_law_draw" "_law_draw" sDraw fD fdD) (T : TxtP mg) (gD : mg "_law_draw" = some (.ref fD)) : FnOk P w K mg base CX0 2 f fd ["_law_pen_here", "_law_items"] (spPick K) := by
  have GD : FnOk P w K mg base CX0 1 fD fdD ["_law_pen_here", "_law_size"] spDraw := ok_draw FD T
  have bD : Binds K fdD ["_law_pen_here", "_law_size"] [] := FD.binds (ps := ["_law_pen_here", "_law_size"]) fun _ _ _ _ _ _ us hl => match us, hl with | [_, _], _ => rfl
  refine F.ok scPick (fun vs H Q E h => ?_) (fun cdv A outer s H vs Q E hr h => ?_)
  · obtain ⟨p, c, n, l, xs, rfl, _⟩ := h
    rfl
  · obtain ⟨p, c, n, l, xs, rfl, hP, hn, hx, h1, h2, k⟩ := h
    refine ⟨_, pss_one (ps_ret (pe_ix ix_list (pv 1) (pe_call GD hr rfl gD FD.kp bD .nil pass0 (pa_cons (pv 0) (pa_cons (pe_callB call_len_seq (by rfl) T.len PySem.boot_len (pa_cons (pv 1) pa_nil)) pa_nil))) (fun _ _ => rfl))), ?_⟩
    refine ⟨_, rfl, _, rfl, _, rfl, l, xs, rfl, Or.inl (SqL.of hx), p, c, n, _, rfl, hP, hn, by omega, by omega, fun z H' z0 z1 P' B' => ?_⟩
    obtain ⟨j, ej⟩ := Int.eq_ofNat_of_zero_le z0
    have hj : j < xs.length := by omega
    have lp : l ≠ p := fun e => by
      obtain ⟨cs, sp, re, S, _⟩ := hP.open
      rw [e, S.hp] at hx
      exact nomatch hx
    have g : xs[j]? = some (xs[j]'hj) := List.getElem?_eq_getElem hj
    refine ⟨l, xs, _, _, rfl, rfl, SqL.of (B' l _ lp hx), (show atI xs z = some (xs[j]'hj) by rw [ej]; exact atI_nat g), k j _ H' g P' B'⟩
end
section
variable {P : Program} {w : World} {K : Frag} {mg : Str → Option Value} {base : Heap}
/-- a sign of a text is picked -/
def spPickS : Sp := fun vs H Q _ => ∃ (p c : Addr) (n : Nat) (z : Str), vs = [.ref p, .str z] ∧ PenAt H p c n ∧ n ≤ 1000000 ∧ 1 ≤ z.length ∧ z.length ≤ 1000 ∧
  ∀ (i : Nat) (x : Nat) (H' : Hp), z.cps.toList[i]? = some x → PenAt H' p c (n + 1) → But p H H' → Q (.str ⟨#[x]⟩) H'
theorem ok_pickS {f aD : Addr} {fd fD : FuncData} (F : Fun K "_law_pick" "_law_pick" sPick f fd) (FD : Fun K "_law_draw" "_law_draw" sDraw aD fD) (T : TxtP mg) (gD : mg "_law_draw" = some (.ref aD)) : FnOk P w K mg base CX0 2 f fd ["_law_pen_here", "_law_items"] spPickS := by
  have GD : FnOk P w K mg base CX0 1 aD fD ["_law_pen_here", "_law_size"] spDraw := ok_draw FD T
  have bD : Binds K fD ["_law_pen_here", "_law_size"] [] := FD.binds (ps := ["_law_pen_here", "_law_size"]) fun _ _ _ _ _ _ us hl => match us, hl with | [_, _], _ => rfl
  refine F.ok scPick (fun vs H Q E h => ?_) (fun cdv A outer s H vs Q E hr h => ?_)
  · obtain ⟨p, c, n, z, rfl, _⟩ := h
    rfl
  · obtain ⟨p, c, n, z, rfl, hP, hn, h1, h2, k⟩ := h
    refine ⟨_, pss_one (ps_ret (pe_ix ix_str (pv 1) (pe_call GD hr rfl gD FD.kp bD .nil pass0 (pa_cons (pv 0) (pa_cons (pe_callB call_len_str (by rfl) T.len PySem.boot_len (pa_cons (pv 1) pa_nil)) pa_nil))) (fun _ _ => rfl))), ?_⟩
    have lz : z.length ≤ sizeLine := by rw [sizeLine_eq]; omega
    refine ⟨_, rfl, _, rfl, _, rfl, z, rfl, lz, p, c, n, (z.length : Int), rfl, hP, hn, by omega, by omega, fun i H' i0 i1 hP' hb => ?_⟩
    have hi : i.toNat < z.cps.toList.length := by
      have : z.length = z.cps.toList.length := (Array.length_toList).symm
      omega
    have at1 : z.cps.toList[i.toNat]? = some (z.cps.toList[i.toNat]'hi) := List.getElem?_eq_getElem hi
    refine ⟨z, i, _, rfl, rfl, lz, ?_, k i.toNat _ H' at1 hP' hb⟩
    have := atI_nat at1
    rw [Int.toNat_of_nonneg i0] at this
    exact this
end
end Fp1
set_option Elab.async false
set_option linter.all false
set_option maxRecDepth 100000
set_option maxHeartbeats 4000000
set_option Elab.async false
set_option linter.all false
set_option maxRecDepth 100000
set_option maxHeartbeats 4000000
namespace Fp1
open PySem PySem.Spec PyProof.Rows L2 Fh Fs
open PySem.W (Frag)
/-! ### data that stay where all but some stays -/
def Off (N : Addr → Prop) (H H' : Hp) : Prop := ∀ b o, ¬ N b → H b = some o → H' b = some o
theorem Off.trans {N : Addr → Prop} {H H1 H2 : Hp} (a : Off N H H1) (b : Off N H1 H2) : Off N H H2 := fun x o n h => b x o n (a x o n h)
theorem Off.of {N : Addr → Prop} {H H1 : Hp} (a : Same H H1) : Off N H H1 := fun x o _ h => a x o h
theorem Off.but {N : Addr → Prop} {p : Addr} {H H1 : Hp} (hp : N p) (a : But p H H1) : Off N H H1 := fun x o n h => a x o (fun e => n (e ▸ hp)) h
/-- a right plan with names of ns, at most n levels -/
inductive Good (ns : List Str) : Nat → Bool → PyData → Prop where
  | nm {n : Nat} {b : Bool} {y : Str} : y ∈ ns → Good ns n b (.str y)
  | nd {n : Nat} {b : Bool} {y : Str} {ds : List PyData} : rightNo y ds.length = true → ds.length ≤ 4 → (b && decide (y = "beside")) = false → (∀ d ∈ ds, Good ns n (b || decide (y = "beside")) d) → Good ns (n + 1) b (.tuple (.str y :: ds))
/-- the names in a plan -/
def namesIn (rec : PyData → List Str) : PyData → List Str
  | .str y => [y]
  | .tuple (_ :: ds) => ds.flatMap rec
  | _ => []
def namesF : Nat → PyData → List Str
  | 0, .str y => [y]
  | 0, _ => []
  | n + 1, d => namesIn (namesF n) d
theorem names_str (n : Nat) (y : Str) : namesF n (.str y) = [y] := by cases n <;> rfl
theorem names_nd (n : Nat) (y : PyData) (ds : List PyData) : namesF (n + 1) (.tuple (y :: ds)) = ds.flatMap (namesF n) := rfl
/-- as many names as room was taken -/
def Took (n : Nat) (d : PyData) (m m' : Int) : Prop := ((namesF (n + 1) d).length : Int) = m - m' ∧ (0 ≤ m → 0 ≤ m')
def TookL (n : Nat) (ds : List PyData) (m m' : Int) : Prop := ((ds.flatMap (namesF n)).length : Int) = m - m' ∧ (0 ≤ m → 0 ≤ m')
theorem TookL.snoc {n : Nat} {ds : List PyData} {d : PyData} {m m1 m2 : Int} (a : TookL (n + 1) ds m m1) (b : Took n d m1 m2) : TookL (n + 1) (ds ++ [d]) m m2 := by
  refine ⟨?_, fun h => b.2 (a.2 h)⟩
  have e : (ds ++ [d]).flatMap (namesF (n + 1)) = ds.flatMap (namesF (n + 1)) ++ namesF (n + 1) d := by
    rw [List.flatMap_append]
    show _ ++ (namesF (n + 1) d ++ []) = _
    rw [List.append_nil]
  rw [e, List.length_append]
  have := a.1
  have := b.1
  omega
theorem TookL.nil {n : Nat} {m : Int} : TookL n [] m m := ⟨show (0 : Int) = m - m by omega, fun h => h⟩
theorem tNext_go {D : Ends} {σ : L2.St} {H : Hp} (h : D.nx σ H) : tNext D σ H := h
theorem or_b {b : Bool} {y : Str} (h : y ≠ "beside") : (b || decide (y = "beside")) = b := by rw [decide_eq_false h, Bool.or_false]
theorem and_b {b : Bool} {y : Str} (h : y ≠ "beside") : (b && decide (y = "beside")) = false := by rw [decide_eq_false h, Bool.and_false]
end Fp1
set_option Elab.async false
set_option linter.all false
set_option maxRecDepth 100000
set_option maxHeartbeats 4000000
namespace Fp1
open PySem PySem.Spec PyProof.Rows L2 Fh Fs
open PySem.W (Frag)
theorem word_six {y : Str} {m : Int} (h : rightNo y m = true) : y.length ≤ 6 := by
  unfold rightNo fewest at h
  by_cases h1 : y = "then"
  · rw [h1]; decide +kernel
  by_cases h2 : y = "either"
  · rw [h2]; decide +kernel
  by_cases h3 : y = "any"
  · rw [h3]; decide +kernel
  by_cases h4 : y = "again"
  · rw [h4]; decide +kernel
  by_cases h5 : y = "beside"
  · rw [h5]; decide +kernel
  rw [if_neg h1, if_neg h2, if_neg h3, if_neg h4, if_neg h5] at h
  cases h
end Fp1
set_option Elab.async false
set_option linter.all false
set_option maxRecDepth 100000
set_option maxHeartbeats 8000000
/-! text_of, plan_text; right plans -/
namespace Fp1
open PySem PySem.Spec PyProof.Rows L2 Fh Fs
open PySem.W (Frag)
/-- a right plan, n levels at most -/
inductive Rt : Nat → Bool → PyData → Prop where
  | nm {n : Nat} {b : Bool} {y : Str} : wordB y = true → Rt n b (.str y)
  | nd {n : Nat} {b : Bool} {y : Str} {ds : List PyData} : rightNo y ds.length = true → (b && decide (y = "beside")) = false → (∀ d ∈ ds, Rt n (b || decide (y = "beside")) d) → Rt (n + 1) b (.tuple (.str y :: ds))
theorem right_some {y : Str} {m : Int} (h : rightNo y m = true) : (fewest y).isSome = true := by
  unfold rightNo at h
  cases e : fewest y with
  | none => rw [e] at h; cases h
  | some i => rfl
theorem chks_right {rec : PyData → Option (Option PyData)} : ∀ {ds : List PyData}, (∀ d ∈ ds, rec d = some none) → chks rec ds = some none
  | [], _ => rfl
  | d :: ds, h => by
    show (match rec d with | some none => chks rec ds | r => r) = some none
    rw [h d List.mem_cons_self]
    exact chks_right fun e he => h e (List.mem_cons_of_mem _ he)
theorem rt_chk {n : Nat} {b : Bool} {d : PyData} (h : Rt n b d) : chk (n + 1) b d = some none := by
  induction h with
  | nm h =>
    show (if aloneD _ (.str _) = false then _ else some none) = some none
    rw [if_neg]
    rw [alone_no rfl]
    show ¬ wordB _ = false
    rw [h]
    exact fun z => nomatch z
  | @nd n b y ds h1 h2 h3 ih =>
    show (if aloneD b (.tuple (.str y :: ds)) = false then _ else chks (chk (n + 1) (b || decide (y = "beside"))) ds) = some none
    have e : aloneD b (.tuple (.str y :: ds)) = true := by
      show ((fewest y).isSome && (!(b && decide (y = "beside")) && rightNo y ds.length)) = true
      rw [right_some h1, h2, h1]
      rfl
    rw [if_neg (by rw [e]; exact fun z => nomatch z)]
    exact chks_right ih
theorem Rt.short {n : Nat} {b : Bool} {d : PyData} (h : Rt n b d) : strsShort d := by
  induction h with
  | @nm n b y h =>
    show y.length ≤ 1000
    unfold wordB at h
    rw [Bool.and_eq_true, Bool.and_eq_true, decide_eq_true_eq, decide_eq_true_eq] at h
    omega
  | @nd n b y ds h1 h2 h3 ih =>
    refine ⟨?_, ?_⟩
    · have := word_six h1
      show y.length ≤ 1000
      omega
    · clear h1 h3
      induction ds with
      | nil => exact True.intro
      | cons d ds ihd => exact ⟨ih d List.mem_cons_self, ihd fun e he => ih e (List.mem_cons_of_mem _ he)⟩
theorem Rt.up {n m : Nat} {b : Bool} {d : PyData} (h : Rt n b d) (le : n ≤ m) : Rt m b d := by
  induction h generalizing m with
  | nm h => exact .nm h
  | @nd n b y ds h1 h2 h3 ih =>
    obtain ⟨k, rfl⟩ : ∃ k, m = k + 1 := ⟨m - 1, by omega⟩
    exact .nd h1 h2 fun d hd => ih d hd (by omega)
/-! ### lengths -/
end Fp1
set_option Elab.async false
set_option linter.all false
set_option maxRecDepth 100000
set_option maxHeartbeats 4000000
/-! FzD: xs.extend(t) of a tuple t -/
namespace Fs
open PySem PySem.Spec PyProof.Rows L2 Fh
open PySem.W (Frag)
theorem ext_tup (L T : Addr) (xs ys : Array Value) (e1 e2 : Nat) (od : Option Addr) (sl : Array (Option Value)) (h0 : ¬ ((!xs.isEmpty) && Builtin.List.listTooLong (xs.size + ys.size)) = true) (h1 : xs.size ≤ sizeLine) (h2 : xs.size + ys.size ≤ sizeLine + 1) :
    Meets (Builtin.«list.extend» ⟨[.ref L, .ref T], []⟩) (fun _ R s => s.heap.get? L = some { cls := .type "list", dict := none, data := .seq xs e1, slots := #[] } ∧ s.heap.get? T = some { cls := .type "tuple", dict := od, data := .seq ys e2, slots := sl } ∧
      R (.ok (.ret Value.none)) { s with heap := s.heap.update L (Obj.mapSeq fun x => x ++ ys), toks := s.toks }) := .of_wp fun P w A R s h => by
  obtain ⟨hp, gs, dr, tk, os⟩ := s
  obtain ⟨hL, hT, h⟩ := h
  have q1 := AutoSeq1.idx_int
  have q2 := AutoSeq1.sub_tuple_tuple
  have q3 := AutoSeq1.sub_list_list
  have q4 := AutoSeq1.sub_tuple_list
  have q5 := AutoSeq1.sub_list_tuple
  have sz : (xs ++ ys).size ≤ sizeLine + 1 := by
    rw [Array.size_append]
    exact h2
  wp_walk using (wpAny_updateSeq hL rfl (hz := h1) (_hz' := sz)), AutoSeq1.wpAny_loadPart' hL, AutoSeq1.wpAny_loadPart' hT
  exact ⟨_, rfl, h⟩
def rExtT (K : Frag) : V → List V → Hp → VK → Prop := fun x vs H Q => ∃ l b xs zs, x = .ref l ∧ vs = [.ref b] ∧ H l = some (.lst xs) ∧ SqT K H b zs ∧ xs.length + zs.length ≤ sizeLine ∧ Q .non (upd H l (.lst (xs ++ zs)))
theorem mt_extT {X : Cx} : MtM X "list.extend" (rExtT X.K) := by
  intro pins s σ H x vs v us Q I rx rv h
  obtain ⟨l, b, xs, zs, rfl, rfl, hH, hB, hz, q⟩ := h
  cases rx
  obtain ⟨u, rfl, ru⟩ := rv.one
  cases ru
  obtain ⟨z, its, n, r, hl, e⟩ := I.lstM hH
  obtain ⟨its2, r2, ⟨o, ho, hc, n2, hd⟩, hl2⟩ := I.tuple hB
  obtain ⟨oc, od, dt, sl⟩ := o
  have hc : oc = .type "tuple" := hc
  have hd : dt = .seq its2.toArray n2 := hd
  subst hc hd
  have l1 := r.length
  have l2 := r2.length
  have hsz : its.toArray.size + its2.toArray.size ≤ sizeLine := by rw [List.size_toArray, List.size_toArray]; omega
  have hlong : ¬ ((!its.toArray.isEmpty) && Builtin.List.listTooLong (its.toArray.size + its2.toArray.size)) = true := by
    rw [notLongL hsz, Bool.and_false]
    exact Bool.false_ne_true
  refine call_meets F.slot_list_extend ⟨_, e, rfl⟩ F.entry_list_extend (F.args_list_extend_2 _ _) (ext_tup l b its.toArray its2.toArray n n2 od sl hlong (by rw [List.size_toArray]; omega) (by omega)) ⟨e, ho, ?_⟩
  refine ⟨.non, _, I.lset (its' := its ++ its2) hH e (by simp) (r.append r2) ?_, rfl, q⟩
  rw [List.length_append]
  omega
theorem two_of {α : Type} {l : List α} (h : l.length = 2) : ∃ a b, l = [a, b] := match l, h with
  | [a, b], _ => ⟨a, b, rfl⟩
theorem Pl.ty {K : Frag} {H : Hp} {v : V} {d : PyData} (h : Pl K H v d) : TyX K H v (.type (tyn d)) := by
  cases h with
  | str x => exact .base (.str x)
  | tup h _ => exact ty_t h
end Fs
set_option Elab.async false
set_option linter.all false
set_option maxRecDepth 100000
set_option maxHeartbeats 8000000
/-! normal forms: in_turn, side_by_side, normal_form -/
namespace Fp1
open PySem PySem.Spec PyProof.Rows L2 Fh Fs
open PySem.W (Frag)
abbrev sTurn : Stmt := top 25
abbrev sSide : Stmt := top 26
abbrev sNf : Stmt := top 27
/-! ### shapes -/
/-- a plan's shape, n levels at most -/
inductive Sh : Nat → PyData → Prop where
  | nm {n : Nat} {y : Str} : wordB y = true → Sh n (.str y)
  | nd {n : Nat} {y : Str} {ds : List PyData} : rightNo y ds.length = true → (y = "then" ∨ ds.length ≤ 4) → (∀ d ∈ ds, Sh n d) → Sh (n + 1) (.tuple (.str y :: ds))
theorem Sh.up {n m : Nat} {d : PyData} (h : Sh n d) (le : n ≤ m) : Sh m d := by
  induction h generalizing m with
  | nm h => exact .nm h
  | @nd n y ds h1 h2 h3 ih =>
    obtain ⟨k, rfl⟩ : ∃ k, m = k + 1 := ⟨m - 1, by omega⟩
    exact .nd h1 h2 fun d hd => ih d hd (by omega)
theorem word_str {y : Str} (h : wordB y = true) : PyData.canLay0 (.str y) = true ∧ y.length ≤ 8 := by
  unfold wordB at h
  rw [Bool.and_eq_true, Bool.and_eq_true, decide_eq_true_eq, decide_eq_true_eq] at h
  obtain ⟨h1, h2, h3⟩ := h
  refine ⟨?_, h2⟩
  show y.cps.all (· < 0x110000) = true
  rw [← Array.all_toList, List.all_eq_true]
  intro c hc
  have h4 := List.all_eq_true.mp h3 (decide (c ∈ abcN)) (List.mem_map.mpr ⟨c, hc, rfl⟩)
  have h5 : c ∈ abcN := of_decide_eq_true h4
  have all : ∀ c ∈ abcN, c < 0x110000 := by decide +kernel
  exact decide_eq_true (all c h5)
theorem word_fine {y : Str} {m : Int} (h : rightNo y m = true) : wordB y = true ∧ y.length ≤ 6 := by
  refine ⟨?_, word_six h⟩
  have h2 : (fewest y).isSome = true := by
    unfold rightNo at h
    cases e : fewest y with
    | none => rw [e] at h; cases h
    | some i => rfl
  unfold fewest at h2
  by_cases h1 : y = "then"
  · rw [h1]; decide +kernel
  by_cases h2' : y = "either"
  · rw [h2']; decide +kernel
  by_cases h3 : y = "any"
  · rw [h3]; decide +kernel
  by_cases h4 : y = "again"
  · rw [h4]; decide +kernel
  by_cases h5 : y = "beside"
  · rw [h5]; decide +kernel
  rw [if_neg h1, if_neg h2', if_neg h3, if_neg h4, if_neg h5] at h2
  cases h2
theorem lay_all {ds : List PyData} (h : ∀ d ∈ ds, d.canLay0 = true) : PyData.canLayAll0 ds = true := by
  induction ds with
  | nil => rfl
  | cons d ds ih =>
    show (d.canLay0 && PyData.canLayAll0 ds) = true
    rw [h d List.mem_cons_self, ih fun e he => h e (List.mem_cons_of_mem _ he)]
    rfl
theorem depth_all {ds : List PyData} {n : Nat} (h : ∀ d ∈ ds, d.depth ≤ n) : PyData.depthAll ds ≤ n := by
  induction ds with
  | nil => exact Nat.zero_le _
  | cons d ds ih =>
    show max d.depth (PyData.depthAll ds) ≤ n
    have := h d List.mem_cons_self
    have := ih fun e he => h e (List.mem_cons_of_mem _ he)
    omega
theorem Sh.lay {n : Nat} {d : PyData} (h : Sh n d) : d.canLay0 = true ∧ d.depth ≤ n := by
  induction h with
  | nm h => exact ⟨(word_str h).1, Nat.zero_le _⟩
  | @nd n y ds h1 h2 h3 ih =>
    refine ⟨?_, ?_⟩
    · show PyData.canLayAll0 (.str y :: ds) = true
      exact lay_all fun d hd => by
        rcases List.mem_cons.mp hd with e | e
        · rw [e]; exact (word_str (word_fine h1).1).1
        · exact (ih d e).1
    · show PyData.depthAll (.str y :: ds) + 1 ≤ n + 1
      have := depth_all (ds := .str y :: ds) (n := n) fun d hd => by
        rcases List.mem_cons.mp hd with e | e
        · rw [e]; exact Nat.zero_le _
        · exact (ih d e).2
      omega
theorem Sh.shaped {n : Nat} {d : PyData} (h : Sh n d) (hn : n ≤ 60) : SeqAt.shaped d = true := by
  obtain ⟨h1, h2⟩ := h.lay
  unfold SeqAt.shaped
  rw [h1, decide_eq_true (by omega)]
  rfl
/-! ### the complete plan -/
abbrev doneD : PyData := .tuple [.str "then"]
theorem sh_done (n : Nat) : Sh (n + 1) doneD := .nd (by decide +kernel) (.inl rfl) (fun _ z => nomatch z)
theorem done_shaped : SeqAt.shaped doneD = true := (sh_done 0).shaped (by decide)
def isDone (d : PyData) : Bool := PyData.eqv d doneD
theorem isDone_str (y : Str) : isDone (.str y) = false := rfl
theorem isDone_nd (y : Str) (ds : List PyData) : isDone (.tuple (.str y :: ds)) = (decide (y = "then") && ds.isEmpty) := by
  show ((y == Str.ofString "then") && PyData.eqvAll ds []) = _
  have e : PyData.eqvAll ds [] = ds.isEmpty := by cases ds <;> rfl
  rw [e]
  by_cases h : y = "then"
  · rw [decide_eq_true h, beq_iff_eq.mpr h]
  · rw [decide_eq_false h, beq_eq_false_iff_ne.mpr h]
/-! ### parts in turn -/
def thenParts : PyData → Option (List PyData)
  | .tuple (.str y :: ds) => if y = "then" then some ds else none
  | _ => none
def flat1 (d : PyData) : List PyData := match thenParts d with
  | some es => es
  | none => [d]
def flatF (ds : List PyData) : List PyData := ds.flatMap flat1
def inTurn (ds : List PyData) : PyData := match flatF ds with
  | [d] => d
  | es => .tuple (.str "then" :: es)
def side (a b : PyData) : PyData := if isDone a = true then b else if isDone b = true then a else .tuple [.str "beside", a, b]
def twoOf : List PyData → PyData → PyData
  | a :: b :: _, _ => side a b
  | _, d => d
def nfIn (rec : PyData → PyData) : PyData → PyData
  | .tuple (.str y :: ds) => if y = "then" then inTurn (ds.map rec) else if y = "beside" then twoOf (ds.map rec) (.tuple (.str y :: ds)) else .tuple (.str y :: ds.map rec)
  | d => d
/-- the normal form -/
def nf : Nat → PyData → PyData
  | 0, d => d
  | n + 1, d => nfIn (nf n) d
theorem flat_snoc (ds : List PyData) (d : PyData) : flatF (ds ++ [d]) = flatF ds ++ flat1 d := by
  unfold flatF
  rw [List.flatMap_append]
  show _ ++ (flat1 d ++ []) = _
  rw [List.append_nil]
/-! ### weights -/
theorem w_cons (d : PyData) (ds : List PyData) : PyData.weightAll (d :: ds) = d.weight + 1 + PyData.weightAll ds := by simp only [PyData.weightAll]
theorem w_nil : PyData.weightAll [] = 0 := by simp only [PyData.weightAll]
theorem w_tup (ds : List PyData) : PyData.weight (.tuple ds) = PyData.weightAll ds := by simp only [PyData.weight]
theorem w_str (y : Str) : PyData.weight (.str y) = y.length := by simp only [PyData.weight]; rfl
theorem w_app (as bs : List PyData) : PyData.weightAll (as ++ bs) = PyData.weightAll as + PyData.weightAll bs := by
  induction as with
  | nil => rw [w_nil, Nat.zero_add]; rfl
  | cons a as ih => rw [List.cons_append, w_cons, w_cons, ih]; omega
theorem w_len (ds : List PyData) : ds.length ≤ PyData.weightAll ds := by
  induction ds with
  | nil => exact Nat.zero_le _
  | cons a as ih => rw [w_cons, List.length_cons]; omega
theorem w_mem {d : PyData} {ds : List PyData} (h : d ∈ ds) : d.weight + 1 ≤ PyData.weightAll ds := by
  induction ds with
  | nil => cases h
  | cons a as ih =>
    rw [w_cons]
    rcases List.mem_cons.mp h with e | e
    · rw [e]; omega
    · have := ih e; omega
theorem then_len : (Str.ofString "then").length = 4 := by decide +kernel
theorem w_flat1 (d : PyData) : PyData.weightAll (flat1 d) ≤ d.weight + 1 := by
  unfold flat1
  cases e : thenParts d with
  | none => rw [w_cons, w_nil]; omega
  | some es =>
    unfold thenParts at e
    split at e
    · rename_i y ds
      split at e
      · injection e with e
        subst e
        show PyData.weightAll ds ≤ _
        rw [w_tup, w_cons]
        omega
      · cases e
    · cases e
theorem w_flat (ds : List PyData) : PyData.weightAll (flatF ds) ≤ PyData.weightAll ds := by
  induction ds with
  | nil => exact Nat.le_refl _
  | cons d ds ih =>
    have e : flatF (d :: ds) = flat1 d ++ flatF ds := rfl
    have := w_flat1 d
    rw [e, w_app, w_cons]
    omega
theorem w_turn (ds : List PyData) : (inTurn ds).weight ≤ 5 + PyData.weightAll ds := by
  have h := w_flat ds
  unfold inTurn
  split
  · rename_i d e
    rw [e, w_cons, w_nil] at h
    omega
  · rename_i es _
    rw [w_tup, w_cons, w_str, then_len]
    omega
theorem w_side (a b : PyData) : (side a b).weight ≤ 9 + a.weight + b.weight := by
  unfold side
  split
  · omega
  · split
    · omega
    · rw [w_tup, w_cons, w_cons, w_cons, w_nil, w_str, show (Str.ofString "beside").length = 6 by decide +kernel]
      omega
theorem w_map {f : PyData → PyData} (hf : ∀ d, (f d).weight ≤ d.weight) (ds : List PyData) : PyData.weightAll (ds.map f) ≤ PyData.weightAll ds := by
  induction ds with
  | nil => exact Nat.le_refl _
  | cons d ds ih =>
    rw [List.map_cons, w_cons, w_cons]
    have := hf d
    omega
theorem w_two (ps : List PyData) (d : PyData) : (twoOf ps d).weight ≤ 7 + PyData.weightAll ps ∨ (twoOf ps d).weight ≤ d.weight := by
  match ps with
  | [] => exact .inr (Nat.le_refl _)
  | [_] => exact .inr (Nat.le_refl _)
  | a :: b :: r =>
    refine .inl ?_
    have s := w_side a b
    show (side a b).weight ≤ _
    rw [w_cons, w_cons]
    omega
theorem w_nfIn {rec : PyData → PyData} (hr : ∀ d, (rec d).weight ≤ d.weight) (d : PyData) : (nfIn rec d).weight ≤ d.weight := by
  unfold nfIn
  split
  · rename_i y ds
    have m := w_map hr ds
    split
    · rename_i e
      have t := w_turn (ds.map rec)
      subst e
      rw [w_tup, w_cons, w_str, then_len]
      omega
    · split
      · rename_i e
        subst e
        rcases w_two (ds.map rec) (.tuple (.str "beside" :: ds)) with h | h
        · rw [w_tup, w_cons, w_str, show (Str.ofString "beside").length = 6 by decide +kernel]
          omega
        · exact h
      · rw [w_tup, w_tup, w_cons, w_cons]
        omega
  · exact Nat.le_refl _
theorem w_nf : ∀ (n : Nat) (d : PyData), (nf n d).weight ≤ d.weight
  | 0, d => Nat.le_refl _
  | n + 1, d => w_nfIn (w_nf n) d
/-! ### shapes of what is made -/
theorem sh_flat1 {n : Nat} {d : PyData} (h : Sh n d) : ∀ e ∈ flat1 d, Sh n e := by
  intro e he
  unfold flat1 at he
  cases q : thenParts d with
  | none =>
    rw [q] at he
    rcases List.mem_singleton.mp he with rfl
    exact h
  | some es =>
    rw [q] at he
    unfold thenParts at q
    cases h with
    | nm _ => cases q
    | @nd n y ds h1 h2 h3 =>
      have q : (if y = "then" then some ds else none) = some es := q
      split at q
      · injection q with q
        subst q
        exact (h3 e he).up (Nat.le_succ n)
      · cases q
theorem sh_flat {n : Nat} {ds : List PyData} (h : ∀ d ∈ ds, Sh n d) : ∀ e ∈ flatF ds, Sh n e := by
  intro e he
  obtain ⟨d, hd, he⟩ := List.mem_flatMap.mp he
  exact sh_flat1 (h d hd) e he
theorem then_any (m : Nat) : rightNo "then" (m : Int) = true := by
  show (decide ((0 : Int) ≤ m) && decide ((m : Int) ≤ m)) = true
  rw [decide_eq_true (by omega), decide_eq_true (Int.le_refl _)]
  rfl
theorem sh_turn {n : Nat} {ds : List PyData} (h : ∀ d ∈ ds, Sh n d) : Sh (n + 1) (inTurn ds) := by
  have f := sh_flat h
  unfold inTurn
  split
  · rename_i d e
    rw [e] at f
    exact (f d List.mem_cons_self).up (Nat.le_succ n)
  · exact .nd (then_any _) (.inl rfl) f
theorem sh_side {n : Nat} {a b : PyData} (ha : Sh n a) (hb : Sh n b) : Sh (n + 1) (side a b) := by
  unfold side
  split
  · exact hb.up (Nat.le_succ n)
  · split
    · exact ha.up (Nat.le_succ n)
    · refine .nd (show rightNo (Str.ofString "beside") ((2 : Nat) : Int) = true by decide +kernel) (.inr (show 2 ≤ 4 by decide)) fun d hd => ?_
      rcases List.mem_cons.mp hd with e | e
      · rw [e]; exact ha
      · rcases List.mem_singleton.mp e with rfl
        exact hb
theorem beside_two {m : Nat} (h : rightNo "beside" (m : Int) = true) : m = 2 := by
  have e : rightNo "beside" (m : Int) = (decide ((2 : Int) ≤ m) && decide ((m : Int) ≤ 2)) := rfl
  rw [e, Bool.and_eq_true, decide_eq_true_eq, decide_eq_true_eq] at h
  omega
theorem sh_nf : ∀ {n : Nat} {d : PyData}, Sh n d → Sh n (nf n d)
  | 0, _, h => h
  | n + 1, _, .nm h => .nm h
  | n + 1, _, .nd (y := y) (ds := ds) h1 h2 h3 => by
    have m : ∀ e ∈ ds.map (nf n), Sh n e := fun e he => by
      obtain ⟨d, hd, rfl⟩ := List.mem_map.mp he
      exact sh_nf (h3 d hd)
    show Sh (n + 1) (if y = "then" then inTurn (ds.map (nf n)) else if y = "beside" then twoOf (ds.map (nf n)) (.tuple (.str y :: ds)) else .tuple (.str y :: ds.map (nf n)))
    split
    · exact sh_turn m
    · rename_i ny
      split
      · rename_i e
        subst e
        have l2 := beside_two h1
        match ds, l2, m with
        | [a, b], _, m => exact sh_side (m _ List.mem_cons_self) (m _ (List.mem_cons_of_mem _ List.mem_cons_self))
      · refine .nd (by rw [List.length_map]; exact h1) (by rw [List.length_map]; exact h2) m
end Fp1
set_option Elab.async false
set_option linter.all false
set_option maxRecDepth 100000
set_option maxHeartbeats 8000000
/-! in_turn, side_by_side, normal_form run -/
namespace Fp1
open PySem PySem.Spec PyProof.Rows L2 Fh Fs
open PySem.W (Frag)
theorem eq_word {y : Str} (z : Str) : decide (V.str y = V.str z) = decide (y = z) := by
  by_cases h : y = z
  · rw [decide_eq_true h, decide_eq_true (by rw [h])]
  · rw [decide_eq_false h, decide_eq_false (fun e => h (by injection e))]
theorem cut_tail (x : V) (xs : List V) : cutV (x :: xs) (some 1) none = xs := by
  show ((x :: xs).drop (min 1 (xs.length + 1))).take (xs.length + 1 - min 1 (xs.length + 1)) = xs
  rw [show min 1 (xs.length + 1) = 1 by omega, List.drop_one, List.tail_cons, List.take_of_length_le (by omega)]
theorem tail_new (xs : List V) {G : Prop} (z : min 1 (xs.length + 1) = 0) : G := by omega
section
variable {P : Program} {w : World} {K : Frag} {mg : Str → Option Value} {base : Heap} {aF aM aD CE aE : Addr}
def spTurn (K : Frag) : Sp := fun vs H Q _ => ∃ l xs ds n, vs = [.ref l] ∧ SqL K H l xs ∧ Pls K H xs ds ∧ (∀ d ∈ ds, Sh n d) ∧ PyData.weightAll ds ≤ 1000000 ∧ ∀ x H', Same H H' → Pl K H' x (inTurn ds) → Q x H'
theorem scTurn : FnScope ["parts", "flat", "part"] ["parts"] (defScope sTurn) := ⟨rfl, rfl, rfl, by decide +kernel, rfl, by decide +kernel, by decide +kernel⟩
theorem ok_turn {f : Addr} {fd : FuncData} (F : Fun K "in_turn" "in_turn" sTurn f fd) (T : TxtR K mg w aF aM aD CE aE) (TK : TxtK mg) : FnOk P w K mg base CX0 1 f fd ["parts"] (spTurn K) := by
  refine F.ok scTurn (fun vs H Q E h => ?_) (fun cdv A outer s H vs Q E hr h => ?_)
  · obtain ⟨l, xs, ds, n, rfl, _⟩ := h
    rfl
  · obtain ⟨l, xs, ds, n, rfl, hl, hp, sh, hw, k⟩ := h
    refine' ⟨_, pss_cons ?s1 (pss_cons ?s2 (pss_one ?s3)), ?q⟩
    case s1 => exact ps_set (i := 1) scTurn.nd rfl (Or.inl rfl) (pe_lst pa_nil)
    case s2 =>
      refine' ps_for PassesOwn.never rfl (pi_list (pv 0)) (pg_name (i := 2) scTurn.nd rfl (Or.inl rfl)) (pss_one (ps_if (PW.pt (pw_and (pt_val ?a) (pw_and1 ?b))) (pss_one (ps_expr ?c)) (pss_one (ps_expr ?d))))
      case a => exact pe_callB call_isi (by rfl) T.isinstance (by decide +kernel) (pa_cons (pv 2) (pa_cons (pe_bltn (v := .ty "tuple") (by rfl) TK.tuple (by decide +kernel) rfl (by decide) (by decide)) pa_nil))
      case b => exact pt_cmpR op_eq (pe_ix ix_tup (pv 2) pe_int (fun _ _ => rfl)) pe_str (nomark _)
      case c => exact pe_bm PySem.F.plainAttrs_list PySem.F.slot_list_extend PySem.F.type_list_extend mt_extT (pv 1) (pa_cons (pe_slice sl_tupA (pv 2) (po_some pe_int) po_none) pa_nil)
      case d => exact pe_bm PySem.F.plainAttrs_list PySem.F.slot_list_append PySem.F.type_list_append mt_append (pv 1) (pa_cons (pv 2) pa_nil)
    case s3 => exact ps_ret (pe_ifExp (pt_cmpR op_eq (pe_callB call_len_seq (by rfl) T.len PySem.boot_len (pa_cons (pv 1) pa_nil)) pe_int (nomark _)) (pe_ix ix_list (pv 1) pe_int (fun _ _ => rfl)) (pe_tup (pa_cons pe_str (StX.pa_star (pv 1) pa_nil))))
    case q =>
      have ssz : sizeLine = 16777216 := sizeLine_eq
      refine ⟨(show 0 ≤ sizeLine by decide), fun f nf => ?_⟩
      refine gName_go ?_
      have lx := hp.len
      have s0 : Same H (upd H f (.lst [])) := Same.new nf
      have f0 : (upd H f (.lst [])) f = some (.lst []) := upd_same
      generalize upd H f (.lst []) = H0 at s0 f0 ⊢
      refine ⟨_, rfl, l, rfl, ⟨xs, sqL_same s0 hl⟩, ?_⟩
      refine for_it (walk_list (K := K) (a := l) (xs := xs)) (fun i σ Hh => ∃ o ys, σ = [some (.ref l), some (.ref f), o] ∧ Same H Hh ∧ Hh f = some (.lst ys) ∧ Pls K Hh ys (flatF (ds.take i))) ⟨none, [], rfl, s0, f0, .nil⟩ (fun i σ Hh _ ⟨_, _, _, z, _⟩ => sqL_same z hl) ?_ ?_
      · rintro i x σ Ha Hb hi ⟨o, ys, rfl, sa, ha, pa⟩ ⟨rfl, gx⟩
        have di : i < ds.length := by omega
        have gd : ds[i]? = some ds[i] := List.getElem?_eq_getElem di
        have dx := (hp.get gx gd).same sa
        have shi := sh ds[i] (List.getElem_mem di)
        have wi := w_mem (List.getElem_mem di)
        have tk : ds.take (i + 1) = ds.take i ++ [ds[i]] := by rw [List.take_add_one, gd]; rfl
        have wf : PyData.weightAll (flatF (ds.take i)) + (flat1 ds[i]).length ≤ 1000000 := by
          have h1 := w_flat (ds.take (i + 1))
          rw [tk, flat_snoc, w_app] at h1
          have h2 := w_len (flat1 ds[i])
          have h3 : PyData.weightAll (ds.take (i + 1)) ≤ PyData.weightAll ds := by
            have e := w_app (ds.take (i + 1)) (ds.drop (i + 1))
            rw [List.take_append_drop] at e
            omega
          rw [tk] at h3
          omega
        have ly := pa.len
        have wl := w_len (flatF (ds.take i))
        rw [tk, flat_snoc]
        generalize ds[i] = d at dx shi wf gd
        have ty := dx.ty
        have kt := kit_tup K d
        have post : thenParts d = none → ∃ o ys', [some (V.ref l), some (V.ref f), some x] = [some (V.ref l), some (V.ref f), o] ∧ Same H (upd Hb f (.lst (ys ++ [x]))) ∧ (upd Hb f (.lst (ys ++ [x]))) f = some (.lst ys') ∧ Pls K (upd Hb f (.lst (ys ++ [x]))) ys' (flatF (ds.take i) ++ flat1 d) := fun e => by
          refine ⟨_, _, rfl, same_off sa nf, upd_same, ?_⟩
          have e2 : flat1 d = [d] := by unfold flat1; rw [e]
          rw [e2]
          exact (pa.snoc dx).keep (KeepT.lst ha)
        refine ⟨_, rfl, _, _, _, _, isTup d, rfl, .ty _, ty, kt, _, rfl, ?_⟩
        cases shi with
        | nm _ => exact iteF (iteF ⟨.ref f, rfl, .inl ⟨rfl, _, SqL.of ha⟩, x, rfl, f, ys, x, rfl, rfl, ha, by omega, post rfl⟩)
        | @nd n y es h1 h2 h3 =>
          cases dx with
          | @tup a vs _ hg r =>
            cases r with
            | @cons x0 d0 xs0 _ hx r =>
              cases hx
              refine iteT ⟨_, rfl, a, _, 0, _, rfl, rfl, hg, atI_nat rfl, rfl, decide (y = "then"), congrArg V.bl (eq_word _), ?_⟩
              by_cases e : y = "then"
              · subst e
                refine iteT ⟨.ref f, rfl, .inl ⟨rfl, _, SqL.of ha⟩, _, rfl, 1, rfl, a, _, rfl, hg, fun z => tail_new xs0 z.1, fun _ q nq => ?_⟩
                rw [cut_tail]
                have e2 : flat1 (.tuple (.str "then" :: es)) = es := rfl
                have lr := r.len
                have sq : Same Hb (upd Hb q (.tup xs0)) := Same.new nq
                have fq : (upd Hb q (.tup xs0)) f = some (.lst ys) := sq _ _ ha
                have gq : (upd Hb q (.tup xs0)) q = some (.tup xs0) := upd_same
                generalize upd Hb q (.tup xs0) = Hc at sq fq gq ⊢
                rw [e2] at wf ⊢
                refine ⟨f, q, ys, xs0, rfl, rfl, fq, SqT.of gq, by omega, ?_⟩
                refine ⟨_, _, rfl, same_off (sa.trans sq) nf, upd_same, ?_⟩
                exact ((pa.same sq).append (r.same sq)).keep (KeepT.lst fq)
              · rw [decide_eq_false e]
                refine iteF ⟨.ref f, rfl, .inl ⟨rfl, _, SqL.of ha⟩, _, rfl, f, ys, _, rfl, rfl, ha, by omega, post ?_⟩
                exact if_neg e
      · rintro σ Ha ⟨o, ys, rfl, sa, ha, pa⟩
        rw [lx, List.take_length] at pa
        have ly := pa.len
        have wl := w_len (flatF ds)
        have wf := w_flat ds
        refine ⟨_, rfl, f, _, rfl, .inl (SqL.of ha), rfl, decide (V.int (ys.length : Nat) = V.int 1), rfl, ?_⟩
        have inj : decide (V.int (ys.length : Nat) = V.int 1) = decide (ys.length = 1) := by
          by_cases h : ys.length = 1
          · rw [decide_eq_true h, decide_eq_true (by rw [h]; rfl)]
          · rw [decide_eq_false h, decide_eq_false (fun e => h (by injection e with e; omega))]
        rw [inj]
        have e0 : inTurn ds = (match flatF ds with | [d] => d | es => .tuple (.str "then" :: es)) := rfl
        by_cases h : ys.length = 1
        · rw [decide_eq_true h]
          match ys, h, flatF ds, pa, ly, e0 with
          | [v], _, [d], .cons hv .nil, _, e0 => exact iteT ⟨_, rfl, f, _, 0, v, rfl, rfl, SqL.of ha, atI_nat rfl, k v Ha sa (e0 ▸ hv)⟩
        · rw [decide_eq_false h]
          have e1 : inTurn ds = .tuple (.str "then" :: flatF ds) := by
            rw [e0]
            match flatF ds, ly with
            | [], _ => rfl
            | [d], ly => exact absurd ly h
            | _ :: _ :: _, _ => rfl
          refine iteF ⟨_, rfl, f, _, rfl, .inr (SqL.of ha), ?_, fun t nt => k (.ref t) _ (sa.trans (Same.new nt)) ?_⟩
          · show (V.str "then" :: (ys ++ [])).length ≤ sizeLine
            rw [List.append_nil, List.length_cons]
            omega
          · rw [e1]
            exact .tup (.of upd_same) (.cons (.str _) (by rw [List.append_nil]; exact pa.same (Same.new nt)))
def spSide (K : Frag) : Sp := fun vs H Q _ => ∃ u v a b n, vs = [u, v] ∧ Pl K H u a ∧ Pl K H v b ∧ Sh n a ∧ Sh n b ∧ n ≤ 60 ∧ ∀ x H', Same H H' → Pl K H' x (side a b) → Q x H'
theorem scSide : FnScope ["one", "other"] ["one", "other"] (defScope sSide) := ⟨rfl, rfl, rfl, by decide +kernel, rfl, by decide +kernel, by decide +kernel⟩
theorem done_pl (T : TxtR K mg w aF aM aD CE aE) (H : Hp) : Pl K H (.ref aD) doneD := .tup (T.sD H) (.cons (.str _) .nil)
theorem ok_side {f : Addr} {fd : FuncData} (F : Fun K "side_by_side" "side_by_side" sSide f fd) (T : TxtR K mg w aF aM aD CE aE) : FnOk P w K mg base CX0 1 f fd ["one", "other"] (spSide K) := by
  refine F.ok scSide (fun vs H Q E h => ?_) (fun cdv A outer s H vs Q E hr h => ?_)
  · obtain ⟨u, v, a, b, n, rfl, _⟩ := h
    rfl
  · obtain ⟨u, v, a, b, n, rfl, hu, hv, sa, sb, hn, k⟩ := h
    refine' ⟨_, pss_cons ?s1 (pss_cons ?s2 (pss_one ?s3)), ?q⟩
    case s1 => exact ps_if (pt_cmpR (op_eqD hr.units) (pv 0) (pe_glob (v := .ref aD) (by rfl) T.gD rfl) (nomark _)) (pss_one (ps_ret (pv 1))) pss_nil
    case s2 => exact ps_if (pt_cmpR (op_eqD hr.units) (pv 1) (pe_glob (v := .ref aD) (by rfl) T.gD rfl) (nomark _)) (pss_one (ps_ret (pv 0))) pss_nil
    case s3 => exact ps_ret (pe_tup (pa_cons pe_str (pa_cons (pv 0) (pa_cons (pv 1) pa_nil))))
    case q =>
      have dd := (done_pl T H).dp
      have e0 : side a b = (if isDone a = true then b else if isDone b = true then a else .tuple [.str "beside", a, b]) := rfl
      refine ⟨_, rfl, a, doneD, hu.dp, dd, sa.shaped hn, done_shaped, isDone a, rfl, ?_⟩
      cases ea : isDone a with
      | true =>
        rw [e0, if_pos ea] at k
        exact iteT ⟨_, rfl, k v H (Same.refl _) hv⟩
      | false =>
        rw [e0, if_neg (by rw [ea]; exact fun z => nomatch z)] at k
        refine iteF ⟨_, rfl, b, doneD, hv.dp, dd, sb.shaped hn, done_shaped, isDone b, rfl, ?_⟩
        cases eb : isDone b with
        | true =>
          rw [if_pos eb] at k
          exact iteT ⟨_, rfl, k u H (Same.refl _) hu⟩
        | false =>
          rw [if_neg (by rw [eb]; exact fun z => nomatch z)] at k
          exact iteF ⟨_, rfl, _, rfl, (show 3 ≤ sizeLine by decide), fun t nt => k (.ref t) _ (Same.new nt) (.tup (.of upd_same) (.cons (.str _) (.cons (hu.same (Same.new nt)) (.cons (hv.same (Same.new nt)) .nil))))⟩
def spNf (K : Frag) (n : Nat) : Sp := fun vs H Q _ => ∃ v d, vs = [v] ∧ Pl K H v d ∧ Sh n d ∧ n ≤ 50 ∧ d.weight ≤ 900000 ∧ ∀ x H', Same H H' → Pl K H' x (nf n d) → Q x H'
theorem scNf : FnScope ["plan", "parts", "part"] ["plan"] (defScope sNf) := ⟨rfl, rfl, rfl, by decide +kernel, rfl, by decide +kernel, by decide +kernel⟩
theorem step_nf {n kk : Nat} {sp' : Sp} {f aT aS : Addr} {fd fT fS : FuncData} (hk : 1 ≤ kk) (F : Fun K "normal_form" "normal_form" sNf f fd) (FT : Fun K "in_turn" "in_turn" sTurn aT fT) (FS : Fun K "side_by_side" "side_by_side" sSide aS fS) (gF : mg "normal_form" = some (.ref f)) (gT : mg "in_turn" = some (.ref aT)) (gS : mg "side_by_side" = some (.ref aS))
    (T : TxtR K mg w aF aM aD CE aE) (TK : TxtK mg) (GN : FnOk P w K mg base CX0 kk f fd ["plan"] sp') (hs : ∀ j, n = j + 1 → sp' = spNf K j) : FnOk P w K mg base CX0 (kk + 1) f fd ["plan"] (spNf K n) := by
  have GT : FnOk P w K mg base CX0 1 aT fT ["parts"] (spTurn K) := ok_turn FT T TK
  have GS : FnOk P w K mg base CX0 1 aS fS ["one", "other"] (spSide K) := ok_side FS T
  have bT : Binds K fT ["parts"] [] := FT.binds (ps := ["parts"]) fun _ _ _ _ _ _ us hl => match us, hl with | [_], _ => rfl
  have bS : Binds K fS ["one", "other"] [] := FS.binds (ps := ["one", "other"]) fun _ _ _ _ _ _ us hl => match us, hl with | [_, _], _ => rfl
  have bN : Binds K fd ["plan"] [] := F.binds (ps := ["plan"]) fun _ _ _ _ _ _ us hl => match us, hl with | [_], _ => rfl
  refine F.ok scNf (fun vs H Q E h => ?_) (fun cdv A outer s H vs Q E hr h => ?_)
  · obtain ⟨v, d, rfl, _⟩ := h
    rfl
  · obtain ⟨v, d, rfl, hv, sh, hn, hw, k⟩ := h
    have hr1 : Room 1 _ := hr.mono hk
    refine' ⟨_, pss_cons ?s1 (pss_cons ?s2 (pss_cons ?s3 (pss_cons ?s4 (pss_one ?s5)))), ?q⟩
    case s1 =>
      refine' ps_if (pt_not (pt_val ?a)) (pss_one (ps_ret (pv 0))) pss_nil
      case a => exact pe_callB call_isi (by rfl) T.isinstance (by decide +kernel) (pa_cons (pv 0) (pa_cons (pe_bltn (v := .ty "tuple") (by rfl) TK.tuple (by decide +kernel) rfl (by decide) (by decide)) pa_nil))
    case s2 =>
      refine' ps_setLc (i := 1) (own := [("part", 2)]) (g := gName 2) (tt := tYes) rfl scNf.nd rfl rfl (sw_true rfl rfl rfl (by decide +kernel)) (pi_tup (pe_slice sl_tupA (pv 0) (po_some pe_int) po_none)) (blkOk_by (N := ["plan", "parts", "part"]) (sc := defScope sNf) (by decide +kernel)) (fun _ _ _ _ _ => pg_name (i := 2) scNf.nd rfl (Or.inl rfl)) (fun _ _ _ _ _ => pts_nil) ?e
      case e => exact fun _ _ _ _ _ => pe_call GN hr rfl gF F.kp bN .nil pass0 (pa_cons (pv 2) pa_nil)
    case s3 => exact ps_if (pt_cmpR op_eq (pe_ix ix_tup (pv 0) pe_int (fun _ _ => rfl)) pe_str (nomark _)) (pss_one (ps_ret (pe_call GT hr1 rfl gT FT.kp bT .nil pass0 (pa_cons (pv 1) pa_nil)))) pss_nil
    case s4 => exact ps_if (pt_cmpR op_eq (pe_ix ix_tup (pv 0) pe_int (fun _ _ => rfl)) pe_str (nomark _)) (pss_one (ps_ret (pe_call GS hr1 rfl gS FS.kp bS .nil pass0 (pa_cons (pe_ix ix_list (pv 1) pe_int (fun _ _ => rfl)) (pa_cons (pe_ix ix_list (pv 1) pe_int (fun _ _ => rfl)) pa_nil))))) pss_nil
    case s5 => exact ps_ret (pe_tup (pa_cons (pe_ix ix_tup (pv 0) pe_int (fun _ _ => rfl)) (StX.pa_star (pv 1) pa_nil)))
    case q =>
      have ty := hv.ty
      have kt := kit_tup K d
      have ssz : sizeLine = 16777216 := sizeLine_eq
      refine ⟨_, rfl, _, _, _, _, isTup d, rfl, .ty _, ty, kt, _, rfl, ?_⟩
      cases sh with
      | @nm _ y hy =>
        refine iteT ⟨_, rfl, ?_⟩
        have e : nf n (.str y) = .str y := by cases n <;> rfl
        rw [e] at k
        exact k v H (Same.refl _) hv
      | @nd n y ds h1 h2 h3 =>
        obtain rfl := hs n rfl
        refine iteF ?_
        cases hv with
        | @tup a vs _ hg r =>
          cases r with
          | @cons x0 d0 xs _ hx r =>
            cases hx
            have lx := r.len
            rw [w_tup, w_cons] at hw
            have wl := w_len ds
            refine ⟨_, rfl, 1, rfl, a, _, rfl, hg, fun z => tail_new xs z.1, fun _ q nq => ?_⟩
            rw [cut_tail]
            have sq : Same H (upd H q (.tup xs)) := Same.new nq
            have gq : (upd H q (.tup xs)) q = some (.tup xs) := upd_same
            generalize upd H q (.tup xs) = H1 at sq gq ⊢
            refine ⟨q, rfl, ⟨_, SqT.of gq⟩, fun D nD => ?_⟩
            refine lc_it (walk_tup (K := K) (a := q) (xs := xs)) (fun i Hh => ∃ ys, Pls K Hh ys ((ds.take i).map (nf n)) ∧ Hh D = some (.lst ys) ∧ Same H1 Hh) ⟨[], .nil, upd_same, Same.new nD⟩ (fun _ Hh _ ⟨_, _, _, z⟩ => SqT.of (z _ _ gq)) ?_ ?_
            · rintro i x Ha Hb hi ⟨ys, ey, hD, sa⟩ ⟨rfl, gx⟩
              refine ⟨rfl, ?_⟩
              refine yes_of ?_
              have di : i < ds.length := by omega
              have gd : ds[i]? = some ds[i] := List.getElem?_eq_getElem di
              have dx := (r.get gx gd).same (sq.trans sa)
              have mem : ds[i] ∈ ds := List.getElem_mem di
              have wm := w_mem mem
              have ly := ey.len
              rw [List.length_map, List.length_take] at ly
              refine ⟨_, rfl, x, ds[i], rfl, dx, h3 _ mem, by omega, by omega, fun z Hc sc hz => ?_⟩
              refine ⟨ys, sc _ _ hD, by omega, ys ++ [z], ?_, upd_same, ?_⟩
              · rw [List.take_add_one, gd, List.map_append]
                exact ((ey.same sc).snoc hz).keep (KeepT.lst (sc _ _ hD))
              · intro b' u z
                rw [upd_ne (fun e => by rw [e, nD] at z; cases z)]
                exact sc _ _ (sa _ _ z)
            · rintro Ha ⟨ys, ey, hD, sa⟩
              rw [lx, List.take_length] at ey
              have sA := sq.trans sa
              have hg2 := (KeepT.of sA).sqT hg
              have ly := ey.len
              rw [List.length_map] at ly
              have mm := w_map (w_nf n) ds
              have shm : ∀ e ∈ ds.map (nf n), Sh n e := fun e he => by
                obtain ⟨d, hd, rfl⟩ := List.mem_map.mp he
                exact sh_nf (h3 d hd)
              with_reducible conv => whnf
              refine ⟨_, rfl, a, _, 0, _, rfl, rfl, hg2, atI_nat rfl, rfl, decide (y = "then"), congrArg V.bl (eq_word _), ?_⟩
              have e0 : nf (n + 1) (.tuple (.str y :: ds)) = (if y = "then" then inTurn (ds.map (nf n)) else if y = "beside" then twoOf (ds.map (nf n)) (.tuple (.str y :: ds)) else .tuple (.str y :: ds.map (nf n))) := rfl
              rw [e0] at k
              by_cases e1 : y = "then"
              · rw [if_pos e1] at k
                rw [decide_eq_true e1]
                exact iteT ⟨_, rfl, D, ys, _, n, rfl, SqL.of hD, ey, shm, by omega, fun x H' s' hx => k x H' (sA.trans s') hx⟩
              · rw [if_neg e1] at k
                rw [decide_eq_false e1]
                refine iteF ⟨_, rfl, a, _, 0, _, rfl, rfl, hg2, atI_nat rfl, rfl, decide (y = "beside"), congrArg V.bl (eq_word _), ?_⟩
                by_cases e2 : y = "beside"
                · rw [if_pos e2] at k
                  rw [decide_eq_true e2]
                  subst e2
                  have l2 := beside_two h1
                  rw [l2] at ly
                  generalize ds.map (nf n) = ps at ey shm k
                  match ys, ps, ly, ey, k, shm with
                  | [u, v], [p, q], _, .cons hu (.cons hv .nil), k, shm =>
                    exact iteT ⟨_, rfl, D, _, 0, u, rfl, rfl, SqL.of hD, atI_nat rfl, _, rfl, D, _, 1, v, rfl, rfl, SqL.of hD, atI_nat rfl, u, v, p, q, n, rfl, hu, hv, shm _ List.mem_cons_self, shm _ (List.mem_cons_of_mem _ List.mem_cons_self), by omega, fun x H' s' hx => k x H' (sA.trans s') hx⟩
                · rw [if_neg e2] at k
                  rw [decide_eq_false e2]
                  refine iteF ⟨_, rfl, a, _, 0, _, rfl, rfl, hg2, atI_nat rfl, _, rfl, D, _, rfl, .inr (SqL.of hD), ?_, fun t nt => k (.ref t) _ (sA.trans (Same.new nt)) ?_⟩
                  · show (V.str y :: (ys ++ [])).length ≤ sizeLine
                    rw [List.append_nil, List.length_cons]
                    omega
                  · exact .tup (.of upd_same) (.cons (.str _) (by rw [List.append_nil]; exact ey.same (Same.new nt)))
theorem ok_nf {f aT aS : Addr} {fd fT fS : FuncData} (F : Fun K "normal_form" "normal_form" sNf f fd) (FT : Fun K "in_turn" "in_turn" sTurn aT fT) (FS : Fun K "side_by_side" "side_by_side" sSide aS fS) (gF : mg "normal_form" = some (.ref f)) (gT : mg "in_turn" = some (.ref aT)) (gS : mg "side_by_side" = some (.ref aS))
    (T : TxtR K mg w aF aM aD CE aE) (TK : TxtK mg) : ∀ n, FnOk P w K mg base CX0 (n + 3) f fd ["plan"] (spNf K n)
  | 0 => step_nf (n := 0) (kk := 2) (sp' := fun _ _ _ _ => False) (by decide) F FT FS gF gT gS T TK (F.ok scNf (fun _ _ _ _ h => h.elim) (fun _ _ _ _ _ _ _ _ _ h => h.elim)) (fun j e => nomatch e)
  | n + 1 => step_nf (n := n + 1) (kk := n + 3) (sp' := spNf K n) (by omega) F FT FS gF gT gS T TK (ok_nf F FT FS gF gT gS T TK n) (fun j e => by cases e; rfl)
end
end Fp1
set_option Elab.async false
set_option linter.all false
set_option maxRecDepth 100000
set_option maxHeartbeats 8000000
/-! tasks: are_words, _ascending, Task (all right), its getters, == -/
namespace Fp1
open PySem PySem.Spec PyProof.Rows L2 Fh Fs
open PySem.W (Frag)
abbrev sAre : Stmt := top 5
abbrev sWhole : Stmt := top 6
abbrev sAsc : Stmt := top 39
abbrev sTkI : Stmt := inClass (top 40) 0
structure TxtB (mg : Str → Option Value) : Prop where
  int : mg "int" = none
  bool : mg "bool" = none
  list : mg "list" = none
  sorted : mg "sorted" = none
  set : mg "set" = none
  dict : mg "dict" = none
  max : mg "max" = none
  sum : mg "sum" = none
  MANY : ∃ u, mg "MANY" = some (.int 3 u)
  KINDS : ∃ u, mg "KINDS" = some (.int 3 u)
  ROLES : ∃ u, mg "ROLES" = some (.int 4 u)
  TASKS : ∃ u, mg "TASKS" = some (.int 8 u)
  REMEMBERED : ∃ u, mg "REMEMBERED" = some (.int 3 u)
  WIDTH : ∃ u, mg "WIDTH" = some (.int 5 u)
  NAMES : ∃ u, mg "NAMES" = some (.int 16 u)
  LEVELS : ∃ u, mg "LEVELS" = some (.int 5 u)
/-- a word -/
abbrev Word (x : Str) : Prop := wordB x = true
section
variable {P : Program} {w : World} {K : Frag} {mg : Str → Option Value} {base : Heap} {aF aM aD CE aE : Addr}
def spGW : Sp := fun vs H Q _ => ∃ x : Str, vs = [.str x] ∧ Word x ∧ ∀ H', Same H H' → Q (.bl true) H'
theorem ok_gw {f : Addr} {fd : FuncData} (F : Fun K "is_word" "is_word" sWord f fd) (TR : TxtR K mg w aF aM aD CE aE) (TK : TxtK mg) : FnOk P w K mg base CX0 1 f fd ["value"] spGW := by
  refine (ok_word F TR TK).imp fun vs H Q E h => ?_
  obtain ⟨x, rfl, hx, k⟩ := h
  refine ⟨_, .str x, rfl, Pl.gd (.str x) (by show x.length ≤ 1000; have := (word_str hx).2; omega), fun H' s' => ?_⟩
  rw [show wordD (.str x) = wordB x from rfl, hx]
  exact k H' s'
structure OwnC (K : Frag) (mg : Str → Option Value) (nm : Str) (C : Addr) : Prop where
  gC : mg nm = some (.ref C)
  cl : Cls K C
  ha : PySem.W.findIn K (.ref C) "__class__" = some (some (.builtin "object.__class__"))
  hn : PySem.W.specialIn K (.builtin "object.__class__") "__get__" = some (some (.builtin "getset_descriptor.__get__"))
  ht : PySem.W.takesIn K (.builtin "object.__class__") = some true
  hm : PySem.W.mroIn K C (.type "object") = some true
  me : PySem.W.kitOne K (.ref C) (.ref C) = some true
  nNoneType : PySem.W.kitOne K (.type "NoneType") (.ref C) = some false
  ntuple : PySem.W.kitOne K (.type "tuple") (.ref C) = some false
  nstr : PySem.W.kitOne K (.type "str") (.ref C) = some false
def spWhole : Sp := fun vs H Q _ => ∃ i lo hi : Int, vs = [.int i, .int lo, .int hi] ∧ lo ≤ i ∧ i ≤ hi ∧ Q (.bl true) H
theorem scWhole : FnScope ["value", "low", "high"] ["value", "low", "high"] (defScope sWhole) := ⟨rfl, rfl, rfl, by decide +kernel, rfl, by decide +kernel, by decide +kernel⟩
theorem ok_whole {f : Addr} {fd : FuncData} (F : Fun K "is_whole" "is_whole" sWhole f fd) (TR : TxtR K mg w aF aM aD CE aE) (TK : TxtK mg) (T : TxtB mg) : FnOk P w K mg base CX0 1 f fd ["value", "low", "high"] spWhole := by
  refine F.ok scWhole (fun vs H Q E h => ?_) (fun cdv A outer s H vs Q E hr h => ?_)
  · obtain ⟨i, lo, hi, rfl, _⟩ := h
    rfl
  · obtain ⟨i, lo, hi, rfl, h1, h2, k⟩ := h
    refine ⟨_, pss_cons (ps_if (PW.pt (pw_or (pt_not (pt_val (pe_callB call_isi (by rfl) TR.isinstance (by decide +kernel) (pa_cons (pv 0) (pa_cons (pe_bltn (v := .ty "int") (by rfl) T.int (by decide +kernel) rfl (by decide) (by decide)) pa_nil)))))
      (pw_or1 (pt_val (pe_callB call_isi (by rfl) TR.isinstance (by decide +kernel) (pa_cons (pv 0) (pa_cons (pe_bltn (v := .ty "bool") (by rfl) T.bool (by decide +kernel) rfl (by decide) (by decide)) pa_nil))))))) (pss_one (ps_ret pe_bl)) pss_nil)
      (pss_one (ps_ret (pe_chain op_le op_le (pv 1) (pv 0) (pv 2)))), ?_⟩
    refine ⟨_, rfl, _, _, _, _, true, rfl, .ty _, .base (.int i), (by rfl), true, rfl, ?_⟩
    refine ⟨_, rfl, _, _, _, _, false, rfl, .ty _, .base (.int i), (by rfl), false, rfl, iteF ?_⟩
    refine ⟨_, rfl, _, rfl, _, _, rfl, rfl, true, congrArg V.bl (decide_eq_true h1), iteT ⟨_, rfl, _, _, rfl, rfl, ?_⟩⟩
    show Q (.bl (decide (i ≤ hi))) H
    rw [decide_eq_true h2]
    exact k
/-- a list or a tuple of different words -/
def WL (K : Frag) (H : Hp) (v : V) (ws : List Str) : Prop := ∃ q, v = .ref q ∧ (SqL K H q (ws.map V.str) ∨ SqT K H q (ws.map V.str))
theorem WL.same {K : Frag} {H H' : Hp} {v : V} {ws : List Str} (h : WL K H v ws) (s : Same H H') : WL K H' v ws := by
  obtain ⟨q, e, h | h⟩ := h
  · exact ⟨q, e, .inl (s.seq h)⟩
  · exact ⟨q, e, .inr (sqT_same s h)⟩
def OkW (ws : List Str) : Prop := ws.Nodup ∧ (∀ x ∈ ws, Word x) ∧ ws.length ≤ 60
def spAre (K : Frag) : Sp := fun vs H Q _ => ∃ v ws, vs = [v] ∧ WL K H v ws ∧ OkW ws ∧ ∀ H', Same H H' → Q (.bl true) H'
theorem scAre : FnScope ["value", "word"] ["value"] (defScope sAre) := ⟨rfl, rfl, rfl, by decide +kernel, rfl, by decide +kernel, by decide +kernel⟩
theorem ok_are {f aW : Addr} {fd fW : FuncData} (F : Fun K "are_words" "are_words" sAre f fd) (FW : Fun K "is_word" "is_word" sWord aW fW) (gW : mg "is_word" = some (.ref aW)) (TR : TxtR K mg w aF aM aD CE aE) (TK : TxtK mg) (T : TxtB mg) : FnOk P w K mg base CX0 2 f fd ["value"] (spAre K) := by
  have GW : FnOk P w K mg base CX0 1 aW fW ["value"] spGW := ok_gw FW TR TK
  have bW : Binds K fW ["value"] [] := FW.binds (ps := ["value"]) fun _ _ _ _ _ _ us hl => match us, hl with | [_], _ => rfl
  refine F.ok scAre (fun vs H Q E h => ?_) (fun cdv A outer s H vs Q E hr h => ?_)
  · obtain ⟨v, ws, rfl, _⟩ := h
    rfl
  · obtain ⟨v, ws, rfl, ⟨q, rfl, hq⟩, ⟨nd, good, few⟩, k⟩ := h
    refine ⟨_, pss_cons (ps_if (PW.pt (pw_or (pt_not (pt_val (pe_callB call_isiT (by rfl) TR.isinstance (by decide +kernel) (pa_cons (pv 0) (pa_cons (pe_tup (pa_cons (pe_bltn (v := .ty "list") (by rfl) T.list (by decide +kernel) rfl (by decide) (by decide)) (pa_cons (pe_bltn (v := .ty "tuple") (by rfl) TK.tuple (by decide +kernel) rfl (by decide) (by decide)) pa_nil))) pa_nil)))))
      (pw_or1 (pt_not (pt_val (pe_callB (cr_all rfl) (by rfl) TK.all (by decide +kernel) (pa_cons
        (pe_lc (own := [("word", 1)]) (g := gName 1) (tt := tYes) rfl scAre.nd (pi_seq (pv 0)) (blkOk_by (N := ["value", "word"]) (sc := defScope sAre) (by decide +kernel)) (fun _ _ _ _ _ => pg_name (i := 1) scAre.nd rfl (Or.inl rfl)) (fun _ _ _ _ _ => pts_nil)
          (fun _ _ _ _ _ => pe_call GW hr rfl gW FW.kp bW .nil pass0 (pa_cons (pv 1) pa_nil))) pa_nil))))))) (pss_one (ps_ret pe_bl)) pss_nil)
      (pss_one (ps_ret (pe_cmpR op_eq (pe_callB cr_lenS (by rfl) TR.len PySem.boot_len (pa_cons (pe_callTy (cr_setL rfl) (by rfl) T.set (by decide +kernel) (pa_cons (pv 0) pa_nil)) pa_nil)) (pe_callB call_len_seq (by rfl) TR.len PySem.boot_len (pa_cons (pv 0) pa_nil)) (nomark _)))), ?_⟩
    refine ⟨_, rfl, (show 2 ≤ sizeLine by decide), fun tp ntp => ?_⟩
    have s1 : Same H (upd H tp (.tup [.ty "list", .ty "tuple"])) := Same.new ntp
    have htp : (upd H tp (.tup [.ty "list", .ty "tuple"])) tp = some (.tup [.ty "list", .ty "tuple"]) := upd_same
    generalize upd H tp (.tup [.ty "list", .ty "tuple"]) = H1 at s1 htp ⊢
    have ty : ∃ t, TyX K H1 (.ref q) t ∧ PySem.W.kitAny K t [.type "list", .type "tuple"] = some true := by
      rcases hq with z | z
      · exact ⟨_, ty_l (s1.seq z), by rfl⟩
      · exact ⟨_, ty_t (sqT_same s1 z), by rfl⟩
    obtain ⟨t, ty, kt⟩ := ty
    refine ⟨_, tp, _, t, _, true, rfl, htp, .cons (.ty _) (.cons (.ty _) .nil), ty, kt, true, rfl, iteF ?_⟩
    refine mpP (R := ∀ (D : Addr) (H2 : Hp), Same H1 H2 → H2 D = some (.lst (List.replicate ws.length (V.bl true))) → (?R : Addr → Hp → Prop) D H2) ?imp ?rest
    case imp =>
      intro r
      rcases hq with z | z
      · refine ⟨.ref q, rfl, q, rfl, Or.inl ⟨⟨_, s1.seq z⟩, fun D hD => ?_⟩⟩
        refine lc_it walk_list (fun i H2 => Same H1 H2 ∧ H2 D = some (.lst (List.replicate i (V.bl true)))) ⟨Same.new hD, upd_same⟩ (fun _ _ _ y => (s1.trans y.1).seq z) ?_ ?_
        · rintro i y H2 H3 hi ⟨s2, d2⟩ ⟨rfl, hy⟩
          obtain ⟨x, rfl, gx, mx⟩ := str_map_get hy
          refine ⟨rfl, ?_⟩
          refine yes_of ?_
          refine ⟨_, rfl, x, rfl, good x mx, fun H4 s4 => ⟨_, s4 _ _ d2, ?_, ?_, ?_⟩⟩
          · rw [List.length_replicate, sizeLine_eq]
            rw [List.length_map] at hi
            omega
          · exact fun b o y => by rw [upd_ne (ne_of_none y hD)]; exact s4 _ _ (s2 _ _ y)
          · rw [← List.replicate_succ']
            exact upd_same
        · rintro H2 ⟨s2, d2⟩
          exact r D H2 s2 (by rw [List.length_map] at d2; exact d2)
      · refine ⟨.ref q, rfl, q, rfl, Or.inr ⟨⟨_, sqT_same s1 z⟩, fun D hD => ?_⟩⟩
        refine lc_it walk_tup (fun i H2 => Same H1 H2 ∧ H2 D = some (.lst (List.replicate i (V.bl true)))) ⟨Same.new hD, upd_same⟩ (fun _ _ _ y => sqT_same (s1.trans y.1) z) ?_ ?_
        · rintro i y H2 H3 hi ⟨s2, d2⟩ ⟨rfl, hy⟩
          obtain ⟨x, rfl, gx, mx⟩ := str_map_get hy
          refine ⟨rfl, ?_⟩
          refine yes_of ?_
          refine ⟨_, rfl, x, rfl, good x mx, fun H4 s4 => ⟨_, s4 _ _ d2, ?_, ?_, ?_⟩⟩
          · rw [List.length_replicate, sizeLine_eq]
            rw [List.length_map] at hi
            omega
          · exact fun b o y => by rw [upd_ne (ne_of_none y hD)]; exact s4 _ _ (s2 _ _ y)
          · rw [← List.replicate_succ']
            exact upd_same
        · rintro H2 ⟨s2, d2⟩
          exact r D H2 s2 (by rw [List.length_map] at d2; exact d2)
    case rest =>
      intro D H2 s2 d2
      refine ⟨D, List.replicate ws.length true, rfl, SqL.of (by rw [List.map_replicate]; exact d2), ?_⟩
      have all1 : (List.replicate ws.length true).all id = true := by simp
      rw [all1]
      refine ⟨true, rfl, iteF ?_⟩
      have hq2 : SqL K H2 q (ws.map V.str) ∨ SqT K H2 q (ws.map V.str) := hq.imp (fun z => (s1.trans s2).seq z) (fun z => sqT_same (s1.trans s2) z)
      refine ⟨.ref q, rfl, q, ws, rfl, hq2, by omega, fun p np => ⟨p, ded ws, rfl, upd_same, by rw [ded_self nd]; omega, ?_⟩⟩
      rw [ded_self nd]
      have s3 : Same H2 (upd H2 p (SetS P w p ws)) := Same.new np
      have hq3 := hq.imp (fun z => ((s1.trans s2).trans s3).seq z) (fun z => sqT_same ((s1.trans s2).trans s3) z)
      refine ⟨.ref q, rfl, q, _, rfl, hq3, rfl, ?_⟩
      rw [List.length_map]
      have e1 : decide (V.int (ws.length : Int) = V.int (ws.length : Int)) = true := decide_eq_true rfl
      rw [e1]
      exact k _ ((s1.trans s2).trans s3)
end
structure TSk where
  r : Option Str
  n : Int
  o : List Str
  s : List Str
  t : List Str
  f : List Str
def rV : Option Str → V
  | none => .non
  | some x => .str x
def OkS (l : List Str) : Prop := OkW l ∧ sortedS l = true
structure OkT (T : TSk) : Prop where
  r : ∀ x, T.r = some x → Word x
  n1 : 1 ≤ T.n
  n3 : T.n ≤ 3
  o : OkS T.o
  s : OkS T.s
  t : OkS T.t
  f : OkS T.f
def flds (r : V) (n : Int) (t1 t2 t3 t4 : Addr) : List (Str × V) := [("_role", r), ("_many", .int n), ("_other", .ref t1), ("_same", .ref t2), ("_takes", .ref t3), ("_forgets", .ref t4)]
/-- the task at a -/
def TaskAt (CT : Addr) (H : Hp) (a : Addr) (T : TSk) : Prop := ∃ dx t1 t2 t3 t4, H a = some (.ins CT dx (flds (rV T.r) T.n t1 t2 t3 t4)) ∧ H t1 = some (.tup (T.o.map V.str)) ∧ H t2 = some (.tup (T.s.map V.str)) ∧ H t3 = some (.tup (T.t.map V.str)) ∧ H t4 = some (.tup (T.f.map V.str))
/-- all but a stays -/
abbrev Ext (a : Addr) (H H' : Hp) : Prop := ∀ b o, b ≠ a → H b = some o → H' b = some o
theorem WL.ext {K : Frag} {H H' : Hp} {a C dx : Addr} {fs : List (Str × V)} {v : V} {ws : List Str} (h : WL K H v ws) (e : Ext a H H') (ha : H a = some (.ins C dx fs)) : WL K H' v ws := by
  obtain ⟨q, ev, h⟩ := h
  refine ⟨q, ev, ?_⟩
  have ne : ∀ {u : HO}, H q = some u → (∀ C dx fs, u ≠ .ins C dx fs) → q ≠ a := fun z n y => by
    rw [y, ha] at z
    exact n _ _ _ (Option.some.inj z).symm
  rcases h with h | h
  · rcases h with (h | ⟨o, h⟩) | h
    · exact .inl (.inl (.inl (e _ _ (ne h fun _ _ _ z => by cases z) h)))
    · exact .inl (.inl (.inr ⟨o, e _ _ (ne h fun _ _ _ z => by cases z) h⟩))
    · exact .inl (.inr h)
  · rcases h with (h | ⟨o, h⟩) | h
    · exact .inr (.inl (.inl (e _ _ (ne h fun _ _ _ z => by cases z) h)))
    · exact .inr (.inl (.inr ⟨o, e _ _ (ne h fun _ _ _ z => by cases z) h⟩))
    · exact .inr (.inr h)
section
variable {P : Program} {w : World} {K : Frag} {mg : Str → Option Value} {base : Heap} {aF aM aD CE aE CT aW aR aH aA aI : Addr} {fW fR fH fA fI : FuncData}
def spAsc (K : Frag) : Sp := fun vs H Q _ => ∃ f v ws, vs = [f, v] ∧ WL K H v ws ∧ OkW ws ∧ ∀ ys p H', ys.Perm ws → sortedS ys = true → H p = none → Same H H' → H' p = some (.tup (ys.map V.str)) → Q (.ref p) H'
theorem scAsc : FnScope ["field", "words"] ["field", "words"] (defScope sAsc) := ⟨rfl, rfl, rfl, by decide +kernel, rfl, by decide +kernel, by decide +kernel⟩
theorem ok_asc {f : Addr} {fd : FuncData} (F : Fun K "_ascending" "_ascending" sAsc f fd) (FR : Fun K "are_words" "are_words" sAre aR fR) (FW : Fun K "is_word" "is_word" sWord aW fW) (gR : mg "are_words" = some (.ref aR)) (gW : mg "is_word" = some (.ref aW)) (TR : TxtR K mg w aF aM aD CE aE) (TK : TxtK mg) (T : TxtB mg) : FnOk P w K mg base CX0 3 f fd ["field", "words"] (spAsc K) := by
  have GR : FnOk P w K mg base CX0 2 aR fR ["value"] (spAre K) := ok_are FR FW gW TR TK T
  have bR : Binds K fR ["value"] [] := FR.binds (ps := ["value"]) fun _ _ _ _ _ _ us hl => match us, hl with | [_], _ => rfl
  refine F.ok scAsc (fun vs H Q E h => ?_) (fun cdv A outer s H vs Q E hr h => ?_)
  · obtain ⟨x, v, ws, rfl, _⟩ := h
    rfl
  · obtain ⟨x, v, ws, rfl, wl, ok, k⟩ := h
    refine ⟨_, pss_cons (ps_if (pt_not (pt_val (pe_call GR hr rfl gR FR.kp bR .nil pass0 (pa_cons (pv 1) pa_nil)))) pss_no pss_nil)
      (pss_one (ps_ret (pe_callTy call_tuple_of (by rfl) TK.tuple (by decide +kernel) (pa_cons (pe_callB cr_sortedSeq (by rfl) T.sorted (by decide +kernel) (pa_cons (pv 1) pa_nil)) pa_nil)))), ?_⟩
    refine ⟨_, rfl, v, ws, rfl, wl, ok, fun H1 s1 => ⟨true, rfl, iteF ?_⟩⟩
    obtain ⟨q, rfl, hq⟩ := wl.same s1
    have few := ok.2.2
    refine ⟨.ref q, rfl, q, ws, rfl, hq, by omega, fun zs l pz sz nl => ⟨l, _, rfl, .inl ⟨SqL.of upd_same, fun p np => ?_⟩⟩⟩
    have s2 : Same H (upd H1 l (.lst (zs.map V.str))) := s1.trans (Same.new nl)
    exact k zs p _ pz sz (none_back s2 np) (s2.trans (Same.new np)) upd_same
def spTk (K : Frag) (CT : Addr) : Sp := fun vs H Q _ => ∃ a dx v1 v2 v3 v4 w1 w2 w3 w4 T, vs = [.ref a, rV T.r, .int T.n, v1, v2, v3, v4] ∧ H a = some (.ins CT dx []) ∧ WL K H v1 w1 ∧ WL K H v2 w2 ∧ WL K H v3 w3 ∧ WL K H v4 w4 ∧
  w1.Perm T.o ∧ w2.Perm T.s ∧ w3.Perm T.t ∧ w4.Perm T.f ∧ OkT T ∧ ∀ H', Ext a H H' → TaskAt CT H' a T → Q .non H'
/-- the i-th keyword default of Task's __init__, where it is an object -/
def kwAt (x : Str) (K : Frag) : Addr := match K.lookup (He.ma K (He.ga K "Task") "__init__") with
  | some ⟨_, _, .func fd, _⟩ => (match fd.kwdefaults with
    | .ref D => (match PySem.W.nsIn K D x with
      | some (some (.ref b)) => b
      | _ => 0)
    | _ => 0)
  | _ => 0
def kwT (K : Frag) : List (Str × V) := [("many", .int 1), ("other", .ref (kwAt "other" K)), ("same", .ref (kwAt "same" K)), ("takes", .ref (kwAt "takes" K)), ("forgets", .ref (kwAt "forgets" K))]
/-- the class of tasks and its defs -/
structure Pkg (K : Frag) (mg : Str → Option Value) (w : World) (aF aM aD CE aE CT aW aR aH aA aI : Addr) (fW fR fH fA fI : FuncData) : Prop where
  TR : TxtR K mg w aF aM aD CE aE
  TK : TxtK mg
  T : TxtB mg
  C : OwnC K mg "Task" CT
  mkC : Mk K CT aI
  FI : FunD K "__init__" "Task.__init__" (defArgs sTkI) (defBody sTkI) (defScope sTkI) [.non] (kwT K) aI fI
  no_role : NoAttr K CT "_role"
  no_many : NoAttr K CT "_many"
  no_other : NoAttr K CT "_other"
  no_same : NoAttr K CT "_same"
  no_takes : NoAttr K CT "_takes"
  no_forgets : NoAttr K CT "_forgets"
  emp : ∀ q ∈ (kwT K).drop 1, ∃ b, q.2 = .ref b ∧ ∀ H : Hp, SqT K H b []
  FW : Fun K "is_word" "is_word" sWord aW fW
  FR : Fun K "are_words" "are_words" sAre aR fR
  FH : Fun K "is_whole" "is_whole" sWhole aH fH
  FA : Fun K "_ascending" "_ascending" sAsc aA fA
  gW : mg "is_word" = some (.ref aW)
  gR : mg "are_words" = some (.ref aR)
  gH : mg "is_whole" = some (.ref aH)
  gA : mg "_ascending" = some (.ref aA)
theorem OkW.perm {a b : List Str} (h : OkW b) (p : a.Perm b) : OkW a := ⟨p.nodup_iff.mpr h.1, fun x hx => h.2.1 x (p.mem_iff.mp hx), by rw [p.length_eq]; exact h.2.2⟩
theorem scTk : FnScope ["self", "role", "many", "other", "same", "takes", "forgets"] ["self", "role", "many", "other", "same", "takes", "forgets"] (defScope sTkI) := ⟨rfl, rfl, rfl, by decide +kernel, rfl, by decide +kernel, by decide +kernel⟩
theorem ok_tk (G : Pkg K mg w aF aM aD CE aE CT aW aR aH aA aI fW fR fH fA fI) : FnOk P w K mg base CX0 4 aI fI ["self", "role", "many", "other", "same", "takes", "forgets"] (spTk K CT) := by
  have GW : FnOk P w K mg base CX0 1 aW fW ["value"] spGW := ok_gw G.FW G.TR G.TK
  have GH : FnOk P w K mg base CX0 1 aH fH ["value", "low", "high"] spWhole := ok_whole G.FH G.TR G.TK G.T
  have GA : FnOk P w K mg base CX0 3 aA fA ["field", "words"] (spAsc K) := ok_asc G.FA G.FR G.FW G.gR G.gW G.TR G.TK G.T
  have bW : Binds K fW ["value"] [] := G.FW.binds (ps := ["value"]) fun _ _ _ _ _ _ us hl => match us, hl with | [_], _ => rfl
  have bH : Binds K fH ["value", "low", "high"] [] := G.FH.binds (ps := ["value", "low", "high"]) fun _ _ _ _ _ _ us hl => match us, hl with | [_, _, _], _ => rfl
  have bA : Binds K fA ["field", "words"] [] := G.FA.binds (ps := ["field", "words"]) fun _ _ _ _ _ _ us hl => match us, hl with | [_, _], _ => rfl
  refine G.FI.ok scTk (fun vs H Q E h => ?_) (fun cdv A outer s H vs Q E hr h => ?_)
  · obtain ⟨a, dx, v1, v2, v3, v4, w1, w2, w3, w4, T, rfl, _⟩ := h
    rfl
  · obtain ⟨a, dx, v1, v2, v3, v4, w1, w2, w3, w4, T, rfl, ha, l1, l2, l3, l4, q1, q2, q3, q4, ok, k⟩ := h
    have hr1 : Room 1 _ := hr.mono (by decide)
    obtain ⟨uM, gMany⟩ := G.T.MANY
    refine ⟨_, pss_cons (ps_if (PW.pt (pw_and (pt_cmpR op_notN (pv 1) pe_non (nomark _)) (pw_and1 (pt_not (pt_val (pe_call GW hr1 rfl G.gW G.FW.kp bW .nil pass0 (pa_cons (pv 1) pa_nil))))))) pss_no pss_nil)
      (pss_cons (ps_if (pt_not (pt_val (pe_call GH hr1 rfl G.gH G.FH.kp bH .nil pass0 (pa_cons (pv 2) (pa_cons pe_int (pa_cons (pe_glob (v := .int 3) (by rfl) gMany ⟨_, rfl⟩) pa_nil)))))) pss_no pss_nil)
      (pss_cons (ps_fld (pv 0) (pv 1) rfl)
      (pss_cons (ps_fld (pv 0) (pv 2) rfl)
      (pss_cons (ps_fld (pv 0) (pe_call GA hr rfl G.gA G.FA.kp bA .nil pass0 (pa_cons pe_str (pa_cons (pv 3) pa_nil))) rfl)
      (pss_cons (ps_fld (pv 0) (pe_call GA hr rfl G.gA G.FA.kp bA .nil pass0 (pa_cons pe_str (pa_cons (pv 4) pa_nil))) rfl)
      (pss_cons (ps_fld (pv 0) (pe_call GA hr rfl G.gA G.FA.kp bA .nil pass0 (pa_cons pe_str (pa_cons (pv 5) pa_nil))) rfl)
      (pss_one (ps_fld (pv 0) (pe_call GA hr rfl G.gA G.FA.kp bA .nil pass0 (pa_cons pe_str (pa_cons (pv 6) pa_nil))) rfl)))))))), ?_⟩
    refine mpP (R := ∀ (H1 : Hp), Same H H1 → (?R : Hp → Prop) H1) ?imp ?rest
    case imp =>
      intro r
      have two : (∃ x, T.r = some x) ∨ T.r = none := by
        cases T.r with
        | none => exact .inr rfl
        | some x => exact .inl ⟨x, rfl⟩
      rcases two with ⟨x, e⟩ | e
      · refine ⟨rV T.r, rfl, rfl, true, by rw [e]; rfl, iteT ⟨rV T.r, rfl, x, by rw [e]; rfl, ok.r x e, fun H1 s1 => ⟨true, rfl, iteF ?_⟩⟩⟩
        exact r H1 s1
      · refine ⟨rV T.r, rfl, rfl, false, by rw [e]; rfl, iteF (iteF ?_)⟩
        exact r H (Same.refl H)
    case rest =>
      intro H1 s1
      refine ⟨_, rfl, T.n, 1, 3, rfl, ok.n1, ok.n3, true, rfl, iteF ?_⟩
      have ha1 := s1 _ _ ha
      refine ⟨_, rfl, _, rfl, a, CT, dx, [], rfl, ha1, G.C.cl, G.no_role, by decide, ?_⟩
      refine ⟨_, rfl, _, rfl, a, CT, dx, _, rfl, upd_same, G.C.cl, G.no_many, Nat.le_of_ble_eq_true (by rfl), ?_⟩
      have x2 : ∀ {A B : HO}, Ext a H (upd (upd H1 a A) a B) := fun b o nb z => by rw [upd_ne nb, upd_ne nb]; exact s1 _ _ z
      refine ⟨_, rfl, _, v1, w1, rfl, l1.ext x2 ha, ok.o.1.perm q1, fun y1 t1 H3 p1 z1 n1 s3 e1 => ⟨_, rfl, a, CT, dx, _, rfl, s3 _ _ upd_same, G.C.cl, G.no_other, Nat.le_of_ble_eq_true (by rfl), ?_⟩⟩
      have x3 : Ext a H H3 := fun b o nb z => s3 _ _ (x2 b o nb z)
      have d1 : t1 ≠ a := fun z => by have q := s3 a _ upd_same; rw [← z, e1] at q; cases q
      refine ⟨_, rfl, _, v2, w2, rfl, l2.ext (fun b o nb z => by rw [upd_ne nb]; exact x3 b o nb z) ha, ok.s.1.perm q2, fun y2 t2 H5 p2 z2 n2 s5 e2 => ⟨_, rfl, a, CT, dx, _, rfl, s5 _ _ upd_same, G.C.cl, G.no_same, Nat.le_of_ble_eq_true (by rfl), ?_⟩⟩
      have x5 : Ext a H H5 := fun b o nb z => s5 _ _ (by rw [upd_ne nb]; exact x3 b o nb z)
      have d2 : t2 ≠ a := fun z => by have q := s5 a _ upd_same; rw [← z, e2] at q; cases q
      have e15 : H5 t1 = some (.tup (y1.map V.str)) := s5 _ _ (by rw [upd_ne d1]; exact e1)
      refine ⟨_, rfl, _, v3, w3, rfl, l3.ext (fun b o nb z => by rw [upd_ne nb]; exact x5 b o nb z) ha, ok.t.1.perm q3, fun y3 t3 H7 p3 z3 n3 s7 e3 => ⟨_, rfl, a, CT, dx, _, rfl, s7 _ _ upd_same, G.C.cl, G.no_takes, Nat.le_of_ble_eq_true (by rfl), ?_⟩⟩
      have x7 : Ext a H H7 := fun b o nb z => s7 _ _ (by rw [upd_ne nb]; exact x5 b o nb z)
      have d3 : t3 ≠ a := fun z => by have q := s7 a _ upd_same; rw [← z, e3] at q; cases q
      have e17 : H7 t1 = some (.tup (y1.map V.str)) := s7 _ _ (by rw [upd_ne d1]; exact e15)
      have e27 : H7 t2 = some (.tup (y2.map V.str)) := s7 _ _ (by rw [upd_ne d2]; exact e2)
      refine ⟨_, rfl, _, v4, w4, rfl, l4.ext (fun b o nb z => by rw [upd_ne nb]; exact x7 b o nb z) ha, ok.f.1.perm q4, fun y4 t4 H9 p4 z4 n4 s9 e4 => ⟨_, rfl, a, CT, dx, _, rfl, s9 _ _ upd_same, G.C.cl, G.no_forgets, Nat.le_of_ble_eq_true (by rfl), ?_⟩⟩
      have x9 : Ext a H H9 := fun b o nb z => s9 _ _ (by rw [upd_ne nb]; exact x7 b o nb z)
      have d4 : t4 ≠ a := fun z => by have q := s9 a _ upd_same; rw [← z, e4] at q; cases q
      have e19 : H9 t1 = some (.tup (y1.map V.str)) := s9 _ _ (by rw [upd_ne d1]; exact e17)
      have e29 : H9 t2 = some (.tup (y2.map V.str)) := s9 _ _ (by rw [upd_ne d2]; exact e27)
      have e39 : H9 t3 = some (.tup (y3.map V.str)) := s9 _ _ (by rw [upd_ne d3]; exact e3)
      have f1 : y1 = T.o := sorted_same (p1.trans q1) z1 ok.o.2
      have f2 : y2 = T.s := sorted_same (p2.trans q2) z2 ok.s.2
      have f3 : y3 = T.t := sorted_same (p3.trans q3) z3 ok.t.2
      have f4 : y4 = T.f := sorted_same (p4.trans q4) z4 ok.f.2
      refine k _ (fun b o nb z => by rw [upd_ne nb]; exact x9 b o nb z) ⟨dx, t1, t2, t3, t4, upd_same, ?_, ?_, ?_, ?_⟩
      · rw [upd_ne d1, e19, f1]
      · rw [upd_ne d2, e29, f2]
      · rw [upd_ne d3, e39, f3]
      · rw [upd_ne d4, e4, f4]
end
/-! ### getters, == -/
abbrev sG1 : Stmt := inClass (top 40) 1
abbrev sG2 : Stmt := inClass (top 40) 2
abbrev sG3 : Stmt := inClass (top 40) 3
abbrev sG4 : Stmt := inClass (top 40) 4
abbrev sG5 : Stmt := inClass (top 40) 5
abbrev sG6 : Stmt := inClass (top 40) 6
abbrev sEq : Stmt := inClass (top 40) 7
def dR : Option Str → PyData
  | none => .none
  | some x => .str x
def dL (l : List Str) : PyData := .tuple (l.map PyData.str)
def dT (T : TSk) : PyData := .tuple [dR T.r, .int T.n, dL T.o, dL T.s, dL T.t, dL T.f]
def eqT (T U : TSk) : Bool := PyData.eqv (dR T.r) (dR U.r) && (PyData.eqv (.int T.n) (.int U.n) && (PyData.eqv (dL T.o) (dL U.o) && (PyData.eqv (dL T.s) (dL U.s) && (PyData.eqv (dL T.t) (dL U.t) && PyData.eqv (dL T.f) (dL U.f)))))
theorem eqT_dT (T U : TSk) : PyData.eqv (dT T) (dT U) = eqT T U := by
  unfold dT eqT
  simp only [PyData.eqv, PyData.eqvAll, Bool.and_true]
theorem word_lay {x : Str} (h : Word x) : PyData.canLay0 (.str x) = true := (word_str h).1
theorem lay_words : ∀ {l : List Str}, (∀ x ∈ l, Word x) → PyData.canLayAll0 (l.map PyData.str) = true
  | [], _ => rfl
  | x :: l, h => by
    show (PyData.canLay0 (.str x) && PyData.canLayAll0 (l.map PyData.str)) = true
    rw [lay_words fun y hy => h y (List.mem_cons_of_mem _ hy), word_lay (h x List.mem_cons_self)]
    rfl
theorem depth_strs : ∀ l : List Str, PyData.depthAll (l.map PyData.str) = 0
  | [] => rfl
  | x :: l => by
    show max (PyData.depth (.str x)) (PyData.depthAll (l.map PyData.str)) = 0
    rw [depth_strs l]
    simp only [PyData.depth, Nat.max_self]
theorem shaped_dL {l : List Str} (h : ∀ x ∈ l, Word x) : SeqAt.shaped (dL l) = true := by
  have h1 := lay_words h
  have h3 : PyData.depth (dL l) ≤ 64 := by
    simp only [dL, PyData.depth, depth_strs]
    omega
  unfold SeqAt.shaped
  rw [decide_eq_true h3, Bool.and_true]
  simpa [dL, PyData.canLay0] using h1
theorem shaped_dR {r : Option Str} (h : ∀ x, r = some x → Word x) : SeqAt.shaped (dR r) = true := by
  cases r with
  | none => decide +kernel
  | some x =>
    have h1 := word_lay (h x rfl)
    have h3 : PyData.depth (dR (some x)) ≤ 64 := by simp only [dR, PyData.depth]; omega
    unfold SeqAt.shaped
    rw [decide_eq_true h3, Bool.and_true]
    exact h1
theorem shaped_int (i : Int) : SeqAt.shaped (.int i) = true := rfl
theorem shaped_dT {T : TSk} (h : OkT T) : SeqAt.shaped (dT T) = true := by
  have lay : ∀ {d : PyData}, SeqAt.shaped d = true → PyData.canLay0 d = true := fun {d} z => SeqAt.canLay_of_shaped z
  have a1 := lay (shaped_dR h.r)
  have a2 := lay (shaped_dL h.o.1.2.1)
  have a3 := lay (shaped_dL h.s.1.2.1)
  have a4 := lay (shaped_dL h.t.1.2.1)
  have a5 := lay (shaped_dL h.f.1.2.1)
  have dr : PyData.depth (dR T.r) = 0 := by cases T.r <;> simp only [dR, PyData.depth]
  have h3 : PyData.depth (dT T) ≤ 64 := by
    simp only [dT, dL, PyData.depth, PyData.depthAll, depth_strs, dr]
    omega
  unfold SeqAt.shaped
  rw [decide_eq_true h3, Bool.and_true]
  show PyData.canLay0 (dT T) = true
  simp only [dT, PyData.canLay0, PyData.canLayAll0, a1, a2, a3, a4, a5, Bool.and_self]
theorem dp_R {K : Frag} {H : Hp} : ∀ r : Option Str, Dp K H (rV r) (dR r)
  | none => .non
  | some x => .str x
theorem dp_strs {K : Frag} {H : Hp} : ∀ l : List Str, DpAll K H (l.map V.str) (l.map PyData.str)
  | [] => .nil
  | x :: l => .cons (.str x) (dp_strs l)
theorem dp_L {K : Frag} {H : Hp} {t : Addr} {l : List Str} (h : H t = some (.tup (l.map V.str))) : Dp K H (.ref t) (dL l) := .tup (SqT.of h) (dp_strs l)
theorem and_step {b : Bool} {A B : Prop} (h1 : b = true → A) (h0 : b = false → B) : ∃ c, V.bl b = V.bl c ∧ if c = true then A else B := ⟨b, rfl, by
  cases b
  · exact h0 rfl
  · exact h1 rfl⟩
section
variable {P : Program} {w : World} {K : Frag} {mg : Str → Option Value} {base : Heap} {aF aM aD CE aE CT aW aR aH aA aI f : Addr} {fW fR fH fA fI fd : FuncData}
theorem scG1 : FnScope ["self"] ["self"] (defScope sG1) := ⟨rfl, rfl, rfl, by decide +kernel, rfl, by decide +kernel, by decide +kernel⟩
theorem ok_g1 (G : Pkg K mg w aF aM aD CE aE CT aW aR aH aA aI fW fR fH fA fI) (F : Fun K "role" "Task.role" sG1 f fd) : FnOk P w K mg base CX0 1 f fd ["self"] (getSp CT "_role") := by
  refine F.ok scG1 (fun vs H Q E h => ?_) (fun cdv A outer s H vs Q E hr h => ?_)
  · obtain ⟨a, dx, fs, v, rfl, _⟩ := h
    rfl
  · obtain ⟨a, dx, fs, v, rfl, ha, hv, k⟩ := h
    refine ⟨_, pss_one (ps_ret (pe_fld (pv 0) rfl)), ?_⟩
    exact ⟨_, rfl, a, CT, dx, fs, v, rfl, ha, G.C.cl, G.no_role, hv, k⟩
theorem scG2 : FnScope ["self"] ["self"] (defScope sG2) := ⟨rfl, rfl, rfl, by decide +kernel, rfl, by decide +kernel, by decide +kernel⟩
theorem ok_g2 (G : Pkg K mg w aF aM aD CE aE CT aW aR aH aA aI fW fR fH fA fI) (F : Fun K "many" "Task.many" sG2 f fd) : FnOk P w K mg base CX0 1 f fd ["self"] (getSp CT "_many") := by
  refine F.ok scG2 (fun vs H Q E h => ?_) (fun cdv A outer s H vs Q E hr h => ?_)
  · obtain ⟨a, dx, fs, v, rfl, _⟩ := h
    rfl
  · obtain ⟨a, dx, fs, v, rfl, ha, hv, k⟩ := h
    refine ⟨_, pss_one (ps_ret (pe_fld (pv 0) rfl)), ?_⟩
    exact ⟨_, rfl, a, CT, dx, fs, v, rfl, ha, G.C.cl, G.no_many, hv, k⟩
theorem scG3 : FnScope ["self"] ["self"] (defScope sG3) := ⟨rfl, rfl, rfl, by decide +kernel, rfl, by decide +kernel, by decide +kernel⟩
theorem ok_g3 (G : Pkg K mg w aF aM aD CE aE CT aW aR aH aA aI fW fR fH fA fI) (F : Fun K "other" "Task.other" sG3 f fd) : FnOk P w K mg base CX0 1 f fd ["self"] (getSp CT "_other") := by
  refine F.ok scG3 (fun vs H Q E h => ?_) (fun cdv A outer s H vs Q E hr h => ?_)
  · obtain ⟨a, dx, fs, v, rfl, _⟩ := h
    rfl
  · obtain ⟨a, dx, fs, v, rfl, ha, hv, k⟩ := h
    refine ⟨_, pss_one (ps_ret (pe_fld (pv 0) rfl)), ?_⟩
    exact ⟨_, rfl, a, CT, dx, fs, v, rfl, ha, G.C.cl, G.no_other, hv, k⟩
theorem scG4 : FnScope ["self"] ["self"] (defScope sG4) := ⟨rfl, rfl, rfl, by decide +kernel, rfl, by decide +kernel, by decide +kernel⟩
theorem ok_g4 (G : Pkg K mg w aF aM aD CE aE CT aW aR aH aA aI fW fR fH fA fI) (F : Fun K "same" "Task.same" sG4 f fd) : FnOk P w K mg base CX0 1 f fd ["self"] (getSp CT "_same") := by
  refine F.ok scG4 (fun vs H Q E h => ?_) (fun cdv A outer s H vs Q E hr h => ?_)
  · obtain ⟨a, dx, fs, v, rfl, _⟩ := h
    rfl
  · obtain ⟨a, dx, fs, v, rfl, ha, hv, k⟩ := h
    refine ⟨_, pss_one (ps_ret (pe_fld (pv 0) rfl)), ?_⟩
    exact ⟨_, rfl, a, CT, dx, fs, v, rfl, ha, G.C.cl, G.no_same, hv, k⟩
theorem scG5 : FnScope ["self"] ["self"] (defScope sG5) := ⟨rfl, rfl, rfl, by decide +kernel, rfl, by decide +kernel, by decide +kernel⟩
theorem ok_g5 (G : Pkg K mg w aF aM aD CE aE CT aW aR aH aA aI fW fR fH fA fI) (F : Fun K "takes" "Task.takes" sG5 f fd) : FnOk P w K mg base CX0 1 f fd ["self"] (getSp CT "_takes") := by
  refine F.ok scG5 (fun vs H Q E h => ?_) (fun cdv A outer s H vs Q E hr h => ?_)
  · obtain ⟨a, dx, fs, v, rfl, _⟩ := h
    rfl
  · obtain ⟨a, dx, fs, v, rfl, ha, hv, k⟩ := h
    refine ⟨_, pss_one (ps_ret (pe_fld (pv 0) rfl)), ?_⟩
    exact ⟨_, rfl, a, CT, dx, fs, v, rfl, ha, G.C.cl, G.no_takes, hv, k⟩
theorem scG6 : FnScope ["self"] ["self"] (defScope sG6) := ⟨rfl, rfl, rfl, by decide +kernel, rfl, by decide +kernel, by decide +kernel⟩
theorem ok_g6 (G : Pkg K mg w aF aM aD CE aE CT aW aR aH aA aI fW fR fH fA fI) (F : Fun K "forgets" "Task.forgets" sG6 f fd) : FnOk P w K mg base CX0 1 f fd ["self"] (getSp CT "_forgets") := by
  refine F.ok scG6 (fun vs H Q E h => ?_) (fun cdv A outer s H vs Q E hr h => ?_)
  · obtain ⟨a, dx, fs, v, rfl, _⟩ := h
    rfl
  · obtain ⟨a, dx, fs, v, rfl, ha, hv, k⟩ := h
    refine ⟨_, pss_one (ps_ret (pe_fld (pv 0) rfl)), ?_⟩
    exact ⟨_, rfl, a, CT, dx, fs, v, rfl, ha, G.C.cl, G.no_forgets, hv, k⟩
def spE (K : Frag) (CT : Addr) : Sp := fun vs H Q _ => ∃ a v T, vs = [.ref a, v] ∧ TaskAt CT H a T ∧ OkT T ∧ ((∃ b U, v = .ref b ∧ TaskAt CT H b U ∧ OkT U ∧ Q (.bl (eqT T U)) H) ∨ ∃ t, TyX K H v t ∧ PySem.W.kitOne K t (.ref CT) = some false ∧ Q (.bl false) H)
theorem scE : FnScope ["self", "other"] ["self", "other"] (defScope sEq) := ⟨rfl, rfl, rfl, by decide +kernel, rfl, by decide +kernel, by decide +kernel⟩
theorem ok_eq (G : Pkg K mg w aF aM aD CE aE CT aW aR aH aA aI fW fR fH fA fI) (F : Fun K "__eq__" "Task.__eq__" sEq f fd) : FnOk P w K mg base CX0 1 f fd ["self", "other"] (spE K CT) := by
  refine F.ok scE (fun vs H Q E h => ?_) (fun cdv A outer s H vs Q E hr h => ?_)
  · obtain ⟨a, v, T, rfl, _⟩ := h
    rfl
  · obtain ⟨a, v, T, rfl, ⟨dx, t1, t2, t3, t4, ha, h1, h2, h3, h4⟩, ok, k⟩ := h
    have hu := hr.units
    refine ⟨_, pss_one (ps_ret (pe_and (pe_callB call_isi (by rfl) G.TR.isinstance (by decide +kernel) (pa_cons (pv 1) (pa_cons (pe_glob (v := .ref CT) (by rfl) G.C.gC rfl) pa_nil))) (pe_and (pe_cmpR (op_eqD hu) (pe_fld (pv 0) rfl) (pe_fld (pv 1) rfl) (nomark _)) (pe_and (pe_cmpR (op_eqD hu) (pe_fld (pv 0) rfl) (pe_fld (pv 1) rfl) (nomark _)) (pe_and (pe_cmpR (op_eqD hu) (pe_fld (pv 0) rfl) (pe_fld (pv 1) rfl) (nomark _)) (pe_and (pe_cmpR (op_eqD hu) (pe_fld (pv 0) rfl) (pe_fld (pv 1) rfl) (nomark _)) (pe_and (pe_cmpR (op_eqD hu) (pe_fld (pv 0) rfl) (pe_fld (pv 1) rfl) (nomark _)) (pe_one (pe_cmpR (op_eqD hu) (pe_fld (pv 0) rfl) (pe_fld (pv 1) rfl) (nomark _)))))))))), ?_⟩
    rcases k with ⟨b, U, rfl, ⟨dy, u1, u2, u3, u4, hb, j1, j2, j3, j4⟩, oku, k⟩ | ⟨t, ty, kt, k⟩
    · refine ⟨_, rfl, _, _, _, _, true, rfl, .own CT, .base (.ins hb G.C.cl G.C.ha G.C.hn G.C.ht G.C.hm), G.C.me, true, rfl, iteT ?_⟩
      refine ⟨_, rfl, a, CT, dx, _, _, rfl, ha, G.C.cl, G.no_role, rfl, _, rfl, b, CT, dy, _, _, rfl, hb, G.C.cl, G.no_role, rfl, dR T.r, dR U.r, dp_R _, dp_R _, shaped_dR ok.r, shaped_dR oku.r, and_step (fun e0 => ?_) (fun e0 => ?_)⟩
      rotate_left 1
      · have z : eqT T U = false := by unfold eqT; rw [e0]; simp
        rw [z] at k
        exact k
      refine ⟨_, rfl, a, CT, dx, _, _, rfl, ha, G.C.cl, G.no_many, rfl, _, rfl, b, CT, dy, _, _, rfl, hb, G.C.cl, G.no_many, rfl, .int T.n, .int U.n, .int _, .int _, shaped_int _, shaped_int _, and_step (fun e1 => ?_) (fun e1 => ?_)⟩
      rotate_left 1
      · have z : eqT T U = false := by unfold eqT; rw [e0, e1]; simp
        rw [z] at k
        exact k
      refine ⟨_, rfl, a, CT, dx, _, _, rfl, ha, G.C.cl, G.no_other, rfl, _, rfl, b, CT, dy, _, _, rfl, hb, G.C.cl, G.no_other, rfl, dL T.o, dL U.o, dp_L h1, dp_L j1, shaped_dL ok.o.1.2.1, shaped_dL oku.o.1.2.1, and_step (fun e2 => ?_) (fun e2 => ?_)⟩
      rotate_left 1
      · have z : eqT T U = false := by unfold eqT; rw [e0, e1, e2]; simp
        rw [z] at k
        exact k
      refine ⟨_, rfl, a, CT, dx, _, _, rfl, ha, G.C.cl, G.no_same, rfl, _, rfl, b, CT, dy, _, _, rfl, hb, G.C.cl, G.no_same, rfl, dL T.s, dL U.s, dp_L h2, dp_L j2, shaped_dL ok.s.1.2.1, shaped_dL oku.s.1.2.1, and_step (fun e3 => ?_) (fun e3 => ?_)⟩
      rotate_left 1
      · have z : eqT T U = false := by unfold eqT; rw [e0, e1, e2, e3]; simp
        rw [z] at k
        exact k
      refine ⟨_, rfl, a, CT, dx, _, _, rfl, ha, G.C.cl, G.no_takes, rfl, _, rfl, b, CT, dy, _, _, rfl, hb, G.C.cl, G.no_takes, rfl, dL T.t, dL U.t, dp_L h3, dp_L j3, shaped_dL ok.t.1.2.1, shaped_dL oku.t.1.2.1, and_step (fun e4 => ?_) (fun e4 => ?_)⟩
      rotate_left 1
      · have z : eqT T U = false := by unfold eqT; rw [e0, e1, e2, e3, e4]; simp
        rw [z] at k
        exact k
      have z : eqT T U = PyData.eqv (dL T.f) (dL U.f) := by unfold eqT; rw [e0, e1, e2, e3, e4]; simp
      rw [z] at k
      exact ⟨_, rfl, a, CT, dx, _, _, rfl, ha, G.C.cl, G.no_forgets, rfl, _, rfl, b, CT, dy, _, _, rfl, hb, G.C.cl, G.no_forgets, rfl, dL T.f, dL U.f, dp_L h4, dp_L j4, shaped_dL ok.f.1.2.1, shaped_dL oku.f.1.2.1, k⟩
    · exact ⟨_, rfl, _, _, _, _, false, rfl, .own CT, ty, kt, false, rfl, iteF k⟩
end
/-! ### how its arguments bind -/
abbrev PSI : List Str := ["self", "role", "many", "other", "same", "takes", "forgets"]
section
variable {P : Program} {w : World} {K : Frag} {mg : Str → Option Value} {base : Heap} {aF aM aD CE aE CT aW aR aH aA aI : Addr} {fW fR fH fA fI : FuncData}
theorem kb_full (G : Pkg K mg w aF aM aD CE aE CT aW aR aH aA aI fW fR fH fA fI) : KBn K fI PSI 2 ["many", "other", "same", "takes", "forgets"] (fun us ws => us ++ ws) (fun vs zs => vs ++ zs) := by
  obtain ⟨its, mv, h⟩ := G.FI.kbinds (ps := PSI) 2 ["many", "other", "same", "takes", "forgets"] [] (fun us its mv ws => us ++ ws) (fun z => by cases z) (fun z => by cases z) (fun q hq => by cases hq) (fun a b c d => a.append d)
    (fun T D doc pm an cdv ct us its mv ws h1 h2 h3 h4 => by
      match us, its, mv, ws, h1, h2, h3, h4 with
      | [a, b], [c], [], [d, e, f, g, h], _, _, _, _ => exact ⟨_, rfl, rfl⟩)
  exact h
end
structure Mets (K : Frag) (CT gE g1 g2 g3 g4 g5 g6 p1 p2 p3 p4 p5 p6 : Addr) (fE f1 f2 f3 f4 f5 f6 : FuncData) : Prop where
  p1 : PropOf K CT "role" p1 g1
  F1 : Fun K "role" "Task.role" sG1 g1 f1
  p2 : PropOf K CT "many" p2 g2
  F2 : Fun K "many" "Task.many" sG2 g2 f2
  p3 : PropOf K CT "other" p3 g3
  F3 : Fun K "other" "Task.other" sG3 g3 f3
  p4 : PropOf K CT "same" p4 g4
  F4 : Fun K "same" "Task.same" sG4 g4 f4
  p5 : PropOf K CT "takes" p5 g5
  F5 : Fun K "takes" "Task.takes" sG5 g5 f5
  p6 : PropOf K CT "forgets" p6 g6
  F6 : Fun K "forgets" "Task.forgets" sG6 g6 f6
  hE : PySem.W.findIn K (.ref CT) "__eq__" = some (some (.ref gE))
  jE : PySem.W.isFn K (.ref gE) = true
  FE : Fun K "__eq__" "Task.__eq__" sEq gE fE
  hNe : PySem.W.findIn K (.ref CT) "__ne__" = some (some (.builtin "object.__ne__"))
  hob : PySem.W.subIn K (.ref CT) (.type "object") = some true
  nT : PySem.W.notFirst K CT (.type "tuple") = true
  nS : PySem.W.notFirst K CT (.type "str") = true
  nN : PySem.W.notFirst K CT (.type "NoneType") = true
  kS : PySem.W.kitOne K (.type "str") (.ref CT) = some false
  kN : PySem.W.kitOne K (.type "NoneType") (.ref CT) = some false
  kT : PySem.W.kitOne K (.type "tuple") (.ref CT) = some false
end Fp1
set_option Elab.async false
set_option linter.all false
set_option maxRecDepth 100000
set_option maxHeartbeats 4000000
/-! FzL: max(xs, default=d) of a list of ints -/
namespace FzL
open PySem PySem.Spec PyProof.Rows
section
variable {prog : Program} {w : World} {A : Around} {E : Value → Shared → Prop} {s : Shared}
theorem tree_kw {id : String} {B : Builtin} {us : List Value} {kw : List (Str × Value)} {Q : Value → Shared → Prop} (h1 : builtinKind id = none) (h2 : plainId id = true) (h3 : entryFor table id = some B) (h4 : argsOk id ⟨us, kw⟩)
    (h : wpAny (model prog w) A.in1 (B ⟨us, kw⟩) (fun fin s' => match fin with
      | .done f => (match (Except.ok f : Result) with
        | .ok (.ret v) => Q v s'
        | .ok _ => False
        | .error e => E e s')
      | .again q => q.quiet = true ∧ codeAny (model prog w) A q (fun r s' => match r with
        | .ok (.ret v) => Q v s'
        | .ok _ => False
        | .error e => E e s') s') E s) : wpAny (model prog w) A (call (.builtin id) us kw) Q E s := by
  refine wpAny_call (codeAny_call_builtin h2 h3 ?_); simp only [checkBuiltinCall, h1]
  cases sg : Manifest.signature? id with
  | none => exact wpAny_pure h
  | some g =>
    have e : Bind.checkArgs id g ⟨us, kw⟩ = pure () := by simpa only [argsOk, sg] using h4
    simp only [e]; exact wpAny_pure h
end
section
variable {prog : Program} {w : World} {A : Around} {R : Result → Shared → Prop} {I : Addr} {fp wr : List Addr} {n : Nat} {P : Nat → Value → Prop} {St : Nat → Heap → Prop} {kw : List (Str × Value)}
theorem nm : (toString "max" ++ toString ".loop" : String) = "max.loop" := by decide
/-- the loop behind its first item, whatever the keywords -/
theorem max_on (W : Walks prog w A.in1 I fp wr n P St) (bt : Nat → Nat → Bool) (cmp : CmpOf prog w A.in1 .Gt P bt) (S : Addr) (nS : S ∉ fp) : ∀ (k j : Nat) (s : Shared) (vb : Value) (c : Nat), n - (j + 1) = k → j + 1 ≤ n → St (j + 1) s.heap → P (argBest bt j) vb →
    s.heap.get? S = some { cls := .type "list", dict := none, data := .seq #[vb, vb] c, slots := #[] } →
    (∀ (v : Value) (h' : Heap) (tk : Nat), P (argBest bt (n - 1)) v → (∀ b o, b ∉ wr → b ≠ S → s.heap.get? b = some o → h'.get? b = some o) → R (.ok (.ret v)) { s with heap := h', toks := tk }) →
    codeAny (model prog w) A (.builtin "max.loop" ⟨[.ref I, .none, .ref S], kw⟩) R s
  | 0, j, s, vb, c, ek, hj, st, pb, at_, fin => by
    have nw : S ∉ wr := fun h => nS (W.sub _ h)
    have en : j + 1 = n := by omega
    refine codeAny_builtin PySem.F.entry_max_loop ?_; rw [Around.under_plainId PySem.F.plain_max_loop _]; show wpAny _ A.in1 (seqItems? (.ref S) >>= _) _ _ s
    refine wpAny_bind (wpAny_seqItems at_ rfl ?_); show wpAny _ A.in1 (tryCatch (pyNext (.ref I)) _ >>= _) _ _ s
    refine wpAny_bind (wpAny_tryCatch (W.done s _ _ (en ▸ st) fun h' tk kp => ?_)); show wpAny _ A.in1 (updateSeq S (fun _ => #[]) >>= _) _ _ _
    refine wpAny_bind (wpAny_updateSeq (kp S _ nw at_) rfl (wpAny_bind (wpAny_letGo (wpAny_pure (fin vb _ tk (by rw [← en]; exact pb) fun b o b1 b2 e => ?_)))))
    exact (Heap.get?_update_other _ _ fun q => b2 q.symm).trans (kp b o b1 e)
  | k + 1, j, s, vb, c, ek, hj, st, pb, at_, fin => by
    have nw : S ∉ wr := fun h => nS (W.sub _ h)
    have lt : j + 1 < n := by omega
    refine codeAny_builtin PySem.F.entry_max_loop ?_; rw [Around.under_plainId PySem.F.plain_max_loop _]; show wpAny _ A.in1 (seqItems? (.ref S) >>= _) _ _ s
    refine wpAny_bind (wpAny_seqItems at_ rfl ?_); show wpAny _ A.in1 (tryCatch (pyNext (.ref I)) _ >>= _) _ _ s
    refine wpAny_bind (wpAny_tryCatch (W.item (j + 1) s _ _ lt st fun v h' tk pv st' kp => ?_))
    have at2 := kp S _ nw at_
    show wpAny _ A.in1 (tryCatch (holding [v, v] (richCompare .Gt v vb >>= _)) _ >>= _) _ _ _
    refine wpAny_bind (wpAny_tryCatch (wpAny_holding (wpAny_bind (cmp (j + 1) (argBest bt j) v vb _ _ _ pv pb (wpAny_bind (wpAny_holding (wpAny_truthy_bool (wpAny_bind (wpAny_letGo (wpAny_pure ?_))))))))))
    cases eb : bt (j + 1) (argBest bt j) with
    | true =>
      simp only [if_true]
      refine wpAny_bind (wpAny_updateSeq at2 rfl (wpAny_bind (wpAny_letGo ?_))); rw [nm]
      have fr : ∀ b ∈ fp, ∀ o, h'.get? b = some o → (h'.update S (Obj.mapSeq fun _ => #[v, v])).get? b = some o := fun b m o e => (Heap.get?_update_other _ _ fun q : S = b => nS (q ▸ m)).trans e
      refine wpAny_pure ⟨plainId_quiet PySem.F.plain_max_loop _, max_on W bt cmp S nS k (j + 1) _ v _ (by omega) lt (W.frame _ _ _ st' fr) (by simp only [argBest, eb, if_true]; exact pv) (Heap.get?_update_self _ at2 rfl) fun u h2 tk2 pu kp2 => ?_⟩
      exact fin u h2 tk2 pu fun b o b1 b2 e => kp2 b o b1 b2 ((Heap.get?_update_other _ _ fun q => b2 q.symm).trans (kp b o b1 e))
    | false =>
      simp only [Bool.false_eq_true, if_false]
      refine wpAny_bind (wpAny_letGo ?_); rw [nm]
      refine wpAny_pure ⟨plainId_quiet PySem.F.plain_max_loop _, max_on W bt cmp S nS k (j + 1) _ vb c (by omega) lt st' (by simp only [argBest, eb, Bool.false_eq_true, if_false]; exact pb) at2 fun u h2 tk2 pu kp2 => ?_⟩
      exact fin u h2 tk2 pu fun b o b1 b2 e => kp2 b o b1 b2 (kp b o b1 e)
/-- the loop from its start: the default, where there is no item -/
theorem max_from (W : Walks prog w A.in1 I fp wr n P St) (bt : Nat → Nat → Bool) (cmp : CmpOf prog w A.in1 .Gt P bt) (S : Addr) (nS : S ∉ fp) {s : Shared} {c : Nat} {x : Str} {d : Value} {ks : List (Str × Value)} (ek : kw = (x, d) :: ks) (st : St 0 s.heap)
    (at_ : s.heap.get? S = some { cls := .type "list", dict := none, data := .seq #[] c, slots := #[] })
    (fin : ∀ (v : Value) (h' : Heap) (tk : Nat), (n = 0 → v = d) → (0 < n → P (argBest bt (n - 1)) v) → (∀ b o, b ∉ wr → b ≠ S → s.heap.get? b = some o → h'.get? b = some o) → R (.ok (.ret v)) { s with heap := h', toks := tk }) :
    codeAny (model prog w) A (.builtin "max.loop" ⟨[.ref I, .none, .ref S], kw⟩) R s := by
  have nw : S ∉ wr := fun h => nS (W.sub _ h)
  subst ek
  refine codeAny_builtin PySem.F.entry_max_loop ?_; rw [Around.under_plainId PySem.F.plain_max_loop _]; show wpAny _ A.in1 (seqItems? (.ref S) >>= _) _ _ s
  refine wpAny_bind (wpAny_seqItems at_ rfl ?_); show wpAny _ A.in1 (tryCatch (pyNext (.ref I)) _ >>= _) _ _ s
  by_cases n0 : n = 0
  · refine wpAny_bind (wpAny_tryCatch (W.done s _ _ (n0 ▸ st) fun h' tk kp => ?_)); show wpAny _ A.in1 (rule _ >>= fun _ => ret d) _ _ _
    exact wpAny_bind (wpAny_rule (wpAny_pure (fin d h' tk (fun _ => rfl) (fun z => absurd z (by omega)) fun b o b1 _ e => kp b o b1 e)))
  · have lt : 0 < n := Nat.pos_of_ne_zero n0
    refine wpAny_bind (wpAny_tryCatch (W.item 0 s _ _ lt st fun v h' tk pv st' kp => ?_)); show wpAny _ A.in1 (updateSeq S (fun _ => #[v, v]) >>= _) _ _ _
    have at2 := kp S _ nw at_
    refine wpAny_bind (wpAny_updateSeq at2 rfl ?_); rw [nm]
    have fr : ∀ b ∈ fp, ∀ o, h'.get? b = some o → (h'.update S (Obj.mapSeq fun _ => #[v, v])).get? b = some o := fun b m o e => (Heap.get?_update_other _ _ fun q : S = b => nS (q ▸ m)).trans e
    refine wpAny_pure ⟨plainId_quiet PySem.F.plain_max_loop _, max_on W bt cmp S nS _ 0 _ v _ rfl lt (W.frame _ _ _ st' fr) pv (Heap.get?_update_self _ at2 rfl) fun u h2 tk2 pu kp2 => ?_⟩
    exact fin u h2 tk2 (fun z => absurd z n0) (fun _ => pu) fun b o b1 b2 e => kp2 b o b1 b2 ((Heap.get?_update_other _ _ fun q => b2 q.symm).trans (kp b o b1 e))
end
section
variable {prog : Program} {w : World} {A : Around} {E : Value → Shared → Prop} {s : Shared}
theorem args_d (a b : Value) : argsOk "max" ⟨[a], [(Str.ofString "default", b)]⟩ := by unfold argsOk; kernel_rfl
theorem call_max_d {l : Addr} {xs : Array (Int × Tok)} {d : Value} {Q : Value → Shared → Prop} (hh : A.handled = none) (hl : s.heap.IsList l (intItems xs))
    (fin : ∀ (v : Value) (h' : Heap) (tk : Nat), (xs.size = 0 → v = d) → (0 < xs.size → (intItems xs)[argBest (fun i j => decide (numAt xs i > numAt xs j)) (xs.size - 1)]? = some v) → (∀ b o, s.heap.get? b = some o → h'.get? b = some o) → Q v { s with heap := h', toks := tk }) :
    wpAny (model prog w) A (call (.builtin "max") [.ref l] [(Str.ofString "default", d)]) Q E s := by
  refine tree_kw PySem.F.kind_max PySem.F.plain_max PySem.F.entry_max (args_d _ _) ?_
  show wpAny _ A.in1 (Builtin.Builtins.bindParams "max" ["key", "default"] 0 ⟨[], [(Str.ofString "default", d)]⟩ >>= _) _ _ s
  refine wpAny_bind (wpAny_of_eq (show Builtin.Builtins.bindParams "max" ["key", "default"] 0 ⟨[], [(Str.ofString "default", d)]⟩ = pure [none, some d] from rfl) ?_)
  refine wpAny_bind (wpAny_pure ?_)
  refine wpAny_bind (iter_intList hl fun s2 e st hfp ne => ?_)
  subst e
  refine wpAny_bind (wpAny_newObj_type ?_); rw [nm]
  have sz : (intItems xs).size = xs.size := by simp [intItems]
  refine wpAny_pure ⟨plainId_quiet PySem.F.plain_max_loop _, max_from (Walks.list (A := A.in1) hh _ l ne (intItems xs)) _ (CmpOf.ints_gt (numAt xs) fun _ _ => intItems_at) _ (fun m => Nat.lt_irrefl _ (hfp _ m)) rfl ?_ (Heap.get?_push_size _ rfl) fun v h' tk f1 f2 kp => ?_⟩
  · exact (Walks.list (A := A.in1) hh _ l ne (intItems xs) : Walks prog w _ _ _ _ _ _ _).frame _ _ _ st fun b _ o e => Heap.get?_push_of_some _ e
  · refine fin v h' tk (fun z => f1 (by rw [sz]; exact z)) (fun z => ?_) (old_kept fun b o nb e => kp b o nb (fun q => ?_) (Heap.get?_push_of_some _ e))
    · have := f2 (by rw [sz]; exact z)
      rw [sz] at this
      exact this
    · rw [q] at e
      exact absurd (Heap.lt_size e) (Nat.lt_irrefl _)
end
end FzL
namespace L2
open PySem PySem.Spec PyProof.Rows Fh
def rMaxDef (K : PySem.W.Frag) : List V → List V → Hp → VK → Prop := fun vs zs H Q => ∃ (a : Addr) (ns : List Int) (d : Int), vs = [V.ref a] ∧ zs = [.int d] ∧ SqL K H a (ns.map V.int) ∧ ∀ m, (ns = [] → m = d) → (ns ≠ [] → m ∈ ns ∧ ∀ y ∈ ns, y ≤ m) → Q (.int m) H
theorem cr_maxDef {X : Cx} (hc : X.calm = true) : CallRK X (.builtin "max") [Str.ofString "default"] (rMaxDef X.K) := by
  intro pins s σ H vs zs us ws Q I r rz h
  obtain ⟨a, ns, d, rfl, rfl, hs, q⟩ := h
  obtain rfl := Vals.ref1 r
  obtain ⟨w1, rfl, t, rfl⟩ := vals1 rz
  obtain ⟨its, rv, hl, hz⟩ := I.list hs
  have hi := rv.ints
  obtain ⟨xs, e⟩ := hi.allInts.items
  have hn : numsOf (intItems xs).toList = ns := by rw [← e]; exact hi.numsOf
  rw [nums_intItems] at hn
  have hl2 := hl.isList
  rw [e] at hl2
  subst hn
  refine FzL.call_max_d (I.ok.hd hc) hl2 fun v h' tk f1 f2 kp => ?_
  by_cases x0 : xs.size = 0
  · obtain rfl := f1 x0
    have e0 : xs.toList.map (·.1) = [] := List.eq_nil_of_length_eq_zero (by rw [List.length_map, Array.length_toList]; exact x0)
    exact ⟨.int d, H, I.kept kp, ⟨t, rfl⟩, q d (fun _ => rfl) fun ne => absurd e0 ne⟩
  · have xp := Nat.pos_of_ne_zero x0
    obtain ⟨t', rfl⟩ := intItems_at (f2 xp)
    obtain ⟨h1, h2⟩ := argBest_gt (numAt xs) (xs.size - 1)
    refine ⟨.int _, H, I.kept kp, ⟨t', rfl⟩, q _ (fun z => ?_) fun _ => ⟨?_, fun y hy => ?_⟩⟩
    · have l0 := congrArg List.length z
      rw [List.length_map, Array.length_toList] at l0
      exact absurd l0 x0
    · rw [numAt_eq]; exact PySem.getD_mem (by rw [List.length_map, Array.length_toList]; omega)
    · obtain ⟨j, hj, rfl⟩ := mem_getD hy
      rw [List.length_map, Array.length_toList] at hj
      rw [← numAt_eq]; exact h2 j (by omega)
end L2
set_option Elab.async false
set_option linter.all false
set_option maxRecDepth 100000
set_option maxHeartbeats 8000000
/-! levels -/
namespace Fp1
open PySem PySem.Spec PyProof.Rows L2 Fh Fs
open PySem.W (Frag)
abbrev sLv : Stmt := top 29
def mxL : List Nat → Nat
  | [] => 0
  | n :: l => max n (mxL l)
theorem mxL_ge : ∀ {l : List Nat} {n : Nat}, n ∈ l → n ≤ mxL l
  | m :: l, n, h => by
    show n ≤ max m (mxL l)
    rcases List.mem_cons.mp h with rfl | h
    · omega
    · have := mxL_ge h; omega
theorem mxL_in : ∀ {l : List Nat}, l ≠ [] → mxL l ∈ l
  | [], h => absurd rfl h
  | [m], _ => by
    show max m 0 ∈ [m]
    rw [Nat.max_eq_left (Nat.zero_le _)]
    exact List.mem_singleton.mpr rfl
  | m :: k :: l, _ => by
    show max m (mxL (k :: l)) ∈ m :: k :: l
    rcases Nat.le_total m (mxL (k :: l)) with h | h
    · rw [Nat.max_eq_right h]
      exact List.mem_cons_of_mem _ (mxL_in (fun z => nomatch z))
    · rw [Nat.max_eq_left h]
      exact List.mem_cons_self
theorem mxL_is {l : List Nat} {m : Int} (h0 : l.map (fun n : Nat => (n : Int)) = [] → m = 0) (h1 : l.map (fun n : Nat => (n : Int)) ≠ [] → m ∈ l.map (fun n : Nat => (n : Int)) ∧ ∀ y ∈ l.map (fun n : Nat => (n : Int)), y ≤ m) : m = (mxL l : Nat) := by
  by_cases e : l = []
  · subst e
    exact h0 rfl
  · have ne : l.map (fun n : Nat => (n : Int)) ≠ [] := fun z => e (List.map_eq_nil_iff.mp z)
    obtain ⟨a, b⟩ := h1 ne
    obtain ⟨n, hn, rfl⟩ := List.mem_map.mp a
    have := mxL_ge hn
    have := b _ (List.mem_map.mpr ⟨_, mxL_in e, rfl⟩)
    omega
/-- how many levels a plan has -/
def lvIn (rec : PyData → Nat) : PyData → Nat
  | .tuple (_ :: ds) => 1 + mxL (ds.map rec)
  | _ => 0
def lvF : Nat → PyData → Nat
  | 0, _ => 0
  | n + 1, d => lvIn (lvF n) d
theorem lv_str (n : Nat) (y : Str) : lvF n (.str y) = 0 := by cases n <;> rfl
theorem mxL_le {l : List Nat} {m : Nat} (h : ∀ n ∈ l, n ≤ m) : mxL l ≤ m := by
  by_cases e : l = []
  · subst e; exact Nat.zero_le _
  · exact h _ (mxL_in e)
theorem lv_le {n : Nat} {d : PyData} (h : Sh n d) : lvF n d ≤ n := by
  induction h with
  | nm h => rw [lv_str]; exact Nat.zero_le _
  | @nd n y ds h1 h2 h3 ih =>
    show 1 + mxL (ds.map (lvF n)) ≤ n + 1
    have := mxL_le (l := ds.map (lvF n)) (m := n) fun k hk => by
      obtain ⟨d, hd, rfl⟩ := List.mem_map.mp hk
      exact ih d hd
    omega
section
variable {P : Program} {w : World} {K : Frag} {mg : Str → Option Value} {base : Heap} {aF aM aD CE aE : Addr}
def spLv (K : Frag) (n : Nat) : Sp := fun vs H Q _ => ∃ v d, vs = [v] ∧ Pl K H v d ∧ Sh n d ∧ d.weight ≤ 900000 ∧ ∀ H', Same H H' → Q (.int (lvF n d : Nat)) H'
theorem scLv : FnScope ["plan", "part"] ["plan"] (defScope sLv) := ⟨rfl, rfl, rfl, by decide +kernel, rfl, by decide +kernel, by decide +kernel⟩
theorem step_lv {n kk : Nat} {sp' : Sp} {f : Addr} {fd : FuncData} (F : Fun K "levels" "levels" sLv f fd) (gF : mg "levels" = some (.ref f)) (gm : mg "max" = none) (T : TxtR K mg w aF aM aD CE aE) (TK : TxtK mg)
    (GN : FnOk P w K mg base CX0 kk f fd ["plan"] sp') (hs : ∀ j, n = j + 1 → sp' = spLv K j) : FnOk P w K mg base CX0 (kk + 1) f fd ["plan"] (spLv K n) := by
  have bN : Binds K fd ["plan"] [] := F.binds (ps := ["plan"]) fun _ _ _ _ _ _ us hl => match us, hl with | [_], _ => rfl
  refine F.ok scLv (fun vs H Q E h => ?_) (fun cdv A outer s H vs Q E hr h => ?_)
  · obtain ⟨v, d, rfl, _⟩ := h
    rfl
  · obtain ⟨v, d, rfl, hv, sh, hw, k⟩ := h
    refine' ⟨_, pss_cons ?s1 (pss_one ?s2), ?q⟩
    case s1 =>
      refine' ps_if (pt_not (pt_val ?a)) (pss_one (ps_ret pe_int)) pss_nil
      case a => exact pe_callB call_isi (by rfl) T.isinstance (by decide +kernel) (pa_cons (pv 0) (pa_cons (pe_bltn (v := .ty "tuple") (by rfl) TK.tuple (by decide +kernel) rfl (by decide) (by decide)) pa_nil))
    case s2 =>
      refine' ps_ret (pe_op op_add pe_int (pe_callBK (cr_maxDef rfl) (by rfl) gm (by decide +kernel) (pa_cons ?l pa_nil) (pk_cons pe_int pk_nil)))
      case l =>
        refine' pe_lc (own := [("part", 1)]) (g := gName 1) (tt := tYes) rfl scLv.nd (pi_tup (pe_slice sl_tupA (pv 0) (po_some pe_int) po_none)) (blkOk_by (N := ["plan", "part"]) (sc := defScope sLv) (by decide +kernel)) (fun _ _ _ _ _ => pg_name (i := 1) scLv.nd rfl (Or.inl rfl)) (fun _ _ _ _ _ => pts_nil) ?e
        case e => exact fun _ _ _ _ _ => pe_call GN hr rfl gF F.kp bN .nil pass0 (pa_cons (pv 1) pa_nil)
    case q =>
      have ty := hv.ty
      have kt := kit_tup K d
      have ssz : sizeLine = 16777216 := sizeLine_eq
      refine ⟨_, rfl, _, _, _, _, isTup d, rfl, .ty _, ty, kt, _, rfl, ?_⟩
      cases sh with
      | @nm _ y hy =>
        refine iteT ?_
        have z := k H (Same.refl _)
        rw [lv_str] at z
        exact z
      | @nd n y ds h1 h2 h3 =>
        obtain rfl := hs n rfl
        refine iteF ?_
        cases hv with
        | @tup a vs _ hg r =>
          cases r with
          | @cons x0 d0 xs _ hx r =>
            cases hx
            have lx := r.len
            rw [w_tup, w_cons] at hw
            have wl := w_len ds
            refine ⟨_, rfl, 1, rfl, a, _, rfl, hg, fun z => tail_new xs z.1, fun _ q nq => ?_⟩
            rw [cut_tail]
            have sq : Same H (upd H q (.tup xs)) := Same.new nq
            have gq : (upd H q (.tup xs)) q = some (.tup xs) := upd_same
            generalize upd H q (.tup xs) = H1 at sq gq ⊢
            refine ⟨q, rfl, ⟨_, SqT.of gq⟩, fun D nD => ?_⟩
            refine lc_it (walk_tup (K := K) (a := q) (xs := xs)) (fun i Hh => Hh D = some (.lst (((ds.take i).map (lvF n)).map fun m : Nat => V.int (m : Int))) ∧ Same H1 Hh) ⟨upd_same, Same.new nD⟩ (fun _ Hh _ ⟨_, z⟩ => SqT.of (z _ _ gq)) ?_ ?_
            · rintro i x Ha Hb hi ⟨hD, sa⟩ ⟨rfl, gx⟩
              refine ⟨rfl, ?_⟩
              refine yes_of ?_
              have di : i < ds.length := by omega
              have gd : ds[i]? = some ds[i] := List.getElem?_eq_getElem di
              have dx := (r.get gx gd).same (sq.trans sa)
              have mem : ds[i] ∈ ds := List.getElem_mem di
              have wm := w_mem mem
              refine ⟨_, rfl, x, ds[i], rfl, dx, h3 _ mem, by omega, fun Hc sc => ?_⟩
              refine ⟨_, sc _ _ hD, by rw [List.length_map, List.length_map, List.length_take]; omega, ?_, fun b' u z => ?_⟩
              · rw [List.take_add_one, gd, List.map_append, List.map_append]
                exact upd_same
              · rw [upd_ne (fun e => by rw [e, nD] at z; cases z)]
                exact sc _ _ (sa _ _ z)
            · rintro Ha ⟨hD, sa⟩
              rw [lx, List.take_length] at hD
              refine ⟨D, (ds.map (lvF n)).map fun m : Nat => (m : Int), 0, rfl, rfl, SqL.of (by rw [List.map_map]; exact hD), fun m m0 m1 => ?_⟩
              refine ⟨_, _, rfl, rfl, ?_⟩
              have e := mxL_is m0 m1
              rw [e]
              have z := k Ha (sq.trans sa)
              have e2 : ((lvF (n + 1) (.tuple (.str y :: ds)) : Nat) : Int) = 1 + ((mxL (ds.map (lvF n)) : Nat) : Int) := by
                show ((1 + mxL (ds.map (lvF n)) : Nat) : Int) = _
                omega
              rw [e2] at z
              exact z
theorem ok_lv {f : Addr} {fd : FuncData} (F : Fun K "levels" "levels" sLv f fd) (gF : mg "levels" = some (.ref f)) (gm : mg "max" = none) (T : TxtR K mg w aF aM aD CE aE) (TK : TxtK mg) : ∀ n, FnOk P w K mg base CX0 (n + 2) f fd ["plan"] (spLv K n)
  | 0 => step_lv (n := 0) (kk := 1) (sp' := fun _ _ _ _ => False) F gF gm T TK (F.ok scLv (fun _ _ _ _ h => h.elim) (fun _ _ _ _ _ _ _ _ _ h => h.elim)) (fun j e => nomatch e)
  | n + 1 => step_lv (n := n + 1) (kk := n + 2) (sp' := spLv K n) F gF gm T TK (ok_lv F gF gm T TK n) (fun j e => by cases e; rfl)
end
end Fp1
set_option Elab.async false
set_option linter.all false
set_option maxRecDepth 100000
set_option maxHeartbeats 8000000
/-! kinds: are_roles, _are_kinds, checked_kinds (all right) -/
namespace Fp1
open PySem PySem.Spec PyProof.Rows L2 Fh Fs
open PySem.W (Frag)
abbrev sRol : Stmt := top 42
abbrev sAks : Stmt := top 43
abbrev sCks : Stmt := top 44
/-- a dict of texts, as pairs -/
def tD (m : List (Str × V)) : List (Key × V) := m.map fun q => (.inr q.1, q.2)
theorem tD_len (m : List (Str × V)) : (tD m).length = m.length := List.length_map _
theorem tD_keys (m : List (Str × V)) : ((tD m).map fun kv => kV kv.1) = (m.map (·.1)).map V.str := by
  unfold tD
  rw [List.map_map, List.map_map]
  rfl
theorem tD_get {m : List (Str × V)} {i : Nat} {kx vx : V} (hk : (tD m)[i]?.map (fun kv => kV kv.1) = some kx) (hv : (tD m)[i]?.map Prod.snd = some vx) : ∃ q, m[i]? = some q ∧ kx = .str q.1 ∧ vx = q.2 := by
  unfold tD at hk hv
  rw [List.getElem?_map] at hk hv
  cases e : m[i]? with
  | none => rw [e] at hk; cases hk
  | some q => rw [e] at hk hv; exact ⟨q, rfl, (Option.some.inj hk).symm, (Option.some.inj hv).symm⟩
theorem tD_val (m : List (Str × V)) (y : Str) : valV (tD m) (.inr y) = m.lookup y := by
  induction m with
  | nil => rfl
  | cons q m ih =>
    obtain ⟨x, n⟩ := q
    by_cases e : y = x
    · subst e
      show ((List.find? (fun kv => decide (kv.1 = Sum.inr y)) ((Sum.inr y, n) :: tD m)).map (·.2)) = _
      rw [List.find?_cons_of_pos (by simp), List.lookup_cons_self]
      rfl
    · have ne : ¬ ((Sum.inr x : Key) = Sum.inr y) := fun z => e (Sum.inr.inj z).symm
      show ((List.find? (fun kv => decide (kv.1 = Sum.inr y)) ((Sum.inr x, n) :: tD m)).map (·.2)) = _
      rw [List.find?_cons_of_neg (by simpa using ne)]
      show valV (tD m) (.inr y) = _
      rw [ih, List.lookup_cons, beq_eq_false_iff_ne.mpr e]
theorem tD_snoc (m : List (Str × V)) (y : Str) (v : V) : tD (m ++ [(y, v)]) = tD m ++ [(.inr y, v)] := by
  unfold tD
  rw [List.map_append]
  rfl
theorem tD_new {m : List (Str × V)} {y : Str} {v : V} (h : y ∉ m.map (·.1)) : putK (tD m) (.inr y) v = tD (m ++ [(y, v)]) := by
  rw [tD_snoc]
  induction m with
  | nil => rfl
  | cons q m ih =>
    have ne : q.1 ≠ y := fun e => h (by rw [← e]; exact List.mem_cons_self)
    have nk : ¬ ((Sum.inr q.1 : Key) = Sum.inr y) := fun z => ne (Sum.inr.inj z)
    show putK ((.inr q.1, q.2) :: tD m) (.inr y) v = (.inr q.1, q.2) :: (tD m ++ [(.inr y, v)])
    rw [← ih fun z => h (List.mem_cons_of_mem _ z)]
    have b : (decide ((Sum.inr q.1 : Key) = Sum.inr y)) = false := decide_eq_false nk
    unfold putK
    rw [List.any_cons, List.map_cons, b, Bool.false_or]
    dsimp only
    rw [if_neg nk]
    split <;> rfl
theorem look_in {m : List (Str × V)} {y : Str} (h : y ∈ m.map (·.1)) : ∃ v, m.lookup y = some v ∧ (y, v) ∈ m := by
  induction m with
  | nil => cases h
  | cons q m ih =>
    obtain ⟨x, n⟩ := q
    by_cases e : y = x
    · subst e
      exact ⟨n, List.lookup_cons_self, List.mem_cons_self⟩
    · have h2 : y ∈ m.map (·.1) := by
        rcases List.mem_cons.mp (show y ∈ x :: m.map (·.1) from h) with z | z
        · exact absurd z e
        · exact z
      obtain ⟨k, h3, h4⟩ := ih h2
      exact ⟨k, by rw [List.lookup_cons, beq_eq_false_iff_ne.mpr e]; exact h3, List.mem_cons_of_mem _ h4⟩
theorem at_strs {ys : List Str} {i : Nat} {x : V} (h : (ys.map V.str)[i]? = some x) : ∃ y, ys[i]? = some y ∧ x = .str y ∧ y ∈ ys := at_str h
/-- kinds with lists of roles -/
def RightK (K : Frag) (H : Hp) (m : List (Str × V)) (R : Str → List Str → Prop) : Prop := 1 ≤ m.length ∧ m.length ≤ 3 ∧ (m.map (·.1)).Nodup ∧ ∀ q ∈ m, Word q.1 ∧ ∃ ws, WL K H q.2 ws ∧ OkW ws ∧ ws.length ≤ 4 ∧ R q.1 ws
section
variable {P : Program} {w : World} {K : Frag} {mg : Str → Option Value} {base : Heap} {aF aM aD CE aE aW aR : Addr} {fW fR : FuncData}
def spRol (K : Frag) : Sp := fun vs H Q _ => ∃ v ws, vs = [v] ∧ WL K H v ws ∧ OkW ws ∧ ws.length ≤ 4 ∧ ∀ H', Same H H' → Q (.bl true) H'
theorem scRol : FnScope ["value"] ["value"] (defScope sRol) := ⟨rfl, rfl, rfl, by decide +kernel, rfl, by decide +kernel, by decide +kernel⟩
theorem ok_rol {f : Addr} {fd : FuncData} (F : Fun K "are_roles" "are_roles" sRol f fd) (FR : Fun K "are_words" "are_words" sAre aR fR) (FW : Fun K "is_word" "is_word" sWord aW fW) (gR : mg "are_words" = some (.ref aR)) (gW : mg "is_word" = some (.ref aW)) (TR : TxtR K mg w aF aM aD CE aE) (TK : TxtK mg) (T : TxtB mg) :
    FnOk P w K mg base CX0 3 f fd ["value"] (spRol K) := by
  have GR : FnOk P w K mg base CX0 2 aR fR ["value"] (spAre K) := ok_are FR FW gW TR TK T
  have bR : Binds K fR ["value"] [] := FR.binds (ps := ["value"]) fun _ _ _ _ _ _ us hl => match us, hl with | [_], _ => rfl
  refine F.ok scRol (fun vs H Q E h => ?_) (fun cdv A outer s H vs Q E hr h => ?_)
  · obtain ⟨v, ws, rfl, _⟩ := h
    rfl
  · obtain ⟨v, ws, rfl, wl, ok, l4, k⟩ := h
    obtain ⟨u, gR4⟩ := T.ROLES
    refine ⟨_, pss_one (ps_ret (pe_and (pe_call GR hr rfl gR FR.kp bR .nil pass0 (pa_cons (pv 0) pa_nil)) (pe_one (pe_cmpR op_le (pe_callB call_len_seq (by rfl) TR.len PySem.boot_len (pa_cons (pv 0) pa_nil)) (pe_glob (v := .int 4) (by rfl) gR4 ⟨_, rfl⟩) (nomark _))))), ?_⟩
    refine ⟨_, rfl, v, ws, rfl, wl, ok, fun H1 s1 => ⟨true, rfl, iteT ?_⟩⟩
    obtain ⟨q, rfl, hq⟩ := wl.same s1
    refine ⟨_, rfl, q, _, rfl, hq, _, _, rfl, rfl, ?_⟩
    rw [List.length_map]
    show Q (.bl (decide ((ws.length : Int) ≤ 4))) H1
    rw [decide_eq_true (show (ws.length : Int) ≤ 4 by omega)]
    exact k H1 s1
def spAks (K : Frag) : Sp := fun vs H Q _ => ∃ d m R, vs = [.ref d] ∧ H d = some (.dK (tD m)) ∧ RightK K H m R ∧ ∀ H', Same H H' → Q (.bl true) H'
abbrev NAk : List Str := ["value", "kind", "roles"]
theorem scAks : FnScope NAk ["value"] (defScope sAks) := ⟨rfl, rfl, rfl, by decide +kernel, rfl, by decide +kernel, by decide +kernel⟩
theorem ok_aks {f aO : Addr} {fd fO : FuncData} (F : Fun K "_are_kinds" "_are_kinds" sAks f fd) (FO : Fun K "are_roles" "are_roles" sRol aO fO) (gO : mg "are_roles" = some (.ref aO)) (FR : Fun K "are_words" "are_words" sAre aR fR) (FW : Fun K "is_word" "is_word" sWord aW fW) (gR : mg "are_words" = some (.ref aR)) (gW : mg "is_word" = some (.ref aW)) (TR : TxtR K mg w aF aM aD CE aE) (TK : TxtK mg) (T : TxtB mg) :
    FnOk P w K mg base CX0 4 f fd ["value"] (spAks K) := by
  have GO : FnOk P w K mg base CX0 3 aO fO ["value"] (spRol K) := ok_rol FO FR FW gR gW TR TK T
  have bO : Binds K fO ["value"] [] := FO.binds (ps := ["value"]) fun _ _ _ _ _ _ us hl => match us, hl with | [_], _ => rfl
  have GW : FnOk P w K mg base CX0 1 aW fW ["value"] spGW := ok_gw FW TR TK
  have bW : Binds K fW ["value"] [] := FW.binds (ps := ["value"]) fun _ _ _ _ _ _ us hl => match us, hl with | [_], _ => rfl
  refine F.ok scAks (fun vs H Q E h => ?_) (fun cdv A outer s H vs Q E hr h => ?_)
  · obtain ⟨d, m, R, rfl, _⟩ := h
    rfl
  · obtain ⟨d, m, R, rfl, hm, ⟨l1, l3, nd, good⟩, k⟩ := h
    obtain ⟨u, gK3⟩ := T.KINDS
    have hr1 : Room 1 _ := hr.mono (by decide)
    refine' ⟨_, pss_cons ?s1 (pss_one ?s2), ?q⟩
    case s1 =>
      refine' ps_if (PW.pt (pw_or (pt_not (pt_val ?a)) (pw_or1 (pt_not (pt_chain op_le op_le pe_int ?b (pe_glob (v := .int 3) (by rfl) gK3 ⟨_, rfl⟩)))))) (pss_one (ps_ret pe_bl)) pss_nil
      case a => exact pe_callB call_isi (by rfl) TR.isinstance (by decide +kernel) (pa_cons (pv 0) (pa_cons (pe_bltn (v := .ty "dict") (by rfl) T.dict (by decide +kernel) rfl (by decide) (by decide)) pa_nil))
      case b => exact pe_callB call_lenD (by rfl) TR.len PySem.boot_len (pa_cons (pv 0) pa_nil)
    case s2 =>
      refine' ps_ret (pe_callB (cr_all rfl) (by rfl) TK.all (by decide +kernel) (pa_cons (pe_lock (pe_lc (own := [("kind", 1), ("roles", 2)]) (g := gTup K 2 (gCons (gName 1) (gCons (gName 2) gNil))) (tt := tYes) rfl scAks.nd (pi_items (pv 0)) (blkOk_by (N := NAk) (sc := defScope sAks) (by decide +kernel)) (fun _ _ _ _ _ => pg_tup rfl (pgs_cons (pg_name (i := 1) scAks.nd rfl (Or.inl rfl)) (pgs_cons (pg_name (i := 2) scAks.nd rfl (Or.inl rfl)) pgs_nil))) (fun _ _ _ _ _ => pts_nil) ?e)) pa_nil))
      case e => exact fun _ _ _ _ _ => pe_and (pe_call GW hr1 rfl gW FW.kp bW .nil pass0 (pa_cons (pv 1) pa_nil)) (pe_one (pe_call GO hr rfl gO FO.kp bO .nil pass0 (pa_cons (pv 2) pa_nil)))
    case q =>
      refine ⟨_, rfl, _, _, _, _, true, rfl, .ty _, .base (.dK hm), (by rfl), true, rfl, iteF ?_⟩
      refine ⟨_, rfl, d, _, rfl, hm, _, _, rfl, rfl, true, congrArg V.bl (decide_eq_true (by rw [tD_len]; omega)), iteT ?_⟩
      refine ⟨_, _, rfl, rfl, true, congrArg V.bl (decide_eq_true (by rw [tD_len]; omega)), iteF ?_⟩
      refine ⟨d, .dK (tD m), hm, trivial, fun od => ?_⟩
      have fz : (upd H d (.frz od (.dK (tD m)))) d = some (.frz od (.dK (tD m))) := upd_same
      have off : ∀ b o, b ≠ d → H b = some o → (upd H d (.frz od (.dK (tD m)))) b = some o := fun b o nb z => by rw [upd_ne nb]; exact z
      refine ⟨_, rfl, d, od, tD m, rfl, fz, fun D hD => ?_⟩
      have hDd : D ≠ d := fun z => by rw [z, fz] at hD; cases hD
      refine lc_it walk_items (fun i Hi => Same (upd H d (.frz od (.dK (tD m)))) Hi ∧ Hi D = some (.lst (List.replicate i (V.bl true)))) ⟨Same.new hD, upd_same⟩ (fun _ _ _ z => z.1 _ _ fz) ?_ ?_
      · rintro i x Hi Hj hi ⟨s2, e2⟩ ⟨T', kx, vx, rfl, nT, rfl, hk, hv⟩
        obtain ⟨q, gq, rfl, rfl⟩ := tD_get hk hv
        obtain ⟨wq, ws, wl, okw, w4, _⟩ := good q (List.mem_of_getElem? gq)
        have wl2 : WL K (upd H d (.frz od (.dK (tD m)))) q.2 ws := by
          obtain ⟨r, ev, h⟩ := wl
          have ne : ∀ {u : HO}, H r = some u → (∀ kvs, u ≠ .dK kvs) → r ≠ d := fun z n y => by
            rw [y, hm] at z
            exact n _ (Option.some.inj z).symm
          refine ⟨r, ev, ?_⟩
          rcases h with h | h
          · rcases h with (h | ⟨o, h⟩) | h
            · exact .inl (.inl (.inl (off _ _ (ne h fun _ z => by cases z) h)))
            · exact .inl (.inl (.inr ⟨o, off _ _ (ne h fun _ z => by cases z) h⟩))
            · exact .inl (.inr h)
          · rcases h with (h | ⟨o, h⟩) | h
            · exact .inr (.inl (.inl (off _ _ (ne h fun _ z => by cases z) h)))
            · exact .inr (.inl (.inr ⟨o, off _ _ (ne h fun _ z => by cases z) h⟩))
            · exact .inr (.inr h)
        have s3 : Same Hi (upd Hi T' (.tup [.str q.1, q.2])) := Same.new nT
        have e3 := s3 _ _ e2
        have s23 := s2.trans s3
        have tt : (upd Hi T' (.tup [.str q.1, q.2])) T' = some (.tup [.str q.1, q.2]) := upd_same
        generalize upd Hi T' (.tup [.str q.1, q.2]) = Hj at s23 e3 tt ⊢
        refine ⟨T', _, rfl, SqT.of tt, rfl, _, _, rfl, _, _, rfl, rfl, ?_⟩
        refine ⟨rfl, ?_⟩
        refine yes_of ?_
        refine ⟨_, rfl, q.1, rfl, wq, fun Ha sa => ⟨true, rfl, iteT ?_⟩⟩
        refine ⟨_, rfl, q.2, ws, rfl, wl2.same (s23.trans sa), okw, w4, fun Hb sb => ⟨_, sb _ _ (sa _ _ e3), ?_, ?_⟩⟩
        · rw [List.length_replicate, sizeLine_eq]
          rw [tD_len] at hi
          omega
        · rw [← List.replicate_succ']
          exact ⟨fun b o z => by rw [upd_ne (ne_of_none z hD)]; exact sb _ _ (sa _ _ (s23 b o z)), upd_same⟩
      · rintro Hi ⟨s2, e2⟩
        refine ⟨s2 _ _ fz, D, List.replicate (tD m).length true, rfl, SqL.of (by rw [upd_ne hDd, List.map_replicate]; exact e2), ?_⟩
        have : (List.replicate (tD m).length true).all id = true := by simp
        rw [this]
        refine k _ fun b o z => ?_
        by_cases e : b = d
        · rw [e] at z ⊢
          rw [upd_same, ← z, hm]
        · rw [upd_ne e]
          exact s2 b o (off b o e z)
end
end Fp1
set_option Elab.async false
set_option linter.all false
set_option maxRecDepth 100000
set_option maxHeartbeats 8000000
/-! checked_kinds (all right) -/
namespace Fp1
open PySem PySem.Spec PyProof.Rows L2 Fh Fs
open PySem.W (Frag)
/-- kinds with tuples of roles -/
inductive KT (H : Hp) : List (Str × V) → List (Str × List Str) → Prop where
  | nil : KT H [] []
  | cons {k : Str} {t : Addr} {ws : List Str} {m : List (Str × V)} {ks : List (Str × List Str)} : H t = some (.tup (ws.map V.str)) → KT H m ks → KT H ((k, .ref t) :: m) ((k, ws) :: ks)
theorem KT.same {H H' : Hp} (s : Same H H') {m : List (Str × V)} {ks : List (Str × List Str)} (h : KT H m ks) : KT H' m ks := by
  induction h with
  | nil => exact .nil
  | cons e _ ih => exact .cons (s _ _ e) ih
/-- what is a tuple stays one -/
theorem KT.keep {H H' : Hp} (s : ∀ t xs, H t = some (.tup xs) → H' t = some (.tup xs)) {m : List (Str × V)} {ks : List (Str × List Str)} (h : KT H m ks) : KT H' m ks := by
  induction h with
  | nil => exact .nil
  | cons e _ ih => exact .cons (s _ _ e) ih
theorem KT.snoc {H : Hp} {m : List (Str × V)} {ks : List (Str × List Str)} {k : Str} {t : Addr} {ws : List Str} (h : KT H m ks) (e : H t = some (.tup (ws.map V.str))) : KT H (m ++ [(k, .ref t)]) (ks ++ [(k, ws)]) := by
  induction h with
  | nil => exact .cons e .nil
  | cons e' _ ih => exact .cons e' ih
theorem KT.keys {H : Hp} {m : List (Str × V)} {ks : List (Str × List Str)} (h : KT H m ks) : m.map (·.1) = ks.map (·.1) := by
  induction h with
  | nil => rfl
  | cons _ _ ih => exact congrArg (List.cons _) ih
theorem KT.len {H : Hp} {m : List (Str × V)} {ks : List (Str × List Str)} (h : KT H m ks) : m.length = ks.length := by
  have := congrArg List.length h.keys
  rw [List.length_map, List.length_map] at this
  exact this
/-- the kinds made out of m -/
def MadeK (K : Frag) (H : Hp) (m : List (Str × V)) (R : Str → List Str → Prop) (ks : List (Str × List Str)) : Prop := (ks.map (·.1)).Perm (m.map (·.1)) ∧ sortedS (ks.map (·.1)) = true ∧ ∀ q ∈ ks, Word q.1 ∧ OkW q.2 ∧ sortedS q.2 = true ∧ q.2.length ≤ 4 ∧ ∃ v ws, (q.1, v) ∈ m ∧ WL K H v ws ∧ R q.1 ws ∧ q.2.Perm ws
def rTo (K : Frag) : List V → Hp → VK → Prop := fun xs H Q => ∃ p ys, xs = [.ref p] ∧ ((SqL K H p ys ∧ ∀ l : Addr, H l = none → Q (.ref l) (upd H l (.tup ys))) ∨ SqT K H p ys ∧ Q (.ref p) H)
def rSo (K : Frag) : List V → Hp → VK → Prop := fun xs H Q => ∃ a ys, xs = [V.ref a] ∧ (SqL K H a (List.map V.str ys) ∨ SqT K H a (List.map V.str ys)) ∧ ys.length < 64 ∧ ∀ (zs : List Str) (p : Addr), zs.Perm ys → sortedS zs = true → H p = none → Q (V.ref p) (upd H p (HO.lst (List.map V.str zs)))
section
variable {P : Program} {w : World} {K : Frag} {mg : Str → Option Value} {base : Heap} {aF aM aD CE aE aW aR aO aA : Addr} {fW fR fO fA : FuncData}
def spCks (K : Frag) : Sp := fun vs H Q _ => ∃ d m R, vs = [.ref d] ∧ H d = some (.dK (tD m)) ∧ RightK K H m R ∧ ∀ d' m' ks H', Same H H' → H d' = none → H' d' = some (.dK (tD m')) → KT H' m' ks → MadeK K H m R ks → Q (.ref d') H'
theorem scCks : FnScope ["kinds", "kind"] ["kinds"] (defScope sCks) := ⟨rfl, rfl, rfl, by decide +kernel, rfl, by decide +kernel, by decide +kernel⟩
theorem ok_cks {f : Addr} {fd : FuncData} (F : Fun K "checked_kinds" "checked_kinds" sCks f fd) (FA : Fun K "_are_kinds" "_are_kinds" sAks aA fA) (gA : mg "_are_kinds" = some (.ref aA)) (FO : Fun K "are_roles" "are_roles" sRol aO fO) (gO : mg "are_roles" = some (.ref aO)) (FR : Fun K "are_words" "are_words" sAre aR fR) (FW : Fun K "is_word" "is_word" sWord aW fW) (gR : mg "are_words" = some (.ref aR)) (gW : mg "is_word" = some (.ref aW)) (TR : TxtR K mg w aF aM aD CE aE) (TK : TxtK mg) (T : TxtB mg) :
    FnOk P w K mg base CX0 5 f fd ["kinds"] (spCks K) := by
  have GA : FnOk P w K mg base CX0 4 aA fA ["value"] (spAks K) := ok_aks FA FO gO FR FW gR gW TR TK T
  have bA : Binds K fA ["value"] [] := FA.binds (ps := ["value"]) fun _ _ _ _ _ _ us hl => match us, hl with | [_], _ => rfl
  refine F.ok scCks (fun vs H Q E h => ?_) (fun cdv A outer s H vs Q E hr h => ?_)
  · obtain ⟨d, m, R, rfl, _⟩ := h
    rfl
  · obtain ⟨d, m, R, rfl, hm, rk, k⟩ := h
    have hu := hu_of (hr.mono (show 1 ≤ 4 by decide))
    refine' ⟨_, pss_cons ?s1 (pss_one ?s2), ?q⟩
    case s1 => exact ps_if (pt_not (pt_val (pe_call GA hr rfl gA FA.kp bA .nil pass0 (pa_cons (pv 0) pa_nil)))) pss_no pss_nil
    case s2 =>
      refine' ps_ret (pe_dc (own := [("kind", 1)]) (g := gName 1) (tt := tYes) rfl scCks.nd (pi_list ?i) (blkOk_by (N := ["kinds", "kind"]) (sc := defScope sCks) (by decide +kernel)) (fun _ _ _ _ _ => pg_name (i := 1) scCks.nd rfl (Or.inl rfl)) (fun _ _ _ _ _ => pts_nil) (fun _ _ _ _ _ => pv 1) ?e)
      case i => exact pe_callB cr_sortedS (by rfl) T.sorted (by decide +kernel) (pa_cons (pe_callTy (call_list_dK rfl) (by rfl) T.list (by decide +kernel) (pa_cons (pv 0) pa_nil)) pa_nil)
      case e => exact fun _ _ _ _ _ => pe_callTy (r := rTo K) call_tuple_of (by rfl) TK.tuple (by decide +kernel) (pa_cons (pe_callB (r := rSo K) cr_sortedSeq (by rfl) T.sorted (by decide +kernel) (pa_cons (pe_dget (by have := hu; exact this) (pv 0) (pv 1) (fun _ _ => rfl)) pa_nil)) pa_nil)
    case q =>
      obtain ⟨l1, l3, nd, good⟩ := id rk
      refine ⟨_, rfl, d, m, R, rfl, hm, rk, fun H0 s0 => ⟨true, rfl, iteF ?_⟩⟩
      have hm0 := s0 _ _ hm
      refine ⟨_, rfl, d, tD m, rfl, hm0, fun l nl => ⟨l, m.map (·.1), rfl, SqL.of (by rw [upd_same, tD_keys]), by rw [List.length_map]; omega, fun ys p pm so np => ?_⟩⟩
      have np0 : H0 p = none := by
        by_cases e : p = l
        · rw [e]; exact nl
        · rw [upd_ne e] at np; exact np
      have s1 : Same H0 (upd (upd H0 l (.lst ((tD m).map fun kv => kV kv.1))) p (.lst (ys.map V.str))) := (Same.new nl).trans (Same.new np)
      have e1 : (upd (upd H0 l (.lst ((tD m).map fun kv => kV kv.1))) p (.lst (ys.map V.str))) p = some (.lst (ys.map V.str)) := upd_same
      generalize upd (upd H0 l (.lst ((tD m).map fun kv => kV kv.1))) p (.lst (ys.map V.str)) = H1 at s1 e1 ⊢
      have ndy : ys.Nodup := pm.nodup_iff.mpr nd
      have s01 := s0.trans s1
      refine ⟨p, rfl, ⟨_, SqL.of e1⟩, fun D hD => ?_⟩
      refine dc_it (walk_list (K := K) (a := p) (xs := ys.map V.str)) (fun i Ha => ∃ m' ks, Same H1 Ha ∧ Ha D = some (.dK (tD m')) ∧ KT Ha m' ks ∧ ks.map (·.1) = ys.take i ∧ ∀ q ∈ ks, Word q.1 ∧ OkW q.2 ∧ sortedS q.2 = true ∧ q.2.length ≤ 4 ∧ ∃ v ws, (q.1, v) ∈ m ∧ WL K H v ws ∧ R q.1 ws ∧ q.2.Perm ws) ⟨[], [], Same.new hD, upd_same, .nil, rfl, fun _ z => nomatch z⟩ (fun _ Ha _ ⟨_, _, z, _⟩ => SqL.of (z _ _ e1)) ?_ ?_
      · rintro i x Ha Hb hi ⟨m', ks, sa, dD, kt, ek, al⟩ ⟨rfl, hx⟩
        obtain ⟨y, gy, rfl, my⟩ := at_strs hx
        obtain ⟨v, lv, mv⟩ := look_in (pm.mem_iff.mp my)
        obtain ⟨wy, ws, wl, okw, w4, rw4⟩ := good _ mv
        refine ⟨rfl, ?_⟩
        refine yes_of ?_
        have gt : DGet Hb d (.str y) (some v) := .inl ⟨tD m, .inr y, .inl (sa _ _ (s1 _ _ hm0)), rfl, by rw [tD_val, lv]⟩
        obtain ⟨q, rfl, hq⟩ := wl.same (s01.trans sa)
        have few := okw.2.2
        refine ⟨_, rfl, _, rfl, _, rfl, d, .ref q, rfl, gt, q, ws, rfl, hq, by omega, fun zs l2 pz sz n2 => ⟨l2, _, rfl, .inl ⟨SqL.of upd_same, fun t nt => ?_⟩⟩⟩
        have s2 : Same Hb (upd (upd Hb l2 (.lst (zs.map V.str))) t (.tup (zs.map V.str))) := (Same.new n2).trans (Same.new nt)
        have et : (upd (upd Hb l2 (.lst (zs.map V.str))) t (.tup (zs.map V.str))) t = some (.tup (zs.map V.str)) := upd_same
        generalize upd (upd Hb l2 (.lst (zs.map V.str))) t (.tup (zs.map V.str)) = Hc at s2 et ⊢
        have hi2 : i < ys.length := by
          have := hi
          rw [List.length_map] at this
          exact this
        have lk := kt.len
        have lks : ks.length = i := by
          have := congrArg List.length ek
          rw [List.length_map, List.length_take] at this
          rw [List.length_map] at hi
          omega
        have ly := pm.length_eq
        rw [List.length_map] at ly
        have nw : y ∉ m'.map (·.1) := by
          rw [kt.keys, ek]
          exact not_before ndy gy
        refine ⟨tD m', .inr y, rfl, s2 _ _ dD, by rw [tD_len, sizeLine_eq]; omega, m' ++ [(y, .ref t)], ks ++ [(y, zs)], fun b o z => ?_, by rw [upd_same, tD_new nw], ?_, ?_, fun q' hq' => ?_⟩
        · rw [upd_ne (ne_of_none z hD)]
          exact s2 _ _ (sa _ _ z)
        · refine ((kt.same s2).snoc et).keep fun t' xs z => ?_
          rw [upd_ne (fun e => by rw [e, s2 _ _ dD] at z; cases z)]
          exact z
        · rw [List.map_append, ek, take_snoc gy]
          rfl
        · rcases List.mem_append.mp hq' with z | z
          · exact al q' z
          · rw [List.mem_singleton.mp z]
            exact ⟨wy, okw.perm pz, sz, by rw [pz.length_eq]; exact w4, .ref q, ws, mv, wl, rw4, pz⟩
      · rintro Ha ⟨m', ks, sa, dD, kt, ek, al⟩
        rw [List.length_map, List.take_length] at ek
        refine k D m' ks Ha (s01.trans sa) ?_ dD kt ⟨by rw [ek]; exact pm, by rw [ek]; exact so, al⟩
        exact (s01).free hD
end
end Fp1
set_option Elab.async false
set_option linter.all false
set_option maxRecDepth 100000
set_option maxHeartbeats 8000000
/-! are_tasks, checked_tasks (all right) -/
namespace Fp1
open PySem PySem.Spec PyProof.Rows L2 Fh Fs
open PySem.W (Frag)
abbrev sAts : Stmt := top 45
abbrev sCts : Stmt := top 46
/-- what a task consists of -/
def Bits (o : HO) : Prop := (∃ C dx fs, o = .ins C dx fs) ∨ ∃ xs, o = .tup xs
/-- what tasks consist of stays -/
def KeepB (H H' : Hp) : Prop := ∀ b o, Bits o → H b = some o → H' b = some o
theorem KeepB.of {H H' : Hp} (s : Same H H') : KeepB H H' := fun b o _ h => s b o h
theorem KeepB.trans {A B C : Hp} (a : KeepB A B) (b : KeepB B C) : KeepB A C := fun x o n h => b x o n (a x o n h)
theorem KeepB.upd {H : Hp} {d : Addr} {u v : HO} (h : H d = some u) (n : ¬ Bits u) : KeepB H (L2.upd H d v) := fun b o nb z => by
  rw [upd_ne (fun e => by rw [e, h] at z; cases z; exact n nb)]
  exact z
theorem bits_dK {kvs : List (Key × V)} : ¬ Bits (.dK kvs) := fun h => by rcases h with ⟨_, _, _, z⟩ | ⟨_, z⟩ <;> cases z
theorem bits_lst {xs : List V} : ¬ Bits (.lst xs) := fun h => by rcases h with ⟨_, _, _, z⟩ | ⟨_, z⟩ <;> cases z
theorem TaskAt.keep {CT : Addr} {H H' : Hp} {a : Addr} {T : TSk} (k : KeepB H H') (h : TaskAt CT H a T) : TaskAt CT H' a T := by
  obtain ⟨dx, t1, t2, t3, t4, h0, h1, h2, h3, h4⟩ := h
  exact ⟨dx, t1, t2, t3, t4, k _ _ (.inl ⟨_, _, _, rfl⟩) h0, k _ _ (.inr ⟨_, rfl⟩) h1, k _ _ (.inr ⟨_, rfl⟩) h2, k _ _ (.inr ⟨_, rfl⟩) h3, k _ _ (.inr ⟨_, rfl⟩) h4⟩
/-- tasks by names -/
inductive TsAt (CT : Addr) (H : Hp) : List (Str × V) → List (Str × TSk) → Prop where
  | nil : TsAt CT H [] []
  | cons {k : Str} {a : Addr} {T : TSk} {m : List (Str × V)} {ts : List (Str × TSk)} : TaskAt CT H a T → TsAt CT H m ts → TsAt CT H ((k, .ref a) :: m) ((k, T) :: ts)
theorem TsAt.keep {CT : Addr} {H H' : Hp} (k : KeepB H H') {m : List (Str × V)} {ts : List (Str × TSk)} (h : TsAt CT H m ts) : TsAt CT H' m ts := by
  induction h with
  | nil => exact .nil
  | cons e _ ih => exact .cons (e.keep k) ih
theorem TsAt.keys {CT : Addr} {H : Hp} {m : List (Str × V)} {ts : List (Str × TSk)} (h : TsAt CT H m ts) : m.map (·.1) = ts.map (·.1) := by
  induction h with
  | nil => rfl
  | cons _ _ ih => exact congrArg (List.cons _) ih
theorem TsAt.len {CT : Addr} {H : Hp} {m : List (Str × V)} {ts : List (Str × TSk)} (h : TsAt CT H m ts) : m.length = ts.length := by
  have := congrArg List.length h.keys
  rw [List.length_map, List.length_map] at this
  exact this
theorem TsAt.get {CT : Addr} {H : Hp} {m : List (Str × V)} {ts : List (Str × TSk)} (h : TsAt CT H m ts) : ∀ {q : Str × V}, q ∈ m → ∃ a T, q.2 = .ref a ∧ TaskAt CT H a T ∧ (q.1, T) ∈ ts := by
  induction h with
  | nil => intro q z; cases z
  | cons e _ ih =>
    intro q z
    rcases List.mem_cons.mp z with rfl | z
    · exact ⟨_, _, rfl, e, List.mem_cons_self⟩
    · obtain ⟨a, T, h1, h2, h3⟩ := ih z
      exact ⟨a, T, h1, h2, List.mem_cons_of_mem _ h3⟩
theorem TsAt.snoc {CT : Addr} {H : Hp} {m : List (Str × V)} {ts : List (Str × TSk)} {k : Str} {a : Addr} {T : TSk} (h : TsAt CT H m ts) (e : TaskAt CT H a T) : TsAt CT H (m ++ [(k, .ref a)]) (ts ++ [(k, T)]) := by
  induction h with
  | nil => exact .cons e .nil
  | cons e' _ ih => exact .cons e' ih
def RightT (ts : List (Str × TSk)) : Prop := ts.length ≤ 8 ∧ (ts.map (·.1)).Nodup ∧ ∀ q ∈ ts, Word q.1 ∧ OkT q.2
/-- the tasks by ascending names -/
def MadeT (ts us : List (Str × TSk)) : Prop := (us.map (·.1)).Perm (ts.map (·.1)) ∧ sortedS (us.map (·.1)) = true ∧ ∀ q ∈ us, q ∈ ts
section
variable {P : Program} {w : World} {K : Frag} {mg : Str → Option Value} {base : Heap} {aF aM aD CE aE CT aW aR aH aA aI : Addr} {fW fR fH fA fI : FuncData}
def spAts (K : Frag) (CT : Addr) : Sp := fun vs H Q _ => ∃ d m ts, vs = [.ref d] ∧ H d = some (.dK (tD m)) ∧ TsAt CT H m ts ∧ RightT ts ∧ ∀ H', Same H H' → Q (.bl true) H'
abbrev NAt : List Str := ["value", "name", "task"]
theorem scAts : FnScope NAt ["value"] (defScope sAts) := ⟨rfl, rfl, rfl, by decide +kernel, rfl, by decide +kernel, by decide +kernel⟩
theorem ok_ats {f : Addr} {fd : FuncData} (F : Fun K "are_tasks" "are_tasks" sAts f fd) (G : Pkg K mg w aF aM aD CE aE CT aW aR aH aA aI fW fR fH fA fI) : FnOk P w K mg base CX0 2 f fd ["value"] (spAts K CT) := by
  have GW : FnOk P w K mg base CX0 1 aW fW ["value"] spGW := ok_gw G.FW G.TR G.TK
  have bW : Binds K fW ["value"] [] := G.FW.binds (ps := ["value"]) fun _ _ _ _ _ _ us hl => match us, hl with | [_], _ => rfl
  refine F.ok scAts (fun vs H Q E h => ?_) (fun cdv A outer s H vs Q E hr h => ?_)
  · obtain ⟨d, m, ts, rfl, _⟩ := h
    rfl
  · obtain ⟨d, m, ts, rfl, hm, ht, ⟨l8, nd, good⟩, k⟩ := h
    refine' ⟨_, pss_cons ?s1 (pss_one ?s2), ?q⟩
    case s1 => exact ps_if (pt_not (pt_val (pe_callB call_isi (by rfl) G.TR.isinstance (by decide +kernel) (pa_cons (pv 0) (pa_cons (pe_bltn (v := .ty "dict") (by rfl) G.T.dict (by decide +kernel) rfl (by decide) (by decide)) pa_nil))))) (pss_one (ps_ret pe_bl)) pss_nil
    case s2 =>
      refine' ps_ret (pe_callB (cr_all rfl) (by rfl) G.TK.all (by decide +kernel) (pa_cons (pe_lock (pe_lc (own := [("name", 1), ("task", 2)]) (g := gTup K 2 (gCons (gName 1) (gCons (gName 2) gNil))) (tt := tYes) rfl scAts.nd (pi_items (pv 0)) (blkOk_by (N := NAt) (sc := defScope sAts) (by decide +kernel)) (fun _ _ _ _ _ => pg_tup rfl (pgs_cons (pg_name (i := 1) scAts.nd rfl (Or.inl rfl)) (pgs_cons (pg_name (i := 2) scAts.nd rfl (Or.inl rfl)) pgs_nil))) (fun _ _ _ _ _ => pts_nil) ?e)) pa_nil))
      case e => exact fun _ _ _ _ _ => pe_and (pe_call GW hr rfl G.gW G.FW.kp bW .nil pass0 (pa_cons (pv 1) pa_nil)) (pe_one (pe_callB (r := rIsi K) call_isi (by rfl) G.TR.isinstance (show bootBuiltins "isinstance" = some (.builtin "isinstance") by decide +kernel) (pa_cons (pv 2) (pa_cons (pe_glob (v := .ref CT) (by rfl) G.C.gC rfl) pa_nil))))
    case q =>
      refine ⟨_, rfl, _, _, _, _, true, rfl, .ty _, .base (.dK hm), (by rfl), true, rfl, iteF ?_⟩
      refine ⟨d, .dK (tD m), hm, trivial, fun od => ?_⟩
      have fz : (upd H d (.frz od (.dK (tD m)))) d = some (.frz od (.dK (tD m))) := upd_same
      have kb : KeepB H (upd H d (.frz od (.dK (tD m)))) := KeepB.upd hm bits_dK
      have lm := ht.len
      refine ⟨_, rfl, d, od, tD m, rfl, fz, fun D hD => ?_⟩
      have hDd : D ≠ d := fun z => by rw [z, fz] at hD; cases hD
      refine lc_it walk_items (fun i Hi => Same (upd H d (.frz od (.dK (tD m)))) Hi ∧ Hi D = some (.lst (List.replicate i (V.bl true)))) ⟨Same.new hD, upd_same⟩ (fun _ _ _ z => z.1 _ _ fz) ?_ ?_
      · rintro i x Hi Hj hi ⟨s2, e2⟩ ⟨T', kx, vx, rfl, nT, rfl, hk, hv⟩
        obtain ⟨q, gq, rfl, rfl⟩ := tD_get hk hv
        obtain ⟨a, T, ev, ta, mt⟩ := ht.get (List.mem_of_getElem? gq)
        obtain ⟨wq, _⟩ := good _ mt
        have s3 : Same Hi (upd Hi T' (.tup [.str q.1, q.2])) := Same.new nT
        have e3 := s3 _ _ e2
        have s23 := s2.trans s3
        have tt : (upd Hi T' (.tup [.str q.1, q.2])) T' = some (.tup [.str q.1, q.2]) := upd_same
        generalize upd Hi T' (.tup [.str q.1, q.2]) = Hj at s23 e3 tt ⊢
        refine ⟨T', _, rfl, SqT.of tt, rfl, _, _, rfl, _, _, rfl, rfl, ?_⟩
        refine ⟨rfl, ?_⟩
        refine yes_of ?_
        refine ⟨_, rfl, q.1, rfl, wq, fun Ha sa => ⟨true, rfl, iteT ?_⟩⟩
        obtain ⟨dx, t1, t2, t3, t4, h0, _⟩ := ta.keep (kb.trans (.of (s23.trans sa)))
        rw [ev]
        refine ⟨_, rfl, _, _, _, _, true, rfl, .own CT, .base (.ins h0 G.C.cl G.C.ha G.C.hn G.C.ht G.C.hm), G.C.me, ?_⟩
        refine ⟨_, sa _ _ e3, ?_, ?_⟩
        · rw [List.length_replicate, sizeLine_eq]
          rw [tD_len] at hi
          omega
        · rw [← List.replicate_succ']
          exact ⟨fun b o z => by rw [upd_ne (ne_of_none z hD)]; exact sa _ _ (s23 b o z), upd_same⟩
      · rintro Hi ⟨s2, e2⟩
        refine ⟨s2 _ _ fz, D, List.replicate (tD m).length true, rfl, SqL.of (by rw [upd_ne hDd, List.map_replicate]; exact e2), ?_⟩
        have : (List.replicate (tD m).length true).all id = true := by simp
        rw [this]
        refine k _ fun b o z => ?_
        by_cases e : b = d
        · rw [e] at z ⊢
          rw [upd_same, ← z, hm]
        · rw [upd_ne e]
          exact s2 b o (by rw [upd_ne e]; exact z)
def spCts (K : Frag) (CT : Addr) : Sp := fun vs H Q _ => ∃ d m ts, vs = [.ref d] ∧ H d = some (.dK (tD m)) ∧ TsAt CT H m ts ∧ RightT ts ∧ ∀ d' m' us H', Same H H' → H d' = none → H' d' = some (.dK (tD m')) → TsAt CT H' m' us → MadeT ts us → (∀ q ∈ m', q ∈ m) → Q (.ref d') H'
theorem scCts : FnScope ["tasks", "name"] ["tasks"] (defScope sCts) := ⟨rfl, rfl, rfl, by decide +kernel, rfl, by decide +kernel, by decide +kernel⟩
theorem ok_cts {f aB : Addr} {fd fB : FuncData} (F : Fun K "checked_tasks" "checked_tasks" sCts f fd) (FB : Fun K "are_tasks" "are_tasks" sAts aB fB) (gB : mg "are_tasks" = some (.ref aB)) (G : Pkg K mg w aF aM aD CE aE CT aW aR aH aA aI fW fR fH fA fI) : FnOk P w K mg base CX0 3 f fd ["tasks"] (spCts K CT) := by
  have GB : FnOk P w K mg base CX0 2 aB fB ["value"] (spAts K CT) := ok_ats FB G
  have bB : Binds K fB ["value"] [] := FB.binds (ps := ["value"]) fun _ _ _ _ _ _ us hl => match us, hl with | [_], _ => rfl
  refine F.ok scCts (fun vs H Q E h => ?_) (fun cdv A outer s H vs Q E hr h => ?_)
  · obtain ⟨d, m, ts, rfl, _⟩ := h
    rfl
  · obtain ⟨d, m, ts, rfl, hm, ht, rt, k⟩ := h
    have hu := hu_of (hr.mono (show 1 ≤ 2 by decide))
    obtain ⟨u, g8⟩ := G.T.TASKS
    refine' ⟨_, pss_cons ?s1 (pss_cons ?s2 (pss_one ?s3)), ?q⟩
    case s1 => exact ps_if (pt_not (pt_val (pe_call GB hr rfl gB FB.kp bB .nil pass0 (pa_cons (pv 0) pa_nil)))) pss_no pss_nil
    case s2 => exact ps_if (pt_cmpR op_gt (pe_callB call_lenD (by rfl) G.TR.len PySem.boot_len (pa_cons (pv 0) pa_nil)) (pe_glob (v := .int 8) (by rfl) g8 ⟨_, rfl⟩) (nomark _)) pss_no pss_nil
    case s3 =>
      refine' ps_ret (pe_dc (own := [("name", 1)]) (g := gName 1) (tt := tYes) rfl scCts.nd (pi_list ?i) (blkOk_by (N := ["tasks", "name"]) (sc := defScope sCts) (by decide +kernel)) (fun _ _ _ _ _ => pg_name (i := 1) scCts.nd rfl (Or.inl rfl)) (fun _ _ _ _ _ => pts_nil) (fun _ _ _ _ _ => pv 1) ?e)
      case i => exact pe_callB cr_sortedS (by rfl) G.T.sorted (by decide +kernel) (pa_cons (pe_callTy (call_list_dK rfl) (by rfl) G.T.list (by decide +kernel) (pa_cons (pv 0) pa_nil)) pa_nil)
      case e => exact fun _ _ _ _ _ => pe_dget (by have := hu; exact this) (pv 0) (pv 1) (fun _ _ => rfl)
    case q =>
      obtain ⟨l8, nd, good⟩ := id rt
      have lm := ht.len
      have km := ht.keys
      refine ⟨_, rfl, d, m, ts, rfl, hm, ht, rt, fun H0 s0 => ⟨true, rfl, iteF ?_⟩⟩
      have hm0 := s0 _ _ hm
      refine ⟨_, rfl, d, tD m, rfl, hm0, _, _, rfl, rfl, false, congrArg V.bl (decide_eq_false (by rw [tD_len]; omega)), iteF ?_⟩
      refine ⟨_, rfl, d, tD m, rfl, hm0, fun l nl => ⟨l, m.map (·.1), rfl, SqL.of (by rw [upd_same, tD_keys]), by rw [List.length_map]; omega, fun ys p pm so np => ?_⟩⟩
      have s1 : Same H0 (upd (upd H0 l (.lst ((tD m).map fun kv => kV kv.1))) p (.lst (ys.map V.str))) := (Same.new nl).trans (Same.new np)
      have e1 : (upd (upd H0 l (.lst ((tD m).map fun kv => kV kv.1))) p (.lst (ys.map V.str))) p = some (.lst (ys.map V.str)) := upd_same
      generalize upd (upd H0 l (.lst ((tD m).map fun kv => kV kv.1))) p (.lst (ys.map V.str)) = H1 at s1 e1 ⊢
      have ndy : ys.Nodup := pm.nodup_iff.mpr (by rw [km]; exact nd)
      have s01 := s0.trans s1
      have ly := pm.length_eq
      rw [List.length_map] at ly
      refine ⟨p, rfl, ⟨_, SqL.of e1⟩, fun D hD => ?_⟩
      refine dc_it (walk_list (K := K) (a := p) (xs := ys.map V.str)) (fun i Ha => ∃ m' us, Same H1 Ha ∧ Ha D = some (.dK (tD m')) ∧ TsAt CT Ha m' us ∧ us.map (·.1) = ys.take i ∧ (∀ q ∈ us, q ∈ ts) ∧ ∀ q ∈ m', q ∈ m) ⟨[], [], Same.new hD, upd_same, .nil, rfl, (fun _ z => nomatch z), fun _ z => nomatch z⟩ (fun _ Ha _ ⟨_, _, z, _⟩ => SqL.of (z _ _ e1)) ?_ ?_
      · rintro i x Ha Hb hi ⟨m', us, sa, dD, kt, ek, al, am⟩ ⟨rfl, hx⟩
        have hi2 : i < ys.length := by
          have := hi
          rw [List.length_map] at this
          exact this
        obtain ⟨y, gy, rfl, my⟩ := at_strs hx
        obtain ⟨v, lv, mv⟩ := look_in (pm.mem_iff.mp my)
        obtain ⟨a, T, ev, ta, mt⟩ := ht.get mv
        have ev : v = .ref a := ev
        subst ev
        refine ⟨rfl, ?_⟩
        refine yes_of ?_
        have gt : DGet Hb d (.str y) (some (.ref a)) := .inl ⟨tD m, .inr y, .inl (sa _ _ (s1 _ _ hm0)), rfl, by rw [tD_val, lv]⟩
        have lk := kt.len
        have lks : us.length = i := by
          have := congrArg List.length ek
          rw [List.length_map, List.length_take] at this
          omega
        have nw : y ∉ m'.map (·.1) := by
          rw [kt.keys, ek]
          exact not_before ndy gy
        refine ⟨_, rfl, _, rfl, _, rfl, d, .ref a, rfl, gt, tD m', .inr y, rfl, dD, by rw [tD_len, sizeLine_eq]; omega, m' ++ [(y, .ref a)], us ++ [(y, T)], fun b o z => ?_, by rw [upd_same, tD_new nw], ?_, ?_, fun q' hq' => ?_, fun q' hq' => ?_⟩
        · rw [upd_ne (ne_of_none z hD)]
          exact sa _ _ z
        · exact (kt.snoc (ta.keep (.of (s01.trans sa)))).keep (KeepB.upd dD bits_dK)
        · rw [List.map_append, ek, take_snoc gy]
          rfl
        · rcases List.mem_append.mp hq' with z | z
          · exact al q' z
          · rw [List.mem_singleton.mp z]
            exact mt
        · rcases List.mem_append.mp hq' with z | z
          · exact am q' z
          · rw [List.mem_singleton.mp z]
            exact mv
      · rintro Ha ⟨m', us, sa, dD, kt, ek, al, am⟩
        rw [List.length_map, List.take_length] at ek
        refine k D m' us Ha (s01.trans sa) (s01.free hD) dD kt ⟨by rw [ek, ← km]; exact pm, by rw [ek]; exact so, al⟩ am
end
end Fp1
set_option Elab.async false
set_option linter.all false
set_option maxRecDepth 100000
set_option maxHeartbeats 4000000
/-! FzE: the reading of a comprehension with two for -/
namespace Fs
open PySem PySem.Spec PyProof.Rows L2 Fh
open PySem.W (Frag)
/-- the inner walk of one turn -/
theorem lc2_in {J1 : It} {n : Nat} {G : Hp → Prop} {Y : Nat → Hp → V → Hp → Prop} (w : Walk J1 n G Y) {g1 : TG} {tt1 : TT} {te : TE} {vs1 : List Nat} {σ2 : L2.St} {H4 : Hp} {D : Addr} {Nx : Hp → Prop} (Pv : Nat → Hp → Prop) (h0 : Pv 0 H4) (hG : ∀ i H, i ≤ n → Pv i H → G H)
    (hs : ∀ i x Ha Hb, i < n → Pv i Ha → Y i Ha x Hb → g1 x (wipe σ2 vs1) Hb fun σ3 H5 => wipe σ3 vs1 = wipe σ2 vs1 ∧ tt1 σ3 H5 fun b H6 => if b = true then te σ3 H6 fun y H7 => ∃ acc, H7 D = some (.lst acc) ∧ acc.length < sizeLine ∧ Pv (i + 1) (upd H7 D (.lst (acc ++ [y]))) else Pv (i + 1) H6)
    (hd : ∀ H, Pv n H → Nx H) :
    ∃ W1 : Nat → Nat → Hp → Prop, (∃ m, W1 0 m H4) ∧ ∀ j k H, W1 j k H → (J1.stop j H ∧ Nx H) ∨ (J1.go j H ∧ ∃ Nx1 : Hp → Prop, (∀ H', Nx1 H' → ∃ k', k' < k ∧ W1 (j + 1) k' H') ∧ ∀ x H', J1.yld j H x H' → g1 x (wipe σ2 vs1) H' fun σ3 H5 => wipe σ3 vs1 = wipe σ2 vs1 ∧ tt1 σ3 H5 fun b H6 =>
      if b = true then te σ3 H6 fun y H7 => ∃ acc, H7 D = some (.lst acc) ∧ acc.length < sizeLine ∧ Nx1 (upd H7 D (.lst (acc ++ [y]))) else Nx1 H6) := by
  refine ⟨fun t left Z => left = n - t ∧ t ≤ n ∧ Pv t Z, ⟨n - 0, rfl, Nat.zero_le n, h0⟩, fun t left Z ⟨el, le, pv⟩ => ?_⟩
  subst el
  have gz := hG t Z le pv
  rcases Nat.lt_or_ge t n with lt | ge
  · refine .inr ⟨w.goes t Z lt gz, Pv (t + 1), fun Z' pv' => ⟨n - (t + 1), by omega, rfl, lt, pv'⟩, fun v Z' yl => ?_⟩
    exact hs t v Z Z' lt pv (w.yields t Z v Z' lt gz yl)
  · obtain rfl : t = n := Nat.le_antisymm le ge
    exact .inl ⟨w.stops Z gz, hd Z pv⟩
/-- one turn of the outer walk -/
abbrev turn2 (wi1 : TI) (g g1 : TG) (tt tt1 : TT) (te : TE) (vs vs1 : List Nat) (σ : L2.St) (D : Addr) (Nx : Hp → Prop) (v : V) (Z : Hp) : Prop :=
  g v (wipe σ vs) Z fun σ2 Z2 => wipe σ2 vs = wipe σ vs ∧ tt σ2 Z2 fun b Z3 => if b = true then wi1 σ2 Z3 fun J1 Z4 => ∃ W1 : Nat → Nat → Hp → Prop, (∃ r, W1 0 r Z4) ∧ ∀ t r Z5, W1 t r Z5 → (J1.stop t Z5 ∧ Nx Z5) ∨ (J1.go t Z5 ∧ ∃ Nx1 : Hp → Prop, (∀ Z6, Nx1 Z6 → ∃ r', r' < r ∧ W1 (t + 1) r' Z6) ∧
    ∀ v1 Z6, J1.yld t Z5 v1 Z6 → g1 v1 (wipe σ2 vs1) Z6 fun σ3 Z7 => wipe σ3 vs1 = wipe σ2 vs1 ∧ tt1 σ3 Z7 fun b1 Z8 => if b1 = true then te σ3 Z8 fun y Z9 => ∃ acc, Z9 D = some (.lst acc) ∧ acc.length < sizeLine ∧ Nx1 (upd Z9 D (.lst (acc ++ [y]))) else Nx1 Z8) else Nx Z3
/-- the outer walk -/
theorem lc2_it {J : It} {n : Nat} {G : Hp → Prop} {Y : Nat → Hp → V → Hp → Prop} (w : Walk J n G Y) {wi1 : TI} {g g1 : TG} {tt tt1 : TT} {te : TE} {vs vs1 : List Nat} {σ : L2.St} {H1 : Hp} {D : Addr} {Qd : Hp → Prop} (Pv : Nat → Hp → Prop) (h0 : Pv 0 (upd H1 D (.lst []))) (hG : ∀ i H, i ≤ n → Pv i H → G H)
    (hs : ∀ i x Ha Hb, i < n → Pv i Ha → Y i Ha x Hb → turn2 wi1 g g1 tt tt1 te vs vs1 σ D (Pv (i + 1)) x Hb) (hd : ∀ H, Pv n H → Qd H) :
    ∃ W : Nat → Nat → Hp → Prop, (∃ r, W 0 r (upd H1 D (.lst []))) ∧ ∀ t r Z, W t r Z → (J.stop t Z ∧ Qd Z) ∨ (J.go t Z ∧ ∃ Nx : Hp → Prop, (∀ Z', Nx Z' → ∃ r', r' < r ∧ W (t + 1) r' Z') ∧ ∀ v Z', J.yld t Z v Z' → turn2 wi1 g g1 tt tt1 te vs vs1 σ D Nx v Z') := by
  refine ⟨fun t left Z => left = n - t ∧ t ≤ n ∧ Pv t Z, ⟨n - 0, rfl, Nat.zero_le n, h0⟩, fun t left Z ⟨el, le, pv⟩ => ?_⟩
  subst el
  have gz := hG t Z le pv
  rcases Nat.lt_or_ge t n with lt | ge
  · refine .inr ⟨w.goes t Z lt gz, Pv (t + 1), fun Z' pv' => ⟨n - (t + 1), by omega, rfl, lt, pv'⟩, fun v Z' yl => ?_⟩
    exact hs t v Z Z' lt pv (w.yields t Z v Z' lt gz yl)
  · obtain rfl : t = n := Nat.le_antisymm le ge
    exact .inl ⟨w.stops Z gz, hd Z pv⟩
end Fs
set_option Elab.async false
set_option linter.all false
set_option maxRecDepth 100000
set_option maxHeartbeats 8000000
/-! names_inside, fronts, _is_choice, turn_of -/
namespace Fp1
open PySem PySem.Spec PyProof.Rows L2 Fh Fs
open PySem.W (Frag)
abbrev sNi : Stmt := top 28
/-! ### as data -/
theorem w_names {n : Nat} {d : PyData} (h : Sh n d) : (namesF n d).length ≤ d.weight + 1 := by
  induction h with
  | @nm n y h => rw [names_str]; exact Nat.le_add_left _ _
  | @nd n y ds h1 h2 h3 ih =>
    show (ds.flatMap (namesF n)).length ≤ _
    rw [w_tup, w_cons]
    clear h1 h2 h3
    induction ds with
    | nil => exact Nat.zero_le _
    | cons d ds ihd =>
      rw [List.flatMap_cons, List.length_append, w_cons]
      have := ih d List.mem_cons_self
      have := ihd fun e he => ih e (List.mem_cons_of_mem _ he)
      omega
section
variable {P : Program} {w : World} {K : Frag} {mg : Str → Option Value} {base : Heap} {aF aM aD CE aE : Addr}
/-! ### names_inside -/
def spNi (K : Frag) (n : Nat) : Sp := fun vs H Q _ => ∃ v d, vs = [v] ∧ Pl K H v d ∧ Sh n d ∧ d.weight ≤ 900000 ∧ ∀ l H', Same H H' → H l = none → H' l = some (.lst ((namesF n d).map V.str)) → Q (.ref l) H'
theorem scNi : FnScope ["plan", "part", "name"] ["plan"] (defScope sNi) := ⟨rfl, rfl, rfl, by decide +kernel, rfl, by decide +kernel, by decide +kernel⟩
theorem step_ni {n kk : Nat} {sp' : Sp} {f : Addr} {fd : FuncData} (F : Fun K "names_inside" "names_inside" sNi f fd) (gF : mg "names_inside" = some (.ref f)) (T : TxtR K mg w aF aM aD CE aE) (TK : TxtK mg) (GN : FnOk P w K mg base CX0 kk f fd ["plan"] sp') (hs : ∀ j, n = j + 1 → sp' = spNi K j) : FnOk P w K mg base CX0 (kk + 1) f fd ["plan"] (spNi K n) := by
  have bN : Binds K fd ["plan"] [] := F.binds (ps := ["plan"]) fun _ _ _ _ _ _ us hl => match us, hl with | [_], _ => rfl
  refine F.ok scNi (fun vs H Q E h => ?_) (fun cdv A outer s H vs Q E hr h => ?_)
  · obtain ⟨v, d, rfl, _⟩ := h
    rfl
  · obtain ⟨v, d, rfl, hv, sh, hw, k⟩ := h
    refine' ⟨_, pss_cons ?s1 (pss_one (ps_ret ?s2)), ?q⟩
    case s1 =>
      refine' ps_if (pt_not (pt_val ?a)) (pss_one (ps_ret (pe_lst (pa_cons (pv 0) pa_nil)))) pss_nil
      case a => exact pe_callB call_isi (by rfl) T.isinstance (by decide +kernel) (pa_cons (pv 0) (pa_cons (pe_bltn (v := .ty "tuple") (by rfl) TK.tuple (by decide +kernel) rfl (by decide) (by decide)) pa_nil))
    case s2 =>
      refine' pe_lc2 (own := [("part", 1), ("name", 2)]) (vs1 := [2]) (g := gName 1) (tt := tYes) (g1 := gName 2) (tt1 := tYes) (wi1 := iList K (tCall sp' [] E0 (tCons (tVar 1) tNil))) (te := tVar 2) rfl scNi.nd (pi_tup (pe_slice sl_tupA (pv 0) (po_some pe_int) po_none)) ?k (by decide) ?g (fun _ _ _ _ _ => pts_nil) ?i1 ?g1 (fun _ _ _ _ _ => pts_nil) ?e
      case k => exact blkOk_by (N := ["plan", "part", "name"]) (sc := defScope sNi) (by decide +kernel)
      case g => exact fun _ _ _ _ _ => pg_name (i := 1) scNi.nd rfl (Or.inl rfl)
      case i1 => exact fun _ _ _ _ _ => pi_list (pe_call GN hr rfl gF F.kp bN .nil pass0 (pa_cons (pv 1) pa_nil))
      case g1 => exact fun _ _ _ _ _ => pg_name (i := 2) scNi.nd rfl (Or.inl rfl)
      case e => exact fun _ _ _ _ _ => pv 2
    case q =>
      have ty := hv.ty
      have kt := kit_tup K d
      have ssz : sizeLine = 16777216 := sizeLine_eq
      refine ⟨_, rfl, _, _, _, _, isTup d, rfl, .ty _, ty, kt, _, rfl, ?_⟩
      cases sh with
      | @nm _ y hy =>
        cases hv
        refine iteT ⟨_, rfl, (show 1 ≤ sizeLine by decide), fun l nl => k l _ (Same.new nl) nl ?_⟩
        rw [names_str]
        exact upd_same
      | @nd n y ds h1 h2 h3 =>
        obtain rfl := hs n rfl
        refine iteF ?_
        cases hv with
        | @tup a vs _ hg r =>
          cases r with
          | @cons x0 d0 xs _ hx r =>
            cases hx
            have lx := r.len
            rw [w_tup, w_cons] at hw
            refine ⟨_, rfl, 1, rfl, a, _, rfl, hg, fun z => tail_new xs z.1, fun _ q nq => ?_⟩
            rw [cut_tail]
            have sq : Same H (upd H q (.tup xs)) := Same.new nq
            have gq : (upd H q (.tup xs)) q = some (.tup xs) := upd_same
            generalize upd H q (.tup xs) = H1 at sq gq ⊢
            refine ⟨q, rfl, ⟨_, SqT.of gq⟩, fun D nD => ?_⟩
            have nDH : H D = none := none_back sq nD
            refine lc2_it (walk_tup (K := K) (a := q) (xs := xs)) (fun i Hh => Hh D = some (.lst (((ds.take i).flatMap (namesF n)).map V.str)) ∧ Same H1 Hh) ⟨upd_same, Same.new nD⟩ (fun _ Hh _ ⟨_, z⟩ => SqT.of (z _ _ gq)) ?_ ?_
            · rintro i x Ha Hb hi ⟨hD, sa⟩ ⟨rfl, gx⟩
              refine ⟨rfl, ?_⟩
              refine yes_of ?_
              have di : i < ds.length := by omega
              have gd : ds[i]? = some ds[i] := List.getElem?_eq_getElem di
              have dx := (r.get gx gd).same (sq.trans sa)
              have mem : ds[i] ∈ ds := List.getElem_mem di
              have wm := w_mem mem
              refine ⟨_, rfl, x, ds[i], rfl, dx, h3 _ mem, by omega, fun l Hc sc nl hl => ?_⟩
              have hDc := sc _ _ hD
              have nDl : l ≠ D := fun e => by rw [e, hD] at nl; cases nl
              refine ⟨l, rfl, ⟨_, SqL.of hl⟩, ?_⟩
              have ew : ((ds.take (i + 1)).flatMap (namesF n)) = (ds.take i).flatMap (namesF n) ++ namesF n ds[i] := by
                rw [List.take_add_one, gd, List.flatMap_append]
                show _ ++ (namesF n ds[i] ++ []) = _
                rw [List.append_nil]
              have few : ((ds.take i).flatMap (namesF n)).length + (namesF n ds[i]).length ≤ 900001 := by
                have h := w_names (n := n + 1) (.nd h1 h2 h3)
                have h' : (ds.flatMap (namesF n)).length ≤ (PyData.tuple (.str y :: ds)).weight + 1 := h
                rw [w_tup, w_cons] at h'
                have e2 : ds.flatMap (namesF n) = (ds.take (i + 1)).flatMap (namesF n) ++ (ds.drop (i + 1)).flatMap (namesF n) := by
                  rw [← List.flatMap_append, List.take_append_drop]
                rw [e2, ew, List.length_append, List.length_append] at h'
                omega
              refine lc2_in (walk_list (K := K) (a := l) (xs := (namesF n ds[i]).map V.str)) (fun j Hh => Hh D = some (.lst (((ds.take i).flatMap (namesF n) ++ (namesF n ds[i]).take j).map V.str)) ∧ Same H1 Hh ∧ Hh l = some (.lst ((namesF n ds[i]).map V.str))) ⟨by rw [List.take_zero, List.append_nil]; exact hDc, sa.trans sc, hl⟩ (fun _ Hh _ ⟨_, _, z⟩ => SqL.of z) ?_ ?_
              · rintro j z Hd He hj ⟨hDd, sd, hld⟩ ⟨rfl, gz⟩
                rw [List.length_map] at hj
                have gz2 : (namesF n ds[i])[j]? = some (namesF n ds[i])[j] := List.getElem?_eq_getElem hj
                have ez : z = .str (namesF n ds[i])[j] := by
                  rw [List.getElem?_map, gz2] at gz
                  exact (Option.some.inj gz).symm
                refine ⟨rfl, ?_⟩
                refine yes_of ?_
                refine ⟨_, rfl, _, hDd, ?_, ?_, ?_, ?_⟩
                · rw [List.length_map, List.length_append, List.length_take]
                  omega
                · rw [upd_same, List.take_add_one, gz2, ez]
                  simp only [Option.toList, List.map_append, List.map_cons, List.map_nil, List.append_assoc]
                · exact same_off sd nD
                · rw [upd_ne nDl]
                  exact hld
              · rintro Hd ⟨hDd, sd, _⟩
                rw [List.length_map, List.take_length] at hDd
                refine ⟨?_, sd⟩
                rw [ew]
                exact hDd
            · rintro Ha ⟨hD, sa⟩
              rw [lx, List.take_length] at hD
              exact k D Ha (sq.trans sa) nDH hD
theorem ok_ni {f : Addr} {fd : FuncData} (F : Fun K "names_inside" "names_inside" sNi f fd) (gF : mg "names_inside" = some (.ref f)) (T : TxtR K mg w aF aM aD CE aE) (TK : TxtK mg) : ∀ n, FnOk P w K mg base CX0 (n + 2) f fd ["plan"] (spNi K n)
  | 0 => step_ni (n := 0) (kk := 1) (sp' := fun _ _ _ _ => False) F gF T TK (F.ok scNi (fun _ _ _ _ h => h.elim) (fun _ _ _ _ _ _ _ _ _ h => h.elim)) (fun j e => nomatch e)
  | n + 1 => step_ni (n := n + 1) (kk := n + 2) (sp' := spNi K n) F gF T TK (ok_ni F gF T TK n) (fun j e => by cases e; rfl)
end
end Fp1
set_option Elab.async false
set_option linter.all false
set_option maxRecDepth 100000
set_option maxHeartbeats 8000000
/-! checked_plan (all right) -/
namespace Fp1
open PySem PySem.Spec PyProof.Rows L2 Fh Fs
open PySem.W (Frag)
abbrev sCp : Stmt := top 47
structure CpG (K : Frag) (mg : Str → Option Value) (w : World) (aF aM aD CE aE CP fP aC aA aW aI aH aN aT aS aV aL : Addr) (fC fA fW fI fH fN fT fS fV fL : FuncData) : Prop where
  C : CkG K mg w aF aM aD CE aE CP fP aC aA aW aI aH fC fA fW fI fH
  FN : Fun K "normal_form" "normal_form" sNf aN fN
  FT : Fun K "in_turn" "in_turn" sTurn aT fT
  FS : Fun K "side_by_side" "side_by_side" sSide aS fS
  FV : Fun K "names_inside" "names_inside" sNi aV fV
  FL : Fun K "levels" "levels" sLv aL fL
  gN : mg "normal_form" = some (.ref aN)
  gT : mg "in_turn" = some (.ref aT)
  gS : mg "side_by_side" = some (.ref aS)
  gV : mg "names_inside" = some (.ref aV)
  gL : mg "levels" = some (.ref aL)
section
variable {P : Program} {w : World} {K : Frag} {mg : Str → Option Value} {base : Heap} {aF aM aD CE aE CP fP aC aA aW aI aH aN aT aS aV aL : Addr} {fC fA fW fI fH fN fT fS fV fL : FuncData}
abbrev NCp : List Str := ["plan", "tasks", "names", "form", "name"]
theorem scCp : FnScope NCp ["plan", "tasks"] (defScope sCp) := ⟨rfl, rfl, rfl, by decide +kernel, rfl, by decide +kernel, by decide +kernel⟩
end
end Fp1
set_option Elab.async false
set_option linter.all false
set_option maxRecDepth 100000
set_option maxHeartbeats 4000000
/-! FzN: a tuple == (); what a def tells of InvalidPlan, as a list; a local that holds a def which may raise -/
namespace Fs
open PySem PySem.Spec PyProof.Rows L2 Fh LamX
open PySem.W (Frag)
end Fs
set_option Elab.async false
set_option linter.all false
set_option maxRecDepth 100000
set_option maxHeartbeats 4000000
/-! FzP: the error TooMany(limit), over OverflowError, over the layer -/
namespace PySem
namespace ErrM
open PySem.W PySem.Calls PyProof.Rows PySem.HandSPX
/-! ### the text of __init__ -/
def iA (p1 p2 : Pos) : Arguments := { posonlyargs := [], args := [{ arg := "self", annotation := none, pos := p1 }, { arg := "limit", annotation := none, pos := p2 }], vararg := none, kwonlyargs := [], kw_defaults := [], kwarg := none, defaults := [] }
def iB (q1 q2 q3 q4 : Pos) : List Stmt := [.Assign [.Attribute (.Name "self" q1) "limit" q2] (.Name "limit" q3) q4]
def iS : Scope := { kind := .function, names := [(PySem.Str.ofString "self", .local), (PySem.Str.ofString "limit", .local)], isGenerator := false, isCoroutine := false, more := [] }
/-- what the written part says of TooMany, at C, and of its __init__, at fI -/
structure ErrMxt (K : Frag) (mg : Str → Option Value) (C fI : Addr) : Prop where
  gC : mg "TooMany" = some (.ref C)
  ei : Fh.EK K C .oe
  sa : findIn K (.ref C) "__setattr__" = some (some (.builtin "object.__setattr__"))
  ga : findIn K (.ref C) "__getattribute__" = some (some (.builtin "BaseException.__getattribute__"))
  gg : findIn K (.ref C) "__getattr__" = some none
  noN : findIn K (.ref C) "limit" = some none
  iC : findIn K (.ref C) "__init__" = some (some (.ref fI))
  tC : typeIn K (.ref fI) = some (.type "function")
  kC : keepIn K (.ref C) = true
  exC : subIn K (.ref C) (.type "BaseException") = some true
  tyC : typeIn K (.ref C) = some (.type "type")
  hdC : hasDictIn K C = true
  te : exmOne K (.ref C) (.ref C) = some true
  fn : ∃ (oc : Value) (od : Option Addr) (kV doc pm : Value) (an : Option Addr) (cdv ct : Value) (osl : Array (Option Value)) (p1 p2 q1 q2 q3 q4 : Pos),
    K.lookup fI = some ⟨oc, od, .func (fnOf "__init__" "TooMany.__init__" (iA p1 p2) (iB q1 q2 q3 q4) iS .none kV doc pm an cdv ct), osl⟩ ∧ codeIn K cdv "TooMany.__init__" = true
theorem one_size (v : Value) : [v].length ≤ sizeLine := by
  rw [sizeLine_eq]
  exact (by decide : 1 ≤ 16777216)
theorem ldC {M : Model} {s : Shared} {name : Str} {scope : Scope} {L a : Addr} {cd : Value} {m : Str → Option Value} {x : Str} {pos : Pos} {v : Value} {Q : Value → Shared → Prop} {A : Around} {E : Value → Shared → Prop} (hn : s.heap.Ns L m) (hv : m x = some v) (h : Q v s)
    (hk : scope.kind = .function := by rfl) (hl : (envOfC name scope L a cd).kindOf x = some .local := by rfl) (hd : (x == ("__debug__" : Str)) = false := by decide) :
    wpAny M A (eval (.Name x pos) (envOfC name scope L a cd)) Q E s := wpAny_Name (wpAny_loadName_local hk hl hn hv h) hd
/-- what __init__ leaves of a fresh exception at x -/
structure InitEnd (h h' : Heap) (x C dx t1 : Addr) (v : Value) : Prop where
  keep : ∀ b o, b ≠ x → h.get? b = some o → h'.get? b = some o
  obj : h'.get? x = some { cls := .ref C, dict := some dx, data := .fields #[.ref t1, .none, .none, .none, .bool false, .none] }
  dbig : h.objs.size ≤ dx
  dne : dx ≠ x
  ns : h'.Ns1 dx (fun y => if y = "limit" then some v else none)
/-- a made TooMany -/
structure OwnMade (h h' : Heap) (e C d : Addr) (v : Value) : Prop where
  keep : ∀ b o, h.get? b = some o → h'.get? b = some o
  new : h.objs.size ≤ e
  obj : ∃ oe vs, h'.get? e = some oe ∧ oe.cls = .ref C ∧ oe.dict = some d ∧ oe.data = .fields vs ∧ vs[1]? = some .none
  dbig : h.objs.size ≤ d
  dne : d ≠ e
  ns : h'.Ns1 d (fun y => if y = "limit" then some v else none)
section
variable {prog : Program} {w : World} {A : Around} {E : Value → Shared → Prop} {R : Result → Shared → Prop} {s : Shared} {K : Frag} {mg : Str → Option Value} {C fI : Addr}
theorem errM_init (T : ErrMxt K mg C fI) {x t0 : Addr} {v : Value} (X : K.In s.heap) (hlim : s.heap.NoLimit) (hx : s.heap.get? x = some (excO C t0)) (hnx : K.lookup x = none) (hroom : A.depth < recursionLimit)
    (hq : ∀ h' tk dx, InitEnd s.heap h' x C dx t0 v → R (.ok (.ret .none)) { s with heap := h', toks := tk }) :
    codeAny (model prog w) A (.call (.ref fI) ⟨[.ref x, v], []⟩) R s := by
  obtain ⟨oc, od, kV, doc, pm, an, cdv, ct, osl, p1, p2, q1, q2, q3, q4, ho, hcd⟩ := T.fn
  obtain ⟨nm, q, N, bs, sn, sub, ab, col, dd, k0, k1, k2, k3, k5, hC⟩ := Fs.ei_obj T.ei
  refine Att.call_fn (binds := [("self", .ref x), ("limit", v)]) X hlim ho hcd hroom (BindsTo.of_eq (by first | rfl | with_unfolding_all rfl)) (by first | rfl | decide | with_unfolding_all rfl) (fun s₁ IC => ?_) rfl rfl rfl
  obtain ⟨h₁, tk₁, rfl⟩ := IC.toInCall.same
  have k : ∀ b o, s.heap.get? b = some o → h₁.get? b = some o := IC.toInCall.keep
  have hn := IC.toInCall.ns
  have hxL : s.heap.objs.size ≠ x := Nat.ne_of_gt (Heap.lt_size hx)
  have X₁ : K.In h₁ := X.keeps k
  have hx₁ := k _ _ hx
  -- self.by = by
  show wpAny _ _ (execs _ _) _ _ _
  refine wpAny_execs_cons (plainObj_wpAny_Assign_Attribute ?_)
  refine ldC (v := v) hn (by first | rfl | with_unfolding_all rfl | kernel_rfl) (ldC (v := .ref x) hn (by first | rfl | with_unfolding_all rfl | kernel_rfl) ?_)
  refine set_plain X₁ (ox := excO C t0) (od := none) ⟨hx₁, rfl, rfl, trivial⟩ T.sa ?_
  refine Fh.osaG_new T.ei (Fh.BK.sf .oe) X₁ hx₁ T.noN (fun h₃ tk₃ dx k₃ dn dne hx₃ hn₃ => ?_)
  show wpAny _ _ (execs _ _) _ _ _
  have z : s.heap.objs.size < h₁.objs.size := hn.lt
  exact wpAny_execs_nil (hq h₃ tk₃ dx ⟨fun b o hb e => k₃ b o hb (k b o e), hx₃, Nat.le_of_lt (Nat.lt_of_lt_of_le z dn), dne, hn₃⟩)
theorem errM_made (T : ErrMxt K mg C fI) {v : Value} (X : K.In s.heap) (hlim : s.heap.NoLimit) (hroom : A.depth + 1 < recursionLimit)
    (hq : ∀ h' tk e d, OwnMade s.heap h' e C d v → R (.ok (.ret (.ref e))) { s with heap := h', toks := tk }) :
    codeAny (model prog w) A (.call (.ref C) ⟨[v], []⟩) R s := by
  obtain ⟨nm, q, N, bs, sn, sub, ab, col, dd, k0, k1, k2, k3, k5, hC⟩ := Fs.ei_obj T.ei
  obtain ⟨hp, g, dr, tk, os⟩ := s
  have k : ∀ b o, hp.get? b = some o → ((hp.push (kdv_tup [v])).push (excO C hp.objs.size)).get? b = some o := fun b o e => Heap.get?_push_of_some _ (Heap.get?_push_of_some _ e)
  have hget : ((hp.push (kdv_tup [v])).push (excO C hp.objs.size)).get? (hp.objs.size + 1) = some (excO C hp.objs.size) := by heap_get
  have hnx : K.lookup (hp.objs.size + 1) = none := by
    cases e : K.lookup (hp.objs.size + 1) with
    | none => rfl
    | some o =>
      have z : hp.get? (hp.objs.size + 1) = some o := X _ _ e
      exact absurd (Nat.lt_of_succ_lt (Heap.lt_size z)) (Nat.lt_irrefl _)
  refine call_own (Fh.BK.fb .oe) (fun _ => rfl) (X _ _ hC) (looks_findIn X T.iC) (fun self => bind_fn X self T.tC) (one_size v) ?_
  refine errM_init (s := ⟨(hp.push (kdv_tup [v])).push (excO C hp.objs.size), g, dr, tk, os⟩) T (X.keeps k) (hlim.keeps k) hget hnx ?_ fun h' tk' dx ⟨k', hx, dn, dne, hns⟩ => ?_
  · show A.depth + 1 < recursionLimit
    exact hroom
  · have old : ∀ b o, hp.get? b = some o → h'.get? b = some o := fun b o e => k' b o (Nat.ne_of_lt (Nat.lt_succ_of_lt (Heap.lt_size e))) (k b o e)
    have z : hp.objs.size + 1 + 1 ≤ dx := by
      first
        | (simpa only [Heap.size_push] using dn)
        | exact dn
        | (have q := dn; rw [Heap.size_push, Heap.size_push] at q; exact q)
    exact ⟨rfl, hq h' tk' (hp.objs.size + 1) dx ⟨old, Nat.le_succ _, ⟨_, _, hx, rfl, rfl, rfl, rfl⟩, Nat.le_trans (Nat.le_trans (Nat.le_succ _) (Nat.le_succ _)) z, dne, hns⟩⟩
end
end ErrM
end PySem
namespace L2
open PySem PySem.Spec PyProof.Rows
theorem relO_errM {v : V} {v' : Value} (r : RelV v v') (f : Str) : RelO (List.lookup f [(("limit" : Str), v)]) (if f = "limit" then some v' else none) := by
  by_cases hw : f = "limit"
  · subst hw
    rw [if_pos rfl]
    have q : List.lookup ("limit" : Str) [(("limit" : Str), v)] = some v := by simp [List.lookup]
    rw [q]
    exact r
  · rw [if_neg hw]
    have qw : (f == ("limit" : Str)) = false := by simpa using hw
    have q2 : List.lookup f [(("limit" : Str), v)] = none := by simp [List.lookup, qw]
    rw [q2]
    trivial
section
variable {X : Cx} {C fI : Addr}
/-- TooMany(e) -/
def tMkErrM (C : Addr) (ta : TA) : St → Hp → XK → Prop := fun σ H Q => ta σ H fun vs H1 => ∃ v, vs = [v] ∧ ∀ d, H1 d = none → Q (.ref C) (some d) (upd H1 d (.xd [(("limit" : Str), v)]))
theorem pmk_errM {a : Expr} {ta : TA} {p pos : Pos} {k : Nat} (T : PySem.ErrM.ErrMxt X.K X.mg C fI) (hr : Room k X.A) (ha : PA X [a] ta) (hg : Gl X "TooMany" := by rfl)
    (he : starEach (a :: []) X.env = (false, eval a X.env) :: starEach [] X.env := by rfl) (hpl : (backTo pos (starEach [] X.env)).any (·.1) = false := by rfl) :
    PMk X (.Call (.Name "TooMany" p) [a] [] pos) (tMkErrM C ta) := by
  intro pins s σ H Q I h
  refine wpAny_Call_Name_kw (ld_glob I hg T.gC ?_)
  refine PySem.W.callWith_K (h₀ := X.base) I.ok.mod.kin T.kC (thn (ha.run pos pins s σ H _ I h) fun us s1 hh => ?_) he hpl
  obtain ⟨vs, H1, I1, r1, v, ev, q1⟩ := hh
  subst ev
  refine ⟨I1.kIn, ?_⟩
  cases r1 with
  | cons rv rn =>
    rename_i v' us'
    cases rn
    show wpAny _ _ (call (.ref C) [v']) _ _ _
    have hlim := I1.nolimit
    obtain ⟨hp, g, dr, tk, os⟩ := s1
    refine wpAny_call (PySem.ErrM.errM_made T I1.kIn hlim (by have := hr.dp; omega) fun h' tk' e d M => ?_)
    show MkP X pins σ Q (.ref e) ⟨h', g, dr, tk', os⟩
    obtain ⟨oe, fv, hoe, hc, hd, hdat, h1⟩ := M.obj
    have hns := M.ns
    obtain ⟨G', g1, g2⟩ := restrict h' fun b => decide (b ≠ e)
    have gk : ∀ b, b ≠ e → G'.get? b = h'.get? b := fun b hb => g1 b (decide_eq_true hb)
    have ge : G'.get? e = none := g2 e (by simp)
    have old : ∀ b o, hp.get? b = some o → G'.get? b = some o := fun b o q => (gk b (Nat.ne_of_lt (Nat.lt_of_lt_of_le (Heap.lt_size q) M.new))).trans (M.keep b o q)
    have ob : ObjOk X.prog X.w (upd H1 d (.xd [(("limit" : Str), v)])) G' d (.xd [(("limit" : Str), v)]) :=
      ⟨_, hns.at (fun o q => (gk d M.dne).trans q), fun f => relO_errM rv f⟩
    have J : Inv X pins σ (upd H1 d (.xd [(("limit" : Str), v)])) ⟨G', g, dr, tk', os⟩ := I1.laid (t' := tk') old M.dbig ob
    refine ⟨e, oe, fv, ⟨G', g, dr, tk', os⟩, _, .ref C, some d, rfl, J, fun b o q => ?_, ge, hoe, ⟨hc, hd⟩, hdat, h1, ?_, rfl, I1.bare, raises_own T.exC T.tyC, q1 d (I1.hok.fresh M.dbig)⟩
    · by_cases hb : b = e
      · have q' : G'.get? b = some o := q
        rw [hb, ge] at q'; cases q'
      · exact (gk b hb).symm.trans q
    · rw [upd_ne (Ne.symm M.dne)]
      exact I1.hok.fresh M.new
/-- raise TooMany(e) -/
def tRaiseErrM (C : Addr) (W : WX) (ta : TA) : TS := fun _ σ H => tMkErrM C ta σ H fun cls d H' => W cls d σ H'
theorem ps_raiseErrM {a : Expr} {ta : TA} {W : WX} {p pos pos2 : Pos} {k : Nat} (hc : X.calm = true) (T : PySem.ErrM.ErrMxt X.K X.mg C fI) (hr : Room k X.A) (tk : Takes X W) (ha : PA X [a] ta) (hg : Gl X "TooMany" := by rfl)
    (he : starEach (a :: []) X.env = (false, eval a X.env) :: starEach [] X.env := by rfl) (hpl : (backTo pos (starEach [] X.env)).any (·.1) = false := by rfl) :
    PS X (.Raise (some (.Call (.Name "TooMany" p) [a] [] pos)) none pos2) (tRaiseErrM C W ta) := ps_raise hc tk (pmk_errM T hr ha hg he hpl)
end
end L2
set_option Elab.async false
set_option linter.all false
set_option maxRecDepth 100000
set_option maxHeartbeats 4000000
/-! FzQ: the error TooMany where a suite holds it; its row of facts by the head's Bools -/
namespace Fs
open PySem PySem.Spec PyProof.Rows L2 Fh
open PySem.W (Frag)
theorem errM_of {K : Frag} {mg : Str → Option Value} {C : Addr} (gC : mg "TooMany" = some (.ref C)) (T : EK K C .oe) {fI : Addr} (no : PySem.W.findIn K (.ref C) "limit" = some none) (iC : PySem.W.findIn K (.ref C) "__init__" = some (some (.ref fI))) (tI : PySem.W.typeIn K (.ref fI) = some (.type "function"))
    (fn : ∃ (oc : Value) (od : Option Addr) (kV doc pm : Value) (an : Option Addr) (cdv ct : Value) (osl : Array (Option Value)) (p1 p2 q1 q2 q3 q4 : Pos),
      K.lookup fI = some ⟨oc, od, .func (PySem.W.fnOf "__init__" "TooMany.__init__" (PySem.ErrM.iA p1 p2) (PySem.ErrM.iB q1 q2 q3 q4) PySem.ErrM.iS .none kV doc pm an cdv ct), osl⟩ ∧ PySem.W.codeIn K cdv "TooMany.__init__" = true) : PySem.ErrM.ErrMxt K mg C fI := by
  have sB : PySem.W.subIn K (.ref C) (.type "BaseException") = some true := by rw [T.sub]; rfl
  have sC : PySem.W.subIn K (.ref C) (.ref C) = some true := by rw [T.sub, List.contains_cons]; simp
  exact { gC := gC, ei := T, sa := T.sa, ga := T.ga, gg := T.gg, noN := no, iC := iC, tC := tI, kC := T.kC, exC := sB, tyC := T.ty, hdC := T.hd, te := PySem.W.exm_ref sB T.hd T.ty sC, fn := fn }
theorem errC_ofM {K : Frag} {C : Addr} (T : EK K C .oe) : ErrC K C := by
  obtain ⟨cd, h1, _⟩ := T.cls
  exact ⟨by rw [h1]; rfl, T.cl, T.hn, T.ht, by rw [T.mroI]; rfl⟩
theorem errB_ofM {K : Frag} {C : Addr} (T : EK K C .oe) : PySem.W.kitOne K (.ref C) (.type "OverflowError") = some true := by
  rw [T.kitT (by decide +kernel)]
  rfl
end Fs
set_option Elab.async false
set_option linter.all false
set_option maxRecDepth 100000
set_option maxHeartbeats 4000000
/-! FzR: the error UnknownTask(value), over LookupError, over the layer -/
namespace PySem
namespace ErrU
open PySem.W PySem.Calls PyProof.Rows PySem.HandSPX
/-! ### the text of __init__ -/
def iA (p1 p2 : Pos) : Arguments := { posonlyargs := [], args := [{ arg := "self", annotation := none, pos := p1 }, { arg := "value", annotation := none, pos := p2 }], vararg := none, kwonlyargs := [], kw_defaults := [], kwarg := none, defaults := [] }
def iB (q1 q2 q3 q4 : Pos) : List Stmt := [.Assign [.Attribute (.Name "self" q1) "value" q2] (.Name "value" q3) q4]
def iS : Scope := { kind := .function, names := [(PySem.Str.ofString "self", .local), (PySem.Str.ofString "value", .local)], isGenerator := false, isCoroutine := false, more := [] }
/-- what the written part says of UnknownTask, at C, and of its __init__, at fI -/
structure ErrUxt (K : Frag) (mg : Str → Option Value) (C fI : Addr) : Prop where
  gC : mg "UnknownTask" = some (.ref C)
  ei : Fh.EK K C .le
  sa : findIn K (.ref C) "__setattr__" = some (some (.builtin "object.__setattr__"))
  ga : findIn K (.ref C) "__getattribute__" = some (some (.builtin "BaseException.__getattribute__"))
  gg : findIn K (.ref C) "__getattr__" = some none
  noN : findIn K (.ref C) "value" = some none
  iC : findIn K (.ref C) "__init__" = some (some (.ref fI))
  tC : typeIn K (.ref fI) = some (.type "function")
  kC : keepIn K (.ref C) = true
  exC : subIn K (.ref C) (.type "BaseException") = some true
  tyC : typeIn K (.ref C) = some (.type "type")
  hdC : hasDictIn K C = true
  te : exmOne K (.ref C) (.ref C) = some true
  fn : ∃ (oc : Value) (od : Option Addr) (kV doc pm : Value) (an : Option Addr) (cdv ct : Value) (osl : Array (Option Value)) (p1 p2 q1 q2 q3 q4 : Pos),
    K.lookup fI = some ⟨oc, od, .func (fnOf "__init__" "UnknownTask.__init__" (iA p1 p2) (iB q1 q2 q3 q4) iS .none kV doc pm an cdv ct), osl⟩ ∧ codeIn K cdv "UnknownTask.__init__" = true
theorem one_size (v : Value) : [v].length ≤ sizeLine := by
  rw [sizeLine_eq]
  exact (by decide : 1 ≤ 16777216)
theorem ldC {M : Model} {s : Shared} {name : Str} {scope : Scope} {L a : Addr} {cd : Value} {m : Str → Option Value} {x : Str} {pos : Pos} {v : Value} {Q : Value → Shared → Prop} {A : Around} {E : Value → Shared → Prop} (hn : s.heap.Ns L m) (hv : m x = some v) (h : Q v s)
    (hk : scope.kind = .function := by rfl) (hl : (envOfC name scope L a cd).kindOf x = some .local := by rfl) (hd : (x == ("__debug__" : Str)) = false := by decide) :
    wpAny M A (eval (.Name x pos) (envOfC name scope L a cd)) Q E s := wpAny_Name (wpAny_loadName_local hk hl hn hv h) hd
/-- what __init__ leaves of a fresh exception at x -/
structure InitEnd (h h' : Heap) (x C dx t1 : Addr) (v : Value) : Prop where
  keep : ∀ b o, b ≠ x → h.get? b = some o → h'.get? b = some o
  obj : h'.get? x = some { cls := .ref C, dict := some dx, data := .fields #[.ref t1, .none, .none, .none, .bool false, .none] }
  dbig : h.objs.size ≤ dx
  dne : dx ≠ x
  ns : h'.Ns1 dx (fun y => if y = "value" then some v else none)
/-- a made UnknownTask -/
structure OwnMade (h h' : Heap) (e C d : Addr) (v : Value) : Prop where
  keep : ∀ b o, h.get? b = some o → h'.get? b = some o
  new : h.objs.size ≤ e
  obj : ∃ oe vs, h'.get? e = some oe ∧ oe.cls = .ref C ∧ oe.dict = some d ∧ oe.data = .fields vs ∧ vs[1]? = some .none
  dbig : h.objs.size ≤ d
  dne : d ≠ e
  ns : h'.Ns1 d (fun y => if y = "value" then some v else none)
section
variable {prog : Program} {w : World} {A : Around} {E : Value → Shared → Prop} {R : Result → Shared → Prop} {s : Shared} {K : Frag} {mg : Str → Option Value} {C fI : Addr}
theorem errU_init (T : ErrUxt K mg C fI) {x t0 : Addr} {v : Value} (X : K.In s.heap) (hlim : s.heap.NoLimit) (hx : s.heap.get? x = some (excO C t0)) (hnx : K.lookup x = none) (hroom : A.depth < recursionLimit)
    (hq : ∀ h' tk dx, InitEnd s.heap h' x C dx t0 v → R (.ok (.ret .none)) { s with heap := h', toks := tk }) :
    codeAny (model prog w) A (.call (.ref fI) ⟨[.ref x, v], []⟩) R s := by
  obtain ⟨oc, od, kV, doc, pm, an, cdv, ct, osl, p1, p2, q1, q2, q3, q4, ho, hcd⟩ := T.fn
  obtain ⟨nm, q, N, bs, sn, sub, ab, col, dd, k0, k1, k2, k3, k5, hC⟩ := Fs.ei_obj T.ei
  refine Att.call_fn (binds := [("self", .ref x), ("value", v)]) X hlim ho hcd hroom (BindsTo.of_eq (by first | rfl | with_unfolding_all rfl)) (by first | rfl | decide | with_unfolding_all rfl) (fun s₁ IC => ?_) rfl rfl rfl
  obtain ⟨h₁, tk₁, rfl⟩ := IC.toInCall.same
  have k : ∀ b o, s.heap.get? b = some o → h₁.get? b = some o := IC.toInCall.keep
  have hn := IC.toInCall.ns
  have hxL : s.heap.objs.size ≠ x := Nat.ne_of_gt (Heap.lt_size hx)
  have X₁ : K.In h₁ := X.keeps k
  have hx₁ := k _ _ hx
  -- self.by = by
  show wpAny _ _ (execs _ _) _ _ _
  refine wpAny_execs_cons (plainObj_wpAny_Assign_Attribute ?_)
  refine ldC (v := v) hn (by first | rfl | with_unfolding_all rfl | kernel_rfl) (ldC (v := .ref x) hn (by first | rfl | with_unfolding_all rfl | kernel_rfl) ?_)
  refine set_plain X₁ (ox := excO C t0) (od := none) ⟨hx₁, rfl, rfl, trivial⟩ T.sa ?_
  refine Fh.osaG_new T.ei (Fh.BK.sf .le) X₁ hx₁ T.noN (fun h₃ tk₃ dx k₃ dn dne hx₃ hn₃ => ?_)
  show wpAny _ _ (execs _ _) _ _ _
  have z : s.heap.objs.size < h₁.objs.size := hn.lt
  exact wpAny_execs_nil (hq h₃ tk₃ dx ⟨fun b o hb e => k₃ b o hb (k b o e), hx₃, Nat.le_of_lt (Nat.lt_of_lt_of_le z dn), dne, hn₃⟩)
theorem errU_made (T : ErrUxt K mg C fI) {v : Value} (X : K.In s.heap) (hlim : s.heap.NoLimit) (hroom : A.depth + 1 < recursionLimit)
    (hq : ∀ h' tk e d, OwnMade s.heap h' e C d v → R (.ok (.ret (.ref e))) { s with heap := h', toks := tk }) :
    codeAny (model prog w) A (.call (.ref C) ⟨[v], []⟩) R s := by
  obtain ⟨nm, q, N, bs, sn, sub, ab, col, dd, k0, k1, k2, k3, k5, hC⟩ := Fs.ei_obj T.ei
  obtain ⟨hp, g, dr, tk, os⟩ := s
  have k : ∀ b o, hp.get? b = some o → ((hp.push (kdv_tup [v])).push (excO C hp.objs.size)).get? b = some o := fun b o e => Heap.get?_push_of_some _ (Heap.get?_push_of_some _ e)
  have hget : ((hp.push (kdv_tup [v])).push (excO C hp.objs.size)).get? (hp.objs.size + 1) = some (excO C hp.objs.size) := by heap_get
  have hnx : K.lookup (hp.objs.size + 1) = none := by
    cases e : K.lookup (hp.objs.size + 1) with
    | none => rfl
    | some o =>
      have z : hp.get? (hp.objs.size + 1) = some o := X _ _ e
      exact absurd (Nat.lt_of_succ_lt (Heap.lt_size z)) (Nat.lt_irrefl _)
  refine call_own (Fh.BK.fb .le) (fun _ => rfl) (X _ _ hC) (looks_findIn X T.iC) (fun self => bind_fn X self T.tC) (one_size v) ?_
  refine errU_init (s := ⟨(hp.push (kdv_tup [v])).push (excO C hp.objs.size), g, dr, tk, os⟩) T (X.keeps k) (hlim.keeps k) hget hnx ?_ fun h' tk' dx ⟨k', hx, dn, dne, hns⟩ => ?_
  · show A.depth + 1 < recursionLimit
    exact hroom
  · have old : ∀ b o, hp.get? b = some o → h'.get? b = some o := fun b o e => k' b o (Nat.ne_of_lt (Nat.lt_succ_of_lt (Heap.lt_size e))) (k b o e)
    have z : hp.objs.size + 1 + 1 ≤ dx := by
      first
        | (simpa only [Heap.size_push] using dn)
        | exact dn
        | (have q := dn; rw [Heap.size_push, Heap.size_push] at q; exact q)
    exact ⟨rfl, hq h' tk' (hp.objs.size + 1) dx ⟨old, Nat.le_succ _, ⟨_, _, hx, rfl, rfl, rfl, rfl⟩, Nat.le_trans (Nat.le_trans (Nat.le_succ _) (Nat.le_succ _)) z, dne, hns⟩⟩
end
end ErrU
end PySem
namespace L2
open PySem PySem.Spec PyProof.Rows
theorem relO_errU {v : V} {v' : Value} (r : RelV v v') (f : Str) : RelO (List.lookup f [(("value" : Str), v)]) (if f = "value" then some v' else none) := by
  by_cases hw : f = "value"
  · subst hw
    rw [if_pos rfl]
    have q : List.lookup ("value" : Str) [(("value" : Str), v)] = some v := by simp [List.lookup]
    rw [q]
    exact r
  · rw [if_neg hw]
    have qw : (f == ("value" : Str)) = false := by simpa using hw
    have q2 : List.lookup f [(("value" : Str), v)] = none := by simp [List.lookup, qw]
    rw [q2]
    trivial
section
variable {X : Cx} {C fI : Addr}
/-- UnknownTask(e) -/
def tMkErrU (C : Addr) (ta : TA) : St → Hp → XK → Prop := fun σ H Q => ta σ H fun vs H1 => ∃ v, vs = [v] ∧ ∀ d, H1 d = none → Q (.ref C) (some d) (upd H1 d (.xd [(("value" : Str), v)]))
theorem pmk_errU {a : Expr} {ta : TA} {p pos : Pos} {k : Nat} (T : PySem.ErrU.ErrUxt X.K X.mg C fI) (hr : Room k X.A) (ha : PA X [a] ta) (hg : Gl X "UnknownTask" := by rfl)
    (he : starEach (a :: []) X.env = (false, eval a X.env) :: starEach [] X.env := by rfl) (hpl : (backTo pos (starEach [] X.env)).any (·.1) = false := by rfl) :
    PMk X (.Call (.Name "UnknownTask" p) [a] [] pos) (tMkErrU C ta) := by
  intro pins s σ H Q I h
  refine wpAny_Call_Name_kw (ld_glob I hg T.gC ?_)
  refine PySem.W.callWith_K (h₀ := X.base) I.ok.mod.kin T.kC (thn (ha.run pos pins s σ H _ I h) fun us s1 hh => ?_) he hpl
  obtain ⟨vs, H1, I1, r1, v, ev, q1⟩ := hh
  subst ev
  refine ⟨I1.kIn, ?_⟩
  cases r1 with
  | cons rv rn =>
    rename_i v' us'
    cases rn
    show wpAny _ _ (call (.ref C) [v']) _ _ _
    have hlim := I1.nolimit
    obtain ⟨hp, g, dr, tk, os⟩ := s1
    refine wpAny_call (PySem.ErrU.errU_made T I1.kIn hlim (by have := hr.dp; omega) fun h' tk' e d M => ?_)
    show MkP X pins σ Q (.ref e) ⟨h', g, dr, tk', os⟩
    obtain ⟨oe, fv, hoe, hc, hd, hdat, h1⟩ := M.obj
    have hns := M.ns
    obtain ⟨G', g1, g2⟩ := restrict h' fun b => decide (b ≠ e)
    have gk : ∀ b, b ≠ e → G'.get? b = h'.get? b := fun b hb => g1 b (decide_eq_true hb)
    have ge : G'.get? e = none := g2 e (by simp)
    have old : ∀ b o, hp.get? b = some o → G'.get? b = some o := fun b o q => (gk b (Nat.ne_of_lt (Nat.lt_of_lt_of_le (Heap.lt_size q) M.new))).trans (M.keep b o q)
    have ob : ObjOk X.prog X.w (upd H1 d (.xd [(("value" : Str), v)])) G' d (.xd [(("value" : Str), v)]) :=
      ⟨_, hns.at (fun o q => (gk d M.dne).trans q), fun f => relO_errU rv f⟩
    have J : Inv X pins σ (upd H1 d (.xd [(("value" : Str), v)])) ⟨G', g, dr, tk', os⟩ := I1.laid (t' := tk') old M.dbig ob
    refine ⟨e, oe, fv, ⟨G', g, dr, tk', os⟩, _, .ref C, some d, rfl, J, fun b o q => ?_, ge, hoe, ⟨hc, hd⟩, hdat, h1, ?_, rfl, I1.bare, raises_own T.exC T.tyC, q1 d (I1.hok.fresh M.dbig)⟩
    · by_cases hb : b = e
      · have q' : G'.get? b = some o := q
        rw [hb, ge] at q'; cases q'
      · exact (gk b hb).symm.trans q
    · rw [upd_ne (Ne.symm M.dne)]
      exact I1.hok.fresh M.new
/-- raise UnknownTask(e) -/
def tRaiseErrU (C : Addr) (W : WX) (ta : TA) : TS := fun _ σ H => tMkErrU C ta σ H fun cls d H' => W cls d σ H'
theorem ps_raiseErrU {a : Expr} {ta : TA} {W : WX} {p pos pos2 : Pos} {k : Nat} (hc : X.calm = true) (T : PySem.ErrU.ErrUxt X.K X.mg C fI) (hr : Room k X.A) (tk : Takes X W) (ha : PA X [a] ta) (hg : Gl X "UnknownTask" := by rfl)
    (he : starEach (a :: []) X.env = (false, eval a X.env) :: starEach [] X.env := by rfl) (hpl : (backTo pos (starEach [] X.env)).any (·.1) = false := by rfl) :
    PS X (.Raise (some (.Call (.Name "UnknownTask" p) [a] [] pos)) none pos2) (tRaiseErrU C W ta) := ps_raise hc tk (pmk_errU T hr ha hg he hpl)
/-- low.by, low the exception that the suite holds (at a; its class cls, its dict d) -/
def tErrUField (C : Addr) (a : Addr) (cls : Value) (d : Option Addr) (te : TE) : TE := fun σ H Q => te σ H fun x H1 => x = .ref a ∧ cls = .ref C ∧ ∃ (dd : Addr) (v : V), d = some dd ∧ H1 dd = some (.xd [(("value" : Str), v)]) ∧ Q v H1
theorem pe_errUField {a : Addr} {oe : Obj} {cls : Value} {d : Option Addr} {pn : List (Addr × Obj)} {e : Expr} {te : TE} {pos : Pos} (T : PySem.ErrU.ErrUxt X.K X.mg C fI) (hz : Zc cls d oe) (hf : ∃ vs, oe.data = .fields vs) (he : PE (X.suite a ((a, oe) :: pn)) e te)
    (hb : attributeBase e "value" X.env (eval e X.env) = eval e X.env := by rfl) :
    PE (X.suite a ((a, oe) :: pn)) (.Attribute e "value" pos) (tErrUField C a cls d te) := by
  refine ⟨fun pins s σ H Q I h => ?_⟩
  refine attr_of hb (thn (he.run pins s σ H _ I h) fun u s1 hh => ?_)
  obtain ⟨x, H1, I1, rx, ex, ec, dd, v, ed, ea, q⟩ := hh
  subst ex
  obtain rfl : u = Value.ref a := rx
  subst ec
  subst ed
  obtain ⟨ha, _⟩ := I1.pin (a, oe) (List.mem_append_left _ List.mem_cons_self)
  obtain ⟨vs, hd⟩ := hf
  have hx : ObjOk X.prog X.w H1 s1.heap dd (.xd [(("value" : Str), v)]) := I1.hok dd _ ea
  obtain ⟨mA, hns, hr⟩ := hx
  obtain ⟨od, ho, hl⟩ := lookIn_ns hns
  have l : List.lookup ("value" : Str) [(("value" : Str), v)] = some v := by simp [List.lookup]
  obtain ⟨u, hu, ru⟩ := RelO.some_of (v := v) (o := mA "value") (by rw [← l]; exact hr "value")
  have J : PySem.W.InstAt s1.heap a oe C (some od) := ⟨ha, hz.1, by unfold PySem.W.notCls; rw [hd] <;> rfl, by rw [hz.2]; exact ho⟩
  exact HandSPX.exc_get I1.kIn J T.ga T.gg T.exC (PySem.W.findObj_own T.hdC T.noN rfl (by rw [hl, hu])) (handed_of ru) ⟨v, H1, I1.tok _, ru, q⟩
end
end L2
set_option Elab.async false
set_option linter.all false
set_option maxRecDepth 100000
set_option maxHeartbeats 4000000
/-! FzS: the error UnknownTask where a suite holds it; its row of facts by the head's Bools -/
namespace Fs
open PySem PySem.Spec PyProof.Rows L2 Fh
open PySem.W (Frag)
theorem call_isEU {X : Cx} {a C fI : Addr} {oe : Obj} {cls : Value} {d : Option Addr} {pn : List (Addr × Obj)} (T : PySem.ErrU.ErrUxt X.K X.mg C fI) (U : ErrC X.K C) (hz : Zc cls d oe) (hf : ∃ vs, oe.data = .fields vs) : CallR (X.suite a ((a, oe) :: pn)) (.builtin "isinstance") (rIsED X.K C a cls d) := by
  intro pins s σ H xs us Q I r h
  obtain ⟨dd, fs, c, cv, b, rfl, ec, ed, hd, hc, e, q⟩ := h
  obtain ⟨u1, u2, rfl, r1, r2⟩ := vals2 r
  have e1 : u1 = Value.ref a := r1
  rw [e1, hc.eq r2]
  subst ec ed
  obtain ⟨ha, _⟩ := I.pin (a, oe) (List.mem_append_left _ List.mem_cons_self)
  obtain ⟨vs, hv⟩ := hf
  have hx : ObjOk X.prog X.w H s.heap dd (.xd fs) := I.hok dd _ hd
  obtain ⟨mA, hns, hr⟩ := hx
  obtain ⟨od, ho, hl⟩ := lookIn_ns hns
  have J : PySem.W.InstAt s.heap a oe C (some od) := ⟨ha, hz.1, by unfold PySem.W.notCls; rw [hv] <;> rfl, by rw [hz.2]; exact ho⟩
  exact PySem.W.kia_one (PySem.W.kitx_exc (od := some od) U.is T.ga T.gg T.exC U.cl U.hn U.ht U.hm) I.kIn J e (fun z => nomatch z) fun tk => ⟨.bl b, H, I.tok tk, rfl, q⟩
theorem errU_of {K : Frag} {mg : Str → Option Value} {C : Addr} (gC : mg "UnknownTask" = some (.ref C)) (T : EK K C .le) {fI : Addr} (no : PySem.W.findIn K (.ref C) "value" = some none) (iC : PySem.W.findIn K (.ref C) "__init__" = some (some (.ref fI))) (tI : PySem.W.typeIn K (.ref fI) = some (.type "function"))
    (fn : ∃ (oc : Value) (od : Option Addr) (kV doc pm : Value) (an : Option Addr) (cdv ct : Value) (osl : Array (Option Value)) (p1 p2 q1 q2 q3 q4 : Pos),
      K.lookup fI = some ⟨oc, od, .func (PySem.W.fnOf "__init__" "UnknownTask.__init__" (PySem.ErrU.iA p1 p2) (PySem.ErrU.iB q1 q2 q3 q4) PySem.ErrU.iS .none kV doc pm an cdv ct), osl⟩ ∧ PySem.W.codeIn K cdv "UnknownTask.__init__" = true) : PySem.ErrU.ErrUxt K mg C fI := by
  have sB : PySem.W.subIn K (.ref C) (.type "BaseException") = some true := by rw [T.sub]; rfl
  have sC : PySem.W.subIn K (.ref C) (.ref C) = some true := by rw [T.sub, List.contains_cons]; simp
  exact { gC := gC, ei := T, sa := T.sa, ga := T.ga, gg := T.gg, noN := no, iC := iC, tC := tI, kC := T.kC, exC := sB, tyC := T.ty, hdC := T.hd, te := PySem.W.exm_ref sB T.hd T.ty sC, fn := fn }
theorem errC_ofL {K : Frag} {C : Addr} (T : EK K C .le) : ErrC K C := by
  obtain ⟨cd, h1, _⟩ := T.cls
  exact ⟨by rw [h1]; rfl, T.cl, T.hn, T.ht, by rw [T.mroI]; rfl⟩
theorem errB_ofU {K : Frag} {C : Addr} (T : EK K C .le) : PySem.W.kitOne K (.ref C) (.type "LookupError") = some true := by
  rw [T.kitT (by decide +kernel)]
  rfl
end Fs
set_option Elab.async false
set_option linter.all false
set_option maxRecDepth 100000
set_option maxHeartbeats 4000000
/-! FzT: try with several except clauses, each with a name of its own for what it caught -/
namespace Fs
open PySem PySem.Spec PyProof.Rows L2
end Fs
set_option Elab.async false
set_option linter.all false
set_option maxRecDepth 100000
set_option maxHeartbeats 4000000
/-! FzF: f(k = v) without a positional argument; repr of data with lists that comprehensions made -/
namespace Fs
open PySem PySem.Spec PyProof.Rows L2 Fh
open PySem.W (Frag)
mutual
/-- v is the data d, its lists tracked -/
inductive Db (K : Frag) (H : Hp) : V → PyData → Prop where
  | non : Db K H .non .none
  | bl (b : Bool) : Db K H (.bl b) (.bool b)
  | int (i : Int) : Db K H (.int i) (.int i)
  | dct {a : Addr} : H a = some (.dK []) → Db K H (.ref a) (.dict [])
  | str (x : Str) : Db K H (.str x) (.str x)
  | tup {a : Addr} {xs : List V} {ds : List PyData} : SqT K H a xs → Dbs K H xs ds → Db K H (.ref a) (.tuple ds)
  | lst {a : Addr} {xs : List V} {ds : List PyData} : H a = some (.lst xs) → Dbs K H xs ds → Db K H (.ref a) (.list ds)
inductive Dbs (K : Frag) (H : Hp) : List V → List PyData → Prop where
  | nil : Dbs K H [] []
  | cons {x : V} {d : PyData} {xs : List V} {ds : List PyData} : Db K H x d → Dbs K H xs ds → Dbs K H (x :: xs) (d :: ds)
end
mutual
theorem Pl.db {K : Frag} {H : Hp} : ∀ {v : V} {d : PyData}, Pl K H v d → Db K H v d
  | _, _, .str x => .str x
  | _, _, .tup h r => .tup h (Pls.db r)
theorem Pls.db {K : Frag} {H : Hp} : ∀ {v : List V} {d : List PyData}, Pls K H v d → Dbs K H v d
  | _, _, .nil => .nil
  | _, _, .cons h r => .cons (Pl.db h) (Pls.db r)
end
mutual
theorem Db.same {K : Frag} {H H' : Hp} (s : Same H H') : ∀ {v : V} {d : PyData}, Db K H v d → Db K H' v d
  | _, _, .non => .non
  | _, _, .bl b => .bl b
  | _, _, .int i => .int i
  | _, _, .dct h => .dct (s _ _ h)
  | _, _, .str x => .str x
  | _, _, .tup h r => .tup ((KeepT.of s).sqT h) (Dbs.same s r)
  | _, _, .lst h r => .lst (s _ _ h) (Dbs.same s r)
theorem Dbs.same {K : Frag} {H H' : Hp} (s : Same H H') : ∀ {v : List V} {d : List PyData}, Dbs K H v d → Dbs K H' v d
  | _, _, .nil => .nil
  | _, _, .cons h r => .cons (Db.same s h) (Dbs.same s r)
end
section
variable {X : Cx} {pins : List (Addr × Obj)} {σ : L2.St} {H : Hp} {s : Shared}
theorem no_mods (hS : (X.K.lookup sysModules).isSome = true) (I : Inv X pins σ H s) : H sysModules = none := by
  cases e : X.K.lookup sysModules with
  | none => rw [e] at hS; cases hS
  | some o => exact (I.bs sysModules o (I.ok.mod.kin _ _ e)).2
mutual
theorem Db.reads (hS : (X.K.lookup sysModules).isSome = true) (I : Inv X pins σ H s) : ∀ {d : PyData} {v : V} {u : Value}, Db X.K H v d → RelV v u → ∃ as, Reads s.heap u d as ∧ sysModules ∉ as
  | _, _, u, .non, r => by
    obtain rfl : u = Value.none := r
    exact ⟨[], .none, List.not_mem_nil⟩
  | _, _, u, .bl b, r => by
    obtain rfl : u = Value.bool b := r
    exact ⟨[], .bool b, List.not_mem_nil⟩
  | _, _, u, .int i, r => by
    obtain ⟨t, rfl⟩ := (show ∃ t, u = Value.int i t from r)
    exact ⟨[], .int i t, List.not_mem_nil⟩
  | _, _, u, .dct (a := a) hA, r => by
    obtain rfl : u = Value.ref a := r
    obtain ⟨_, nz, vs, kv, o, es, ep, h1, h2, h3, h4, h5, h6⟩ := dk_of I.hok hA
    have na : sysModules ≠ a := fun e => by
      have z := no_mods hS I
      rw [e, hA] at z
      cases z
    have e0 : vs = [] := by cases kv; rfl
    subst e0
    have e1 : es.toList = [] := by cases e : es.toList with
      | nil => rfl
      | cons x xs => rw [e] at h5; cases h5
    exact ⟨[a] ++ [] ++ [], .dict h1 h2.1 h3 (by rw [e1]; exact .nil) (by rw [e1]; exact .nil), fun z => na (by simpa using z)⟩
  | _, _, u, .str x, r => by
    obtain ⟨t, rfl⟩ := (show ∃ t, u = Value.str x t from r)
    exact ⟨[], .str x t, List.not_mem_nil⟩
  | _, _, u, .tup h rs, r => by
    obtain ⟨its, rv, ⟨o, ho, hc, n, hd⟩, _⟩ := I.tuple h
    obtain rfl : u = Value.ref _ := r
    obtain ⟨as, ra, ns⟩ := Dbs.reads hS I rs rv
    exact ⟨as, .tuple ho hc hd (by simpa using ra), ns⟩
  | _, _, u, .lst (a := a) (xs := xs) hA rs, r => by
    obtain rfl : u = Value.ref a := r
    obtain ⟨_, its, m, rv, ho⟩ := (show ObjOk X.prog X.w H s.heap a (.lst xs) from I.hok a _ hA)
    obtain ⟨as, ra, ns⟩ := Dbs.reads hS I rs rv
    have na : sysModules ≠ a := fun e => by
      have z := no_mods hS I
      rw [e, hA] at z
      cases z
    exact ⟨a :: as, .list ho rfl rfl (by simpa using ra), fun z => (List.mem_cons.mp z).elim na ns⟩
theorem Dbs.reads (hS : (X.K.lookup sysModules).isSome = true) (I : Inv X pins σ H s) : ∀ {ds : List PyData} {vs : List V} {us : List Value}, Dbs X.K H vs ds → Vals vs us → ∃ as, ReadsAll s.heap us ds as ∧ sysModules ∉ as
  | _, _, _, .nil, .nil => ⟨[], .nil, List.not_mem_nil⟩
  | _, _, _, .cons h rs, .cons r1 r2 => by
    obtain ⟨as, a1, a2⟩ := Db.reads hS I h r1
    obtain ⟨bs, b1, b2⟩ := Dbs.reads hS I rs r2
    exact ⟨as ++ bs, .cons a1 b1, fun z => (List.mem_append.mp z).elim a2 b2⟩
end
end
end Fs
set_option Elab.async false
set_option linter.all false
set_option maxRecDepth 100000
set_option maxHeartbeats 4000000
/-! FzU: what a def tells of three errors: InvalidPlan, TooMany, UnknownTask -/
namespace Fs
open PySem PySem.Spec PyProof.Rows L2 Fh LamX
open PySem.W (Frag)
theorem boot_lerr : bootBuiltins "LookupError" = some (.type "LookupError") := by decide +kernel
/-- the three errors, none below another -/
structure Err3 (K : Frag) (mg : Str → Option Value) (CP fP CM fM CU fU : Addr) : Prop where
  P : PySem.ErrP.ErrPxt K mg CP fP
  M : PySem.ErrM.ErrMxt K mg CM fM
  U : PySem.ErrU.ErrUxt K mg CU fU
  cM : ErrC K CM
  cU : ErrC K CU
  eP : PySem.W.exmOne K (.ref CP) (.ref CP) = some true
  MP : PySem.W.exmOne K (.ref CM) (.ref CP) = some false
  UP : PySem.W.exmOne K (.ref CU) (.ref CP) = some false
  UM : PySem.W.exmOne K (.ref CU) (.ref CM) = some false
  oM : PySem.W.kitOne K (.ref CM) (.type "OverflowError") = some true
  lU : PySem.W.kitOne K (.ref CU) (.type "LookupError") = some true
end Fs
set_option Elab.async false
set_option linter.all false
set_option maxRecDepth 100000
set_option maxHeartbeats 8000000
/-! remembered_names, _most_doers, width_of, check_memory of any tasks -/
namespace Fp1
open PySem PySem.Spec PyProof.Rows L2 Fh Fs
open PySem.W (Frag)
abbrev sRn : Stmt := top 49
abbrev sMd : Stmt := top 50
abbrev sWo : Stmt := top 51
abbrev sCm : Stmt := top 52
/-- all names in other and same -/
def rmL (ts : List (Str × TSk)) : List Str := ts.flatMap fun q => q.2.o ++ q.2.s
/-- the names that are remembered, ascending -/
structure Rem (ts : List (Str × TSk)) (ys : List Str) : Prop where
  nd : ys.Nodup
  so : sortedS ys = true
  mem : ∀ y, y ∈ ys ↔ y ∈ rmL ts
theorem Rem.same {ts us : List (Str × TSk)} {ys zs : List Str} (h : Rem ts ys) (k : Rem us zs) (e : ∀ y, y ∈ rmL ts ↔ y ∈ rmL us) : ys = zs := by
  refine sorted_same ?_ h.so k.so
  refine (List.perm_ext_iff_of_nodup h.nd k.nd).mpr fun y => ?_
  rw [h.mem, k.mem, e]
theorem rem_of {ts : List (Str × TSk)} {l ys : List Str} (hl : ∀ y, y ∈ l ↔ y ∈ rmL ts) (pm : ys.Perm (ded l)) (so : sortedS ys = true) : Rem ts ys :=
  ⟨pm.nodup_iff.mpr (ded_nodup l), so, fun y => pm.mem_iff.trans (ded_mem.trans (hl y))⟩
theorem rmL_snoc (ts : List (Str × TSk)) (k : Str) (T : TSk) : rmL (ts ++ [(k, T)]) = rmL ts ++ (T.o ++ T.s) := by
  unfold rmL
  rw [List.flatMap_append]
  show _ ++ ((T.o ++ T.s) ++ []) = _
  rw [List.append_nil]
/-- how many do it at most -/
def mdL (ts : List (Str × TSk)) (y : Str) : List Int := (ts.filter fun q => decide (q.1 = y) || decide (y ∈ q.2.t)).map (·.2.n)
def mxI : List Int → Int
  | [] => 0
  | n :: l => max n (mxI l)
theorem mxI_ge : ∀ {l : List Int} {n : Int}, n ∈ l → n ≤ mxI l
  | m :: l, n, h => by
    show n ≤ max m (mxI l)
    rcases List.mem_cons.mp h with rfl | h
    · omega
    · have := mxI_ge h; omega
theorem mxI_in : ∀ {l : List Int}, (∀ x ∈ l, 0 ≤ x) → l ≠ [] → mxI l ∈ l
  | [], _, h => absurd rfl h
  | [m], p, _ => by
    have := p m List.mem_cons_self
    show max m 0 ∈ [m]
    rw [show max m 0 = m by omega]
    exact List.mem_singleton.mpr rfl
  | m :: k :: l, p, _ => by
    have ih := mxI_in (l := k :: l) (fun x hx => p x (List.mem_cons_of_mem _ hx)) (fun z => nomatch z)
    show max m (mxI (k :: l)) ∈ m :: k :: l
    rcases Int.le_total m (mxI (k :: l)) with h | h
    · rw [show max m (mxI (k :: l)) = mxI (k :: l) by omega]
      exact List.mem_cons_of_mem _ ih
    · rw [show max m (mxI (k :: l)) = m by omega]
      exact List.mem_cons_self
theorem mxI_is {l : List Int} {m : Int} (p : ∀ x ∈ l, 0 ≤ x) (h0 : l = [] → m = 0) (h1 : l ≠ [] → m ∈ l ∧ ∀ y ∈ l, y ≤ m) : m = mxI l := by
  by_cases e : l = []
  · subst e
    exact h0 rfl
  · obtain ⟨a, b⟩ := h1 e
    have := mxI_ge a
    have := b _ (mxI_in p e)
    omega
def mdF (ts : List (Str × TSk)) (y : Str) : Int := mxI (mdL ts y)
def wdF (ts : List (Str × TSk)) (ys : List Str) : Int := (ys.map (mdF ts)).sum
/-- the bound that is met -/
def memF (ts : List (Str × TSk)) (ys : List Str) : Option Int := if 3 < ys.length then some 3 else if 5 < wdF ts ys then some 5 else none
theorem TsAt.at_ {CT : Addr} {H : Hp} {m : List (Str × V)} {ts : List (Str × TSk)} (h : TsAt CT H m ts) : ∀ {i : Nat} {q : Str × V}, m[i]? = some q → ∃ a T, q.2 = .ref a ∧ TaskAt CT H a T ∧ ts[i]? = some (q.1, T) := by
  induction h with
  | nil => intro i q g; cases g
  | @cons k a T m ts z _ ih =>
    intro i q g
    cases i with
    | zero => cases g; exact ⟨a, T, rfl, z, rfl⟩
    | succ i => exact ih g
theorem inV_strs {y : Str} (ws : List Str) : inV (.str y) (ws.map V.str) = decide (y ∈ ws) := by
  induction ws with
  | nil => rfl
  | cons x ws ih =>
    have e : inV (.str y) ((x :: ws).map V.str) = (eqV (.str x) (.str y) || inV (.str y) (ws.map V.str)) := rfl
    have e2 : eqV (.str x) (.str y) = decide (x = y) := by
      show (x == y) = decide (x = y)
      by_cases h : x = y
      · rw [decide_eq_true h, beq_iff_eq.mpr h]
      · rw [decide_eq_false h, beq_eq_false_iff_ne.mpr h]
    rw [e, ih, e2, ← Bool.decide_or]
    exact decide_eq_decide.mpr ⟨fun h => List.mem_cons.mpr (h.imp Eq.symm id), fun h => (List.mem_cons.mp h).imp Eq.symm id⟩
theorem flat_strs (ws : List Str) : (ws.map V.str).all flatV = true := by
  induction ws with
  | nil => rfl
  | cons x ws ih => rw [List.map_cons, List.all_cons, ih]; rfl
theorem catA_go {K : Frag} {H : Hp} {a b : Addr} {xs ys : List V} {Q : VK} (ha : SqT K H a xs) (hb : SqT K H b ys) (l : xs.length + ys.length ≤ sizeLine) (k : ∀ u Hu, Same H Hu → SqT K Hu u (xs ++ ys) → Q (.ref u) Hu) : rCatA K (.ref a) (.ref b) H Q :=
  ⟨a, b, xs, ys, rfl, rfl, ha, hb, l, fun e => k b H (Same.refl _) (by rw [e]; exact hb), fun _ e => k a H (Same.refl _) (by rw [e, List.append_nil]; exact ha), fun _ _ p np => k p _ (Same.new np) (SqT.of upd_same)⟩
section
variable {P : Program} {w : World} {K : Frag} {mg : Str → Option Value} {base : Heap} {aF aM aD CE aE CT aW aR aH aA aI gE g1 g2 g3 g4 g5 g6 p1 p2 p3 p4 p5 p6 : Addr} {fW fR fH fA fI fE f1 f2 f3 f4 f5 f6 : FuncData}
def spRn (K : Frag) (CT : Addr) : Sp := fun vs H Q _ => ∃ d m ts, vs = [.ref d] ∧ H d = some (.dK (tD m)) ∧ TsAt CT H m ts ∧ (rmL ts).length < 64 ∧ ∀ p ys H', Rem ts ys → Same H H' → H' p = some (.tup (ys.map V.str)) → Q (.ref p) H'
theorem scRn : FnScope ["tasks", "task", "name"] ["tasks"] (defScope sRn) := ⟨rfl, rfl, rfl, by decide +kernel, rfl, by decide +kernel, by decide +kernel⟩
theorem ok_rn {f : Addr} {fd : FuncData} (F : Fun K "remembered_names" "remembered_names" sRn f fd) (G : Pkg K mg w aF aM aD CE aE CT aW aR aH aA aI fW fR fH fA fI) (M : Mets K CT gE g1 g2 g3 g4 g5 g6 p1 p2 p3 p4 p5 p6 fE f1 f2 f3 f4 f5 f6) : FnOk P w K mg base CX0 3 f fd ["tasks"] (spRn K CT) := by
  have G3 : FnOk P w K mg base CX0 1 g3 f3 ["self"] (getSp CT "_other") := ok_g3 G M.F3
  have G4 : FnOk P w K mg base CX0 1 g4 f4 ["self"] (getSp CT "_same") := ok_g4 G M.F4
  have b3 : Binds K f3 ["self"] [] := M.F3.binds (ps := ["self"]) fun _ _ _ _ _ _ us hl => match us, hl with | [_], _ => rfl
  have b4 : Binds K f4 ["self"] [] := M.F4.binds (ps := ["self"]) fun _ _ _ _ _ _ us hl => match us, hl with | [_], _ => rfl
  refine F.ok scRn (fun vs H Q E h => ?_) (fun cdv A outer s H vs Q E hr h => ?_)
  · obtain ⟨d, m, ts, rfl, _⟩ := h
    rfl
  · obtain ⟨d, m, ts, rfl, hm, ht, few, k⟩ := h
    refine' ⟨_, pss_one (ps_ret (pe_callTy call_tuple_of (by rfl) G.TK.tuple (by decide +kernel) (pa_cons (pe_callB (cr_sortedTx rfl) (by rfl) G.T.sorted (by decide +kernel) (pa_cons (pe_callTy (cr_setL rfl) (by rfl) G.T.set (by decide +kernel) (pa_cons (pe_lock ?s) pa_nil)) pa_nil)) pa_nil))), ?q⟩
    case s =>
      refine' pe_lc2 (own := [("task", 1), ("name", 2)]) (vs1 := [2]) (g := gName 1) (tt := tYes) (g1 := gName 2) (tt1 := tYes) (wi1 := iTup K (tOp (rCatA K) (tProp CT (getSp CT "_other") [] E0 (tVar 1)) (tProp CT (getSp CT "_same") [] E0 (tVar 1)))) (te := tVar 2) rfl scRn.nd (pi_values (pv 0)) ?k (by decide) ?g (fun _ _ _ _ _ => pts_nil) ?i1 ?g1 (fun _ _ _ _ _ => pts_nil) ?e
      case k => exact blkOk_by (N := ["tasks", "task", "name"]) (sc := defScope sRn) (by decide +kernel)
      case g => exact fun _ _ _ _ _ => pg_name (i := 1) scRn.nd rfl (Or.inl rfl)
      case i1 => exact fun _ _ _ _ _ => pi_tup (pe_op op_catA (pe_prop (pv 1) G.C.cl M.p3 G3 hr b3 .nil pass0 (by rfl)) (pe_prop (pv 1) G.C.cl M.p4 G4 hr b4 .nil pass0 (by rfl)))
      case g1 => exact fun _ _ _ _ _ => pg_name (i := 2) scRn.nd rfl (Or.inl rfl)
      case e => exact fun _ _ _ _ _ => pv 2
    case q =>
      refine ⟨d, .dK (tD m), hm, trivial, fun od => ?_⟩
      have fz : (upd H d (.frz od (.dK (tD m)))) d = some (.frz od (.dK (tD m))) := upd_same
      have kb : KeepB H (upd H d (.frz od (.dK (tD m)))) := KeepB.upd hm bits_dK
      have lm := ht.len
      refine ⟨_, rfl, d, od, tD m, rfl, fz, fun D hD => ?_⟩
      have hDd : D ≠ d := fun z => by rw [z, fz] at hD; cases hD
      have rmle : ∀ i, (rmL (ts.take i)).length ≤ (rmL ts).length := fun i => by
        have e : rmL ts = rmL (ts.take i) ++ rmL (ts.drop i) := by
          unfold rmL
          rw [← List.flatMap_append, List.take_append_drop]
        rw [e, List.length_append]
        omega
      refine lc2_it walk_values (fun i Hi => Same (upd H d (.frz od (.dK (tD m)))) Hi ∧ Hi D = some (.lst ((rmL (ts.take i)).map V.str))) ⟨Same.new hD, upd_same⟩ (fun _ _ _ z => z.1 _ _ fz) ?_ ?_
      · rintro i x Ha Hb hi ⟨s2, e2⟩ ⟨rfl, kx, gx⟩
        unfold tD at gx
        rw [List.getElem?_map] at gx
        rcases hq : m[i]? with _ | q
        · rw [hq] at gx
          cases gx
        rw [hq] at gx
        cases gx
        obtain ⟨a, T, ev, ta, mt⟩ := ht.at_ hq
        have tk : rmL (ts.take (i + 1)) = rmL (ts.take i) ++ (T.o ++ T.s) := by
          rw [List.take_add_one, mt]
          exact rmL_snoc _ _ _
        have bound := rmle (i + 1)
        rw [tk, List.length_append] at bound
        obtain ⟨dx, t1, t2, t3, t4, h0, h1, h2, h3, h4⟩ := ta.keep (kb.trans (.of s2))
        refine ⟨rfl, ?_⟩
        refine yes_of ?_
        rw [ev]
        refine ⟨_, rfl, a, dx, _, rfl, h0, a, dx, _, _, rfl, h0, rfl, _, rfl, a, dx, _, rfl, h0, a, dx, _, _, rfl, h0, rfl, ?_⟩
        refine catA_go (SqT.of h1) (SqT.of h2) (by rw [List.length_map, List.length_map, sizeLine_eq]; rw [List.length_append] at bound; omega) fun u Hu su hu => ?_
        rw [← List.map_append] at hu
        have s2u := s2.trans su
        have e2u := su _ _ e2
        refine ⟨u, rfl, ⟨_, hu⟩, ?_⟩
        refine lc2_in (walk_tup (K := K) (a := u) (xs := (T.o ++ T.s).map V.str)) (fun j Hh => Same (upd H d (.frz od (.dK (tD m)))) Hh ∧ Hh D = some (.lst ((rmL (ts.take i) ++ (T.o ++ T.s).take j).map V.str)) ∧ SqT K Hh u ((T.o ++ T.s).map V.str)) ⟨s2u, by rw [List.take_zero, List.append_nil]; exact e2u, hu⟩ (fun _ Hh _ z => z.2.2) ?_ ?_
        · rintro j x Hc He hj ⟨sc, hDc, huc⟩ ⟨rfl, gx⟩
          obtain ⟨y, gy, rfl, hy⟩ := at_strs gx
          refine ⟨rfl, ?_⟩
          refine yes_of ?_
          refine ⟨_, rfl, _, hDc, ?_, same_off sc hD, ?_, (KeepT.lst hDc).sqT huc⟩
          · rw [List.length_map, List.length_append, sizeLine_eq]
            have l1 : ((T.o ++ T.s).take j).length ≤ (T.o ++ T.s).length := by rw [List.length_take]; exact Nat.min_le_right _ _
            omega
          · have e3 : rmL (ts.take i) ++ (T.o ++ T.s).take (j + 1) = (rmL (ts.take i) ++ (T.o ++ T.s).take j) ++ [y] := by
              rw [List.take_add_one, gy, ← List.append_assoc]
              rfl
            rw [e3, List.map_append, List.map_append, List.map_append]
            exact upd_same
        · rintro Hc ⟨sc, hDc, huc⟩
          rw [List.length_map, List.take_length, ← tk] at hDc
          exact ⟨sc, hDc⟩
      · rintro Hi ⟨s2, e2⟩
        rw [tD_len, lm, List.take_length] at e2
        refine ⟨s2 _ _ fz, D, _, rfl, .inl (SqL.of (by rw [upd_ne hDd]; exact e2)), few, fun p np => ⟨p, _, rfl, upd_same, ?_, fun ys q pm so nq => ?_⟩⟩
        · have := ded_len (rmL ts)
          omega
        have kH : Same H (upd Hi d (.dK (tD m))) := fun b o z => by
          by_cases e : b = d
          · rw [e] at z ⊢
            rw [upd_same, ← z, hm]
          · rw [upd_ne e]
            exact s2 b o (by rw [upd_ne e]; exact z)
        refine ⟨q, _, rfl, .inl ⟨SqL.of upd_same, fun l nl => k l ys _ (rem_of (fun _ => Iff.rfl) pm so) (fun b o z => ?_) upd_same⟩⟩
        exact (Same.new nl) _ _ ((Same.new nq) _ _ ((Same.new np) _ _ (kH b o z)))
/-! ### how many at most -/
def spMd (K : Frag) (CT : Addr) : Sp := fun vs H Q _ => ∃ d m ts y, vs = [.ref d, .str y] ∧ H d = some (.dK (tD m)) ∧ TsAt CT H m ts ∧ RightT ts ∧ ∀ H', Same H H' → Q (.int (mdF ts y)) H'
abbrev NMd : List Str := ["tasks", "name", "at", "task"]
theorem scMd : FnScope NMd ["tasks", "name"] (defScope sMd) := ⟨rfl, rfl, rfl, by decide +kernel, rfl, by decide +kernel, by decide +kernel⟩
theorem mdL_snoc (ts : List (Str × TSk)) (k : Str) (T : TSk) (y : Str) : mdL (ts ++ [(k, T)]) y = mdL ts y ++ (if (decide (k = y) || decide (y ∈ T.t)) = true then [T.n] else []) := by
  unfold mdL
  rw [List.filter_append, List.map_append]
  congr 1
  by_cases h : (decide (k = y) || decide (y ∈ T.t)) = true
  · rw [if_pos h, List.filter_cons, if_pos h]
    rfl
  · rw [if_neg h, List.filter_cons, if_neg h]
    rfl
theorem ok_md {f : Addr} {fd : FuncData} (F : Fun K "_most_doers" "_most_doers" sMd f fd) (G : Pkg K mg w aF aM aD CE aE CT aW aR aH aA aI fW fR fH fA fI) (M : Mets K CT gE g1 g2 g3 g4 g5 g6 p1 p2 p3 p4 p5 p6 fE f1 f2 f3 f4 f5 f6) : FnOk P w K mg base CX0 3 f fd ["tasks", "name"] (spMd K CT) := by
  have G2 : FnOk P w K mg base CX0 1 g2 f2 ["self"] (getSp CT "_many") := ok_g2 G M.F2
  have G5 : FnOk P w K mg base CX0 1 g5 f5 ["self"] (getSp CT "_takes") := ok_g5 G M.F5
  have b2 : Binds K f2 ["self"] [] := M.F2.binds (ps := ["self"]) fun _ _ _ _ _ _ us hl => match us, hl with | [_], _ => rfl
  have b5 : Binds K f5 ["self"] [] := M.F5.binds (ps := ["self"]) fun _ _ _ _ _ _ us hl => match us, hl with | [_], _ => rfl
  refine F.ok scMd (fun vs H Q E h => ?_) (fun cdv A outer s H vs Q E hr h => ?_)
  · obtain ⟨d, m, ts, y, rfl, _⟩ := h
    rfl
  · obtain ⟨d, m, ts, y, rfl, hm, ht, ⟨l8, nd, good⟩, k⟩ := h
    have hr1 : Room 1 _ := hr.mono (by decide)
    refine' ⟨_, pss_one (ps_ret (pe_callBK (cr_maxDef rfl) (by rfl) G.T.max (by decide +kernel) (pa_cons (pe_lock ?l) pa_nil) (pk_cons pe_int pk_nil))), ?q⟩
    case l =>
      refine' pe_lc (own := [("at", 2), ("task", 3)]) (g := gTup K 2 (gCons (gName 2) (gCons (gName 3) gNil))) rfl scMd.nd (pi_items (pv 0)) (blkOk_by (N := NMd) (sc := defScope sMd) (by decide +kernel)) (fun _ _ _ _ _ => pg_tup rfl (pgs_cons (pg_name (i := 2) scMd.nd rfl (Or.inl rfl)) (pgs_cons (pg_name (i := 3) scMd.nd rfl (Or.inl rfl)) pgs_nil)))
        (fun _ _ _ _ _ => pts_one (PW.pt (pw_or (pt_cmpR op_eq (pv 2) (pv 1) (nomark _)) (pw_or1 (pt_cmpR (r := rIn K false) op_in_seq (pv 1) ?p5 (by rfl)))))) ?e
      case p5 => exact pe_prop (pv 3) G.C.cl M.p5 G5 hr b5 .nil pass0 (by rfl)
      case e => exact fun _ _ _ _ _ => pe_prop (pv 3) G.C.cl M.p2 G2 hr b2 .nil pass0 (by rfl)
    case q =>
      refine ⟨d, .dK (tD m), hm, trivial, fun od => ?_⟩
      have fz : (upd H d (.frz od (.dK (tD m)))) d = some (.frz od (.dK (tD m))) := upd_same
      have kb : KeepB H (upd H d (.frz od (.dK (tD m)))) := KeepB.upd hm bits_dK
      have lm := ht.len
      refine ⟨_, rfl, d, od, tD m, rfl, fz, fun D hD => ?_⟩
      have hDd : D ≠ d := fun z => by rw [z, fz] at hD; cases hD
      refine lc_it walk_items (fun i Hi => Same (upd H d (.frz od (.dK (tD m)))) Hi ∧ Hi D = some (.lst ((mdL (ts.take i) y).map V.int))) ⟨Same.new hD, upd_same⟩ (fun _ _ _ z => z.1 _ _ fz) ?_ ?_
      · rintro i x Hi Hj hi ⟨s2, e2⟩ ⟨T', kx, vx, rfl, nT, rfl, hk, hv⟩
        obtain ⟨q, gq, rfl, rfl⟩ := tD_get hk hv
        obtain ⟨a, T, ev, ta, mt⟩ := ht.at_ gq
        have tk : mdL (ts.take (i + 1)) y = mdL (ts.take i) y ++ (if (decide (q.1 = y) || decide (y ∈ T.t)) = true then [T.n] else []) := by
          rw [List.take_add_one, mt]
          exact mdL_snoc _ _ _ _
        have s3 : Same Hi (upd Hi T' (.tup [.str q.1, q.2])) := Same.new nT
        have e3 := s3 _ _ e2
        have s23 := s2.trans s3
        have tt : (upd Hi T' (.tup [.str q.1, q.2])) T' = some (.tup [.str q.1, q.2]) := upd_same
        generalize upd Hi T' (.tup [.str q.1, q.2]) = Hj at s23 e3 tt ⊢
        refine ⟨T', _, rfl, SqT.of tt, rfl, _, _, rfl, _, _, rfl, rfl, ?_⟩
        obtain ⟨dx, t1, t2, t3, t4, h0, h1, h2, h3, h4⟩ := ta.keep (kb.trans (.of s23))
        rw [ev]
        have lmd : ((mdL (ts.take i) y).map V.int).length < sizeLine := by
          unfold mdL
          rw [List.length_map, List.length_map, sizeLine_eq]
          have l1 := List.length_filter_le (fun q : Str × TSk => decide (q.1 = y) || decide (y ∈ q.2.t)) (ts.take i)
          rw [List.length_take] at l1
          omega
        have put : (decide (q.1 = y) || decide (y ∈ T.t)) = true → Same (upd H d (.frz od (.dK (tD m)))) (upd Hj D (.lst ((mdL (ts.take i) y).map V.int ++ [V.int T.n]))) ∧ (upd Hj D (.lst ((mdL (ts.take i) y).map V.int ++ [V.int T.n]))) D = some (.lst ((mdL (ts.take (i + 1)) y).map V.int)) := fun h => by
          rw [if_pos h] at tk
          exact ⟨same_off s23 hD, by rw [tk, List.map_append]; exact upd_same⟩
        refine ⟨rfl, ?_⟩
        refine ⟨_, rfl, _, rfl, rfl, decide (q.1 = y), congrArg V.bl (by rw [decide_eq_decide]; exact ⟨fun e => by injection e, fun e => by rw [e]⟩), ?_⟩
        by_cases c1 : q.1 = y
        · rw [decide_eq_true c1]
          refine iteT (iteT ?_)
          refine ⟨_, rfl, a, dx, _, rfl, h0, a, dx, _, _, rfl, h0, rfl, ?_⟩
          exact ⟨_, e3, lmd, put (by rw [decide_eq_true c1]; rfl)⟩
        · rw [decide_eq_false c1]
          refine iteF ⟨_, rfl, _, rfl, a, dx, _, rfl, h0, a, dx, _, _, rfl, h0, rfl, t3, _, rfl, .inr (SqT.of h3), rfl, flat_strs _, decide (y ∈ T.t), congrArg V.bl (inV_strs _), ?_⟩
          by_cases c2 : y ∈ T.t
          · rw [decide_eq_true c2]
            refine iteT ?_
            refine ⟨_, rfl, a, dx, _, rfl, h0, a, dx, _, _, rfl, h0, rfl, ?_⟩
            exact ⟨_, e3, lmd, put (by rw [decide_eq_true c2, Bool.or_true])⟩
          · rw [decide_eq_false c2]
            refine iteF ⟨s23, ?_⟩
            rw [if_neg (by rw [decide_eq_false c1, decide_eq_false c2]; exact fun z => nomatch z), List.append_nil] at tk
            rw [tk]
            exact e3
      · rintro Hi ⟨s2, e2⟩
        rw [tD_len, lm, List.take_length] at e2
        refine ⟨s2 _ _ fz, ?_⟩
        refine ⟨D, mdL ts y, 0, rfl, rfl, SqL.of (by rw [upd_ne hDd]; exact e2), fun mx m0 m1 => ?_⟩
        have e := mxI_is (l := mdL ts y) (fun x hx => by
          obtain ⟨q, hq, rfl⟩ := List.mem_map.mp hx
          have := (good q (List.mem_filter.mp hq).1).2.n1
          omega) m0 m1
        rw [e]
        refine k _ fun b o z => ?_
        by_cases e : b = d
        · rw [e] at z ⊢
          rw [upd_same, ← z, hm]
        · rw [upd_ne e]
          exact s2 b o (by rw [upd_ne e]; exact z)
/-! ### the width -/
def spWo (K : Frag) (CT : Addr) : Sp := fun vs H Q _ => ∃ d m ts, vs = [.ref d] ∧ H d = some (.dK (tD m)) ∧ TsAt CT H m ts ∧ RightT ts ∧ (rmL ts).length < 64 ∧ ∀ ys H', Rem ts ys → Same H H' → Q (.int (wdF ts ys)) H'
theorem scWo : FnScope ["tasks", "name"] ["tasks"] (defScope sWo) := ⟨rfl, rfl, rfl, by decide +kernel, rfl, by decide +kernel, by decide +kernel⟩
theorem ok_wo {f aR2 aM2 : Addr} {fd fR2 fM2 : FuncData} (F : Fun K "width_of" "width_of" sWo f fd) (FR : Fun K "remembered_names" "remembered_names" sRn aR2 fR2) (FM : Fun K "_most_doers" "_most_doers" sMd aM2 fM2) (gR : mg "remembered_names" = some (.ref aR2)) (gM : mg "_most_doers" = some (.ref aM2)) (G : Pkg K mg w aF aM aD CE aE CT aW aR aH aA aI fW fR fH fA fI) (M : Mets K CT gE g1 g2 g3 g4 g5 g6 p1 p2 p3 p4 p5 p6 fE f1 f2 f3 f4 f5 f6) : FnOk P w K mg base CX0 4 f fd ["tasks"] (spWo K CT) := by
  have GR : FnOk P w K mg base CX0 3 aR2 fR2 ["tasks"] (spRn K CT) := ok_rn FR G M
  have GM : FnOk P w K mg base CX0 3 aM2 fM2 ["tasks", "name"] (spMd K CT) := ok_md FM G M
  have bR : Binds K fR2 ["tasks"] [] := FR.binds (ps := ["tasks"]) fun _ _ _ _ _ _ us hl => match us, hl with | [_], _ => rfl
  have bM : Binds K fM2 ["tasks", "name"] [] := FM.binds (ps := ["tasks", "name"]) fun _ _ _ _ _ _ us hl => match us, hl with | [_, _], _ => rfl
  refine F.ok scWo (fun vs H Q E h => ?_) (fun cdv A outer s H vs Q E hr h => ?_)
  · obtain ⟨d, m, ts, rfl, _⟩ := h
    rfl
  · obtain ⟨d, m, ts, rfl, hm, ht, rt, few, k⟩ := h
    refine' ⟨_, pss_one (ps_ret (pe_callB (cr_sum rfl) (by rfl) G.T.sum (by decide +kernel) (pa_cons ?s pa_nil))), ?q⟩
    case s =>
      refine' pe_lc (own := [("name", 1)]) (g := gName 1) (tt := tYes) rfl scWo.nd (pi_tup (pe_call GR hr rfl gR FR.kp bR .nil pass0 (pa_cons (pv 0) pa_nil))) (blkOk_by (N := ["tasks", "name"]) (sc := defScope sWo) (by decide +kernel)) (fun _ _ _ _ _ => pg_name (i := 1) scWo.nd rfl (Or.inl rfl)) (fun _ _ _ _ _ => pts_nil) ?e
      case e => exact fun _ _ _ _ _ => pe_call GM hr rfl gM FM.kp bM .nil pass0 (pa_cons (pv 0) (pa_cons (pv 1) pa_nil))
    case q =>
      refine ⟨_, rfl, d, m, ts, rfl, hm, ht, few, fun p ys H1 rem s1 hp => ⟨p, rfl, ⟨_, SqT.of hp⟩, fun D hD => ?_⟩⟩
      have ly : ys.length ≤ 64 := by
        have := (List.perm_ext_iff_of_nodup rem.nd (ded_nodup (rmL ts))).mpr fun y => by rw [rem.mem, ded_mem]
        rw [this.length_eq]
        have := ded_len (rmL ts)
        omega
      refine lc_it (walk_tup (K := K) (a := p) (xs := ys.map V.str)) (fun i Hi => Same H1 Hi ∧ Hi D = some (.lst (((ys.take i).map (mdF ts)).map V.int))) ⟨Same.new hD, upd_same⟩ (fun _ _ _ z => SqT.of (z.1 _ _ hp)) ?_ ?_
      · rintro i x Ha Hb hi ⟨s2, e2⟩ ⟨rfl, gx⟩
        obtain ⟨y, gy, rfl, hy⟩ := at_strs gx
        refine ⟨rfl, ?_⟩
        refine yes_of ?_
        have s02 := s1.trans s2
        refine ⟨_, rfl, _, rfl, d, m, ts, y, rfl, s02 _ _ hm, ht.keep (.of s02), rt, fun Hc sc => ?_⟩
        refine ⟨_, sc _ _ e2, ?_, fun b o z => by rw [upd_ne (ne_of_none z hD)]; exact sc _ _ (s2 b o z), ?_⟩
        · rw [List.length_map, List.length_map, List.length_take, sizeLine_eq]
          omega
        · have e3 : (ys.take (i + 1)).map (mdF ts) = (ys.take i).map (mdF ts) ++ [mdF ts y] := by
            rw [List.take_add_one, gy, List.map_append]
            rfl
          rw [e3, List.map_append]
          exact upd_same
      · rintro Hi ⟨s2, e2⟩
        rw [List.length_map, List.take_length] at e2
        exact ⟨D, _, rfl, SqL.of e2, k ys _ rem (s1.trans s2)⟩
/-! ### the bounds of memory -/
def spCm (K : Frag) (CT CM : Addr) : Sp := fun vs H Q E => ∃ d m ts mo, vs = [.ref d] ∧ H d = some (.dK (tD m)) ∧ TsAt CT H m ts ∧ RightT ts ∧ (rmL ts).length < 64 ∧ (∀ ys, Rem ts ys → memF ts ys = mo) ∧ (mo = none → ∀ H', Same H H' → Q .non H') ∧ ∀ k, mo = some k → ∀ H' dd, Same H H' → H' dd = some (.xd [("limit", .int k)]) → E (.ref CM) (some dd) H'
theorem scCm : FnScope ["tasks"] ["tasks"] (defScope sCm) := ⟨rfl, rfl, rfl, by decide +kernel, rfl, by decide +kernel, by decide +kernel⟩
theorem ok_cm {f aR2 aM2 aO CM fM' : Addr} {fd fR2 fM2 fO : FuncData} (F : Fun K "check_memory" "check_memory" sCm f fd) (FR : Fun K "remembered_names" "remembered_names" sRn aR2 fR2) (FM : Fun K "_most_doers" "_most_doers" sMd aM2 fM2) (FO : Fun K "width_of" "width_of" sWo aO fO) (gR : mg "remembered_names" = some (.ref aR2)) (gM : mg "_most_doers" = some (.ref aM2)) (gO : mg "width_of" = some (.ref aO)) (G : Pkg K mg w aF aM aD CE aE CT aW aR aH aA aI fW fR fH fA fI) (M : Mets K CT gE g1 g2 g3 g4 g5 g6 p1 p2 p3 p4 p5 p6 fE f1 f2 f3 f4 f5 f6)
    (EM : PySem.ErrM.ErrMxt K mg CM fM') : FnOk P w K mg base (L2.CX P w) 5 f fd ["tasks"] (spCm K CT CM) := by
  have GR : FnOk P w K mg base CX0 3 aR2 fR2 ["tasks"] (spRn K CT) := ok_rn FR G M
  have GO : FnOk P w K mg base CX0 4 aO fO ["tasks"] (spWo K CT) := ok_wo FO FR FM gR gM G M
  have bR : Binds K fR2 ["tasks"] [] := FR.binds (ps := ["tasks"]) fun _ _ _ _ _ _ us hl => match us, hl with | [_], _ => rfl
  have bO : Binds K fO ["tasks"] [] := FO.binds (ps := ["tasks"]) fun _ _ _ _ _ _ us hl => match us, hl with | [_], _ => rfl
  refine F.okX scCm (fun vs H Q E h => ?_) (fun cdv A outer s H vs Q E hr h => ?_)
  · obtain ⟨d, m, ts, mo, rfl, _⟩ := h
    rfl
  · obtain ⟨d, m, ts, mo, rfl, hm, ht, rt, few, mem, k, ke⟩ := h
    have hr1 : Room 1 _ := hr.mono (by decide)
    obtain ⟨u1, r1⟩ := G.T.REMEMBERED
    obtain ⟨u2, r2⟩ := G.T.WIDTH
    refine' ⟨_, pss_cons ?s1 (pss_one ?s2), ?q⟩
    case s1 => exact ps_if (pt_cmpR op_gt (pe_callB call_len_seq (by rfl) G.TR.len PySem.boot_len (pa_cons (pe_call GR (hr.mono (by decide)) rfl gR FR.kp bR .nil pass0 (pa_cons (pv 0) pa_nil)) pa_nil)) (pe_glob (v := .int 3) (by rfl) r1 ⟨_, rfl⟩) (nomark _)) (pss_one (ps_raiseErrM rfl EM hr1 (takes_of rfl rfl rfl rfl) (pa_cons (pe_glob (v := .int 3) (by rfl) r1 ⟨_, rfl⟩) pa_nil))) pss_nil
    case s2 => exact ps_if (pt_cmpR op_gt (pe_call GO hr rfl gO FO.kp bO .nil pass0 (pa_cons (pv 0) pa_nil)) (pe_glob (v := .int 5) (by rfl) r2 ⟨_, rfl⟩) (nomark _)) (pss_one (ps_raiseErrM rfl EM hr1 (takes_of rfl rfl rfl rfl) (pa_cons (pe_glob (v := .int 5) (by rfl) r2 ⟨_, rfl⟩) pa_nil))) pss_nil
    case q =>
      refine ⟨_, rfl, d, m, ts, rfl, hm, ht, few, fun p ys H1 rem s1 hp => ⟨p, _, rfl, Or.inr (SqT.of hp), _, _, rfl, rfl, decide (3 < ys.length), congrArg V.bl (decide_eq_decide.mpr (by rw [List.length_map]; omega)), ?_⟩⟩
      have em := mem ys rem
      unfold memF at em
      by_cases l3 : 3 < ys.length
      · rw [if_pos l3] at em
        rw [decide_eq_true l3]
        exact iteT ⟨_, rfl, fun dd nd => ke 3 em.symm _ dd (s1.trans (Same.new nd)) upd_same⟩
      rw [if_neg l3] at em
      rw [decide_eq_false l3]
      refine iteF ?_
      refine ⟨_, rfl, d, m, ts, rfl, s1 _ _ hm, ht.keep (.of s1), rt, few, fun zs H2 rem2 s2 => ?_⟩
      obtain rfl : ys = zs := rem.same rem2 fun _ => Iff.rfl
      refine ⟨_, _, rfl, rfl, decide (5 < wdF ts ys), congrArg V.bl (decide_eq_decide.mpr (by omega)), ?_⟩
      by_cases l5 : 5 < wdF ts ys
      · rw [if_pos l5] at em
        rw [decide_eq_true l5]
        exact iteT ⟨_, rfl, fun dd nd => ke 5 em.symm _ dd ((s1.trans s2).trans (Same.new nd)) upd_same⟩
      · rw [if_neg l5] at em
        rw [decide_eq_false l5]
        exact iteF (k em.symm _ (s1.trans s2))
end
end Fp1
set_option Elab.async false
set_option linter.all false
set_option maxRecDepth 100000
set_option maxHeartbeats 8000000
/-! checked_plan and Book.__init__ with any tasks and any plan -/
namespace Fp1
open PySem PySem.Spec PyProof.Rows L2 Fh Fs
open PySem.W (Frag)
abbrev sBkI : Stmt := inClass (top 78) 0
def fldB (k t pv : V) : List (Str × V) := [("_kinds", k), ("_tasks", t), ("_plan", pv), ("_steps", .non), ("_survey", .non)]
/-- the book at a, its kinds and tasks as they stand -/
def BookW (K : Frag) (CB CT : Addr) (H : Hp) (a : Addr) (m1 m2 : List (Str × V)) (ks : List (Str × List Str)) (us : List (Str × TSk)) (d : PyData) : Prop := ∃ dx k t pv, H a = some (.ins CB dx (fldB (.ref k) (.ref t) pv)) ∧ H k = some (.dK (tD m1)) ∧ KT H m1 ks ∧ H t = some (.dK (tD m2)) ∧ TsAt CT H m2 us ∧ Pl K H pv d
/-- the dicts of the book at a are new -/
def NewB (CB : Addr) (H H' : Hp) (a : Addr) : Prop := ∀ dx k t pv, H' a = some (.ins CB dx (fldB (.ref k) (.ref t) pv)) → H k = none ∧ H t = none
theorem KeepT.exta {H H' : Hp} {a C dx : Addr} {fs : List (Str × V)} (e : Ext a H H') (ha : H a = some (.ins C dx fs)) : KeepT H H' := fun b xs h => h.elim (fun z => .inl (e _ _ (fun q => by rw [q, ha] at z; cases z) z)) fun ⟨o, z⟩ => .inr ⟨o, e _ _ (fun q => by rw [q, ha] at z; cases z) z⟩
theorem TaskAt.exta {CT : Addr} {H H' : Hp} {a C dx b : Addr} {fs : List (Str × V)} {T : TSk} (e : Ext a H H') (ha : H a = some (.ins C dx fs)) (hf : fs.length < 6) (h : TaskAt CT H b T) : TaskAt CT H' b T := by
  obtain ⟨dy, t1, t2, t3, t4, h0, h1, h2, h3, h4⟩ := h
  have ne : ∀ {t : Addr} {xs : List V}, H t = some (.tup xs) → t ≠ a := fun z q => by rw [q, ha] at z; cases z
  refine ⟨dy, t1, t2, t3, t4, e _ _ (fun q => ?_) h0, e _ _ (ne h1) h1, e _ _ (ne h2) h2, e _ _ (ne h3) h3, e _ _ (ne h4) h4⟩
  rw [q, ha] at h0
  have h0 : HO.ins C dx fs = .ins CT dy (flds (rV T.r) T.n t1 t2 t3 t4) := Option.some.inj h0
  have : fs = flds (rV T.r) T.n t1 t2 t3 t4 := by injection h0
  rw [this] at hf
  exact absurd hf (by simp [flds])
theorem TsAt.exta {CT : Addr} {H H' : Hp} {a C dx : Addr} {fs : List (Str × V)} (e : Ext a H H') (ha : H a = some (.ins C dx fs)) (hf : fs.length < 6) {m : List (Str × V)} {ts : List (Str × TSk)} (h : TsAt CT H m ts) : TsAt CT H' m ts := by
  induction h with
  | nil => exact .nil
  | cons z _ ih => exact .cons (z.exta e ha hf) ih
theorem KT.exta {H H' : Hp} {a C dx : Addr} {fs : List (Str × V)} (e : Ext a H H') (ha : H a = some (.ins C dx fs)) {m : List (Str × V)} {ks : List (Str × List Str)} (h : KT H m ks) : KT H' m ks :=
  h.keep fun t xs z => e _ _ (fun q => by rw [q, ha] at z; cases z) z
structure BkG (K : Frag) (mg : Str → Option Value) (CB aK aJ aO aP aT aS aM aN aV aQ : Addr) (fK fJ fO fP fT fS fM fN fV fQ : FuncData) : Prop where
  C : OwnC K mg "Book" CB
  no_kinds : NoAttr K CB "_kinds"
  no_tasks : NoAttr K CB "_tasks"
  no_plan : NoAttr K CB "_plan"
  no_steps : NoAttr K CB "_steps"
  no_survey : NoAttr K CB "_survey"
  FK : Fun K "checked_kinds" "checked_kinds" sCks aK fK
  FJ : Fun K "_are_kinds" "_are_kinds" sAks aJ fJ
  FO : Fun K "are_roles" "are_roles" sRol aO fO
  FP : Fun K "checked_plan" "checked_plan" sCp aP fP
  FT : Fun K "checked_tasks" "checked_tasks" sCts aT fT
  FS : Fun K "are_tasks" "are_tasks" sAts aS fS
  FM : Fun K "check_memory" "check_memory" sCm aM fM
  FN : Fun K "remembered_names" "remembered_names" sRn aN fN
  FV : Fun K "width_of" "width_of" sWo aV fV
  FQ : Fun K "_most_doers" "_most_doers" sMd aQ fQ
  gQ : mg "_most_doers" = some (.ref aQ)
  gK : mg "checked_kinds" = some (.ref aK)
  gJ : mg "_are_kinds" = some (.ref aJ)
  gO : mg "are_roles" = some (.ref aO)
  gP : mg "checked_plan" = some (.ref aP)
  gT : mg "checked_tasks" = some (.ref aT)
  gS : mg "are_tasks" = some (.ref aS)
  gM : mg "check_memory" = some (.ref aM)
  gN : mg "remembered_names" = some (.ref aN)
  gV : mg "width_of" = some (.ref aV)
mutual
theorem gd_exta {K : Frag} {H H' : Hp} {a C dx : Addr} {fs : List (Str × V)} (s : Ext a H H') (ha : H a = some (.ins C dx fs)) : ∀ {v : V} {d : PyData}, Gd K H v d → Gd K H' v d
  | _, _, .non => .non
  | _, _, .bl b => .bl b
  | _, _, .int i => .int i
  | _, _, .str x h => .str x h
  | _, _, .lst h r => .lst (s _ _ (fun q => by rw [q, ha] at h; cases h) h) (gds_exta s ha r)
  | _, _, .tup h r => .tup ((KeepT.exta s ha).sqT h) (gds_exta s ha r)
  | _, _, .dct h => .dct (s _ _ (fun q => by rw [q, ha] at h; cases h) h)
  | _, _, .dctN h n => .dctN (s _ _ (fun q => by rw [q, ha] at h; cases h) h) n
theorem gds_exta {K : Frag} {H H' : Hp} {a C dx : Addr} {fs : List (Str × V)} (s : Ext a H H') (ha : H a = some (.ins C dx fs)) : ∀ {v : List V} {d : List PyData}, Gds K H v d → Gds K H' v d
  | _, _, .nil => .nil
  | _, _, .cons h r => .cons (gd_exta s ha h) (gds_exta s ha r)
end
/-- what comes of a plan -/
inductive Out where
  | bad (e : PyData)
  | many (k : Int)
  | odd (x : Str)
  | fine
/-- a plan, right by itself -/
structure Whole (n : Nat) (d : PyData) : Prop where
  rt : Rt n false d
  sh : Sh n d
  n20 : n ≤ 20
  w : d.weight ≤ 100000
  few : (namesF n d).length < 64
/-- what is due of a plan beside tasks of these names -/
inductive Due (n : Nat) (d : PyData) (ns : List Str) : Out → Prop where
  | bad {e : PyData} : chk (n + 1) false d = some (some e) → Due n d ns (.bad e)
  | names : Whole n d → 16 < (namesF n d).length → Due n d ns (.many 16)
  | levels : Whole n d → (namesF n d).length ≤ 16 → 5 < lvF n (nf n d) → Due n d ns (.many 5)
  | odd {x : Str} : Whole n d → (namesF n d).length ≤ 16 → lvF n (nf n d) ≤ 5 → x ∈ namesF n d → x ∉ ns → (∀ y ∈ namesF n d, y ∉ ns → x.cps.toList ≤ y.cps.toList) → Due n d ns (.odd x)
  | fine : Whole n d → (namesF n d).length ≤ 16 → lvF n (nf n d) ≤ 5 → (∀ y ∈ namesF n d, y ∈ ns) → Due n d ns .fine
theorem Due.congr {n : Nat} {d : PyData} {ns ms : List Str} {o : Out} (h : Due n d ns o) (e : ∀ y, y ∈ ns ↔ y ∈ ms) : Due n d ms o := by
  cases h with
  | bad a => exact .bad a
  | names a b => exact .names a b
  | levels a b c => exact .levels a b c
  | odd a b c p q r => exact .odd a b c p (fun z => q ((e _).mpr z)) fun y hy z => r y hy fun u => z ((e _).mp u)
  | fine a b c p => exact .fine a b c fun y hy => (e y).mp (p y hy)
theorem look_none {m : List (Str × V)} {y : Str} (h : y ∉ m.map (·.1)) : m.lookup y = none := by
  cases e : m.lookup y with
  | none => rfl
  | some v =>
    exfalso
    induction m with
    | nil => cases e
    | cons q m ih =>
      obtain ⟨k, u⟩ := q
      rw [List.map_cons, List.mem_cons, not_or] at h
      rw [List.lookup_cons, show (y == k) = false from beq_eq_false_iff_ne.mpr h.1] at e
      exact ih h.2 e
/-- a value that is asked about -/
structure AskV (K : Frag) (H : Hp) (v : V) (d : PyData) (o : Out) : Prop where
  gd : Gd K H v d
  pl : (∀ e, o ≠ .bad e) → Pl K H v d
theorem AskV.same {K : Frag} {H H' : Hp} {v : V} {d : PyData} {o : Out} (h : AskV K H v d o) (s : Same H H') : AskV K H' v d o := ⟨h.gd.same s, fun z => (h.pl z).same s⟩
theorem AskV.exta {K : Frag} {H H' : Hp} {a C dx : Addr} {fs : List (Str × V)} {v : V} {d : PyData} {o : Out} (h : AskV K H v d o) (s : Ext a H H') (ha : H a = some (.ins C dx fs)) : AskV K H' v d o := ⟨gd_exta s ha h.gd, fun z => (h.pl z).keep (KeepT.exta s ha)⟩
/-- the wish of the error that is due -/
def OutE (K : Frag) (CP CM CU : Addr) (E : XK) (H' : Hp) : Out → Prop
  | .bad e => ∀ v' dd, Gd K H' v' e → H' dd = some (.xd [("value", v')]) → E (.ref CP) (some dd) H'
  | .many k => ∀ dd, H' dd = some (.xd [("limit", .int k)]) → E (.ref CM) (some dd) H'
  | .odd x => ∀ dd, H' dd = some (.xd [("value", .str x)]) → E (.ref CU) (some dd) H'
  | .fine => True
theorem sorted_pairs {l : List Str} (h : sortedS l = true) : l.Pairwise fun a b => a.cps.toList ≤ b.cps.toList := by
  cases l with
  | nil => exact .nil
  | cons x r => exact rising_pairs r x h
theorem str_le_antisymm {a b : Str} (u : a.cps.toList ≤ b.cps.toList) (v : b.cps.toList ≤ a.cps.toList) : a = b := by
  have e2 : a.cps = b.cps := Array.toList_inj.mp (List.le_antisymm u v)
  cases a
  cases b
  cases e2
  rfl
section
variable {P : Program} {w : World} {K : Frag} {mg : Str → Option Value} {base : Heap} {aF aM aD CE aE CP fP aC aA aW aI aH aN aT aS aV aL : Addr} {fC fA fW fI fH fN fT fS fV fL : FuncData} {CM fM CU fU : Addr}
def spCpA (K : Frag) (CP CM CU : Addr) (n : Nat) : Sp := fun vs H Q E => ∃ v d t m o, vs = [v, .ref t] ∧ H t = some (.dK (tD m)) ∧ AskV K H v d o ∧ Due n d (m.map (·.1)) o ∧ (∀ H', Same H H' → OutE K CP CM CU E H' o) ∧ (o = .fine → ∀ x H', Same H H' → Pl K H' x (nf n d) → Q x H')
theorem ok_cpA {f : Addr} {fd : FuncData} (F : Fun K "checked_plan" "checked_plan" sCp f fd) (G : CpG K mg w aF aM aD CE aE CP fP aC aA aW aI aH aN aT aS aV aL fC fA fW fI fH fN fT fS fV fL) (T : TxtB mg) (E3 : Err3 K mg CP fP CM fM CU fU) (n : Nat) : FnOk P w K mg base (L2.CX P w) (n + 6) f fd ["plan", "tasks"] (spCpA K CP CM CU n) := by
  have GC : FnOk P w K mg base (L2.CX P w) (n + 4) aC fC ["plan", "is_within"] (spCk K CP (n + 1)) := ok_ck G.C (n + 1)
  have GN : FnOk P w K mg base CX0 (n + 3) aN fN ["plan"] (spNf K n) := ok_nf G.FN G.FT G.FS G.gN G.gT G.gS G.C.T G.C.TK n
  have GV := ok_ni (P := P) (w := w) (base := base) G.FV G.gV G.C.T G.C.TK n
  have GL := ok_lv (P := P) (w := w) (base := base) G.FL G.gL T.max G.C.T G.C.TK n
  obtain ⟨dsC, vC, bC⟩ := ck_one G.C.FC
  have bN : Binds K fN ["plan"] [] := G.FN.binds (ps := ["plan"]) fun _ _ _ _ _ _ us hl => match us, hl with | [_], _ => rfl
  have bV : Binds K fV ["plan"] [] := G.FV.binds (ps := ["plan"]) fun _ _ _ _ _ _ us hl => match us, hl with | [_], _ => rfl
  have bL : Binds K fL ["plan"] [] := G.FL.binds (ps := ["plan"]) fun _ _ _ _ _ _ us hl => match us, hl with | [_], _ => rfl
  refine F.okX scCp (fun vs H Q E h => ?_) (fun cdv A outer s H vs Q E hr h => ?_)
  · obtain ⟨v, d, t, m, o, rfl, _⟩ := h
    rfl
  · obtain ⟨v, d, t, m, o, rfl, hm, av, du, ke, k⟩ := h
    have hr1 : Room 1 _ := hr.mono (show 1 ≤ n + 5 by omega)
    have hu := hu_of hr1
    obtain ⟨u1, g16⟩ := T.NAMES
    obtain ⟨u2, g5⟩ := T.LEVELS
    refine' ⟨_, pss_cons ?s1 (pss_cons ?s2 (pss_cons ?s3 (pss_cons ?s4 (pss_cons ?s5 (pss_cons ?s6 (pss_one (ps_ret (pv 3)))))))), ?q⟩
    case s1 => exact ps_expr (pe_call GC (hr.mono (by omega)) rfl G.C.gC G.C.FC.kp bC vC (passes_call (takes_of rfl rfl rfl rfl) fun _ _ _ _ h => h) (pa_cons (pv 0) pa_nil))
    case s2 => exact ps_set (i := 2) scCp.nd rfl (Or.inl rfl) (pe_callB cr_sortedS (by rfl) T.sorted (by decide +kernel) (pa_cons (pe_call GV (hr.mono (by omega)) rfl G.gV G.FV.kp bV .nil pass0 (pa_cons (pv 0) pa_nil)) pa_nil))
    case s3 => exact ps_if (pt_cmpR op_gt (pe_callB call_len_seq (by rfl) G.C.T.len PySem.boot_len (pa_cons (pv 2) pa_nil)) (pe_glob (v := .int 16) (by rfl) g16 ⟨_, rfl⟩) (nomark _)) (pss_one (ps_raiseErrM rfl E3.M hr1 (takes_of rfl rfl rfl rfl) (pa_cons (pe_glob (v := .int 16) (by rfl) g16 ⟨_, rfl⟩) pa_nil))) pss_nil
    case s4 => exact ps_set (i := 3) scCp.nd rfl (Or.inl rfl) (pe_call GN (hr.mono (by omega)) rfl G.gN G.FN.kp bN .nil pass0 (pa_cons (pv 0) pa_nil))
    case s5 => exact ps_if (pt_cmpR op_gt (pe_call GL (hr.mono (by omega)) rfl G.gL G.FL.kp bL .nil pass0 (pa_cons (pv 3) pa_nil)) (pe_glob (v := .int 5) (by rfl) g5 ⟨_, rfl⟩) (nomark _)) (pss_one (ps_raiseErrM rfl E3.M hr1 (takes_of rfl rfl rfl rfl) (pa_cons (pe_glob (v := .int 5) (by rfl) g5 ⟨_, rfl⟩) pa_nil))) pss_nil
    case s6 => exact ps_for (passes_of rfl) rfl (pi_list (pv 2)) (pg_name (i := 4) scCp.nd rfl (Or.inl rfl)) (pss_one (ps_if (pt_cmp (pc_dnotin hu (pv 4) (pv 1))) (pss_one (ps_raiseErrU rfl E3.U hr1 (takes_of rfl rfl rfl rfl) (pa_cons (pv 4) pa_nil))) pss_nil))
    case q =>
      by_cases hb : ∃ e, o = .bad e
      · obtain ⟨e, rfl⟩ := hb
        cases du with
        | bad er => exact ⟨_, rfl, v, d, false, some e, rfl, av.gd, er, fun z => (nomatch z), fun e1 z v' dd H' s' gv hd => by cases z; exact ke H' s' v' dd gv hd⟩
      · have hb' : ∀ e, o ≠ .bad e := fun e z => hb ⟨e, z⟩
        have hv := av.pl hb'
        have wh : Whole n d := by
          cases du with
          | bad er => exact absurd rfl (hb' _)
          | names a _ => exact a
          | levels a _ _ => exact a
          | odd a _ _ _ _ _ => exact a
          | fine a _ _ _ => exact a
        obtain ⟨rt, sh, hn, hw, few⟩ := wh
        refine ⟨_, rfl, v, d, false, none, rfl, hv.gd rt.short, rt_chk rt, fun _ H1 s1 => ?_, fun e z => nomatch z⟩
        refine ⟨_, rfl, v, d, rfl, hv.same s1, sh, by omega, fun l H2 s2 nl hl => ⟨l, namesF n d, rfl, SqL.of hl, few, fun ys p pm so np => ?_⟩⟩
        have s3 : Same H2 (upd H2 p (.lst (ys.map V.str))) := Same.new np
        have hp : (upd H2 p (.lst (ys.map V.str))) p = some (.lst (ys.map V.str)) := upd_same
        generalize upd H2 p (.lst (ys.map V.str)) = H3 at s3 hp ⊢
        have s13 := (s1.trans s2).trans s3
        have ly := pm.length_eq
        refine gName_go ?_
        with_reducible conv => whnf
        refine ⟨_, rfl, p, _, rfl, Or.inl (SqL.of hp), _, _, rfl, rfl, decide (16 < (namesF n d).length), congrArg V.bl (decide_eq_decide.mpr (by rw [List.length_map]; omega)), ?_⟩
        by_cases l16 : 16 < (namesF n d).length
        · rw [decide_eq_true l16]
          obtain rfl : o = .many 16 := by
            cases du with
            | bad er => exact absurd rfl (hb' _)
            | names _ _ => rfl
            | levels _ z _ => omega
            | odd _ z _ _ _ _ => omega
            | fine _ z _ _ => omega
          exact iteT ⟨_, rfl, fun dd nd => ke _ (s13.trans (Same.new nd)) dd upd_same⟩
        rw [decide_eq_false l16]
        refine iteF ?_
        refine ⟨_, rfl, v, d, rfl, hv.same s13, sh, by omega, by omega, fun x H4 s4 hx => ?_⟩
        refine gName_go ?_
        with_reducible conv => whnf
        have wn := w_nf n d
        refine ⟨_, rfl, x, nf n d, rfl, hx, sh_nf sh, by omega, fun H5 s5 => ?_⟩
        have s45 := s4.trans s5
        refine ⟨_, _, rfl, rfl, decide (5 < lvF n (nf n d)), congrArg V.bl (decide_eq_decide.mpr (by omega)), ?_⟩
        by_cases l5 : 5 < lvF n (nf n d)
        · rw [decide_eq_true l5]
          obtain rfl : o = .many 5 := by
            cases du with
            | bad er => exact absurd rfl (hb' _)
            | names _ z => omega
            | levels _ _ _ => rfl
            | odd _ _ z _ _ _ => omega
            | fine _ _ z _ => omega
          exact iteT ⟨_, rfl, fun dd nd => ke _ ((s13.trans s45).trans (Same.new nd)) dd upd_same⟩
        rw [decide_eq_false l5]
        refine iteF ?_
        have so' := sorted_pairs so
        refine ⟨_, rfl, p, rfl, ⟨_, SqL.of (s45 _ _ hp)⟩, for_list (xs := ys.map V.str) (fun i σ H6 => ∃ z, σ = [some v, some (.ref t), some (.ref p), some x, z] ∧ Same H5 H6 ∧ ∀ y ∈ ys.take i, y ∈ m.map (·.1)) ⟨none, rfl, Same.refl _, fun y hy => by rw [List.take_zero] at hy; cases hy⟩ (fun _ _ _ _ ⟨_, _, z, _⟩ => SqL.of (z _ _ (s45 _ _ hp))) ?_ ?_⟩
        · rintro i x' σ H6 hx' ⟨z, rfl, s6, before⟩
          obtain ⟨y, gy, rfl, hy⟩ := at_strs hx'
          refine gName_go ?_
          with_reducible conv => whnf
          have gt : DGet H6 t (.str y) (m.lookup y) := .inl ⟨tD m, .inr y, .inl (s6 _ _ (s45 _ _ (s13 _ _ hm))), rfl, by rw [tD_val]⟩
          refine ⟨_, rfl, _, rfl, t, m.lookup y, rfl, gt, !(m.lookup y).isSome, rfl, ?_⟩
          by_cases hk : y ∈ m.map (·.1)
          · obtain ⟨v', lv, _⟩ := look_in hk
            rw [lv]
            refine iteF ⟨_, rfl, s6, fun u hu => ?_⟩
            rw [List.take_add_one, gy] at hu
            rcases List.mem_append.mp hu with q | q
            · exact before u q
            · rw [List.mem_singleton.mp q]; exact hk
          · have ln : m.lookup y = none := look_none hk
            rw [ln]
            obtain rfl : o = .odd y := by
              have hyn : y ∈ namesF n d := pm.mem_iff.mp hy
              cases du with
              | bad er => exact absurd rfl (hb' _)
              | names _ z => omega
              | levels _ _ z => omega
              | @odd x0 _ _ _ h1 h2 h3 =>
                have e : x0 = y := by
                  refine str_le_antisymm (h3 y hyn hk) ?_
                  obtain ⟨j, hj, gj⟩ := List.mem_iff_getElem.mp (pm.mem_iff.mpr h1)
                  have hi : i < ys.length := (List.getElem?_eq_some_iff.mp gy).1
                  have gi : ys[i] = y := (List.getElem?_eq_some_iff.mp gy).2
                  rcases Nat.lt_or_ge j i with lt | ge
                  · exfalso
                    refine h2 (before x0 ?_)
                    rw [← gj]
                    exact List.mem_take_iff_getElem.mpr ⟨j, by omega, rfl⟩
                  · rcases Nat.eq_or_lt_of_le ge with e | lt
                    · subst e
                      rw [← gj, ← gi]
                      exact List.le_refl _
                    · have := List.pairwise_iff_getElem.mp so' i j hi hj lt
                      rw [gi, gj] at this
                      exact this
                rw [e]
              | fine _ _ _ z => exact absurd (z y hyn) hk
            exact iteT ⟨_, rfl, _, rfl, fun dd nd => ke _ (((s13.trans s45).trans s6).trans (Same.new nd)) dd upd_same⟩
        · rintro σ H6 ⟨z, rfl, s6, all⟩
          obtain rfl : o = .fine := by
            cases du with
            | bad er => exact absurd rfl (hb' _)
            | names _ z => omega
            | levels _ _ z => omega
            | odd _ _ _ h1 h2 _ =>
              rw [List.length_map, List.take_length] at all
              exact absurd (all _ (pm.mem_iff.mpr h1)) h2
            | fine _ _ _ _ => rfl
          exact ⟨_, rfl, k rfl x H6 ((s13.trans s45).trans s6) (hx.same (s5.trans s6))⟩
end
section
variable {P : Program} {w : World} {K : Frag} {mg : Str → Option Value} {base : Heap} {aF aM aD CE aE CT aW aR aH aA aI gE g1 g2 g3 g4 g5 g6 p1 p2 p3 p4 p5 p6 : Addr} {fW fR fH fA fI fE f1 f2 f3 f4 f5 f6 : FuncData} {CP fP aC aa aw ai ah aN aT aS aV aL : Addr} {fC fa fw fi fh fN fT fS fV fL : FuncData} {CM fM CU fU : Addr}
  {CB cK cJ cO cP cT cS cM cN cV cQ : Addr} {dK dJ dO dP dT' dS dM dN dV dQ : FuncData}
/-! ### rearranged tasks -/
theorem mxI_perm {l m : List Int} (h : l.Perm m) : mxI l = mxI m := by
  induction h with
  | nil => rfl
  | cons x _ ih =>
    show max x (mxI _) = max x (mxI _)
    rw [ih]
  | swap x y l =>
    show max y (max x (mxI l)) = max x (max y (mxI l))
    omega
  | trans _ _ a b => exact a.trans b
theorem permT_memF {us ts : List (Str × TSk)} (h : us.Perm ts) {ys : List Str} : memF us ys = memF ts ys := by
  have e : ∀ y, mdF us y = mdF ts y := fun y => mxI_perm ((h.filter _).map _)
  have e2 : wdF us ys = wdF ts ys := by
    unfold wdF
    rw [List.map_congr_left fun y _ => e y]
  unfold memF
  rw [e2]
theorem permT_mem {us ts : List (Str × TSk)} (h : us.Perm ts) {y : Str} : y ∈ rmL us ↔ y ∈ rmL ts := by
  unfold rmL
  rw [List.mem_flatMap, List.mem_flatMap]
  exact ⟨fun ⟨q, a, b⟩ => ⟨q, h.mem_iff.mp a, b⟩, fun ⟨q, a, b⟩ => ⟨q, h.mem_iff.mpr a, b⟩⟩
theorem permT_len {us ts : List (Str × TSk)} (h : us.Perm ts) : (rmL us).length = (rmL ts).length := (h.flatMap_right _).length_eq
theorem nodup_map {α β : Type} {f : α → β} : ∀ {l : List α}, (l.map f).Nodup → l.Nodup
  | [], _ => .nil
  | a :: l, h => by
    rw [List.map_cons, List.nodup_cons] at h
    exact List.nodup_cons.mpr ⟨fun z => h.1 (List.mem_map.mpr ⟨a, z, rfl⟩), nodup_map h.2⟩
theorem key_one {ts : List (Str × TSk)} (nd : (ts.map (·.1)).Nodup) {p q : Str × TSk} (hp : p ∈ ts) (hq : q ∈ ts) (e : p.1 = q.1) : p = q := by
  induction ts with
  | nil => cases hp
  | cons a ts ih =>
    rw [List.map_cons, List.nodup_cons] at nd
    rcases List.mem_cons.mp hp with e1 | hp'
    · rcases List.mem_cons.mp hq with e2 | hq'
      · rw [e1, e2]
      · exact absurd (List.mem_map.mpr ⟨q, hq', by rw [← e, e1]⟩) nd.1
    · rcases List.mem_cons.mp hq with e2 | hq'
      · exact absurd (List.mem_map.mpr ⟨p, hp', by rw [e, e2]⟩) nd.1
      · exact ih nd.2 hp' hq'
theorem made_perm {ts us : List (Str × TSk)} (rt : RightT ts) (h : MadeT ts us) : us.Perm ts := by
  have ndu : (us.map (·.1)).Nodup := h.1.nodup_iff.mpr rt.2.1
  refine (List.perm_ext_iff_of_nodup (nodup_map ndu) (nodup_map rt.2.1)).mpr fun q => ⟨h.2.2 q, fun hq => ?_⟩
  obtain ⟨q', hq', e⟩ := List.mem_map.mp (h.1.mem_iff.mpr (List.mem_map.mpr ⟨q, hq, rfl⟩))
  rw [← key_one rt.2.1 (h.2.2 _ hq') hq e]
  exact hq'
theorem made_right {ts us : List (Str × TSk)} (rt : RightT ts) (h : MadeT ts us) : RightT us :=
  ⟨by rw [(made_perm rt h).length_eq]; exact rt.1, h.1.nodup_iff.mpr rt.2.1, fun q hq => rt.2.2 q (h.2.2 q hq)⟩
def spBkG (K : Frag) (CB CT CP CM CU : Addr) (n : Nat) : Sp := fun vs H Q E => ∃ a dx kd td v d mk mt ts R o mo, vs = [.ref a, .ref kd, .ref td, v] ∧ H a = some (.ins CB dx []) ∧ H kd = some (.dK (tD mk)) ∧ RightK K H mk R ∧ H td = some (.dK (tD mt)) ∧ TsAt CT H mt ts ∧ RightT ts ∧ (rmL ts).length < 64 ∧ (∀ ys, Rem ts ys → memF ts ys = mo) ∧ AskV K H v d o ∧ Due n d (ts.map (·.1)) o ∧
  (∀ H', Ext a H H' → OutE K CP CM CU E H' o) ∧ (o = .fine → ∀ j, mo = some j → ∀ H' dd, Ext a H H' → H' dd = some (.xd [("limit", .int j)]) → E (.ref CM) (some dd) H') ∧
  (o = .fine → mo = none → ∀ ks us m1 m2 H', Ext a H H' → MadeK K H mk R ks → MadeT ts us → (∀ q ∈ m2, q ∈ mt) → BookW K CB CT H' a m1 m2 ks us (nf n d) → NewB CB H H' a → Q .non H')
abbrev NBk : List Str := ["self", "kinds", "tasks", "plan"]
theorem scBk : FnScope NBk NBk (defScope sBkI) := ⟨rfl, rfl, rfl, by decide +kernel, rfl, by decide +kernel, by decide +kernel⟩
theorem ok_bkG {f : Addr} {fd : FuncData} (F : Fun K "__init__" "Book.__init__" sBkI f fd) (G : Pkg K mg w aF aM aD CE aE CT aW aR aH aA aI fW fR fH fA fI) (M : Mets K CT gE g1 g2 g3 g4 g5 g6 p1 p2 p3 p4 p5 p6 fE f1 f2 f3 f4 f5 f6)
    (CG : CpG K mg w aF aM aD CE aE CP fP aC aa aw ai ah aN aT aS aV aL fC fa fw fi fh fN fT fS fV fL) (E3 : Err3 K mg CP fP CM fM CU fU) (B : BkG K mg CB cK cJ cO cP cT cS cM cN cV cQ dK dJ dO dP dT' dS dM dN dV dQ) (n : Nat) : FnOk P w K mg base (L2.CX P w) (n + 7) f fd NBk (spBkG K CB CT CP CM CU n) := by
  have GK : FnOk P w K mg base CX0 5 cK dK ["kinds"] (spCks K) := ok_cks B.FK B.FJ B.gJ B.FO B.gO G.FR G.FW G.gR G.gW G.TR G.TK G.T
  have GT : FnOk P w K mg base CX0 3 cT dT' ["tasks"] (spCts K CT) := ok_cts B.FT B.FS B.gS G
  have GP : FnOk P w K mg base (L2.CX P w) (n + 6) cP dP ["plan", "tasks"] (spCpA K CP CM CU n) := ok_cpA B.FP CG G.T E3 n
  have GM : FnOk P w K mg base (L2.CX P w) 5 cM dM ["tasks"] (spCm K CT CM) := ok_cm B.FM B.FN B.FQ B.FV B.gN B.gQ B.gV G M E3.M
  have bK : Binds K dK ["kinds"] [] := B.FK.binds (ps := ["kinds"]) fun _ _ _ _ _ _ us hl => match us, hl with | [_], _ => rfl
  have bT : Binds K dT' ["tasks"] [] := B.FT.binds (ps := ["tasks"]) fun _ _ _ _ _ _ us hl => match us, hl with | [_], _ => rfl
  have bP : Binds K dP ["plan", "tasks"] [] := B.FP.binds (ps := ["plan", "tasks"]) fun _ _ _ _ _ _ us hl => match us, hl with | [_, _], _ => rfl
  have bM : Binds K dM ["tasks"] [] := B.FM.binds (ps := ["tasks"]) fun _ _ _ _ _ _ us hl => match us, hl with | [_], _ => rfl
  refine F.okX scBk (fun vs H Q E h => ?_) (fun cdv A outer s H vs Q E hr h => ?_)
  · obtain ⟨a, dx, kd, td, v, d, mk, mt, ts, R, o, mo, rfl, _⟩ := h
    rfl
  · obtain ⟨a, dx, kd, td, v, d, mk, mt, ts, R, o, mo, rfl, ha, hk, rk, ht, tsa, rt, few, mem, av, du, ke, ke2, k⟩ := h
    refine' ⟨_, pss_cons (ps_fld (pv 0) ?s1 rfl) (pss_cons (ps_fld (pv 0) ?s2 rfl) (pss_cons (ps_fld (pv 0) ?s3 rfl) (pss_cons (ps_expr ?s4) (pss_cons (ps_fld (pv 0) pe_non rfl) (pss_one (ps_fld (pv 0) pe_non rfl)))))), ?q⟩
    case s1 => exact pe_call GK (hr.mono (by omega)) rfl B.gK B.FK.kp bK .nil pass0 (pa_cons (pv 1) pa_nil)
    case s2 => exact pe_call GT (hr.mono (by omega)) rfl B.gT B.FT.kp bT .nil pass0 (pa_cons (pv 2) pa_nil)
    case s3 => exact pe_call GP hr rfl B.gP B.FP.kp bP .nil (passes_call (takes_of rfl rfl rfl rfl) fun _ _ _ _ h => h) (pa_cons (pv 3) (pa_cons (pe_fld (pv 0) rfl) pa_nil))
    case s4 => exact pe_call GM (hr.mono (by omega)) rfl B.gM B.FM.kp bM .nil (passes_call (takes_of rfl rfl rfl rfl) fun _ _ _ _ h => h) (pa_cons (pe_fld (pv 0) rfl) pa_nil)
    case q =>
      refine ⟨_, rfl, kd, mk, R, rfl, hk, rk, fun k1 m1 ks H1 s1 n1 e1 kt mk1 => ?_⟩
      refine ⟨_, rfl, a, CB, dx, [], rfl, s1 _ _ ha, B.C.cl, B.no_kinds, by decide, ?_⟩
      have d1 : k1 ≠ a := ne_of_none ha n1 |>.symm
      have x1 : Ext a H (upd H1 a (.ins CB dx (putF "_kinds" (.ref k1) []))) := fun b o nb z => by rw [upd_ne nb]; exact s1 _ _ z
      have a1 : (upd H1 a (.ins CB dx (putF "_kinds" (.ref k1) []))) a = some (.ins CB dx [("_kinds", .ref k1)]) := upd_same
      have e1' : (upd H1 a (.ins CB dx (putF "_kinds" (.ref k1) []))) k1 = some (.dK (tD m1)) := by rw [upd_ne d1]; exact e1
      have kt1 : KT (upd H1 a (.ins CB dx (putF "_kinds" (.ref k1) []))) m1 ks := kt.exta (fun b o nb z => by rw [upd_ne nb]; exact z) (s1 _ _ ha)
      have dT0 : td ≠ a := fun z => by rw [z, ha] at ht; cases ht
      have ht1 := x1 _ _ dT0 ht
      have ts1 := tsa.exta x1 ha (by decide)
      have av1 := av.exta x1 ha
      have x1n : Ext a H (upd H1 a (.ins CB dx (putF "_kinds" (.ref k1) []))) := x1
      generalize upd H1 a (.ins CB dx (putF "_kinds" (.ref k1) [])) = G1 at x1 x1n a1 e1' kt1 ht1 ts1 av1 ⊢
      refine ⟨_, rfl, td, mt, ts, rfl, ht1, ts1, rt, fun t2 m2 us H2 s2 n2 e2 ta2 mt2 sub2 => ?_⟩
      refine ⟨_, rfl, a, CB, dx, _, rfl, s2 _ _ a1, B.C.cl, B.no_tasks, Nat.le_of_ble_eq_true (by rfl), ?_⟩
      have d2 : t2 ≠ a := ne_of_none a1 n2 |>.symm
      have y2 : Ext a H2 (upd H2 a (.ins CB dx (putF "_tasks" (.ref t2) [("_kinds", .ref k1)]))) := fun b o nb z => by rw [upd_ne nb]; exact z
      have x2 : Ext a H (upd H2 a (.ins CB dx (putF "_tasks" (.ref t2) [("_kinds", .ref k1)]))) := fun b o nb z => y2 _ _ nb (s2 _ _ (x1 _ _ nb z))
      have a2 : (upd H2 a (.ins CB dx (putF "_tasks" (.ref t2) [("_kinds", .ref k1)]))) a = some (.ins CB dx [("_kinds", .ref k1), ("_tasks", .ref t2)]) := upd_same
      have e12 := y2 _ _ d1 (s2 _ _ e1')
      have kt2 := (kt1.same s2).exta y2 (s2 _ _ a1)
      have e22 := y2 _ _ d2 e2
      have ta22 := ta2.exta y2 (s2 _ _ a1) (by simp)
      have av2 := (av1.same s2).exta y2 (s2 _ _ a1)
      generalize upd H2 a (.ins CB dx (putF "_tasks" (.ref t2) [("_kinds", .ref k1)])) = G2 at x2 a2 e12 kt2 e22 ta22 av2 ⊢
      have du2 : Due n d (m2.map (·.1)) o := du.congr fun y => by
        rw [ta2.keys]
        exact mt2.1.mem_iff.symm
      refine ⟨_, rfl, _, rfl, a, CB, dx, _, _, rfl, a2, B.C.cl, B.no_tasks, rfl, v, d, t2, m2, o, rfl, e22, av2, du2, fun H' s' => ke H' (fun b o nb z => s' _ _ (x2 _ _ nb z)), fun fine x H3 s3 hx => ?_⟩
      refine ⟨_, rfl, a, CB, dx, _, rfl, s3 _ _ a2, B.C.cl, B.no_plan, Nat.le_of_ble_eq_true (by rfl), ?_⟩
      have y3 : Ext a H3 (upd H3 a (.ins CB dx (putF "_plan" x [("_kinds", .ref k1), ("_tasks", .ref t2)]))) := fun b o nb z => by rw [upd_ne nb]; exact z
      have x3 : Ext a H (upd H3 a (.ins CB dx (putF "_plan" x [("_kinds", .ref k1), ("_tasks", .ref t2)]))) := fun b o nb z => y3 _ _ nb (s3 _ _ (x2 _ _ nb z))
      have a3 : (upd H3 a (.ins CB dx (putF "_plan" x [("_kinds", .ref k1), ("_tasks", .ref t2)]))) a = some (.ins CB dx [("_kinds", .ref k1), ("_tasks", .ref t2), ("_plan", x)]) := upd_same
      have e13 := y3 _ _ d1 (s3 _ _ e12)
      have kt3 := (kt2.same s3).exta y3 (s3 _ _ a2)
      have e23 := y3 _ _ d2 (s3 _ _ e22)
      have ta3 := (ta22.keep (.of s3)).exta y3 (s3 _ _ a2) (by simp)
      have hx3 := hx.keep (KeepT.exta y3 (s3 _ _ a2))
      generalize upd H3 a (.ins CB dx (putF "_plan" x [("_kinds", .ref k1), ("_tasks", .ref t2)])) = G3 at x3 a3 e13 kt3 e23 ta3 hx3 ⊢
      refine ⟨_, rfl, a, CB, dx, _, _, rfl, a3, B.C.cl, B.no_tasks, rfl, t2, m2, us, mo, rfl, e23, ta3, made_right rt mt2, (by rw [permT_len (made_perm rt mt2)]; exact few), fun ys rem => ?_, fun em H4 s4 => ?_, fun j em H4 dd s4 hd => ke2 fine j em H4 dd (fun b o nb z => s4 _ _ (x3 _ _ nb z)) hd⟩
      · rw [permT_memF (made_perm rt mt2)]
        exact mem ys ⟨rem.nd, rem.so, fun y => (rem.mem y).trans (permT_mem (made_perm rt mt2))⟩
      refine ⟨_, rfl, a, CB, dx, _, rfl, s4 _ _ a3, B.C.cl, B.no_steps, Nat.le_of_ble_eq_true (by rfl), ?_⟩
      refine ⟨_, rfl, a, CB, dx, _, rfl, upd_same, B.C.cl, B.no_survey, Nat.le_of_ble_eq_true (by rfl), ?_⟩
      have y4 : ∀ {A C : HO}, Ext a H4 (upd (upd H4 a A) a C) := fun b o nb z => by rw [upd_ne nb, upd_ne nb]; exact z
      refine k fine em ks us m1 m2 _ (fun b o nb z => y4 _ _ nb (s4 _ _ (x3 _ _ nb z))) mk1 mt2 sub2 ⟨dx, k1, t2, x, upd_same, y4 _ _ d1 (s4 _ _ e13), (kt3.same s4).exta y4 (s4 _ _ a3), y4 _ _ d2 (s4 _ _ e23), (ta3.keep (.of s4)).exta y4 (s4 _ _ a3) (by simp), (hx3.same s4).keep (KeepT.exta y4 (s4 _ _ a3))⟩ ?_
      intro dx' k' t' pv' e
      rw [upd_same] at e
      have e : HO.ins CB dx (fldB (.ref k1) (.ref t2) x) = .ins CB dx' (fldB (.ref k') (.ref t') pv') := Option.some.inj e
      injection e with _ _ e
      unfold fldB at e
      injection e with e1 e
      injection e with e2 _
      injection e1 with _ e1
      injection e1 with e1
      injection e2 with _ e2
      injection e2 with e2
      subst e1 e2
      refine ⟨n1, ?_⟩
      cases hz : H t2 with
      | none => rfl
      | some o =>
        have z := x1n t2 o d2 hz
        rw [n2] at z
        cases z
end
end Fp1
set_option Elab.async false
set_option linter.all false
set_option maxRecDepth 100000
set_option maxHeartbeats 8000000
namespace Fp1
open PySem PySem.Spec PyProof.Rows L2 Fh Fs
open PySem.W (Frag)
abbrev sShuf : Stmt := top 83
section
variable {P : Program} {w : World} {K : Frag} {mg : Str → Option Value} {base : Heap}
theorem shaped_strs {l : List Str} (h : ∀ x ∈ l, Word x) : SeqAt.shaped (.list (l.map PyData.str)) = true := by
  have h1 := lay_words h
  have h3 : PyData.depth (.list (l.map PyData.str)) ≤ 64 := by
    simp only [PyData.depth, depth_strs]
    omega
  unfold SeqAt.shaped
  rw [decide_eq_true h3, Bool.and_true]
  simpa [PyData.canLay0] using h1
def spShuf (K : Frag) : Sp := fun vs H Q _ => ∃ (p c : Addr) (n : Nat) (q : Addr) (ys : List Str), vs = [.ref p, .ref q] ∧ PenAt H p c n ∧ n ≤ 800000 ∧ SqL K H q (ys.map V.str) ∧ ys.length ≤ 60 ∧ (∀ x ∈ ys, Word x) ∧
  ∀ (l : Addr) (zs : List Str) (H' : Hp), zs.Perm ys → PenAt H' p c (n + ys.length) → But p H H' → H l = none → H' l = some (.lst (zs.map V.str)) → Q (.ref l) H'
theorem scShuf : FnScope ["_law_pen_here", "_law_items", "_law_left", "_law_found"] ["_law_pen_here", "_law_items"] (defScope sShuf) := ⟨rfl, rfl, rfl, by decide +kernel, rfl, by decide +kernel, by decide +kernel⟩
def lenAt (L : Addr) (H : Hp) : Nat := match H L with
  | some (.lst xs) => xs.length
  | _ => 0
theorem lenAt_eq {L : Addr} {H : Hp} {xs : List V} (h : H L = some (.lst xs)) : lenAt L H = xs.length := by
  unfold lenAt
  rw [h]
theorem eqv_nil : ∀ xs : List Str, PyData.eqv (.list (xs.map PyData.str)) (.list []) = xs.isEmpty
  | [] => rfl
  | x :: xs => rfl
theorem map_at {xs : List Str} {i : Nat} {y : Str} (h : xs[i]? = some y) : (xs.map V.str)[i]? = some (.str y) := by rw [List.getElem?_map, h]; rfl
theorem seqIx {m len : Nat} (h : m < len) : seqIndex? (m : Int) len = some m := by
  unfold seqIndex?
  simp
  omega
theorem eraseIdx_str : ∀ (xs : List Str) (m : Nat), (xs.map V.str).eraseIdx m = (xs.eraseIdx m).map V.str
  | [], _ => rfl
  | _ :: _, 0 => rfl
  | x :: xs, m + 1 => congrArg (V.str x :: ·) (eraseIdx_str xs m)
theorem erase_perm : ∀ (xs : List Str) (m : Nat) (y : Str), xs[m]? = some y → (y :: xs.eraseIdx m).Perm xs
  | [], _, _, h => by cases h
  | x :: xs, 0, y, h => by
    cases h
    exact List.Perm.refl _
  | x :: xs, m + 1, y, h => ((List.Perm.swap x y (xs.eraseIdx m))).trans (List.Perm.cons x (erase_perm xs m y (by simpa using h)))
theorem ok_shuf {f aD : Addr} {fd fD : FuncData} (F : Fun K "_law_shuffled" "_law_shuffled" sShuf f fd) (FD : Fun K "_law_draw" "_law_draw" sDraw aD fD) (T : TxtP mg) (gD : mg "_law_draw" = some (.ref aD)) : FnOk P w K mg base CX0 2 f fd ["_law_pen_here", "_law_items"] (spShuf K) := by
  have GD : FnOk P w K mg base CX0 1 aD fD ["_law_pen_here", "_law_size"] spDraw := ok_draw FD T
  have bD : Binds K fD ["_law_pen_here", "_law_size"] [] := FD.binds (ps := ["_law_pen_here", "_law_size"]) fun _ _ _ _ _ _ us hl => match us, hl with | [_, _], _ => rfl
  refine F.ok scShuf (fun vs H Q E h => ?_) (fun cdv A outer s H vs Q E hr h => ?_)
  · obtain ⟨p, c, n, q, ys, rfl, _⟩ := h
    rfl
  · obtain ⟨p, c, n, q, ys, rfl, hP, hn, hq, few, good, k⟩ := h
    have hu := hr.units
    refine ⟨_, pss_cons (ps_par (i := 2) (j := 3) (by rfl) scShuf.nd rfl rfl (by decide) rfl rfl (pa_cons (pe_callTy call_list_of (by rfl) T.list (by decide +kernel) (pa_cons (pv 1) pa_nil)) (pa_cons (pe_lst pa_nil) pa_nil)) (by rfl))
      (pss_cons (ps_while PassesOwn.never (pt_cmpR (op_neD hu) (pv 2) (pe_lst pa_nil) (nomark _))
        (pss_one (ps_expr (pe_bm PySem.F.plainAttrs_list PySem.F.slot_list_append PySem.F.type_list_append mt_append (pv 3) (pa_cons (pe_bm PySem.F.plainAttrs_list PySem.F.slot_list_pop PySem.F.type_list_pop mt_popAt (pv 2) (pa_cons (pe_call GD hr rfl gD FD.kp bD .nil pass0 (pa_cons (pv 0) (pa_cons (pe_callB call_len_seq (by rfl) T.len PySem.boot_len (pa_cons (pv 2) pa_nil)) pa_nil))) pa_nil)) pa_nil)))))
      (pss_one (ps_ret (pv 3)))), ?_⟩
    refine ⟨_, rfl, q, _, rfl, .inl hq, fun L nL => ⟨(show 0 ≤ sizeLine by decide), fun R nR => ⟨_, _, rfl, ?_⟩⟩⟩
    have nR0 : H R = none := none_back (Same.new nL) nR
    have LR : L ≠ R := Ne.symm (ne_new upd_same nR)
    have Lp := (pen_apart hP (Same.refl _) nL).1
    have Lc := (pen_apart hP (Same.refl _) nL).2
    have Rp := (pen_apart hP (Same.refl _) nR0).1
    have Rc := (pen_apart hP (Same.refl _) nR0).2
    refine while_by (fun σ H2 => σ = [some (.ref p), some (.ref q), some (.ref L), some (.ref R)] ∧ ∃ xs zs : List Str, H2 L = some (.lst (xs.map V.str)) ∧ H2 R = some (.lst (zs.map V.str)) ∧ (zs ++ xs).Perm ys ∧ PenAt H2 p c (n + zs.length) ∧ But p H H2) (fun _ H2 => lenAt L H2)
      ⟨rfl, ys, [], by rw [upd_ne LR]; exact upd_same, upd_same, List.Perm.refl _, pen_off (pen_off hP Lp Lc) Rp Rc, But.of ((Same.new nL).trans (Same.new nR))⟩ ?_ ?_
    · rintro σ H2 ⟨rfl, xs, zs, hL, hR, pm, P2, b2⟩
      have inys : ∀ x ∈ xs, x ∈ ys := fun x hx => pm.mem_iff.mp (List.mem_append_right _ hx)
      have len1 := pm.length_eq
      rw [List.length_append] at len1
      refine ⟨.ref L, rfl, (show 0 ≤ sizeLine by decide), fun e ne => ?_⟩
      have sN : Same H2 (upd H2 e (.lst [])) := Same.new ne
      have he : (upd H2 e (.lst [])) e = some (.lst []) := upd_same
      generalize upd H2 e (.lst []) = H3 at sN he ⊢
      have hL3 := sN _ _ hL
      have hR3 := sN _ _ hR
      have P3 := P2.same sN (Nat.le_refl _)
      have b3 : But p H H3 := b2.trans (But.of sN)
      refine ⟨_, _, Dp.lst (SqL.of hL3) (dp_strs xs), Dp.lst (SqL.of he) .nil, shaped_strs fun x hx => good x (inys x hx), by decide +kernel, !xs.isEmpty, by rw [eqv_nil], ?_⟩
      cases xs with
      | nil =>
        refine iteF ?_
        refine ⟨.ref R, rfl, ?_⟩
        rw [List.append_nil] at pm
        refine k R zs H3 pm (P3.same (Same.refl _) (by rw [List.length_nil] at len1; omega)) b3 nR0 hR3
      | cons x0 xr =>
        refine iteT ?_
        generalize hxs : x0 :: xr = xs at *
        have pos : 1 ≤ xs.length := by rw [← hxs]; simp
        refine ⟨.ref R, rfl, .inl ⟨rfl, _, SqL.of hR3⟩, .ref L, rfl, .inl ⟨rfl, _, SqL.of hL3⟩, .ref p, rfl, .ref L, rfl, L, _, rfl, .inl (SqL.of hL3), ?_⟩
        rw [List.length_map]
        refine ⟨p, c, n + zs.length, (xs.length : Int), rfl, P3, by omega, by omega, by omega, fun j H4 j0 j1 P4 b4 => ?_⟩
        obtain ⟨m, rfl⟩ := Int.eq_ofNat_of_zero_le j0
        have hm : m < xs.length := by omega
        have gm : xs[m]? = some xs[m] := List.getElem?_eq_getElem hm
        have six : seqIndex? (m : Int) (xs.map V.str).length = some m := seqIx (by rw [List.length_map]; exact hm)
        have hL4 := b4 _ _ Lp hL3
        have hR4 := b4 _ _ Rp hR3
        refine ⟨L, _, (m : Int), m, .str xs[m], rfl, rfl, hL4, by omega, by omega, six, map_at gm, R, _, .str xs[m], rfl, rfl, by rw [upd_ne (Ne.symm LR)]; exact hR4, by rw [List.length_map, sizeLine_eq]; omega, ⟨rfl, xs.eraseIdx m, zs ++ [xs[m]], ?_, ?_, ?_, ?_, ?_⟩, ?_⟩
        · rw [upd_ne LR, upd_same]
          rw [eraseIdx_str]
        · rw [upd_same, List.map_append]
          rfl
        · refine List.Perm.trans ?_ pm
          rw [List.append_assoc]
          refine List.Perm.append_left zs ?_
          exact erase_perm xs m _ gm
        · rw [List.length_append]
          exact (pen_off (pen_off P4 Lp Lc) Rp Rc).same (Same.refl _) (by rw [List.length_singleton]; omega)
        · intro b o nb z
          have z4 := b4 b o nb (b3 b o nb z)
          rw [upd_ne (fun e => by rw [e, nR0] at z; cases z), upd_ne (fun e => by rw [e, nL] at z; cases z)]
          exact z4
        · rw [lenAt_eq hL]
          have e1 : (upd (upd H4 L (.lst ((xs.map V.str).eraseIdx m))) R (.lst (zs.map V.str ++ [V.str xs[m]]))) L = some (.lst ((xs.map V.str).eraseIdx m)) := by rw [upd_ne LR, upd_same]
          rw [lenAt_eq e1, List.length_eraseIdx, List.length_map, if_pos hm]
          omega
    · exact fun σ H Q Q' mm ⟨v, h1, z, f⟩ => ⟨v, h1, z, fun e ne => let ⟨d, e2, a1, a2, a3, a4, b, eb, q⟩ := f e ne; ⟨d, e2, a1, a2, a3, a4, b, eb, mm _ _ q⟩⟩
end
end Fp1
set_option Elab.async false
set_option linter.all false
set_option maxRecDepth 100000
set_option maxHeartbeats 8000000
namespace Fp1
open PySem PySem.Spec PyProof.Rows L2 Fh Fs
open PySem.W (Frag)
abbrev sTask : Stmt := top 86
def Tups (H : Hp) : List Addr → List (List Str) → Prop
  | [], [] => True
  | q :: qs, l :: ls => H q = some (.tup (l.map V.str)) ∧ Tups H qs ls
  | _, _ => False
def KeepU (H H' : Hp) : Prop := ∀ b xs, H b = some (.tup xs) → H' b = some (.tup xs)
theorem Tups.keep {H H' : Hp} (k : KeepU H H') : ∀ {qs : List Addr} {ls : List (List Str)}, Tups H qs ls → Tups H' qs ls
  | [], [], _ => trivial
  | q :: qs, l :: ls, h => ⟨k _ _ h.1, Tups.keep k h.2⟩
  | [], _ :: _, h => h.elim
  | _ :: _, [], h => h.elim
theorem Tups.snoc {H : Hp} {t : Addr} {l : List Str} (e : H t = some (.tup (l.map V.str))) : ∀ {qs : List Addr} {ls : List (List Str)}, Tups H qs ls → Tups H (qs ++ [t]) (ls ++ [l])
  | [], [], _ => ⟨e, trivial⟩
  | q :: qs, l :: ls, h => ⟨h.1, Tups.snoc e h.2⟩
  | [], _ :: _, h => h.elim
  | _ :: _, [], h => h.elim
theorem KeepU.pen {H H' : Hp} {p c : Addr} {n : Nat} (P : PenAt H p c n) (b : But p H H') : KeepU H H' := fun t xs z => b t _ (fun e => by
  obtain ⟨cs, s, r, S, _⟩ := P.open
  rw [e, S.hp] at z
  cases z) z
theorem KeepU.upd {H : Hp} {L : Addr} {xs : List V} {o : HO} (h : H L = some (.lst xs)) : KeepU H (L2.upd H L o) := fun t ys z => by
  rw [upd_ne (fun e => by rw [e, h] at z; cases z)]
  exact z
theorem KeepU.trans {A B C : Hp} (h : KeepU A B) (k : KeepU B C) : KeepU A C := fun t xs z => k t xs (h t xs z)
theorem KeepU.same {A B : Hp} (h : Same A B) : KeepU A B := fun t xs z => h t _ z
/-- the plain task at t -/
def PlainAt (H : Hp) (t : Addr) (T : TSk) : Prop := ∃ t1 t2 t3 t4, H t = some (.tup [rV T.r, .int T.n, .ref t1, .ref t2, .ref t3, .ref t4]) ∧ H t1 = some (.tup (T.o.map V.str)) ∧ H t2 = some (.tup (T.s.map V.str)) ∧ H t3 = some (.tup (T.t.map V.str)) ∧ H t4 = some (.tup (T.f.map V.str))
theorem PlainAt.keep {H H' : Hp} {t : Addr} {T : TSk} (k : KeepU H H') (h : PlainAt H t T) : PlainAt H' t T := by
  obtain ⟨t1, t2, t3, t4, h0, h1, h2, h3, h4⟩ := h
  exact ⟨t1, t2, t3, t4, k _ _ h0, k _ _ h1, k _ _ h2, k _ _ h3, k _ _ h4⟩
/-- lists of two at most -/
structure SmT (T : TSk) : Prop where
  o : T.o.length ≤ 2
  s : T.s.length ≤ 2
  t : T.t.length ≤ 2
  f : T.f.length ≤ 2
theorem cut_two {xs ys : List V} {k : Int} (h0 : 0 ≤ k) (h2 : k ≤ 2) (e : cutV xs none (some k) = ys) : ys.length ≤ 2 := by
  obtain ⟨m, rfl⟩ : ∃ m : Nat, k = (m : Int) := ⟨k.toNat, by omega⟩
  have hm : m ≤ 2 := by omega
  rw [← e]
  match m, hm with
  | 0, _ =>
    show ((xs.drop 0).take (min 0 xs.length - 0)).length ≤ 2
    rw [List.length_take]
    omega
  | 1, _ =>
    show ((xs.drop 0).take (min 1 xs.length - 0)).length ≤ 2
    rw [List.length_take]
    omega
  | 2, _ =>
    show ((xs.drop 0).take (min 2 xs.length - 0)).length ≤ 2
    rw [List.length_take]
    omega
theorem okW_ded {ks : List Str} (w : ∀ x ∈ ks, Word x) (l : ks.length ≤ 60) : OkW (ded ks) := ⟨ded_nodup ks, fun x hx => w x (ded_mem.mp hx), by have := ded_len ks; omega⟩
section
variable {P : Program} {w : World} {K : Frag} {mg : Str → Option Value} {base : Heap}
abbrev NT : List Str := ["_law_pen_here", "_law_names", "_law_roles", "_law_found", "_law_k", "_law_some"]
def spTask : Sp := fun vs H Q _ => ∃ (p c : Addr) (n : Nat) (q r : Addr) (ys rs : List Str), vs = [.ref p, .ref q, .ref r] ∧ PenAt H p c n ∧ n ≤ 700000 ∧ H q = some (.lst (ys.map V.str)) ∧ H r = some (.lst (rs.map V.str)) ∧ ys.length ≤ 10 ∧ rs.length ≤ 10 ∧ (∀ x ∈ ys, Word x) ∧ (∀ x ∈ rs, Word x) ∧
  ∀ (t : Addr) (T : TSk) (H' : Hp), PlainAt H' t T → OkT T → SmT T → PenAt H' p c (n + 60) → But p H H' → Q (.ref t) H'
theorem scTask : FnScope NT ["_law_pen_here", "_law_names", "_law_roles"] (defScope sTask) := ⟨rfl, rfl, rfl, by decide +kernel, rfl, by decide +kernel, by decide +kernel⟩
theorem ok_task {f aS aK aD : Addr} {fd fS fK fD : FuncData} (F : Fun K "_law_task" "_law_task" sTask f fd) (FS : Fun K "_law_shuffled" "_law_shuffled" sShuf aS fS) (FK : Fun K "_law_pick" "_law_pick" sPick aK fK) (FD : Fun K "_law_draw" "_law_draw" sDraw aD fD) (T : TxtP mg) (gt : mg "tuple" = none) (gso : mg "sorted" = none) (gse : mg "set" = none) (gr : mg "range" = none)
    (gS : mg "_law_shuffled" = some (.ref aS)) (gK : mg "_law_pick" = some (.ref aK)) (gD : mg "_law_draw" = some (.ref aD)) : FnOk P w K mg base CX0 3 f fd ["_law_pen_here", "_law_names", "_law_roles"] spTask := by
  have GS : FnOk P w K mg base CX0 2 aS fS ["_law_pen_here", "_law_items"] (spShuf K) := ok_shuf FS FD T gD
  have GK : FnOk P w K mg base CX0 2 aK fK ["_law_pen_here", "_law_items"] (spPick K) := ok_pick FK FD T gD
  have bS : Binds K fS ["_law_pen_here", "_law_items"] [] := FS.binds (ps := ["_law_pen_here", "_law_items"]) fun _ _ _ _ _ _ us hl => match us, hl with | [_, _], _ => rfl
  have bK : Binds K fK ["_law_pen_here", "_law_items"] [] := FK.binds (ps := ["_law_pen_here", "_law_items"]) fun _ _ _ _ _ _ us hl => match us, hl with | [_, _], _ => rfl
  refine F.ok scTask (fun vs H Q E h => ?_) (fun cdv A outer s H vs Q E hr h => ?_)
  · obtain ⟨p, c, n, q, r, ys, rs, rfl, _⟩ := h
    rfl
  · obtain ⟨p, c, n, q, r, ys, rs, rfl, hP, hn, hq, hR, ly, lr, wy, wr, k⟩ := h
    have hu := hr.units
    refine ⟨_, pss_cons (ps_set (i := 3) scTask.nd rfl (Or.inl rfl) (pe_lst (pa_cons (pe_call GK hr rfl gK FK.kp bK .nil pass0 (pa_cons (pv 0) (pa_cons (pe_op op_cat (pv 2) (pe_lst (pa_cons pe_non pa_nil))) pa_nil))) (pa_cons (pe_call GK hr rfl gK FK.kp bK .nil pass0 (pa_cons (pv 0) (pa_cons (pe_lst (pa_cons pe_int (pa_cons pe_int (pa_cons pe_int (pa_cons pe_int (pa_cons pe_int pa_nil)))))) pa_nil))) pa_nil))))
      (pss_cons (ps_for PassesOwn.never rfl (pi_range1 rfl gr (pa_cons pe_int pa_nil)) (pg_name (i := 4) scTask.nd rfl (Or.inl rfl))
        (pss_cons (ps_set (i := 5) scTask.nd rfl (Or.inl rfl) (pe_slice sl_list (pe_call GS hr rfl gS FS.kp bS .nil pass0 (pa_cons (pv 0) (pa_cons (pv 1) pa_nil))) po_none (po_some (pe_call GK hr rfl gK FK.kp bK .nil pass0 (pa_cons (pv 0) (pa_cons (pe_lst (pa_cons pe_int (pa_cons pe_int (pa_cons pe_int (pa_cons pe_int (pa_cons pe_int (pa_cons pe_int pa_nil))))))) pa_nil))))))
        (pss_one (ps_expr (pe_bm PySem.F.plainAttrs_list PySem.F.slot_list_append PySem.F.type_list_append mt_append (pv 3) (pa_cons (pe_callTy call_tuple_of (by rfl) gt (by decide +kernel) (pa_cons (pe_callB (cr_sortedTx rfl) (by rfl) gso (by decide +kernel) (pa_cons (pe_callTy (cr_setL rfl) (by rfl) gse (by decide +kernel) (pa_cons (pv 5) pa_nil)) pa_nil)) pa_nil)) pa_nil))))))
      (pss_one (ps_ret (pe_callTy call_tuple_of (by rfl) gt (by decide +kernel) (pa_cons (pv 3) pa_nil))))), ?_⟩
    have qp : q ≠ p := fun e => by
      obtain ⟨cs, sp, re, S, _⟩ := hP.open
      rw [e, S.hp] at hq
      cases hq
    refine ⟨_, rfl, .ref r, rfl, (show 1 ≤ sizeLine by decide), fun N nN => ⟨r, N, rs.map V.str, [.non], rfl, rfl, Same.new nN _ _ hR, upd_same, by rw [List.length_map, sizeLine_eq, List.length_singleton]; omega, fun M nM => ?_⟩⟩
    have s1 := (Same.new (o := .lst [V.non]) nN).trans (Same.new (o := .lst (rs.map V.str ++ [V.non])) nM)
    have hM : (upd (upd H N (.lst [V.non])) M (.lst (rs.map V.str ++ [V.non]))) M = some (.lst (rs.map V.str ++ [V.non])) := upd_same
    generalize upd (upd H N (.lst [V.non])) M (.lst (rs.map V.str ++ [V.non])) = H1 at s1 hM ⊢
    refine ⟨p, c, n, M, _, rfl, hP.same s1 (Nat.le_refl _), by omega, hM, by rw [List.length_append, List.length_singleton]; omega, by rw [List.length_append, List.length_map, List.length_singleton]; omega, fun i1 x1 H2 e1 P2 b2 => ?_⟩
    obtain ⟨ro, rfl, wro⟩ : ∃ ro : Option Str, x1 = rV ro ∧ ∀ x, ro = some x → Word x := by
      have hm1 := List.mem_of_getElem? e1
      rcases List.mem_append.mp hm1 with z | z
      · obtain ⟨x, hx, rfl⟩ := List.mem_map.mp z
        exact ⟨some x, rfl, fun y ey => by cases ey; exact wr x hx⟩
      · rw [List.mem_singleton] at z
        exact ⟨none, z, fun y ey => by cases ey⟩
    refine ⟨_, rfl, (show 5 ≤ sizeLine by decide), fun I nI => ?_⟩
    refine ⟨p, c, n + 1, I, _, rfl, P2.same (Same.new nI) (Nat.le_refl _), by omega, upd_same, by decide, by decide, fun i2 x2 H3 e2 P3 b3 => ?_⟩
    obtain ⟨m, rfl, m1, m3⟩ : ∃ m : Int, x2 = .int m ∧ 1 ≤ m ∧ m ≤ 3 := by
      have hm1 := List.mem_of_getElem? e2
      simp only [List.mem_cons, List.not_mem_nil, or_false] at hm1
      rcases hm1 with z | z | z | z | z <;> exact ⟨_, z, by decide, by decide⟩
    refine ⟨(show 2 ≤ sizeLine by decide), fun L nL => ?_⟩
    have all : But p H H3 := (((But.of s1).trans b2).trans (But.of (Same.new nI))).trans b3
    have Lp := (pen_apart P3 (Same.refl _) nL).1
    have Lc := (pen_apart P3 (Same.refl _) nL).2
    refine ⟨4, rfl, by decide, by decide, for_range (lo := 0) (n := 4) (fun i σ H4 => ∃ kv so qs ls, σ = [some (.ref p), some (.ref q), some (.ref r), some (.ref L), kv, so] ∧ ls.length = i ∧ qs.length = i ∧ (∀ l ∈ ls, OkS l ∧ l.length ≤ 2) ∧ Tups H4 qs ls ∧ H4 L = some (.lst ([rV ro, .int m] ++ qs.map V.ref)) ∧ PenAt H4 p c (n + 2 + 12 * i) ∧ But p H H4) ⟨none, none, [], [], rfl, rfl, rfl, (fun _ z => nomatch z), trivial, upd_same, pen_off P3 Lp Lc, all.trans (But.of (Same.new nL))⟩ ?_ ?_⟩
    · rintro i σ H4 hi ⟨kv, so, qs, ls, rfl, le, lq, okl, tu, hL, P4, b4⟩
      refine ⟨.ref p, rfl, .ref q, rfl, p, c, n + 2 + 12 * i, q, ys, rfl, P4, by omega, SqL.of (b4 _ _ qp hq), by omega, wy, fun l zs H5 pz P5 b5 nl hl => ?_⟩
      have lz := pz.length_eq
      refine ⟨.ref p, rfl, (show 6 ≤ sizeLine by decide), fun I2 nI2 => ⟨p, c, n + 2 + 12 * i + ys.length, I2, _, rfl, P5.same (Same.new nI2) (Nat.le_refl _), by omega, upd_same, by decide, by decide, fun i3 x3 H6 e3 P6 b6 => ?_⟩⟩
      obtain ⟨w3, rfl, w30, w32⟩ : ∃ m : Int, x3 = .int m ∧ 0 ≤ m ∧ m ≤ 2 := by
        have hm1 := List.mem_of_getElem? e3
        simp only [List.mem_cons, List.not_mem_nil, or_false] at hm1
        rcases hm1 with z | z | z | z | z | z <;> exact ⟨_, z, by decide, by decide⟩
      have lp : l ≠ p := fun e => by
        obtain ⟨cs, sp, re, S, _⟩ := P5.open
        rw [e, S.hp] at hl
        cases hl
      obtain ⟨ks, eks, lks, sub⟩ := cut_strs zs none (some w3)
      have k2 : ks.length ≤ 2 := by
        have := cut_two w30 w32 eks
        rw [List.length_map] at this
        exact this
      refine ⟨w3, rfl, l, zs.map V.str, rfl, SqL.of (b6 _ _ lp (Same.new nI2 _ _ hl)), fun D nD => ?_⟩
      rw [eks]
      have k46 : KeepU H4 H6 := ((KeepU.pen P4 b5).trans (KeepU.same (Same.new nI2))).trans (KeepU.pen (P5.same (Same.new nI2) (Nat.le_refl _)) b6)
      have b46 : But p H4 H6 := (b5.trans (But.of (Same.new nI2))).trans b6
      have L4p : L ≠ p := Lp
      have hL6 := b46 _ _ Lp hL
      refine ⟨.ref L, rfl, .inl ⟨rfl, _, SqL.of (Same.new nD _ _ hL6)⟩, .ref D, rfl, D, ks, rfl, .inl (SqL.of upd_same), by omega, fun S nS => ?_⟩
      refine ⟨S, ded ks, rfl, upd_same, by have := ded_len ks; omega, fun us U pu su nU => ⟨U, _, rfl, .inl ⟨SqL.of upd_same, fun T0 nT0 => ?_⟩⟩⟩
      have sDT := (((Same.new (o := .lst (ks.map V.str)) nD).trans (Same.new (o := SetS P w S (ded ks)) nS)).trans (Same.new (o := .lst (us.map V.str)) nU)).trans (Same.new (o := .tup (us.map V.str)) nT0)
      have hT0 : (upd (upd (upd (upd H6 D (.lst (ks.map V.str))) S (SetS P w S (ded ks))) U (.lst (us.map V.str))) T0 (.tup (us.map V.str))) T0 = some (.tup (us.map V.str)) := upd_same
      have hL7 := sDT _ _ hL6
      refine ⟨L, _, .ref T0, rfl, rfl, hL7, ?_, _, _, qs ++ [T0], ls ++ [us], rfl, by rw [List.length_append, le]; rfl, by rw [List.length_append, lq]; rfl, ?_, ?_, ?_, ?_, ?_⟩
      · rw [List.length_append, List.length_map, lq, sizeLine_eq]
        show 2 + i < _
        omega
      · intro y hy
        rcases List.mem_append.mp hy with z | z
        · exact okl y z
        · rw [List.mem_singleton.mp z]
          exact ⟨⟨(okW_ded (fun x hx => wy x (pz.mem_iff.mp (sub x hx))) (by omega)).perm pu, su⟩, by have := ded_len ks; rw [pu.length_eq]; omega⟩
      · exact ((tu.keep (k46.trans (KeepU.same sDT))).snoc hT0).keep (KeepU.upd hL7)
      · rw [upd_same, List.map_append, List.append_assoc]
        rfl
      · exact (pen_off (P6.same sDT (Nat.le_refl _)) Lp Lc).same (Same.refl _) (by omega)
      · intro b o nb z
        have z7 := sDT _ _ (b46 b o nb (b4 b o nb z))
        rw [upd_ne (fun e => by rw [e] at z; have y := all b o nb (by rw [e]; exact z); rw [e, nL] at y; cases y)]
        exact z7
    · rintro σ H4 ⟨kv, so, qs, ls, rfl, le, lq, okl, tu, hL, P4, b4⟩
      match qs, ls, lq, le, tu with
      | [t1, t2, t3, t4], [l1, l2, l3, l4], _, _, tu =>
        refine ⟨.ref L, rfl, L, _, rfl, .inl ⟨SqL.of hL, fun t nt => ?_⟩⟩
        have s9 : Same H4 (upd H4 t (.tup ([rV ro, V.int m] ++ [V.ref t1, V.ref t2, V.ref t3, V.ref t4]))) := Same.new nt
        exact k t ⟨ro, m, l1, l2, l3, l4⟩ _ ⟨t1, t2, t3, t4, upd_same, s9 _ _ tu.1, s9 _ _ tu.2.1, s9 _ _ tu.2.2.1, s9 _ _ tu.2.2.2.1⟩
          ⟨wro, m1, m3, (okl _ (by simp)).1, (okl _ (by simp)).1, (okl _ (by simp)).1, (okl _ (by simp)).1⟩ ⟨(okl _ (by simp)).2, (okl _ (by simp)).2, (okl _ (by simp)).2, (okl _ (by simp)).2⟩ (P4.same s9 (by omega)) (b4.trans (But.of s9))
end
end Fp1
set_option Elab.async false
set_option linter.all false
set_option maxRecDepth 100000
set_option maxHeartbeats 8000000
/-! _law_made_task, _law_shown -/
namespace Fp1
open PySem PySem.Spec PyProof.Rows L2 Fh Fs
open PySem.W (Frag)
abbrev sMade : Stmt := top 87
abbrev sShown : Stmt := top 88
theorem mk_task {K : Frag} {CT : Addr} {H : Hp} {Q : Addr → Hp → Prop} {E : XK} {T : TSk} {v1 v2 v3 v4 : V} {w1 w2 w3 w4 : List Str} (l1 : WL K H v1 w1) (l2 : WL K H v2 w2) (l3 : WL K H v3 w3) (l4 : WL K H v4 w4) (q1 : w1.Perm T.o) (q2 : w2.Perm T.s) (q3 : w3.Perm T.t) (q4 : w4.Perm T.f) (ok : OkT T)
    (k : ∀ x H', Same H H' → H x = none → TaskAt CT H' x T → Q x H') :
    ∀ x dx, H x = none → H dx = none → dx ≠ x → spTk K CT [.ref x, rV T.r, .int T.n, v1, v2, v3, v4] (upd (upd H dx (.own x)) x (.ins CT dx [])) (fun v H3 => v = .non ∧ Q x H3) E := by
  intro x dx hx hdx ne
  have hx2 : (upd H dx (.own x)) x = none := by rw [upd_ne (Ne.symm ne)]; exact hx
  have s2 : Same H (upd (upd H dx (.own x)) x (.ins CT dx [])) := (Same.new hdx).trans (Same.new hx2)
  refine ⟨x, dx, v1, v2, v3, v4, w1, w2, w3, w4, T, rfl, upd_same, l1.same s2, l2.same s2, l3.same s2, l4.same s2, q1, q2, q3, q4, ok, fun H' e at_ => ⟨rfl, k x H' (fun b o z => ?_) hx at_⟩⟩
  exact e b o (fun q => by rw [q, hx] at z; cases z) (s2 _ _ z)
theorem wl_l {K : Frag} {H : Hp} {a : Addr} {ws : List Str} (h : H a = some (.lst (ws.map V.str))) : WL K H (.ref a) ws := ⟨a, rfl, .inl (SqL.of h)⟩
section
variable {P : Program} {w : World} {K : Frag} {mg : Str → Option Value} {base : Heap} {aF aM aD CE aE CT aW aR aH aA aI gE g1 g2 g3 g4 g5 g6 p1 p2 p3 p4 p5 p6 : Addr} {fW fR fH fA fI fE f1 f2 f3 f4 f5 f6 : FuncData}
def spShown (CT : Addr) : Sp := fun vs H Q _ => ∃ a T, vs = [.ref a] ∧ TaskAt CT H a T ∧ ∀ t H', Same H H' → PlainAt H' t T → Q (.ref t) H'
theorem scShown : FnScope ["_law_one"] ["_law_one"] (defScope sShown) := ⟨rfl, rfl, rfl, by decide +kernel, rfl, by decide +kernel, by decide +kernel⟩
theorem ok_shown {f : Addr} {fd : FuncData} (F : Fun K "_law_shown" "_law_shown" sShown f fd) (G : Pkg K mg w aF aM aD CE aE CT aW aR aH aA aI fW fR fH fA fI) (M : Mets K CT gE g1 g2 g3 g4 g5 g6 p1 p2 p3 p4 p5 p6 fE f1 f2 f3 f4 f5 f6) : FnOk P w K mg base CX0 3 f fd ["_law_one"] (spShown CT) := by
  have G1 : FnOk P w K mg base CX0 1 g1 f1 ["self"] (getSp CT "_role") := ok_g1 G M.F1
  have G2 : FnOk P w K mg base CX0 1 g2 f2 ["self"] (getSp CT "_many") := ok_g2 G M.F2
  have G3 : FnOk P w K mg base CX0 1 g3 f3 ["self"] (getSp CT "_other") := ok_g3 G M.F3
  have G4 : FnOk P w K mg base CX0 1 g4 f4 ["self"] (getSp CT "_same") := ok_g4 G M.F4
  have G5 : FnOk P w K mg base CX0 1 g5 f5 ["self"] (getSp CT "_takes") := ok_g5 G M.F5
  have G6 : FnOk P w K mg base CX0 1 g6 f6 ["self"] (getSp CT "_forgets") := ok_g6 G M.F6
  have b1 : Binds K f1 ["self"] [] := M.F1.binds (ps := ["self"]) fun _ _ _ _ _ _ us hl => match us, hl with | [_], _ => rfl
  have b2 : Binds K f2 ["self"] [] := M.F2.binds (ps := ["self"]) fun _ _ _ _ _ _ us hl => match us, hl with | [_], _ => rfl
  have b3 : Binds K f3 ["self"] [] := M.F3.binds (ps := ["self"]) fun _ _ _ _ _ _ us hl => match us, hl with | [_], _ => rfl
  have b4 : Binds K f4 ["self"] [] := M.F4.binds (ps := ["self"]) fun _ _ _ _ _ _ us hl => match us, hl with | [_], _ => rfl
  have b5 : Binds K f5 ["self"] [] := M.F5.binds (ps := ["self"]) fun _ _ _ _ _ _ us hl => match us, hl with | [_], _ => rfl
  have b6 : Binds K f6 ["self"] [] := M.F6.binds (ps := ["self"]) fun _ _ _ _ _ _ us hl => match us, hl with | [_], _ => rfl
  refine F.ok scShown (fun vs H Q E h => ?_) (fun cdv A outer s H vs Q E hr h => ?_)
  · obtain ⟨a, T, rfl, _⟩ := h
    rfl
  · obtain ⟨a, T, rfl, ⟨dx, t1, t2, t3, t4, ha, h1, h2, h3, h4⟩, k⟩ := h
    refine ⟨_, pss_one (ps_ret (pe_tup (pa_cons (pe_prop (pv 0) G.C.cl M.p1 G1 hr b1 .nil pass0 (by rfl)) (pa_cons (pe_prop (pv 0) G.C.cl M.p2 G2 hr b2 .nil pass0 (by rfl)) (pa_cons (pe_prop (pv 0) G.C.cl M.p3 G3 hr b3 .nil pass0 (by rfl)) (pa_cons (pe_prop (pv 0) G.C.cl M.p4 G4 hr b4 .nil pass0 (by rfl)) (pa_cons (pe_prop (pv 0) G.C.cl M.p5 G5 hr b5 .nil pass0 (by rfl)) (pa_cons (pe_prop (pv 0) G.C.cl M.p6 G6 hr b6 .nil pass0 (by rfl)) pa_nil)))))))), ?_⟩
    refine ⟨_, rfl, a, dx, _, rfl, ha, a, dx, _, _, rfl, ha, rfl, ?_⟩
    refine ⟨_, rfl, a, dx, _, rfl, ha, a, dx, _, _, rfl, ha, rfl, ?_⟩
    refine ⟨_, rfl, a, dx, _, rfl, ha, a, dx, _, _, rfl, ha, rfl, ?_⟩
    refine ⟨_, rfl, a, dx, _, rfl, ha, a, dx, _, _, rfl, ha, rfl, ?_⟩
    refine ⟨_, rfl, a, dx, _, rfl, ha, a, dx, _, _, rfl, ha, rfl, ?_⟩
    refine ⟨_, rfl, a, dx, _, rfl, ha, a, dx, _, _, rfl, ha, rfl, ?_⟩
    refine ⟨(show 6 ≤ sizeLine by decide), fun t nt => ?_⟩
    have s1 := Same.new (o := .tup [rV T.r, .int T.n, .ref t1, .ref t2, .ref t3, .ref t4]) nt
    exact k t _ s1 ⟨t1, t2, t3, t4, upd_same, s1 _ _ h1, s1 _ _ h2, s1 _ _ h3, s1 _ _ h4⟩
abbrev NMade : List Str := ["_law_one", "_law_duty", "_law_size", "_law_first", "_law_second", "_law_third", "_law_fourth"]
def spMade (CT : Addr) : Sp := fun vs H Q _ => ∃ t T, vs = [.ref t] ∧ PlainAt H t T ∧ OkT T ∧ ∀ a H', Same H H' → H a = none → TaskAt CT H' a T → Q (.ref a) H'
theorem scMade : FnScope NMade ["_law_one"] (defScope sMade) := ⟨rfl, rfl, rfl, by decide +kernel, rfl, by decide +kernel, by decide +kernel⟩
theorem ok_made {f : Addr} {fd : FuncData} (F : Fun K "_law_made_task" "_law_made_task" sMade f fd) (G : Pkg K mg w aF aM aD CE aE CT aW aR aH aA aI fW fR fH fA fI) : FnOk P w K mg base CX0 6 f fd ["_law_one"] (spMade CT) := by
  have GI : FnOk P w K mg base CX0 4 aI fI PSI (spTk K CT) := ok_tk G
  have kF := kb_full G
  refine F.ok scMade (fun vs H Q E h => ?_) (fun cdv A outer s H vs Q E hr h => ?_)
  · obtain ⟨t, T, rfl, _⟩ := h
    rfl
  · obtain ⟨t, T, rfl, ⟨t1, t2, t3, t4, h0, h1, h2, h3, h4⟩, ok, k⟩ := h
    have nd := scMade.nd
    refine' ⟨_, pss_cons (ps_asg (pv 0) (pg_tup (n := 6) rfl (pgs_cons (pg_name (i := 1) nd rfl (Or.inl rfl)) (pgs_cons (pg_name (i := 2) nd rfl (Or.inl rfl)) (pgs_cons (pg_name (i := 3) nd rfl (Or.inl rfl)) (pgs_cons (pg_name (i := 4) nd rfl (Or.inl rfl)) (pgs_cons (pg_name (i := 5) nd rfl (Or.inl rfl)) (pgs_cons (pg_name (i := 6) nd rfl (Or.inl rfl)) pgs_nil))))))))
      (pss_one (ps_ret (pe_makeK (ks := ["many", "other", "same", "takes", "forgets"]) G.mkC GI hr rfl G.C.gC kF pass0 (pa_cons (pv 1) pa_nil) (pk_cons (pv 2) (pk_cons ?a (pk_cons ?b (pk_cons ?c (pk_cons ?d pk_nil)))))))), ?q⟩
    case a => exact pe_callTy call_list_of (by rfl) G.T.list (by decide +kernel) (pa_cons (pv 3) pa_nil)
    case b => exact pe_callTy call_list_of (by rfl) G.T.list (by decide +kernel) (pa_cons (pv 4) pa_nil)
    case c => exact pe_callTy call_list_of (by rfl) G.T.list (by decide +kernel) (pa_cons (pv 5) pa_nil)
    case d => exact pe_callTy call_list_of (by rfl) G.T.list (by decide +kernel) (pa_cons (pv 6) pa_nil)
    case q =>
      refine ⟨_, rfl, t, _, rfl, SqT.of h0, rfl, _, _, rfl, gName_go ⟨_, _, rfl, gName_go ⟨_, _, rfl, gName_go ⟨_, _, rfl, gName_go ⟨_, _, rfl, gName_go ⟨_, _, rfl, gName_go ⟨rfl, ?_⟩⟩⟩⟩⟩⟩⟩
      with_reducible conv => whnf
      refine ⟨_, rfl, _, rfl, _, rfl, t1, _, rfl, .inr (SqT.of h1), fun l1 n1 => ?_⟩
      have s1 : Same H (upd H l1 (.lst (T.o.map V.str))) := Same.new n1
      have e1 : (upd H l1 (.lst (T.o.map V.str))) l1 = some (.lst (T.o.map V.str)) := upd_same
      generalize upd H l1 (.lst (T.o.map V.str)) = H1 at s1 e1 ⊢
      refine ⟨_, rfl, t2, _, rfl, .inr (SqT.of (s1 _ _ h2)), fun l2 n2 => ?_⟩
      have s2 : Same H1 (upd H1 l2 (.lst (T.s.map V.str))) := Same.new n2
      have e2 : (upd H1 l2 (.lst (T.s.map V.str))) l2 = some (.lst (T.s.map V.str)) := upd_same
      generalize upd H1 l2 (.lst (T.s.map V.str)) = H2 at s2 e2 ⊢
      have s12 := s1.trans s2
      refine ⟨_, rfl, t3, _, rfl, .inr (SqT.of (s12 _ _ h3)), fun l3 n3 => ?_⟩
      have s3 : Same H2 (upd H2 l3 (.lst (T.t.map V.str))) := Same.new n3
      have e3 : (upd H2 l3 (.lst (T.t.map V.str))) l3 = some (.lst (T.t.map V.str)) := upd_same
      generalize upd H2 l3 (.lst (T.t.map V.str)) = H3 at s3 e3 ⊢
      have s13 := s12.trans s3
      refine ⟨_, rfl, t4, _, rfl, .inr (SqT.of (s13 _ _ h4)), fun l4 n4 => ?_⟩
      have s4 : Same H3 (upd H3 l4 (.lst (T.f.map V.str))) := Same.new n4
      have e4 : (upd H3 l4 (.lst (T.f.map V.str))) l4 = some (.lst (T.f.map V.str)) := upd_same
      generalize upd H3 l4 (.lst (T.f.map V.str)) = H4 at s4 e4 ⊢
      have s34 := s3.trans s4
      have s14 := s13.trans s4
      refine ⟨rfl, rfl, ?_⟩
      refine mk_task (wl_l ((s2.trans s34) _ _ e1)) (wl_l (s34 _ _ e2)) (wl_l (s4 _ _ e3)) (wl_l e4) (.refl _) (.refl _) (.refl _) (.refl _) ok fun a H' s' na at_ => ?_
      exact k a H' (s14.trans s') (none_back s14 na) at_
end
end Fp1
set_option Elab.async false
set_option linter.all false
set_option maxRecDepth 100000
set_option maxHeartbeats 1000000
/-! == of two dicts (or lists) whose values are the same objects or equal data -/
namespace Fh
open PySem PySem.Spec PyProof.Rows L2
/-- the same object, or equal data -/
def EqW (K : PySem.W.Frag) (H : Hp) (x y : V) : Prop := (∃ a, x = .ref a ∧ y = .ref a) ∨ ∃ d, Dp K H x d ∧ Dp K H y d ∧ SeqAt.shaped d = true
def rEqW (K : PySem.W.Frag) : R2 := fun x y H Q => EqR K H (EqW K H) x y ∧ Q (.bl true) H
theorem eqW_run {X : Cx} {pins : List (Addr × Obj)} {σ : L2.St} {H : Hp} {s : Shared} (I : Inv X pins σ H s) {A : Around} (hu : A.units + 64 < cLine) (x y : V) (v u : Value) (h : EqW X.K H x y) (rx : RelV x v) (ry : RelV y u) : SeqAt.EqP X.prog X.w A s v u true := by
  rcases h with ⟨a, rfl, rfl⟩ | ⟨d, dx, dy, sh⟩
  · cases (show v = Value.ref a from rx)
    cases (show u = Value.ref a from ry)
    exact (SeqAt.EqAt.same _).eqP
  · obtain ⟨as, r1⟩ := Dp.reads I d x v dx rx
    obtain ⟨bs, r2⟩ := Dp.reads I d y u dy ry
    have lay := SeqAt.canLay_of_shaped sh
    intro E Q q
    refine SeqAt.eqAt_reads d d A s v u as bs r1 r2 lay lay (SeqAt.room_of_shaped sh hu) X.prog X.w E Q ?_
    rw [SeqAt.eqv_refl d lay]
    exact q
theorem op_eqW {X : Cx} (hu : X.A.units + 66 < cLine) : OpR X (compareOp .Eq) (rEqW X.K) := by
  intro pins s σ H x y v u Q I rx ry h
  obtain ⟨h, q⟩ := h
  exact eqR_run I (A := X.A) (by omega) (eqW_run I (A := X.A.in1) (by show X.A.units + 1 + 64 < cLine; omega)) h rx ry _ _ ⟨.bl true, H, I, rfl, q⟩
end Fh
set_option Elab.async false
set_option linter.all false
set_option maxRecDepth 100000
set_option maxHeartbeats 4000000
/-! FzV: x in o, x not in o, len(o) by own __contains__ and __len__ -/
namespace Fs
open PySem PySem.Spec PyProof.Rows L2
open PySem.W (Frag)
section
variable {X : Cx} {CX : CXT} {k n : Nat} {g C : Addr} {sp : Sp} {E : XK}
/-- x in o, o an instance of the class at C with its own __contains__ -/
def rInO (C : Addr) (sp : Sp) (E : XK) : R2 := fun x y H Q => ∃ a dx fs, y = .ref a ∧ H a = some (.ins C dx fs) ∧ sp [y, x] H (fun v H' => ∃ c, v = .bl c ∧ Q (.bl c) H') E
theorem op_inO (hs : PySem.W.findIn X.K (.ref C) "__contains__" = some (some (.ref g))) (hf : PySem.W.isFn X.K (.ref g) = true) (F : FnR X.prog X.w X.K X.mg X.base CX n g sp) (hr : Room n X.A) (hx : Passes CX X E) : OpR X (compareOp .In) (rInO C sp E) := by
  intro pins s σ H x y v u Q I rx ry h
  obtain ⟨a, dx, fs, rfl, ea, q⟩ := h
  cases (show u = Value.ref a from ry)
  obtain ⟨mA, O, _, _, _, _⟩ := ins_get I.hok ea
  obtain ⟨od, J, _⟩ := O.look
  obtain ⟨m, hF⟩ := I.fr
  refine PySem.W.in_K hF I.ok.mod.kin J hs hf (wpAny_mono (wpAny_call (run_fnR (us := [.ref a, v]) (vs := [.ref a, x]) F hr hx I (.cons rfl (.cons rx .nil)) q)) (fun w s' z => ?_) fun _ _ x => x)
  obtain ⟨z', H', I', rz, c, ec, qz⟩ := z
  subst ec
  cases (show w = Value.bool c from rz)
  exact wpAny_truthy_bool ⟨.bl c, H', I', rfl, qz⟩
/-- x not in o -/
def rNinO (C : Addr) (sp : Sp) (E : XK) : R2 := fun x y H Q => ∃ a dx fs, y = .ref a ∧ H a = some (.ins C dx fs) ∧ sp [y, x] H (fun v H' => ∃ c, v = .bl c ∧ Q (.bl (!c)) H') E
theorem op_ninO (hs : PySem.W.findIn X.K (.ref C) "__contains__" = some (some (.ref g))) (hf : PySem.W.isFn X.K (.ref g) = true) (F : FnR X.prog X.w X.K X.mg X.base CX n g sp) (hr : Room n X.A) (hx : Passes CX X E) : OpR X (compareOp .NotIn) (rNinO C sp E) := by
  intro pins s σ H x y v u Q I rx ry h
  obtain ⟨a, dx, fs, rfl, ea, q⟩ := h
  cases (show u = Value.ref a from ry)
  obtain ⟨mA, O, _, _, _, _⟩ := ins_get I.hok ea
  obtain ⟨od, J, _⟩ := O.look
  obtain ⟨m, hF⟩ := I.fr
  refine PySem.W.notIn_K hF I.ok.mod.kin J hs hf (wpAny_mono (wpAny_call (run_fnR (us := [.ref a, v]) (vs := [.ref a, x]) F hr hx I (.cons rfl (.cons rx .nil)) q)) (fun w s' z => ?_) fun _ _ x => x)
  obtain ⟨z', H', I', rz, c, ec, qz⟩ := z
  subst ec
  cases (show w = Value.bool c from rz)
  exact wpAny_truthy_bool ⟨.bl (!c), H', I', rfl, qz⟩
/-- len(o) by its own __len__ -/
def rLenO (C : Addr) (sp : Sp) (E : XK) : List V → Hp → VK → Prop := fun xs H Q => ∃ a dx fs, xs = [.ref a] ∧ H a = some (.ins C dx fs) ∧ sp [.ref a] H (fun v H' => ∃ i : Int, v = .int i ∧ 0 ≤ i ∧ i < 2 ^ 63 ∧ Q (.int i) H') E
theorem call_lenO (hs : PySem.W.findIn X.K (.ref C) "__len__" = some (some (.ref g))) (hf : PySem.W.isFn X.K (.ref g) = true) (F : FnR X.prog X.w X.K X.mg X.base CX n g sp) (hr : Room (n + 1) X.A) (hx : Passes CX X E) : CallR X (.builtin "len") (rLenO C sp E) := by
  intro pins s σ H xs us Q I r h
  obtain ⟨a, dx, fs, rfl, ea, q⟩ := h
  obtain ⟨u, rfl, ru⟩ := r.one
  cases (show u = Value.ref a from ru)
  obtain ⟨mA, O, _, _, _, _⟩ := ins_get I.hok ea
  obtain ⟨od, J, _⟩ := O.look
  obtain ⟨m, hF⟩ := I.fr
  refine PySem.W.len_K hF I.ok.mod.kin J hs hf (wpAny_mono (wpAny_call (SlX.run_at (us := [.ref a]) (ws := [.ref a]) F hr.in1 I.env0.in1 hx I (.cons rfl .nil) q)) (fun w s' z => ?_) fun _ _ x => x)
  obtain ⟨z', H', I', rz, i, ec, h0, h1, qz⟩ := z
  subst ec
  obtain ⟨t, rfl⟩ := (show ∃ t, w = Value.int i t from rz)
  exact ⟨⟨h0, h1⟩, .int i, H', I'.tok _, ⟨_, rfl⟩, qz⟩
/-- the type of the right operand is not one below C: a list too -/
def OthX (K : Frag) (C : Addr) (H : Hp) (y : V) : Prop := Oth K C H y ∨ ∃ b xs, y = .ref b ∧ H b = some (.lst xs) ∧ PySem.W.notFirst K C (.type "list") = true
theorem OthX.looks {K : Frag} {pins : List (Addr × Obj)} {s : Shared} {σ : L2.St} {H : Hp} {y : V} {u : Value} (o : OthX K C H y) (I : Inv X pins σ H s) (ry : RelV y u) :
    ∃ tb, PySem.W.Looks (model X.prog X.w) s.heap (typeOf u) tb ∧ PySem.W.notFirst K C tb = true := by
  rcases o with o | ⟨b, xs, rfl, eb, hn⟩
  · exact o.looks I ry
  · obtain rfl : u = Value.ref b := ry
    obtain ⟨_, its, m, rv, h1⟩ := (show ObjOk X.prog X.w H s.heap b (.lst xs) from I.hok b _ eb)
    refine ⟨.type "list", ?_, hn⟩
    have e := (PySem.W.Looks.ld (M := model X.prog X.w) (part := none) h1).andThen (f := fun o => pure o.cls) .now
    intro A Q E s k q
    exact wpAny_typeOf_ref (k _ _ h1) q
def rEqOX (K : Frag) (C : Addr) (sp : Sp) (E : XK) : R2 := fun x y H Q => ∃ a dx fs, x = .ref a ∧ H a = some (.ins C dx fs) ∧ OthX K C H y ∧ sp [x, y] H Q E
theorem op_eqOX (hs : PySem.W.findIn X.K (.ref C) "__eq__" = some (some (.ref g))) (hf : PySem.W.isFn X.K (.ref g) = true) (F : FnR X.prog X.w X.K X.mg X.base CX n g sp) (hr : Room n X.A) (hx : Passes CX X E) : OpR X (compareOp .Eq) (rEqOX X.K C sp E) := by
  intro pins s σ H x y v u Q I rx ry h
  obtain ⟨a, dx, fs, rfl, ea, o, q⟩ := h
  cases (show v = Value.ref a from rx)
  obtain ⟨mA, O, _, _, _, _⟩ := ins_get I.hok ea
  obtain ⟨od, J, _⟩ := O.look
  obtain ⟨m, hF⟩ := I.fr
  obtain ⟨tb, ht, hn⟩ := o.looks I ry
  show wpAny _ _ (richCompare .Eq _ _) _ _ _
  refine PySem.W.cmp_K (op := .Eq) (tb := tb) hr.units0 hF I.ok.mod.kin J ht hn hs hf ?_
  refine wpAny_mono (wpAny_call (run_fnR (us := [.ref a, u]) (vs := [.ref a, y]) F hr hx I (.cons rfl (.cons ry .nil)) q)) (fun w s' z => ?_) fun _ _ x => x
  obtain ⟨z', H', I', rz, qz⟩ := z
  exact SlX.cmpback rz ⟨z', H', I', rz, qz⟩
/-- the promise at A, what is raised wished for at the caller's slots -/
theorem run_atS {pins : List (Addr × Obj)} {σ : L2.St} {H : Hp} {s : Shared} {A : Around} {Q : VK} {us : List Value} {ws : List V} {E : XK} (F : FnR X.prog X.w X.K X.mg X.base CX n g sp) (hr : Room n A) (e0 : Env0 X.prog X.w X.K X.mg X.base A X.stack s H) (hx : PassesAt CX X σ E) (I : Inv X pins σ H s) (r : Vals ws us) (h : sp ws H Q E) :
    codeAny (model X.prog X.w) A (.call (.ref g) ⟨us, []⟩) (fun r s' => match r with | .ok (.ret v) => EP X pins σ Q v s' | .ok _ => False | .error e => X.xe e s') s := by
  refine codeAny_mono (F A X.stack s H us ws Q E hr e0 r h) fun r s' hq => ?_
  cases r with
  | error e => exact hx pins H s e s' I hq
  | ok fl =>
    cases fl with
    | ret u => exact I.after hq
    | next => exact False.elim hq
    | brk => exact False.elim hq
    | cont => exact False.elim hq
/-- o[y] by an own __getitem__ that may raise, in a try -/
def tIxOS (C : Addr) (sp : Sp) (E : L2.St → XK) (ta tb : TE) : TE := fun σ H Q => ta σ H fun x H1 => tb σ H1 fun y H2 => ∃ a dx fs, x = .ref a ∧ H2 a = some (.ins C dx fs) ∧ sp [x, y] H2 Q (E σ)
theorem pe_ixOS {E : L2.St → XK} {a b : Expr} {pos : Pos} {ta tb : TE} (hs : PySem.W.findIn X.K (.ref C) "__getitem__" = some (some (.ref g))) (hg : PySem.W.fnIn X.K g = true) (hf : PySem.W.isFn X.K (.ref g) = true) (F : FnR X.prog X.w X.K X.mg X.base CX k g sp) (hr : Room (k + 1) X.A) (hx : ∀ σ, PassesAt CX X σ (E σ))
    (ha : PE X a ta) (hb : PE X b tb) (hsl : ∀ o i, subscripted b true o i = runValue (.builtin "lifetime.subscript" ⟨[o, i], []⟩) := by intro _ _; with_unfolding_all rfl) : PE X (.Subscript a b pos) (tIxOS C sp E ta tb) := by
  refine ⟨fun pins s σ H Q I h => ?_⟩
  refine Subscript_ (thn (ha.run pins s σ H _ I h) fun u s1 ⟨x, H1, I1, rx, q1⟩ => thn (hb.run pins s1 σ H1 _ I1 q1) fun iv s2 ⟨y, H2, I2, ry, a', dx, fs, ex, ea, q2⟩ => ?_)
  subst ex
  obtain rfl : u = Value.ref a' := rx
  obtain ⟨mA, O, _, _, _, _⟩ := ins_get I2.hok ea
  obtain ⟨od, J, _⟩ := O.look
  obtain ⟨m, hF⟩ := I2.fr
  refine PySem.W.sub_K hF I2.ok.mod.kin J hs hg hf (wpAny_call (run_atS (us := [.ref a', iv]) (ws := [.ref a', y]) F hr.in1 I2.env0.in1 (hx σ) I2 (.cons rfl (.cons ry .nil)) q2)) (hsl _ _)
end
end Fs
set_option Elab.async false
set_option linter.all false
set_option maxRecDepth 100000
set_option maxHeartbeats 4000000
/-! FzW: == of two dicts whose values are equal by an own ==; both locked meanwhile -/
namespace PySem.W
open PySem PySem.Calls PyProof.Rows PySem.Spec
section
variable {prog : Program} {w : World} {K : Type} [DecidableEq K] {knd : KeyKind prog w K} {A : Around} {E : Value → Shared → Prop} {s : Shared}
theorem samePairsF {nm : String} {a b : Addr} {ka kb : List (K × Value)} {oa ob : Obj} {es es' : Array DictEntry} {ep ep' : Nat} (J : Shared → Prop) {Q : Bool → Shared → Prop} (ha : (a == sysModules) = false) (hb : (b == sysModules) = false)
    (ga : ∀ s, J s → s.heap.get? a = some oa) (gb : ∀ s, J s → s.heap.get? b = some ob) (hda : oa.data = .dict es ep) (hdb : ob.data = .dict es' ep') (hka : KeysOf knd es) (hkb : KeysOf knd es') (hpa : Pairs knd es.toList ka) (hpb : Pairs knd es'.toList kb)
    (hlen : ka.length = kb.length) (turn : ∀ k v, (k, v) ∈ ka → ∃ y, valueAt kb k = some y ∧ ∀ s, J s → wpAny (model prog w) A (eqBool v y) (fun r s' => r = true ∧ J s') E s)
    (fin : ∀ s, J s → Q true s) (h : J s) : wpAny (model prog w) A (Builtin.Dict.samePairs nm a b) Q E s := by
  have hla : ka.length = es.size := by rw [← hpa.length]; exact Array.length_toList
  have hlb : kb.length = es'.size := by rw [← hpb.length]; exact Array.length_toList
  have hfind : ∀ k, findBy knd.is es' k = valueAt kb k := fun k => by
    rw [← hpb.find k]
    clear hlb hpb hkb hdb
    obtain ⟨l⟩ := es'
    simp [findBy]
  have hsz : es.size = es'.size := by rw [← hla, ← hlb]; exact hlen
  unfold Builtin.Dict.samePairs Builtin.Dict.showsAll
  rw [if_neg (show ¬ (a == sysModules) = true by rw [ha]; exact Bool.false_ne_true), if_neg (show ¬ (b == sysModules) = true by rw [hb]; exact Bool.false_ne_true)]
  refine wpAny_bind (wpAny_pure (wpAny_bind (wpAny_pure ?_)))
  refine wpAny_bind (wpAny_dictEntries (ga s h) hda ?_)
  dsimp only
  refine wpAny_bind (wpAny_dictEntries (gb s h) hdb ?_)
  rw [if_neg (by rw [hsz]; simp)]
  refine wpAny_bind (wpAny_dictEpoch (ga s h) hda ?_)
  refine wpAny_bind ?_
  rw [Std.Legacy.Range.forIn_eq_forIn_range']
  simp only [Std.Legacy.Range.size, Nat.sub_zero, Nat.add_sub_cancel, Nat.div_one]
  refine wpAny_forIn_list _
    (fun rest q s' => J s' ∧ q = (none, ()) ∧ ∃ i, rest = List.range' i (es.size - i) ∧ i ≤ es.size)
    _ ?_ ?_ _ _ ⟨h, rfl, 0, by simp, Nat.zero_le _⟩
  · rintro x rest q s' ⟨hJ, rfl, i, hr, hi⟩
    have hlt : i < es.size := by
      rcases Nat.lt_or_ge i es.size with h | h
      · exact h
      · rw [Nat.sub_eq_zero_of_le h] at hr; simp at hr
    obtain ⟨rfl, hrest⟩ : x = i ∧ rest = List.range' (i + 1) (es.size - (i + 1)) := by
      have e : es.size - i = (es.size - (i + 1)) + 1 := by omega
      rw [e, List.range'_succ] at hr
      injection hr with h1 h2
      exact ⟨h1, h2⟩
    refine wpAny_bind (wpAny_dictEntries (ga _ hJ) hda ?_)
    rw [Array.getElem?_eq_getElem hlt]
    have hlt' : x < ka.length := by rw [hla]; exact hlt
    obtain ⟨k, v, hkv⟩ : ∃ k v, ka[x] = (k, v) := ⟨_, _, rfl⟩
    obtain ⟨hkey, hval⟩ := hpa.get? (i := x) (e := es[x]) (k := k) (v := v) (by rw [Array.getElem?_toList]; exact Array.getElem?_eq_getElem hlt) (by rw [List.getElem?_eq_getElem hlt', hkv])
    obtain ⟨k', hk', hh⟩ := hka es[x] (Array.getElem_mem hlt)
    have ekk : k' = k := knd.inj _ _ _ hk' hkey
    rw [ekk] at hh
    have hmem : (k, v) ∈ ka := by rw [← hkv]; exact List.getElem_mem hlt'
    obtain ⟨y, hy, he⟩ := turn k v hmem
    show wpAny _ _ (holding [es[x].key, es[x].val] _ >>= _) _ _ _
    rw [hh]
    refine wpAny_bind (wpAny_holding (wpAny_bind (wpAny_dictFind_of hkey (gb _ hJ) hdb hkb ?_)))
    cases hj : es'.findIdx? fun e => knd.is k e.key with
    | none =>
      have hn : valueAt kb k = none := by rw [← hfind k, findBy_of_findIdx?, hj]
      rw [hn] at hy
      exact nomatch hy
    | some j =>
      obtain ⟨hjlt, _, _⟩ := Array.findIdx?_eq_some_iff_getElem.mp hj
      have hv' : valueAt kb k = some es'[j].val := by
        rw [← hfind k, findBy_of_findIdx?, hj]
        simp [Array.getElem?_eq_getElem hjlt]
      refine wpAny_bind (wpAny_dictEntries (gb _ hJ) hdb ?_)
      rw [Array.getElem?_eq_getElem hjlt]
      have ey : es'[j].val = y := Option.some.inj (hv'.symm.trans hy)
      have he := he s' hJ
      rw [← ey, ← hval] at he
      refine wpAny_holding (wpAny_mono he (fun r s2 z => ?_) fun _ _ x => x)
      obtain ⟨hr', hJ2⟩ := z
      subst hr'
      show wpAny _ _ (if (!true) = true then _ else _) _ _ _
      rw [if_neg (by decide)]
      refine wpAny_bind (wpAny_dictEpoch (ga _ hJ2) hda ?_)
      rw [if_neg (by simp)]
      exact wpAny_pure ⟨hJ2, rfl, x + 1, hrest, hlt⟩
  · rintro q s' ⟨hJ, rfl, i, hr, hi⟩
    exact wpAny_pure (fin _ hJ)
theorem rcF_dicts {a b : Addr} {ka kb : List (K × Value)} {oa ob : Obj} {es es' : Array DictEntry} {ep ep' : Nat} (J : Shared → Prop) (ha : (a == sysModules) = false) (hb : (b == sysModules) = false)
    (ga : ∀ s, J s → s.heap.get? a = some oa) (gb : ∀ s, J s → s.heap.get? b = some ob) (hea : oa.ExactDict) (heb : ob.ExactDict) (hda : oa.data = .dict es ep) (hdb : ob.data = .dict es' ep') (hka : KeysOf knd es) (hkb : KeysOf knd es') (hpa : Pairs knd es.toList ka) (hpb : Pairs knd es'.toList kb)
    (nda : (ka.map (·.1)).Nodup) (ndb : (kb.map (·.1)).Nodup) (hlen : ka.length = kb.length) (hu : A.units < cLine)
    (turn : ∀ k v, (k, v) ∈ ka → ∃ y, valueAt kb k = some y ∧ ∀ s, J s → wpAny (model prog w) A.in1 (eqBool v y) (fun r s' => r = true ∧ J s') E s)
    (Q : Value → Shared → Prop) (fin : ∀ s, J s → Q (.bool true) s) (h : J s) : wpAny (model prog w) A (richCompare .Eq (.ref a) (.ref b)) Q E s := by
  have da : s.heap.DictOf knd a ka := ⟨oa, es, ep, ga s h, hea, hda, hka, hpa, nda⟩
  have db : s.heap.DictOf knd b kb := ⟨ob, es', ep', gb s h, heb, hdb, hkb, hpb, ndb⟩
  refine wpAny_richCompare_same_room (op := .Eq) da.typeIs db.typeIs PySem.F.slot_dict_eq (wpAny_call_entry PySem.F.slot_dict_eq da.typeIs PySem.F.entry_dict_eq ?_ (PySem.F.args_dict_eq_2 _ _)) hu
  show wpAny _ _ (Builtin.Dict.dictSlotArgs "__eq__" ⟨[.ref a, .ref b], []⟩ >>= _) _ _ s
  refine wpAny_bind ?_
  unfold Builtin.Dict.dictSlotArgs
  refine wpAny_bind (wpAny_notOrdered_dict da.typeIs ?_)
  show wpAny _ _ (pure (Value.ref a, Value.ref b)) _ _ s
  refine wpAny_pure ?_
  refine wpAny_bind (wpAny_isInstance (T := "dict") db.typeIs PySem.F.sub_dict_dict ?_)
  simp only [Bool.not_true, Bool.false_eq_true, if_false]
  refine wpAny_bind (wpAny_pure (wpAny_bind (wpAny_pure ?_)))
  refine wpAny_bind (samePairsF (Q := fun r s' => r = true ∧ J s') J ha hb ga gb hda hdb hka hkb hpa hpb hlen turn (fun s' z => ⟨rfl, z⟩) h |> fun z => wpAny_mono z (fun r s' q => ?_) fun _ _ x => x)
  obtain ⟨rfl, hJ⟩ := q
  refine wpAny_pure ⟨_, rfl, ?_, ?_⟩
  · exact fun x => nomatch x
  · simpa using fin _ hJ
end
end PySem.W
namespace L2
open PySem PySem.Spec PyProof.Rows
theorem kv_getM {κ : Type} [DecidableEq κ] {ks : List (κ × V)} {vs : List (κ × Value)} (r : KV ks vs) {k : κ} {v : Value} (h : (k, v) ∈ vs) : ∃ x, (k, x) ∈ ks ∧ RelV x v := by
  unfold KV at r
  induction r with
  | nil => exact nomatch h
  | @cons p q ps qs hh t ih =>
    rcases List.mem_cons.mp h with e | h
    · obtain ⟨pk, w⟩ := p
      subst e
      obtain ⟨h1, h2⟩ := hh
      have h1 : pk = k := h1
      subst h1
      exact ⟨w, List.mem_cons_self, h2⟩
    · obtain ⟨x, m, r⟩ := ih h
      exact ⟨x, List.mem_cons_of_mem _ m, r⟩
section
variable {X : Cx} {n : Nat} {D : Eqv}
/-- a lock, or none -/
theorem pe_olock {e : Expr} {t : TE} (h : PE X e t) : PE X e (fun σ H Q => t σ H Q ∨ tLockE t σ H Q) :=
  ⟨fun pins s σ H Q I hw => hw.elim (h.run pins s σ H Q I) ((pe_lock h).run pins s σ H Q I)⟩
/-- two locked dicts of the same keys, their values equal by D -/
def rEqDF (D : Eqv) : R2 := fun x y H Q => ∃ a b oa ob ks ls, x = .ref a ∧ y = .ref b ∧ H a = some (.frz oa (.dK ks)) ∧ H b = some (.frz ob (.dK ls)) ∧ ks.length = ls.length ∧ (∀ p ∈ ks, ∃ u, valV ls p.1 = some u ∧ D p.2 u H) ∧ ∀ H', Ext H H' → Q (.bl true) H'
theorem op_eqDF (hD : Mon D) (h : EqG X n D) (hr : Room (n + 1) X.A) : OpR X (compareOp .Eq) (rEqDF D) := by
  intro pins s σ H x y v u Q I rx ry hq
  obtain ⟨a, b, oa, ob, ks, ls, rfl, rfl, ea, eb, hl, hp, q⟩ := hq
  cases (show v = Value.ref a from rx)
  cases (show u = Value.ref b from ry)
  obtain ⟨ga, xa⟩ := (show ObjOk X.prog X.w H s.heap a (.frz oa (.dK ks)) from I.hok a _ ea)
  obtain ⟨gb, xb⟩ := (show ObjOk X.prog X.w H s.heap b (.frz ob (.dK ls)) from I.hok b _ eb)
  obtain ⟨_, ya, va, ra, oa', es, ep, ha1, ha2, ha3, ha4, ha5, ha6⟩ := (show ObjOk X.prog X.w H s.heap a (.dK ks) from xa)
  obtain ⟨_, yb, vb, rb, ob', es', ep', hb1, hb2, hb3, hb4, hb5, hb6⟩ := (show ObjOk X.prog X.w H s.heap b (.dK ls) from xb)
  have ga' : s.heap.get? a = some oa := ga
  have gb' : s.heap.get? b = some ob := gb
  obtain rfl : oa' = oa := Option.some.inj (ha1.symm.trans ga')
  obtain rfl : ob' = ob := Option.some.inj (hb1.symm.trans gb')
  show wpAny (model X.prog X.w) X.A (richCompare .Eq (.ref a) (.ref b)) (EP X pins σ Q) X.xe s
  have he : va.length = vb.length := by rw [← ra.length, ← rb.length]; exact hl
  refine PySem.W.rcF_dicts (knd := mixKind X.prog X.w) (fun s' => LoopI X pins σ H s') ya yb (fun s' ⟨H1, I1, e1⟩ => (I1.hok a _ (e1 _ _ ea)).1) (fun s' ⟨H1, I1, e1⟩ => (I1.hok b _ (e1 _ _ eb)).1) ha2 hb2 ha3 hb3 ha4 hb4 ha5 hb5 ha6 hb6 he hr.units0 (fun k v hm => ?_) _ (fun s' ⟨H1, I1, e1⟩ => ⟨.bl true, H1, I1, rfl, q H1 e1⟩) ⟨H, I, Ext.rfl'⟩
  obtain ⟨x, hx, rxv⟩ := kv_getM ra hm
  obtain ⟨u, hu, hd⟩ := hp _ hx
  have rr : RelO (some u) (valueAt vb k) := by rw [← hu]; exact rb.val k
  obtain ⟨y, hy, ry⟩ := rr.some_of
  refine ⟨y, hy, fun s' ⟨H1, I1, e1⟩ => ?_⟩
  refine wpAny_mono (h X.A.in1 pins s' σ H1 x u v y ⟨hr.in1, rfl⟩ I1 rxv ry (hD _ _ _ _ e1 hd)) (fun r s2 z => ?_) fun _ _ x => x
  obtain ⟨hr', H2, I2, e2⟩ := z
  exact ⟨hr', H2, I2, e1.trans e2⟩
end
end L2
set_option Elab.async false
set_option linter.all false
set_option maxRecDepth 100000
set_option maxHeartbeats 4000000
/-! what books tell: properties, len, in, items, ==, copied; any tasks -/
namespace Fp1
open PySem PySem.Spec PyProof.Rows L2 Fh Fs
open PySem.W (Frag)
abbrev sBks : Stmt := inClass (top 78) 1
abbrev sBnm : Stmt := inClass (top 78) 2
abbrev sBrm : Stmt := inClass (top 78) 3
abbrev sBwd : Stmt := inClass (top 78) 4
abbrev sBp : Stmt := inClass (top 78) 5
abbrev sBln : Stmt := inClass (top 78) 10
abbrev sBco : Stmt := inClass (top 78) 11
abbrev sBgi : Stmt := inClass (top 78) 13
abbrev sBcp : Stmt := inClass (top 78) 17
abbrev sBq : Stmt := inClass (top 78) 18
theorem lookup_mem {y : Str} {v : V} : ∀ {m : List (Str × V)}, (m.map (·.1)).Nodup → (y, v) ∈ m → m.lookup y = some v
  | (k, u) :: m, nd, h => by
    rw [List.map_cons, List.nodup_cons] at nd
    rcases List.mem_cons.mp h with e | h
    · cases e
      rw [List.lookup_cons, beq_self_eq_true]
    · have ne : y ≠ k := fun e => nd.1 (by rw [← e]; exact List.mem_map.mpr ⟨_, h, rfl⟩)
      rw [List.lookup_cons, show (y == k) = false from beq_eq_false_iff_ne.mpr ne]
      exact lookup_mem nd.2 h
theorem assoc_same {β : Type} : ∀ {a b : List (Str × β)}, a.map (·.1) = b.map (·.1) → (a.map (·.1)).Nodup → (∀ q ∈ a, q ∈ b) → a = b
  | [], [], _, _, _ => rfl
  | [], _ :: _, e, _, _ => by cases e
  | _ :: _, [], e, _, _ => by cases e
  | x :: a, y :: b, e, nd, sub => by
    rw [List.map_cons, List.map_cons] at e
    rw [List.map_cons, List.nodup_cons] at nd
    obtain ⟨e1, e2⟩ := List.cons.inj e
    have hx : x = y := by
      rcases List.mem_cons.mp (sub x List.mem_cons_self) with h | h
      · exact h
      · exact absurd (by rw [e2]; exact List.mem_map.mpr ⟨x, h, rfl⟩) nd.1
    subst hx
    rw [assoc_same e2 nd.2 fun q hq => by
      rcases List.mem_cons.mp (sub q (List.mem_cons_of_mem _ hq)) with h | h
      · exact absurd (List.mem_map.mpr ⟨q, hq, congrArg Prod.fst h⟩) nd.1
      · exact h]
theorem KT.at_ {H : Hp} {m : List (Str × V)} {ks : List (Str × List Str)} (h : KT H m ks) : ∀ {i : Nat} {q : Str × V}, m[i]? = some q → ∃ t ws, q.2 = .ref t ∧ H t = some (.tup (ws.map V.str)) ∧ ks[i]? = some (q.1, ws) := by
  induction h with
  | nil => intro i q z; cases z
  | cons e _ ih =>
    intro i q z
    cases i with
    | zero => cases z; exact ⟨_, _, rfl, e, rfl⟩
    | succ i => exact ih (i := i) z
theorem kinds_eq {K : Frag} {H : Hp} {k1 k2 : Addr} {m1 n1 : List (Str × V)} {ks : List (Str × List Str)} (h1 : H k1 = some (.dK (tD m1))) (h2 : H k2 = some (.dK (tD n1))) (t1 : KT H m1 ks) (t2 : KT H n1 ks) (nd : (ks.map (·.1)).Nodup) (ok : ∀ q ∈ ks, OkW q.2) : EqR K H (EqW K H) (.ref k1) (.ref k2) := by
  have l1 := t1.len
  have l2 := t2.len
  refine .inr ⟨k1, k2, _, _, rfl, rfl, h1, h2, by rw [tD_len, tD_len]; omega, fun p hp => ?_⟩
  obtain ⟨q, hq, rfl⟩ := List.mem_map.mp hp
  obtain ⟨i, hi, gi⟩ := List.mem_iff_getElem.mp hq
  have g1 : m1[i]? = some q := by rw [List.getElem?_eq_getElem hi, gi]
  obtain ⟨t, ws, e1, w1, c1⟩ := t1.at_ g1
  have hi2 : i < n1.length := by omega
  have g2 : n1[i]? = some n1[i] := List.getElem?_eq_getElem hi2
  have mem2 : n1[i] ∈ n1 := List.getElem_mem hi2
  obtain ⟨t', ws', e2, w2, c2⟩ := t2.at_ g2
  rw [c1] at c2
  have e3 : (q.1, ws) = (n1[i].1, ws') := Option.some.inj c2
  have ek : n1[i].1 = q.1 := (congrArg Prod.fst e3).symm
  have ew : ws' = ws := (congrArg Prod.snd e3).symm
  subst ew
  refine ⟨n1[i].2, ?_, .inr ⟨dL ws', ?_, ?_, shaped_dL (ok _ (List.mem_of_getElem? c1)).2.1⟩⟩
  · rw [tD_val]
    refine lookup_mem (by rw [t2.keys]; exact nd) ?_
    rw [← ek]
    exact mem2
  · show Dp K H q.2 _
    rw [e1]
    exact dp_L w1
  · rw [e2]
    exact dp_L w2
/-- kinds as books hold them -/
structure KinR (ks : List (Str × List Str)) : Prop where
  l1 : 1 ≤ ks.length
  l3 : ks.length ≤ 3
  nd : (ks.map (·.1)).Nodup
  so : sortedS (ks.map (·.1)) = true
  w : ∀ q ∈ ks, Word q.1 ∧ OkW q.2 ∧ sortedS q.2 = true ∧ q.2.length ≤ 4
theorem made_kin {K : Frag} {H : Hp} {mk : List (Str × V)} {R : Str → List Str → Prop} {ks : List (Str × List Str)} (rk : RightK K H mk R) (h : MadeK K H mk R ks) : KinR ks := by
  obtain ⟨l1, l3, nd, _⟩ := rk
  obtain ⟨pm, so, w⟩ := h
  have l := pm.length_eq
  rw [List.length_map, List.length_map] at l
  exact ⟨by omega, by omega, pm.nodup_iff.mpr nd, so, fun q hq => ⟨(w q hq).1, (w q hq).2.1, (w q hq).2.2.1, (w q hq).2.2.2.1⟩⟩
/-- the kinds of a book, as they are asked for again -/
theorem kin_right {K : Frag} {H : Hp} {m1 : List (Str × V)} {ks : List (Str × List Str)} (kt : KT H m1 ks) (h : KinR ks) : RightK K H m1 (fun x ws => (x, ws) ∈ ks) := by
  have l := kt.len
  refine ⟨by have := h.l1; omega, by have := h.l3; omega, by rw [kt.keys]; exact h.nd, fun q hq => ?_⟩
  obtain ⟨i, hi, gi⟩ := List.mem_iff_getElem.mp hq
  obtain ⟨t, ws, e1, w1, c1⟩ := kt.at_ (by rw [List.getElem?_eq_getElem hi, gi] : m1[i]? = some q)
  have mem := List.mem_of_getElem? c1
  obtain ⟨a, b, c, d⟩ := h.w _ mem
  exact ⟨a, ws, by rw [e1]; exact ⟨t, rfl, .inr (SqT.of w1)⟩, b, d, mem⟩
theorem kin_same {K : Frag} {H : Hp} {m1 : List (Str × V)} {ks ls : List (Str × List Str)} (kt : KT H m1 ks) (h : KinR ks) (md : MadeK K H m1 (fun x ws => (x, ws) ∈ ks) ls) : ls = ks := by
  obtain ⟨pm, so, w⟩ := md
  rw [kt.keys] at pm
  refine assoc_same (sorted_same pm so h.so) (pm.nodup_iff.mpr h.nd) fun q hq => ?_
  obtain ⟨_, _, s1, _, v, ws, _, _, mem, pz⟩ := w q hq
  have e : q.2 = ws := sorted_same pz s1 (h.w _ mem).2.2.1
  have : q = (q.1, ws) := by rw [← e]
  rw [this]
  exact mem
theorem tas_same {us vs : List (Str × TSk)} (rt : RightT us) (so : sortedS (us.map (·.1)) = true) (h : MadeT us vs) : vs = us :=
  assoc_same (sorted_same h.1 h.2.1 so) (h.1.nodup_iff.mpr rt.2.1) h.2.2
/-- what stands in a book -/
structure RightB (n : Nat) (ks : List (Str × List Str)) (us : List (Str × TSk)) (d : PyData) : Prop where
  kin : KinR ks
  tas : RightT us
  so : sortedS (us.map (·.1)) = true
  few : (rmL us).length < 64
  mem : ∀ ys, Rem us ys → memF us ys = none
  due : Due n d (us.map (·.1)) .fine
  nf : nf n d = d
theorem due_whole {n : Nat} {d : PyData} {ns : List Str} (h : Due n d ns .fine) : Whole n d := by
  cases h with
  | fine a _ _ _ => exact a
/-- tasks one by one, alike -/
def SameT (CT : Addr) (a b : Addr) (H : Hp) : Prop := ∃ T, TaskAt CT H a T ∧ TaskAt CT H b T ∧ OkT T
theorem TsAt.look {CT : Addr} {H : Hp} {m n : List (Str × V)} {us : List (Str × TSk)} (h1 : TsAt CT H m us) (h2 : TsAt CT H n us) (nd : (us.map (·.1)).Nodup) (ok : ∀ q ∈ us, OkT q.2) : ∀ p ∈ tD m, ∃ u, valV (tD n) p.1 = some u ∧ DIns CT (SameT CT) p.2 u H := by
  intro p hp
  obtain ⟨q, hq, rfl⟩ := List.mem_map.mp hp
  obtain ⟨i, hi, gi⟩ := List.mem_iff_getElem.mp hq
  have g1 : m[i]? = some q := by rw [List.getElem?_eq_getElem hi, gi]
  obtain ⟨a, T, e1, w1, c1⟩ := h1.at_ g1
  have hi2 : i < n.length := by have := h1.len; have := h2.len; omega
  obtain ⟨b, U, e2, w2, c2⟩ := h2.at_ (List.getElem?_eq_getElem hi2)
  rw [c1] at c2
  have e3 : (q.1, T) = (n[i].1, U) := Option.some.inj c2
  have ek : n[i].1 = q.1 := (congrArg Prod.fst e3).symm
  obtain rfl : U = T := (congrArg Prod.snd e3).symm
  refine ⟨n[i].2, ?_, a, b, ?_⟩
  · rw [tD_val]
    refine lookup_mem (by rw [h2.keys]; exact nd) ?_
    rw [← ek]
    exact List.getElem_mem hi2
  · obtain ⟨dx, _, _, _, _, ha, _⟩ := id w1
    obtain ⟨dy, _, _, _, _, hb, _⟩ := id w2
    exact ⟨dx, dy, _, _, e1, e2, ha, hb, U, w1, w2, ok _ (List.mem_of_getElem? c1)⟩
theorem mon_same {CT : Addr} : Mon (DIns CT (SameT CT)) := mon_ins fun a b H H' e ⟨T, h1, h2, ok⟩ => ⟨T, h1.keep (KeepB.of e), h2.keep (KeepB.of e), ok⟩
theorem bits_lock {H : Hp} {t : Addr} {kvs : List (Key × V)} (h : H t = some (.dK kvs)) (o : Obj) : KeepB H (L2.upd H t (.frz o (.dK kvs))) := KeepB.upd h bits_dK
section
variable {P : Program} {w : World} {K : Frag} {mg : Str → Option Value} {base : Heap} {aF aM aD CE aE CT aW aR aH aA aI gE g1 g2 g3 g4 g5 g6 p1 p2 p3 p4 p5 p6 : Addr} {fW fR fH fA fI fE f1 f2 f3 f4 f5 f6 : FuncData} {CP fP aC aa aw ai ah aN aT aS aV aL : Addr} {fC fa fw fi fh fN fT fS fV fL : FuncData}
  {CB cK cJ cO cP cT cS cM cN cV cQ : Addr} {dK dJ dO dP dT' dS dM dN dV dQ : FuncData} {CM fM CU fU : Addr}
theorem BookW.same {H H' : Hp} {a : Addr} {m1 m2 : List (Str × V)} {ks : List (Str × List Str)} {us : List (Str × TSk)} {d : PyData} (s : Same H H') (h : BookW K CB CT H a m1 m2 ks us d) : BookW K CB CT H' a m1 m2 ks us d := by
  obtain ⟨dx, k, t, pv, h1, h2, h3, h4, h5, h6⟩ := h
  exact ⟨dx, k, t, pv, s _ _ h1, s _ _ h2, h3.same s, s _ _ h4, h5.keep (.of s), h6.same s⟩
/-! ### its properties -/
def spBks (K : Frag) (CB CT : Addr) : Sp := fun vs H Q _ => ∃ a m1 m2 ks us d, vs = [.ref a] ∧ BookW K CB CT H a m1 m2 ks us d ∧ ∀ q, H q = none → Q (.ref q) (upd H q (.dK (tD m1)))
theorem scBks : FnScope ["self"] ["self"] (defScope sBks) := ⟨rfl, rfl, rfl, by decide +kernel, rfl, by decide +kernel, by decide +kernel⟩
theorem ok_bks {f : Addr} {fd : FuncData} (F : Fun K "kinds" "Book.kinds" sBks f fd) (G : Pkg K mg w aF aM aD CE aE CT aW aR aH aA aI fW fR fH fA fI) (B : BkG K mg CB cK cJ cO cP cT cS cM cN cV cQ dK dJ dO dP dT' dS dM dN dV dQ) : FnOk P w K mg base CX0 1 f fd ["self"] (spBks K CB CT) := by
  refine F.ok scBks (fun vs H Q E h => ?_) (fun cdv A outer s H vs Q E hr h => ?_)
  · obtain ⟨a, m1, m2, ks, us, d, rfl, _⟩ := h
    rfl
  · obtain ⟨a, m1, m2, ks, us, d, rfl, ⟨dx, k1, t1, pl, ha, hk, kt, ht, ta, hp⟩, go⟩ := h
    refine ⟨_, pss_one (ps_ret (pe_callTy call_dictD (by rfl) G.T.dict (by decide +kernel) (pa_cons (pe_fld (pv 0) rfl) pa_nil))), ?_⟩
    exact ⟨_, rfl, a, CB, dx, _, _, rfl, ha, B.C.cl, B.no_kinds, rfl, k1, _, rfl, .inl hk, go⟩
def spBnm (K : Frag) (CB CT : Addr) : Sp := fun vs H Q _ => ∃ a m1 m2 ks us d, vs = [.ref a] ∧ BookW K CB CT H a m1 m2 ks us d ∧ ∀ q, H q = none → Q (.ref q) (upd H q (.tup ((us.map (·.1)).map V.str)))
theorem scBnm : FnScope ["self"] ["self"] (defScope sBnm) := ⟨rfl, rfl, rfl, by decide +kernel, rfl, by decide +kernel, by decide +kernel⟩
theorem ok_bnm {f : Addr} {fd : FuncData} (F : Fun K "names" "Book.names" sBnm f fd) (G : Pkg K mg w aF aM aD CE aE CT aW aR aH aA aI fW fR fH fA fI) (B : BkG K mg CB cK cJ cO cP cT cS cM cN cV cQ dK dJ dO dP dT' dS dM dN dV dQ) : FnOk P w K mg base CX0 1 f fd ["self"] (spBnm K CB CT) := by
  refine F.ok scBnm (fun vs H Q E h => ?_) (fun cdv A outer s H vs Q E hr h => ?_)
  · obtain ⟨a, m1, m2, ks, us, d, rfl, _⟩ := h
    rfl
  · obtain ⟨a, m1, m2, ks, us, d, rfl, ⟨dx, k1, t1, pl, ha, hk, kt, ht, ta, hp⟩, go⟩ := h
    refine ⟨_, pss_one (ps_ret (pe_callTy (call_tupleD rfl) (by rfl) G.TK.tuple (by decide +kernel) (pa_cons (pe_fld (pv 0) rfl) pa_nil))), ?_⟩
    refine ⟨_, rfl, a, CB, dx, _, _, rfl, ha, B.C.cl, B.no_tasks, rfl, t1, _, rfl, ht, fun q nq => ?_⟩
    have e : ((tD m2).map fun kv => kV kv.1) = (us.map (·.1)).map V.str := by
      rw [← ta.keys, List.map_map]
      show (m2.map _).map _ = _
      rw [List.map_map]
      rfl
    rw [e]
    exact go q nq
def spBrm (K : Frag) (CB CT : Addr) : Sp := fun vs H Q _ => ∃ a m1 m2 ks us d, vs = [.ref a] ∧ BookW K CB CT H a m1 m2 ks us d ∧ (rmL us).length < 64 ∧ ∀ p ys H', Rem us ys → Same H H' → H' p = some (.tup (ys.map V.str)) → Q (.ref p) H'
theorem scBrm : FnScope ["self"] ["self"] (defScope sBrm) := ⟨rfl, rfl, rfl, by decide +kernel, rfl, by decide +kernel, by decide +kernel⟩
theorem ok_brm {f : Addr} {fd : FuncData} (F : Fun K "remembered" "Book.remembered" sBrm f fd) (G : Pkg K mg w aF aM aD CE aE CT aW aR aH aA aI fW fR fH fA fI) (M : Mets K CT gE g1 g2 g3 g4 g5 g6 p1 p2 p3 p4 p5 p6 fE f1 f2 f3 f4 f5 f6) (B : BkG K mg CB cK cJ cO cP cT cS cM cN cV cQ dK dJ dO dP dT' dS dM dN dV dQ) : FnOk P w K mg base CX0 5 f fd ["self"] (spBrm K CB CT) := by
  have GN := (ok_rn (P := P) (base := base) B.FN G M).mono (show _ ≤ 4 by decide)
  have bN : Binds K dN ["tasks"] [] := B.FN.binds (ps := ["tasks"]) fun _ _ _ _ _ _ us hl => match us, hl with | [_], _ => rfl
  refine F.ok scBrm (fun vs H Q E h => ?_) (fun cdv A outer s H vs Q E hr h => ?_)
  · obtain ⟨a, m1, m2, ks, us, d, rfl, _⟩ := h
    rfl
  · obtain ⟨a, m1, m2, ks, us, d, rfl, ⟨dx, k1, t1, pl, ha, hk, kt, ht, ta, hp⟩, few, go⟩ := h
    refine ⟨_, pss_one (ps_ret (pe_call GN hr rfl B.gN B.FN.kp bN .nil pass0 (pa_cons (pe_fld (pv 0) rfl) pa_nil))), ?_⟩
    exact ⟨_, rfl, a, CB, dx, _, _, rfl, ha, B.C.cl, B.no_tasks, rfl, t1, _, us, rfl, ht, ta, few, go⟩
def spBwd (K : Frag) (CB CT : Addr) : Sp := fun vs H Q _ => ∃ a m1 m2 ks us d, vs = [.ref a] ∧ BookW K CB CT H a m1 m2 ks us d ∧ RightT us ∧ (rmL us).length < 64 ∧ ∀ ys H', Rem us ys → Same H H' → Q (.int (wdF us ys)) H'
theorem scBwd : FnScope ["self"] ["self"] (defScope sBwd) := ⟨rfl, rfl, rfl, by decide +kernel, rfl, by decide +kernel, by decide +kernel⟩
theorem ok_bwd {f : Addr} {fd : FuncData} (F : Fun K "width" "Book.width" sBwd f fd) (G : Pkg K mg w aF aM aD CE aE CT aW aR aH aA aI fW fR fH fA fI) (M : Mets K CT gE g1 g2 g3 g4 g5 g6 p1 p2 p3 p4 p5 p6 fE f1 f2 f3 f4 f5 f6) (B : BkG K mg CB cK cJ cO cP cT cS cM cN cV cQ dK dJ dO dP dT' dS dM dN dV dQ) : FnOk P w K mg base CX0 6 f fd ["self"] (spBwd K CB CT) := by
  have GV := (ok_wo (P := P) (base := base) B.FV B.FN B.FQ B.gN B.gQ G M).mono (show _ ≤ 5 by decide)
  have bV : Binds K dV ["tasks"] [] := B.FV.binds (ps := ["tasks"]) fun _ _ _ _ _ _ us hl => match us, hl with | [_], _ => rfl
  refine F.ok scBwd (fun vs H Q E h => ?_) (fun cdv A outer s H vs Q E hr h => ?_)
  · obtain ⟨a, m1, m2, ks, us, d, rfl, _⟩ := h
    rfl
  · obtain ⟨a, m1, m2, ks, us, d, rfl, ⟨dx, k1, t1, pl, ha, hk, kt, ht, ta, hp⟩, rt, few, go⟩ := h
    refine ⟨_, pss_one (ps_ret (pe_call GV hr rfl B.gV B.FV.kp bV .nil pass0 (pa_cons (pe_fld (pv 0) rfl) pa_nil))), ?_⟩
    exact ⟨_, rfl, a, CB, dx, _, _, rfl, ha, B.C.cl, B.no_tasks, rfl, t1, _, us, rfl, ht, ta, rt, few, go⟩
theorem scBp : FnScope ["self"] ["self"] (defScope sBp) := ⟨rfl, rfl, rfl, by decide +kernel, rfl, by decide +kernel, by decide +kernel⟩
theorem ok_bp {f : Addr} {fd : FuncData} (F : Fun K "plan" "Book.plan" sBp f fd) (B : BkG K mg CB cK cJ cO cP cT cS cM cN cV cQ dK dJ dO dP dT' dS dM dN dV dQ) : FnOk P w K mg base CX0 1 f fd ["self"] (getSp CB "_plan") := by
  refine F.ok scBp (fun vs H Q E h => ?_) (fun cdv A outer s H vs Q E hr h => ?_)
  · obtain ⟨a, dx, fs, v, rfl, _⟩ := h
    rfl
  · obtain ⟨a, dx, fs, v, rfl, ha, hv, k⟩ := h
    refine ⟨_, pss_one (ps_ret (pe_fld (pv 0) rfl)), ?_⟩
    exact ⟨_, rfl, a, CB, dx, fs, v, rfl, ha, B.C.cl, B.no_plan, hv, k⟩
def spBln (K : Frag) (CB CT : Addr) : Sp := fun vs H Q _ => ∃ a m1 m2 ks us d, vs = [.ref a] ∧ BookW K CB CT H a m1 m2 ks us d ∧ Q (.int ((us.length : Nat) : Int)) H
theorem scBln : FnScope ["self"] ["self"] (defScope sBln) := ⟨rfl, rfl, rfl, by decide +kernel, rfl, by decide +kernel, by decide +kernel⟩
theorem ok_bln {f : Addr} {fd : FuncData} (F : Fun K "__len__" "Book.__len__" sBln f fd) (G : Pkg K mg w aF aM aD CE aE CT aW aR aH aA aI fW fR fH fA fI) (B : BkG K mg CB cK cJ cO cP cT cS cM cN cV cQ dK dJ dO dP dT' dS dM dN dV dQ) : FnOk P w K mg base CX0 1 f fd ["self"] (spBln K CB CT) := by
  refine F.ok scBln (fun vs H Q E h => ?_) (fun cdv A outer s H vs Q E hr h => ?_)
  · obtain ⟨a, m1, m2, ks, us, d, rfl, _⟩ := h
    rfl
  · obtain ⟨a, m1, m2, ks, us, d, rfl, ⟨dx, k1, t1, pl, ha, hk, kt, ht, ta, hp⟩, go⟩ := h
    refine ⟨_, pss_one (ps_ret (pe_callB call_lenD (by rfl) G.TR.len PySem.boot_len (pa_cons (pe_fld (pv 0) rfl) pa_nil))), ?_⟩
    refine ⟨_, rfl, a, CB, dx, _, _, rfl, ha, B.C.cl, B.no_tasks, rfl, t1, _, rfl, ht, ?_⟩
    rw [tD_len, ta.len]
    exact go
/-! ### in, items -/
def AskN (K : Frag) (H : Hp) (v : V) (ns : List Str) (b : Bool) : Prop := (∃ y, v = .str y ∧ b = decide (y ∈ ns)) ∨ ∃ t, TyX K H v t ∧ PySem.W.kitOne K t (.type "str") = some false ∧ b = false
def spBco (K : Frag) (CB CT : Addr) : Sp := fun vs H Q _ => ∃ a v m1 m2 ks us d b, vs = [.ref a, v] ∧ BookW K CB CT H a m1 m2 ks us d ∧ AskN K H v (us.map (·.1)) b ∧ Q (.bl b) H
theorem scBco : FnScope ["self", "name"] ["self", "name"] (defScope sBco) := ⟨rfl, rfl, rfl, by decide +kernel, rfl, by decide +kernel, by decide +kernel⟩
theorem valV_in {m : List (Str × V)} {y : Str} : (valV (tD m) (.inr y)).isSome = decide (y ∈ m.map (·.1)) := by
  rw [tD_val]
  by_cases h : y ∈ m.map (·.1)
  · obtain ⟨v, hv, _⟩ := look_in h
    rw [hv, decide_eq_true h]
    rfl
  · rw [look_none h, decide_eq_false h]
    rfl
theorem ok_bco {f : Addr} {fd : FuncData} (F : Fun K "__contains__" "Book.__contains__" sBco f fd) (G : Pkg K mg w aF aM aD CE aE CT aW aR aH aA aI fW fR fH fA fI) (B : BkG K mg CB cK cJ cO cP cT cS cM cN cV cQ dK dJ dO dP dT' dS dM dN dV dQ) : FnOk P w K mg base CX0 1 f fd ["self", "name"] (spBco K CB CT) := by
  refine F.ok scBco (fun vs H Q E h => ?_) (fun cdv A outer s H vs Q E hr h => ?_)
  · obtain ⟨a, v, m1, m2, ks, us, d, b, rfl, _⟩ := h
    rfl
  · obtain ⟨a, v, m1, m2, ks, us, d, b, rfl, ⟨dx, k1, t1, pl, ha, hk, kt, ht, ta, hp⟩, ask, go⟩ := h
    have hu := hu_of hr
    refine ⟨_, pss_one (ps_ret (pe_and (pe_callB call_isi (by rfl) G.TR.isinstance (by decide +kernel) (pa_cons (pv 1) (pa_cons (pe_bltn (v := .ty "str") (by rfl) G.TR.str (by decide +kernel) rfl (by decide) (by decide)) pa_nil))) (pe_one (pe_cmp (pc_din hu (pv 1) (pe_fld (pv 0) rfl)) rfl)))), ?_⟩
    rcases ask with ⟨y, rfl, rfl⟩ | ⟨t, ty, kt', rfl⟩
    · refine ⟨_, rfl, _, _, _, _, true, rfl, .ty _, .base (.str _), rfl, true, rfl, iteT ?_⟩
      refine ⟨_, rfl, _, rfl, a, CB, dx, _, _, rfl, ha, B.C.cl, B.no_tasks, rfl, t1, _, rfl, DGet.k (k := Sum.inr y) ht, ?_⟩
      rw [valV_in, ta.keys]
      exact go
    · exact ⟨_, rfl, _, _, _, _, false, rfl, .ty _, ty, kt', false, rfl, iteF go⟩
end
end Fp1
set_option Elab.async false
set_option linter.all false
set_option maxRecDepth 100000
set_option maxHeartbeats 4000000
/-! what books tell: items that may lack, copied, == -/
namespace Fp1
open PySem PySem.Spec PyProof.Rows L2 Fh Fs
open PySem.W (Frag)
section
variable {P : Program} {w : World} {K : Frag} {mg : Str → Option Value} {base : Heap} {aF aM aD CE aE CT aW aR aH aA aI gE g1 g2 g3 g4 g5 g6 p1 p2 p3 p4 p5 p6 : Addr} {fW fR fH fA fI fE f1 f2 f3 f4 f5 f6 : FuncData} {CP fP aC aa aw ai ah aN aT aS aV aL : Addr} {fC fa fw fi fh fN fT fS fV fL : FuncData}
  {CB cK cJ cO cP cT cS cM cN cV cQ bI : Addr} {dK dJ dO dP dT' dS dM dN dV dQ dI : FuncData} {CM fM CU fU : Addr}
def spBgi (K : Frag) (CB CT CU : Addr) : Sp := fun vs H Q E => ∃ a v m1 m2 ks us d, vs = [.ref a, v] ∧ BookW K CB CT H a m1 m2 ks us d ∧
  ((∃ y u, v = .str y ∧ m2.lookup y = some u ∧ Q u H) ∨ AskN K H v (us.map (·.1)) false ∧ ∀ dd H', Same H H' → H' dd = some (.xd [("value", v)]) → E (.ref CU) (some dd) H')
theorem scBgi : FnScope ["self", "name"] ["self", "name"] (defScope sBgi) := ⟨rfl, rfl, rfl, by decide +kernel, rfl, by decide +kernel, by decide +kernel⟩
theorem ok_bgi {f : Addr} {fd : FuncData} (F : Fun K "__getitem__" "Book.__getitem__" sBgi f fd) (G : Pkg K mg w aF aM aD CE aE CT aW aR aH aA aI fW fR fH fA fI) (B : BkG K mg CB cK cJ cO cP cT cS cM cN cV cQ dK dJ dO dP dT' dS dM dN dV dQ) (E3 : Err3 K mg CP fP CM fM CU fU) : FnOk P w K mg base (L2.CX P w) 2 f fd ["self", "name"] (spBgi K CB CT CU) := by
  refine F.okX scBgi (fun vs H Q E h => ?_) (fun cdv A outer s H vs Q E hr h => ?_)
  · obtain ⟨a, v, m1, m2, ks, us, d, rfl, _⟩ := h
    rfl
  · obtain ⟨a, v, m1, m2, ks, us, d, rfl, ⟨dx, k1, t1, pl, ha, hk, kt, ht, ta, hp⟩, go⟩ := h
    have hu := hu_of hr
    refine' ⟨_, pss_cons (ps_if (PW.pt (pw_or (pt_not (pt_val ?i)) (pw_or1 (pt_cmp (pc_dnotin hu (pv 1) (pe_fld (pv 0) rfl)))))) (pss_one (ps_raiseErrU rfl E3.U hr (takes_of rfl rfl rfl rfl) (pa_cons (pv 1) pa_nil))) pss_nil) (pss_one (ps_ret (pe_dget hu (pe_fld (pv 0) rfl) (pv 1) (fun _ _ => rfl)))), ?q⟩
    case i => exact pe_callB call_isi (by rfl) G.TR.isinstance (by decide +kernel) (pa_cons (pv 1) (pa_cons (pe_bltn (v := .ty "str") (by rfl) G.TR.str (by decide +kernel) rfl (by decide) (by decide)) pa_nil))
    case q =>
      rcases go with ⟨y, u, rfl, hu2, go⟩ | ⟨ask, go⟩
      · refine ⟨_, rfl, _, _, _, _, true, rfl, .ty _, .base (.str _), rfl, true, rfl, iteF ?_⟩
        refine ⟨_, rfl, _, rfl, a, CB, dx, _, _, rfl, ha, B.C.cl, B.no_tasks, rfl, t1, _, rfl, DGet.k (k := Sum.inr y) ht, _, rfl, ?_⟩
        rw [tD_val, hu2]
        refine iteF ?_
        have dg : DGet H t1 (.str y) (some u) := by
          have z := DGet.k (k := Sum.inr y) ht
          rw [tD_val, hu2] at z
          exact z
        exact ⟨_, rfl, a, CB, dx, _, _, rfl, ha, B.C.cl, B.no_tasks, rfl, _, rfl, t1, _, rfl, dg, go⟩
      · have out : ∀ dd, H dd = none → E (.ref CU) (some dd) (upd H dd (.xd [("value", v)])) := fun dd nd => go dd _ (Same.new nd) upd_same
        rcases ask with ⟨y, rfl, eb⟩ | ⟨t, ty, kt', _⟩
        · refine ⟨_, rfl, _, _, _, _, true, rfl, .ty _, .base (.str _), rfl, true, rfl, iteF ?_⟩
          refine ⟨_, rfl, _, rfl, a, CB, dx, _, _, rfl, ha, B.C.cl, B.no_tasks, rfl, t1, _, rfl, DGet.k (k := Sum.inr y) ht, _, rfl, ?_⟩
          have no : y ∉ m2.map (·.1) := by rw [ta.keys]; exact of_decide_eq_false eb.symm
          rw [tD_val, look_none no]
          exact iteT ⟨_, rfl, _, rfl, out⟩
        · exact ⟨_, rfl, _, _, _, _, false, rfl, .ty _, ty, kt', false, rfl, iteT ⟨_, rfl, _, rfl, out⟩⟩
/-! ### copied -/
def spBcp (K : Frag) (CB CT : Addr) (n : Nat) : Sp := fun vs H Q _ => ∃ a m1 m2 ks us d, vs = [.ref a] ∧ BookW K CB CT H a m1 m2 ks us d ∧ RightB n ks us d ∧ ∀ b n1 n2 H', Same H H' → H b = none → BookW K CB CT H' b n1 n2 ks us d → Q (.ref b) H'
theorem scBcp : FnScope ["self"] ["self"] (defScope sBcp) := ⟨rfl, rfl, rfl, by decide +kernel, rfl, by decide +kernel, by decide +kernel⟩
theorem ok_bcp {f : Addr} {fd : FuncData} (F : Fun K "copied" "Book.copied" sBcp f fd) (FI : Fun K "__init__" "Book.__init__" sBkI bI dI) (mkB : Mk K CB bI) (G : Pkg K mg w aF aM aD CE aE CT aW aR aH aA aI fW fR fH fA fI) (M : Mets K CT gE g1 g2 g3 g4 g5 g6 p1 p2 p3 p4 p5 p6 fE f1 f2 f3 f4 f5 f6)
    (CG : CpG K mg w aF aM aD CE aE CP fP aC aa aw ai ah aN aT aS aV aL fC fa fw fi fh fN fT fS fV fL) (E3 : Err3 K mg CP fP CM fM CU fU) (B : BkG K mg CB cK cJ cO cP cT cS cM cN cV cQ dK dJ dO dP dT' dS dM dN dV dQ) (n : Nat) : FnOk P w K mg base CX0 (n + 9) f fd ["self"] (spBcp K CB CT n) := by
  have GB : FnOk P w K mg base (L2.CX P w) (n + 7) bI dI NBk (spBkG K CB CT CP CM CU n) := ok_bkG FI G M CG E3 B n
  have kB : Binds K dI NBk [] := FI.binds (ps := NBk) fun _ _ _ _ _ _ us hl => match us, hl with | [_, _, _, _], _ => rfl
  refine F.ok scBcp (fun vs H Q E h => ?_) (fun cdv A outer s H vs Q E hr h => ?_)
  · obtain ⟨a, m1, m2, ks, us, d, rfl, _⟩ := h
    rfl
  · obtain ⟨a, m1, m2, ks, us, d, rfl, ⟨dx, k1, t1, pl, ha, hk, kt, ht, ta, hp⟩, rb, go⟩ := h
    refine ⟨_, pss_one (ps_ret (pe_make (E := E0) mkB GB hr rfl B.C.gC kB .nil passL (pa_cons (pe_fld (pv 0) rfl) (pa_cons (pe_fld (pv 0) rfl) (pa_cons (pe_fld (pv 0) rfl) pa_nil))))), ?_⟩
    refine ⟨_, rfl, a, CB, dx, _, _, rfl, ha, B.C.cl, B.no_kinds, rfl, _, rfl, a, CB, dx, _, _, rfl, ha, B.C.cl, B.no_tasks, rfl, _, rfl, a, CB, dx, _, _, rfl, ha, B.C.cl, B.no_plan, rfl, ?_⟩
    refine fun b dy nb ndy ne => ?_
    have nb2 : (upd H dy (.own b)) b = none := by rw [upd_ne (Ne.symm ne)]; exact nb
    have sB : Same H (upd (upd H dy (.own b)) b (.ins CB dy [])) := (Same.new ndy).trans (Same.new nb2)
    have gB : (upd (upd H dy (.own b)) b (.ins CB dy [])) b = some (.ins CB dy []) := upd_same
    generalize upd (upd H dy (.own b)) b (.ins CB dy []) = Hb at sB gB ⊢
    have back : ∀ {H' : Hp}, Ext b Hb H' → Same H H' := fun ext x o z => ext x o (fun e => by rw [e, nb] at z; cases z) (sB _ _ z)
    have W := due_whole rb.due
    have hpb := hp.same sB
    refine ⟨b, dy, k1, t1, pl, d, m1, m2, us, fun x ws => (x, ws) ∈ ks, .fine, none, rfl, gB, sB _ _ hk, kin_right (kt.same sB) rb.kin, sB _ _ ht, ta.keep (.of sB), rb.tas, rb.few, rb.mem, ⟨hpb.gd W.rt.short, fun _ => hpb⟩, rb.due, (fun _ _ => trivial), (fun _ _ z => nomatch z), fun _ _ ls vs' n1 n2 H' ext mk mt _ bw _ => ⟨rfl, ?_⟩⟩
    obtain rfl := kin_same (kt.same sB) rb.kin mk
    obtain rfl := tas_same rb.tas rb.so mt
    rw [rb.nf] at bw
    exact go b n1 n2 H' (back ext) nb bw
/-! ### == -/
def spBqG (K : Frag) (CB CT : Addr) : Sp := fun vs H Q _ => ∃ a v m1 m2 ks us d n, vs = [.ref a, v] ∧ BookW K CB CT H a m1 m2 ks us d ∧ RightB n ks us d ∧
  ((∃ b n1 n2, v = .ref b ∧ BookW K CB CT H b n1 n2 ks us d ∧ ∀ H', Same H H' → Q (.bl true) H') ∨ ∃ t, TyX K H v t ∧ PySem.W.kitOne K t (.ref CB) = some false ∧ Q (.bl false) H)
theorem scBq : FnScope ["self", "other"] ["self", "other"] (defScope sBq) := ⟨rfl, rfl, rfl, by decide +kernel, rfl, by decide +kernel, by decide +kernel⟩
theorem ok_bqG {f : Addr} {fd : FuncData} (F : Fun K "__eq__" "Book.__eq__" sBq f fd) (G : Pkg K mg w aF aM aD CE aE CT aW aR aH aA aI fW fR fH fA fI) (M : Mets K CT gE g1 g2 g3 g4 g5 g6 p1 p2 p3 p4 p5 p6 fE f1 f2 f3 f4 f5 f6) (B : BkG K mg CB cK cJ cO cP cT cS cM cN cV cQ dK dJ dO dP dT' dS dM dN dV dQ) : FnOk P w K mg base CX0 4 f fd ["self", "other"] (spBqG K CB CT) := by
  have GE : FnOk P w K mg base CX0 1 gE fE ["self", "other"] (spEq (SameT CT)) := (ok_eq G M.FE).imp fun vs H Q E h => by
    obtain ⟨a, b, rfl, ⟨T, h1, h2, ok⟩, q⟩ := h
    refine ⟨a, .ref b, T, rfl, h1, ok, .inl ⟨b, T, rfl, h2, ok, ?_⟩⟩
    rw [← eqT_dT, SeqAt.eqv_refl _ (SeqAt.canLay_of_shaped (shaped_dT ok))]
    exact q H (fun _ _ z => z)
  have kE : Binds K fE ["self", "other"] [] := M.FE.binds (ps := ["self", "other"]) fun _ _ _ _ _ _ us hl => match us, hl with | [_, _], _ => rfl
  refine F.ok scBq (fun vs H Q E h => ?_) (fun cdv A outer s H vs Q E hr h => ?_)
  · obtain ⟨a, v, m1, m2, ks, us, d, n, rfl, _⟩ := h
    rfl
  · obtain ⟨a, v, m1, m2, ks, us, d, n, rfl, ⟨dx, k1, t1, pl, ha, hk, kt, ht, ta, hp⟩, rb, k⟩ := h
    have hu := hr.units
    have hu66 : (A.deeper (envOfC "Book.__eq__" (defScope sBq) s.heap.objs.size f cdv)).units + 66 < cLine := by have := hr.un; omega
    refine' ⟨_, pss_one (ps_ret (pe_and ?i (pe_and (pe_cmpR (op_eqW hu66) (pe_fld (pv 0) rfl) (pe_fld (pv 1) rfl) (nomark _)) (pe_and (pe_lock (pe_olock (pe_cmpR (op_eqDF mon_same (eqG_ins GE M.hE M.jE kE pass0) (hr.mono (by decide))) (pe_fld (pv 0) rfl) (pe_fld (pv 1) rfl) (nomark _)))) (pe_one (pe_cmpR (op_eqD hu) (pe_fld (pv 0) rfl) (pe_fld (pv 1) rfl) (nomark _))))))), ?q⟩
    case i => exact pe_callB call_isi (by rfl) G.TR.isinstance (by decide +kernel) (pa_cons (pv 1) (pa_cons (pe_glob (v := .ref CB) (by rfl) B.C.gC rfl) pa_nil))
    case q =>
      rcases k with ⟨b, n1, n2, rfl, ⟨dy, k2, t2, pl2, hb, hk2, kt2, ht2, ta2, hp2⟩, go⟩ | ⟨t, ty, kt', go⟩
      · refine ⟨_, rfl, _, _, _, _, true, rfl, .own CB, .base (.ins hb B.C.cl B.C.ha B.C.hn B.C.ht B.C.hm), B.C.me, true, rfl, iteT ?_⟩
        refine ⟨_, rfl, a, CB, dx, _, _, rfl, ha, B.C.cl, B.no_kinds, rfl, _, rfl, b, CB, dy, _, _, rfl, hb, B.C.cl, B.no_kinds, rfl, kinds_eq hk hk2 kt kt2 rb.kin.nd (fun q hq => (rb.kin.w q hq).2.1), true, rfl, iteT ?_⟩
        have W := due_whole rb.due
        have ok : ∀ q ∈ us, OkT q.2 := fun q hq => (rb.tas.2.2 q hq).2
        have nat1 : a ≠ t1 := fun e => by rw [← e, ha] at ht; cases ht
        have nbt1 : b ≠ t1 := fun e => by rw [← e, hb] at ht; cases ht
        refine ⟨t1, _, ht, trivial, fun o1 => ?_⟩
        have kb1 := bits_lock ht o1
        have g1 : (L2.upd H t1 (.frz o1 (.dK (tD m2)))) t1 = some (.frz o1 (.dK (tD m2))) := upd_same
        have x1 : ∀ x o, x ≠ t1 → H x = some o → (L2.upd H t1 (.frz o1 (.dK (tD m2)))) x = some o := fun x o n z => by rw [upd_ne n]; exact z
        generalize hH1 : L2.upd H t1 (.frz o1 (.dK (tD m2))) = H1 at kb1 g1 x1 ⊢
        have len : (tD m2).length = (tD n2).length := by rw [tD_len, tD_len, ta.len, ta2.len]
        by_cases ett : t1 = t2
        · subst ett
          have em : tD m2 = tD n2 := by
            rw [ht] at ht2
            injection ht2 with z
            injection z
          refine .inl ?_
          refine ⟨_, rfl, a, CB, dx, _, _, rfl, x1 _ _ nat1 ha, B.C.cl, B.no_tasks, rfl, _, rfl, b, CB, dy, _, _, rfl, x1 _ _ nbt1 hb, B.C.cl, B.no_tasks, rfl, t1, t1, o1, o1, _, _, rfl, rfl, g1, by rw [← em]; exact g1, len, TsAt.look (ta.keep kb1) (ta2.keep kb1) rb.tas.2.1 ok, fun H2 e2 => ⟨e2 _ _ g1, ?_⟩⟩
          have sf : Same H (L2.upd H2 t1 (.dK (tD m2))) := fun x o z => by
            by_cases e : x = t1
            · rw [e, upd_same]; rw [e] at z; rw [← z]; exact ht.symm
            · rw [upd_ne e]; exact e2 _ _ (x1 _ _ e z)
          generalize L2.upd H2 t1 (.dK (tD m2)) = Hf at sf ⊢
          refine ⟨true, rfl, iteT ?_⟩
          refine ⟨_, rfl, a, CB, dx, _, _, rfl, sf _ _ ha, B.C.cl, B.no_plan, rfl, _, rfl, b, CB, dy, _, _, rfl, sf _ _ hb, B.C.cl, B.no_plan, rfl, d, d, (hp.same sf).dp, (hp2.same sf).dp, W.sh.shaped (by have := W.n20; omega), W.sh.shaped (by have := W.n20; omega), ?_⟩
          rw [SeqAt.eqv_refl d W.sh.lay.1]
          exact go Hf sf
        · have nat2 : a ≠ t2 := fun e => by rw [← e, ha] at ht2; cases ht2
          have nbt2 : b ≠ t2 := fun e => by rw [← e, hb] at ht2; cases ht2
          have ht21 := x1 _ _ (Ne.symm ett) ht2
          refine .inr ⟨t2, _, ht21, trivial, fun o2 => ?_⟩
          have kb2 := bits_lock ht21 o2
          have g2 : (L2.upd H1 t2 (.frz o2 (.dK (tD n2)))) t2 = some (.frz o2 (.dK (tD n2))) := upd_same
          have g12 : (L2.upd H1 t2 (.frz o2 (.dK (tD n2)))) t1 = some (.frz o1 (.dK (tD m2))) := by rw [upd_ne ett]; exact g1
          have x2 : ∀ x o, x ≠ t1 → x ≠ t2 → H x = some o → (L2.upd H1 t2 (.frz o2 (.dK (tD n2)))) x = some o := fun x o n n' z => by rw [upd_ne n']; exact x1 _ _ n z
          have kb := kb1.trans kb2
          generalize L2.upd H1 t2 (.frz o2 (.dK (tD n2))) = H2 at kb g2 g12 x2 ⊢
          refine ⟨_, rfl, a, CB, dx, _, _, rfl, x2 _ _ nat1 nat2 ha, B.C.cl, B.no_tasks, rfl, _, rfl, b, CB, dy, _, _, rfl, x2 _ _ nbt1 nbt2 hb, B.C.cl, B.no_tasks, rfl, t1, t2, o1, o2, _, _, rfl, rfl, g12, g2, len, TsAt.look (ta.keep kb) (ta2.keep kb) rb.tas.2.1 ok, fun H3 e3 => ⟨e3 _ _ g2, ?_, ?_⟩⟩
          · rw [upd_ne ett]; exact e3 _ _ g12
          have sf : Same H (L2.upd (L2.upd H3 t2 (.dK (tD n2))) t1 (.dK (tD m2))) := fun x o z => by
            by_cases e : x = t1
            · rw [e, upd_same]; rw [e] at z; rw [← z]; exact ht.symm
            · rw [upd_ne e]
              by_cases e' : x = t2
              · rw [e', upd_same]; rw [e'] at z; rw [← z]; exact ht2.symm
              · rw [upd_ne e']; exact e3 _ _ (x2 _ _ e e' z)
          generalize L2.upd (L2.upd H3 t2 (.dK (tD n2))) t1 (.dK (tD m2)) = Hf at sf ⊢
          refine ⟨true, rfl, iteT ?_⟩
          refine ⟨_, rfl, a, CB, dx, _, _, rfl, sf _ _ ha, B.C.cl, B.no_plan, rfl, _, rfl, b, CB, dy, _, _, rfl, sf _ _ hb, B.C.cl, B.no_plan, rfl, d, d, (hp.same sf).dp, (hp2.same sf).dp, W.sh.shaped (by have := W.n20; omega), W.sh.shaped (by have := W.n20; omega), ?_⟩
          rw [SeqAt.eqv_refl d W.sh.lay.1]
          exact go Hf sf
      · exact ⟨_, rfl, _, _, _, _, false, rfl, .own CB, ty, kt', false, rfl, iteF go⟩
/-! ### all of them -/
structure BmG (K : Frag) (CB bI bY bL bC bG bE kP nP rP wP pP kA nA rA wA pA : Addr) (dI dY dL dC dG dE dkA dnA drA dwA dpA : FuncData) : Prop where
  mkB : Mk K CB bI
  FI : Fun K "__init__" "Book.__init__" sBkI bI dI
  mY : Meth K CB "copied" bY
  FY : Fun K "copied" "Book.copied" sBcp bY dY
  mL : Meth K CB "__len__" bL
  FL : Fun K "__len__" "Book.__len__" sBln bL dL
  mC : Meth K CB "__contains__" bC
  FC : Fun K "__contains__" "Book.__contains__" sBco bC dC
  mG : Meth K CB "__getitem__" bG
  fG : PySem.W.fnIn K bG = true
  FG : Fun K "__getitem__" "Book.__getitem__" sBgi bG dG
  mE : Meth K CB "__eq__" bE
  FE : Fun K "__eq__" "Book.__eq__" sBq bE dE
  ne : PySem.W.findIn K (.ref CB) "__ne__" = some (some (.builtin "object.__ne__"))
  su : PySem.W.subIn K (.ref CB) (.type "object") = some true
  pk : PropOf K CB "kinds" kP kA
  Fk : Fun K "kinds" "Book.kinds" sBks kA dkA
  pn : PropOf K CB "names" nP nA
  Fn : Fun K "names" "Book.names" sBnm nA dnA
  pr : PropOf K CB "remembered" rP rA
  Fr : Fun K "remembered" "Book.remembered" sBrm rA drA
  pw : PropOf K CB "width" wP wA
  Fw : Fun K "width" "Book.width" sBwd wA dwA
  pp : PropOf K CB "plan" pP pA
  Fp : Fun K "plan" "Book.plan" sBp pA dpA
end
end Fp1
set_option Elab.async false
set_option linter.all false
set_option maxRecDepth 100000
set_option maxHeartbeats 8000000
/-! _law_remembered, _law_width -/
namespace Fp1
open PySem PySem.Spec PyProof.Rows L2 Fh Fs
open PySem.W (Frag)
abbrev sLr : Stmt := top 89
abbrev sLwd : Stmt := top 90
/-- plain tasks by their names -/
inductive PsAt (H : Hp) : List (Str × V) → List (Str × TSk) → Prop where
  | nil : PsAt H [] []
  | cons {k : Str} {t : Addr} {T : TSk} {m : List (Str × V)} {ts : List (Str × TSk)} : PlainAt H t T → PsAt H m ts → PsAt H ((k, .ref t) :: m) ((k, T) :: ts)
theorem PsAt.keep {H H' : Hp} (k : KeepU H H') {m : List (Str × V)} {ts : List (Str × TSk)} (h : PsAt H m ts) : PsAt H' m ts := by
  induction h with
  | nil => exact .nil
  | cons e _ ih => exact .cons (e.keep k) ih
theorem PsAt.keys {H : Hp} {m : List (Str × V)} {ts : List (Str × TSk)} (h : PsAt H m ts) : m.map (·.1) = ts.map (·.1) := by
  induction h with
  | nil => rfl
  | cons _ _ ih => rw [List.map_cons, List.map_cons, ih]
theorem PsAt.len {H : Hp} {m : List (Str × V)} {ts : List (Str × TSk)} (h : PsAt H m ts) : m.length = ts.length := by
  have := congrArg List.length h.keys
  rw [List.length_map, List.length_map] at this
  exact this
theorem PsAt.at_ {H : Hp} {m : List (Str × V)} {ts : List (Str × TSk)} (h : PsAt H m ts) : ∀ {i : Nat} {q : Str × V}, m[i]? = some q → ∃ t T, q.2 = .ref t ∧ PlainAt H t T ∧ ts[i]? = some (q.1, T) := by
  induction h with
  | nil => intro i q g; cases g
  | @cons k t T m ts z _ ih =>
    intro i q g
    cases i with
    | zero => cases g; exact ⟨t, T, rfl, z, rfl⟩
    | succ i => exact ih g
theorem KeepU.frz {H : Hp} {d : Addr} {u v : HO} (h : H d = some u) (n : ∀ xs, u ≠ .tup xs) : KeepU H (L2.upd H d v) := fun t ys z => by
  rw [upd_ne (fun e => by rw [e, h] at z; exact n _ (Option.some.inj z))]
  exact z
theorem tD_at {m : List (Str × V)} {i : Nat} {k : Key} {v : V} (g : (tD m)[i]? = some (k, v)) : ∃ q, m[i]? = some q ∧ k = .inr q.1 ∧ v = q.2 := by
  unfold tD at g
  rw [List.getElem?_map] at g
  cases h : m[i]? with
  | none => rw [h] at g; cases g
  | some q => rw [h] at g; cases g; exact ⟨q, rfl, rfl, rfl⟩
theorem look_at {m : List (Str × V)} (nd : (m.map (·.1)).Nodup) : ∀ {i : Nat} {q : Str × V}, m[i]? = some q → m.lookup q.1 = some q.2 := by
  induction m with
  | nil => intro i q g; cases g
  | cons a m ih =>
    intro i q g
    rw [List.map_cons, List.nodup_cons] at nd
    obtain ⟨k, v⟩ := a
    cases i with
    | zero =>
      cases g
      rw [List.lookup_cons, beq_self_eq_true]
    | succ i =>
      have g' : m[i]? = some q := g
      have ne : q.1 ≠ k := fun e => nd.1 (by rw [← e]; exact List.mem_map.mpr ⟨q, List.mem_of_getElem? g', rfl⟩)
      rw [List.lookup_cons, show (q.1 == k) = false from beq_eq_false_iff_ne.mpr ne]
      exact ih nd.2 g'
section
variable {P : Program} {w : World} {K : Frag} {mg : Str → Option Value} {base : Heap}
abbrev NLr : List Str := ["_law_tasks", "_law_found", "_law_name"]
def spLr (K : Frag) : Sp := fun vs H Q _ => ∃ d m ts, vs = [.ref d] ∧ H d = some (.dK (tD m)) ∧ PsAt H m ts ∧ (ts.map (·.1)).Nodup ∧ (rmL ts).length < 64 ∧ ∀ t ys H', Rem ts ys → Same H H' → H' t = some (.tup (ys.map V.str)) → Q (.ref t) H'
theorem scLr : FnScope NLr ["_law_tasks"] (defScope sLr) := ⟨rfl, rfl, rfl, by decide +kernel, rfl, by decide +kernel, by decide +kernel⟩
theorem ok_lr {f : Addr} {fd : FuncData} (F : Fun K "_law_remembered" "_law_remembered" sLr f fd) (TK : TxtK mg) (T : TxtB mg) : FnOk P w K mg base CX0 1 f fd ["_law_tasks"] (spLr K) := by
  refine F.ok scLr (fun vs H Q E h => ?_) (fun cdv A outer s H vs Q E hr h => ?_)
  · obtain ⟨d, m, ts, rfl, _⟩ := h
    rfl
  · obtain ⟨d, m, ts, rfl, hm, ps, nd, few, k⟩ := h
    have hu := hu_of hr
    refine' ⟨_, pss_cons (ps_set (i := 1) scLr.nd rfl (Or.inl rfl) (pe_lst pa_nil)) (pss_cons (ps_lock (ps_for PassesOwn.never rfl (pi_keys (pv 0)) (pg_name (i := 2) scLr.nd rfl (Or.inl rfl)) (pss_one (ps_set (i := 1) scLr.nd rfl (Or.inl rfl) (pe_op op_cat (pe_op op_cat (pv 1) ?a) ?b))))) (pss_one (ps_ret ?r))), ?q⟩
    case a => exact pe_callTy call_list_of (by rfl) T.list (by decide +kernel) (pa_cons (pe_ix ix_tup (pe_dget hu (pv 0) (pv 2) (fun _ _ => rfl)) pe_int (fun _ _ => rfl)) pa_nil)
    case b => exact pe_callTy call_list_of (by rfl) T.list (by decide +kernel) (pa_cons (pe_ix ix_tup (pe_dget hu (pv 0) (pv 2) (fun _ _ => rfl)) pe_int (fun _ _ => rfl)) pa_nil)
    case r => exact pe_callTy call_tuple_of (by rfl) TK.tuple (by decide +kernel) (pa_cons (pe_callB (cr_sortedTx rfl) (by rfl) T.sorted (by decide +kernel) (pa_cons (pe_callTy (cr_setL rfl) (by rfl) T.set (by decide +kernel) (pa_cons (pv 1) pa_nil)) pa_nil)) pa_nil)
    case q =>
      have ndm : (m.map (·.1)).Nodup := by rw [ps.keys]; exact nd
      have lm := ps.len
      refine ⟨(show 0 ≤ sizeLine by decide), fun L0 nL0 => gName_go ?_⟩
      have s0 : Same H (upd H L0 (.lst [])) := Same.new nL0
      have g0 : (upd H L0 (.lst [])) L0 = some (.lst []) := upd_same
      generalize upd H L0 (.lst []) = H0 at s0 g0 ⊢
      have hm0 := s0 _ _ hm
      refine ⟨d, .dK (tD m), hm0, trivial, fun od => ?_⟩
      have fz : (upd H0 d (.frz od (.dK (tD m)))) d = some (.frz od (.dK (tD m))) := upd_same
      have kb : KeepU H0 (upd H0 d (.frz od (.dK (tD m)))) := KeepU.frz hm0 fun _ z => nomatch z
      have dL : L0 ≠ d := fun e => by rw [e, hm0] at g0; cases g0
      have g1 : (upd H0 d (.frz od (.dK (tD m)))) L0 = some (.lst []) := by rw [upd_ne dL]; exact g0
      have back : ∀ {Hi : Hp}, Same (upd H0 d (.frz od (.dK (tD m)))) Hi → Same H (upd Hi d (.dK (tD m))) := fun {Hi} z b o q => by
        have q0 := s0 _ _ q
        by_cases e : b = d
        · rw [e] at q0 ⊢
          rw [upd_same, ← q0, hm0]
        · rw [upd_ne e]
          exact z b o (by rw [upd_ne e]; exact q0)
      have ps0 := ps.keep ((KeepU.same s0).trans kb)
      generalize upd H0 d (.frz od (.dK (tD m))) = HF at fz g1 back ps0 ⊢
      have rmle : ∀ i, (rmL (ts.take i)).length ≤ (rmL ts).length := fun i => by
        have e : rmL ts = rmL (ts.take i) ++ rmL (ts.drop i) := by
          unfold rmL
          rw [← List.flatMap_append, List.take_append_drop]
        rw [e, List.length_append]
        omega
      refine ⟨_, rfl, d, od, rfl, .inl ⟨tD m, fz, ?_⟩⟩
      refine for_it walk_keys (fun i σ Hh => ∃ (l : Addr) (o : Option V), σ = [some (.ref d), some (.ref l), o] ∧ Same HF Hh ∧ Hh l = some (.lst ((rmL (ts.take i)).map V.str))) ⟨L0, none, rfl, Same.refl _, g1⟩ (fun i σ Hh _ ⟨_, _, _, z, _⟩ => z _ _ fz) ?_ ?_
      · rintro i x σ Ha Hb hi ⟨l, o, rfl, sa, hl⟩ ⟨rfl, kx, vx, gx, rfl⟩
        obtain ⟨q, gq, rfl, rfl⟩ := tD_at gx
        obtain ⟨t, T, ev, pt, mt⟩ := ps0.at_ gq
        have lk := look_at ndm gq
        have tk : rmL (ts.take (i + 1)) = rmL (ts.take i) ++ (T.o ++ T.s) := by
          rw [List.take_add_one, mt]
          exact rmL_snoc _ _ _
        have bound := rmle (i + 1)
        rw [tk, List.length_append, List.length_append] at bound
        obtain ⟨t1, t2, t3, t4, h0, h1, h2, h3, h4⟩ := pt.keep (KeepU.same sa)
        have gt : ∀ {Hz : Hp}, Same Hb Hz → DGet Hz d (.str q.1) (some q.2) := fun {Hz} z => .inl ⟨tD m, .inr q.1, .inr ⟨od, z _ _ (sa _ _ fz)⟩, rfl, by rw [tD_val, lk]⟩
        refine gName_go ?_
        with_reducible conv => whnf
        refine ⟨_, rfl, _, rfl, _, rfl, d, q.2, rfl, gt (Same.refl _), ?_⟩
        rw [ev] at gt ⊢
        refine ⟨t, _, 2, _, rfl, rfl, SqT.of h0, rfl, t1, _, rfl, .inr (SqT.of h1), fun l1 n1 => ?_⟩
        have s1 : Same Hb (upd Hb l1 (.lst (T.o.map V.str))) := Same.new n1
        have e1 : (upd Hb l1 (.lst (T.o.map V.str))) l1 = some (.lst (T.o.map V.str)) := upd_same
        generalize upd Hb l1 (.lst (T.o.map V.str)) = Hc at s1 e1 ⊢
        refine ⟨l, l1, _, _, rfl, rfl, s1 _ _ hl, e1, by rw [List.length_map, List.length_map, sizeLine_eq]; omega, fun l2 n2 => ?_⟩
        rw [← List.map_append]
        have s2 : Same Hc (upd Hc l2 (.lst ((rmL (ts.take i) ++ T.o).map V.str))) := Same.new n2
        have e2 : (upd Hc l2 (.lst ((rmL (ts.take i) ++ T.o).map V.str))) l2 = some (.lst ((rmL (ts.take i) ++ T.o).map V.str)) := upd_same
        generalize upd Hc l2 (.lst ((rmL (ts.take i) ++ T.o).map V.str)) = Hd at s2 e2 ⊢
        have s12 := s1.trans s2
        refine ⟨_, rfl, _, rfl, d, .ref t, rfl, gt s12, ?_⟩
        refine ⟨t, _, 3, _, rfl, rfl, SqT.of (s12 _ _ h0), rfl, t2, _, rfl, .inr (SqT.of (s12 _ _ h2)), fun l3 n3 => ?_⟩
        have s3 : Same Hd (upd Hd l3 (.lst (T.s.map V.str))) := Same.new n3
        have e3 : (upd Hd l3 (.lst (T.s.map V.str))) l3 = some (.lst (T.s.map V.str)) := upd_same
        generalize upd Hd l3 (.lst (T.s.map V.str)) = He at s3 e3 ⊢
        refine ⟨l2, l3, _, _, rfl, rfl, s3 _ _ e2, e3, by rw [List.length_map, List.length_map, List.length_append, sizeLine_eq]; omega, fun l4 n4 => gName_go ⟨l4, _, rfl, ?_, ?_⟩⟩
        · exact fun b o z => (Same.new n4) _ _ (s3 _ _ (s12 _ _ (sa b o z)))
        · rw [upd_same, ← List.map_append, tk, List.append_assoc]
      · rintro σ Ha ⟨l, o, rfl, sa, hl⟩
        rw [tD_len, lm, List.take_length] at hl
        have fza := sa _ _ fz
        refine ⟨fza, ?_⟩
        have ld : l ≠ d := fun e => by rw [e, fza] at hl; cases hl
        have sb := back sa
        have hl2 : (upd Ha d (.dK (tD m))) l = some (.lst ((rmL ts).map V.str)) := by rw [upd_ne ld]; exact hl
        generalize upd Ha d (.dK (tD m)) = Hb at sb hl2 ⊢
        refine ⟨_, rfl, l, _, rfl, .inl (SqL.of hl2), few, fun p np => ⟨p, _, rfl, upd_same, by have := ded_len (rmL ts); omega, fun ys q pm so nq => ?_⟩⟩
        exact ⟨q, _, rfl, .inl ⟨SqL.of upd_same, fun t nt => k t ys _ (rem_of (fun _ => Iff.rfl) pm so) (fun b o z => (Same.new nt) _ _ ((Same.new nq) _ _ ((Same.new np) _ _ (sb b o z)))) upd_same⟩⟩
/-! ### _law_width -/
abbrev NLwd : List Str := ["_law_tasks", "_law_found", "_law_name", "_law_sizes", "_law_title", "_law_size"]
def RightN (ts : List (Str × TSk)) : Prop := (ts.map (·.1)).Nodup ∧ ts.length ≤ 60 ∧ ∀ q ∈ ts, 1 ≤ q.2.n
def spLwd (K : Frag) : Sp := fun vs H Q _ => ∃ d m ts, vs = [.ref d] ∧ H d = some (.dK (tD m)) ∧ PsAt H m ts ∧ RightN ts ∧ (rmL ts).length < 64 ∧ ∀ ys H', Rem ts ys → Same H H' → Q (.int (wdF ts ys)) H'
theorem scLwd : FnScope NLwd ["_law_tasks"] (defScope sLwd) := ⟨rfl, rfl, rfl, by decide +kernel, rfl, by decide +kernel, by decide +kernel⟩
theorem ok_lwd {f aR : Addr} {fd fR : FuncData} (F : Fun K "_law_width" "_law_width" sLwd f fd) (FR : Fun K "_law_remembered" "_law_remembered" sLr aR fR) (gR : mg "_law_remembered" = some (.ref aR)) (TK : TxtK mg) (T : TxtB mg) : FnOk P w K mg base CX0 2 f fd ["_law_tasks"] (spLwd K) := by
  have GR : FnOk P w K mg base CX0 1 aR fR ["_law_tasks"] (spLr K) := ok_lr FR TK T
  have bR : Binds K fR ["_law_tasks"] [] := FR.binds (ps := ["_law_tasks"]) fun _ _ _ _ _ _ us hl => match us, hl with | [_], _ => rfl
  refine F.ok scLwd (fun vs H Q E h => ?_) (fun cdv A outer s H vs Q E hr h => ?_)
  · obtain ⟨d, m, ts, rfl, _⟩ := h
    rfl
  · obtain ⟨d, m, ts, rfl, hm, ps, ⟨nd, l60, pos⟩, few, k⟩ := h
    have hu := hu_of hr
    refine' ⟨_, pss_cons (ps_set (i := 1) scLwd.nd rfl (Or.inl rfl) pe_int) (pss_cons (ps_for PassesOwn.never rfl (pi_tup ?i) (pg_name (i := 2) scLwd.nd rfl (Or.inr rfl)) (pss_cons (ps_lock ?b1) (pss_one ?b2))) (pss_one (ps_ret (pv 1)))), ?q⟩
    case i => exact pe_call GR hr rfl gR FR.kp bR .nil pass0 (pa_cons (pv 0) pa_nil)
    case b1 =>
      refine' ps_setLc (i := 3) (own := [("_law_title", 4)]) (g := gName 4) rfl scLwd.nd rfl rfl (sw_true rfl rfl rfl (by decide +kernel)) (pi_keys (pv 0)) (blkOk_by (N := NLwd) (sc := defScope sLwd) (by decide +kernel)) (fun _ _ _ _ _ => pg_name (i := 4) scLwd.nd rfl (Or.inl rfl))
        (fun _ _ _ _ _ => pts_one (PW.pt (pw_or (pt_cmpR op_eq (pv 4) (pv 2) (nomark _)) (pw_or1 (pt_cmpR (r := rIn K false) op_in_seq (pv 2) ?p5 (by rfl)))))) ?e
      case p5 => exact pe_ix (r := rIxT K) ix_tup (pe_dget hu (pv 0) (pv 4) (fun _ _ => rfl)) pe_int (fun _ _ => rfl)
      case e => exact fun _ _ _ _ _ => pe_ix (r := rIxT K) ix_tup (pe_dget hu (pv 0) (pv 4) (fun _ _ => rfl)) pe_int (fun _ _ => rfl)
    case b2 =>
      refine' ps_set (i := 1) scLwd.nd rfl (Or.inl rfl) (pe_op op_add (pv 1) (pe_callB (cr_max rfl) (by rfl) T.max (by decide +kernel) (pa_cons (pe_op op_cat (pe_lst (pa_cons pe_int pa_nil)) ?l) pa_nil)))
      case l =>
        refine' pe_lc (own := [("_law_size", 5)]) (g := gName 5) (tt := tYes) rfl scLwd.nd (pi_list (pv 3)) (blkOk_by (N := NLwd) (sc := defScope sLwd) (by decide +kernel)) (fun _ _ _ _ _ => pg_name (i := 5) scLwd.nd rfl (Or.inl rfl)) (fun _ _ _ _ _ => pts_nil) ?e
        case e => exact fun _ _ _ _ _ => pe_callTy call_int1 (by rfl) T.int (by decide +kernel) (pa_cons (pv 5) pa_nil)
    case q =>
      have ndm : (m.map (·.1)).Nodup := by rw [ps.keys]; exact nd
      have lm := ps.len
      refine gName_go ?_
      with_reducible conv => whnf
      refine ⟨_, rfl, d, m, ts, rfl, hm, ps, nd, few, fun p ys H1 rem s1 hp => ⟨p, rfl, ⟨_, SqT.of hp⟩, ?_⟩⟩
      refine for_it (walk_tup (K := K) (a := p) (xs := ys.map V.str)) (fun i σ Hh => ∃ o2 o3 : Option V, σ = [some (.ref d), some (.int (wdF ts (ys.take i))), o2, o3, none, none] ∧ Same H1 Hh) ⟨none, none, by rw [List.take_zero]; rfl, Same.refl _⟩ (fun i σ Hh _ ⟨_, _, _, z⟩ => SqT.of (z _ _ hp)) ?_ ?_
      · rintro i x σ Ha Hb hi ⟨o2, o3, rfl, sa⟩ ⟨rfl, gx⟩
        obtain ⟨y, gy, rfl, hy⟩ := at_strs gx
        have s0b := s1.trans sa
        have hmb := s0b _ _ hm
        have psb := ps.keep (KeepU.same s0b)
        refine gName_go ?_
        with_reducible conv => whnf
        -- the sizes
        refine seq_cutS (fun σ Hc => ∃ l : Addr, σ = [some (.ref d), some (.int (wdF ts (ys.take i))), some (.str y), some (.ref l), none, none] ∧ Same Hb Hc ∧ Hc l = some (.lst ((mdL ts y).map V.int))) ?_ ?_
        · intro NX rr
          refine ⟨d, .dK (tD m), hmb, trivial, fun od => ?_⟩
          have fz : (upd Hb d (.frz od (.dK (tD m)))) d = some (.frz od (.dK (tD m))) := upd_same
          have kb : KeepU Hb (upd Hb d (.frz od (.dK (tD m)))) := KeepU.frz hmb fun _ z => nomatch z
          have back : ∀ {Hi : Hp}, Same (upd Hb d (.frz od (.dK (tD m)))) Hi → Same Hb (upd Hi d (.dK (tD m))) := fun {Hi} z b o q => by
            by_cases e : b = d
            · rw [e] at q ⊢
              rw [upd_same, ← q, hmb]
            · rw [upd_ne e]
              exact z b o (by rw [upd_ne e]; exact q)
          have psf := psb.keep kb
          generalize upd Hb d (.frz od (.dK (tD m))) = HF at fz back psf ⊢
          refine ⟨_, rfl, d, od, rfl, .inl ⟨tD m, fz, fun D hD => ?_⟩⟩
          have hDd : D ≠ d := fun z => by rw [z, fz] at hD; cases hD
          refine lc_it walk_keys (fun i Hi => Same HF Hi ∧ Hi D = some (.lst ((mdL (ts.take i) y).map V.int))) ⟨Same.new hD, upd_same⟩ (fun _ _ _ z => z.1 _ _ fz) ?_ ?_
          · rintro j x Hi Hj hj ⟨s2, e2⟩ ⟨rfl, kx, vx, gx, rfl⟩
            obtain ⟨q, gq, rfl, rfl⟩ := tD_at gx
            obtain ⟨t, T', ev, pt, mt⟩ := psf.at_ gq
            have lk := look_at ndm gq
            have tk : mdL (ts.take (j + 1)) y = mdL (ts.take j) y ++ (if (decide (q.1 = y) || decide (y ∈ T'.t)) = true then [T'.n] else []) := by
              rw [List.take_add_one, mt]
              exact mdL_snoc _ _ _ _
            obtain ⟨t1, t2, t3, t4, h0, h1, h2, h3, h4⟩ := pt.keep (KeepU.same s2)
            have gt : DGet Hj d (.str q.1) (some q.2) := .inl ⟨tD m, .inr q.1, .inr ⟨od, s2 _ _ fz⟩, rfl, by rw [tD_val, lk]⟩
            rw [ev] at gt
            have lmd : ((mdL (ts.take j) y).map V.int).length < sizeLine := by
              unfold mdL
              rw [List.length_map, List.length_map, sizeLine_eq]
              have l1 := List.length_filter_le (fun q : Str × TSk => decide (q.1 = y) || decide (y ∈ q.2.t)) (ts.take j)
              rw [List.length_take] at l1
              omega
            have put : (decide (q.1 = y) || decide (y ∈ T'.t)) = true → Same HF (upd Hj D (.lst ((mdL (ts.take j) y).map V.int ++ [V.int T'.n]))) ∧ (upd Hj D (.lst ((mdL (ts.take j) y).map V.int ++ [V.int T'.n]))) D = some (.lst ((mdL (ts.take (j + 1)) y).map V.int)) := fun h => by
              rw [if_pos h] at tk
              exact ⟨same_off s2 hD, by rw [tk, List.map_append]; exact upd_same⟩
            refine ⟨rfl, ?_⟩
            refine ⟨_, rfl, _, rfl, rfl, decide (q.1 = y), congrArg V.bl (by rw [decide_eq_decide]; exact ⟨fun e => V.str.inj (show V.str q.1 = V.str y from e), fun e => (congrArg V.str e : V.str q.1 = V.str y)⟩), ?_⟩
            by_cases c1 : q.1 = y
            · rw [decide_eq_true c1]
              refine iteT (iteT ?_)
              refine ⟨_, rfl, _, rfl, d, .ref t, rfl, gt, t, _, 1, _, rfl, rfl, SqT.of h0, rfl, ?_⟩
              exact ⟨_, e2, lmd, put (by rw [decide_eq_true c1]; rfl)⟩
            · rw [decide_eq_false c1]
              refine iteF ⟨_, rfl, _, rfl, _, rfl, d, .ref t, rfl, gt, t, _, 4, _, rfl, rfl, SqT.of h0, rfl, t3, _, rfl, .inr (SqT.of h3), rfl, flat_strs _, decide (y ∈ T'.t), congrArg V.bl (inV_strs _), ?_⟩
              by_cases c2 : y ∈ T'.t
              · rw [decide_eq_true c2]
                refine iteT ?_
                refine ⟨_, rfl, _, rfl, d, .ref t, rfl, gt, t, _, 1, _, rfl, rfl, SqT.of h0, rfl, ?_⟩
                exact ⟨_, e2, lmd, put (by rw [decide_eq_true c2, Bool.or_true])⟩
              · rw [decide_eq_false c2]
                refine iteF ⟨s2, ?_⟩
                rw [if_neg (by rw [decide_eq_false c1, decide_eq_false c2]; exact fun z => nomatch z), List.append_nil] at tk
                rw [tk]
                exact e2
          · rintro Hi ⟨s2, e2⟩
            rw [tD_len, lm, List.take_length] at e2
            refine gName_go ⟨s2 _ _ fz, rr _ _ ⟨D, rfl, back s2, ?_⟩⟩
            rw [upd_ne hDd]
            exact e2
        rintro σ Hc ⟨l, rfl, sc, hl⟩
        refine ⟨_, rfl, (show 1 ≤ sizeLine by decide), fun z0 nz0 => ?_⟩
        have s3 : Same Hc (upd Hc z0 (.lst [.int 0])) := Same.new nz0
        have g3 : (upd Hc z0 (.lst [.int 0])) z0 = some (.lst [.int 0]) := upd_same
        generalize upd Hc z0 (.lst [.int 0]) = Hd at s3 g3 ⊢
        have hld := s3 _ _ hl
        refine ⟨_, rfl, l, rfl, ⟨_, SqL.of hld⟩, fun D nD => ?_⟩
        refine lc_it (walk_list (K := K) (a := l) (xs := (mdL ts y).map V.int)) (fun j Hi => Same Hd Hi ∧ Hi D = some (.lst (((mdL ts y).take j).map V.int))) ⟨Same.new nD, by rw [List.take_zero]; exact upd_same⟩ (fun _ _ _ z => SqL.of (z.1 _ _ hld)) ?_ ?_
        · rintro j x Hi Hj hj ⟨s4, e4⟩ ⟨rfl, gx⟩
          rw [List.length_map] at hj
          have gi : (mdL ts y)[j]? = some (mdL ts y)[j] := List.getElem?_eq_getElem hj
          have ex : x = .int (mdL ts y)[j] := by
            rw [List.getElem?_map, gi] at gx
            exact (Option.some.inj gx).symm
          refine ⟨rfl, ?_⟩
          refine yes_of ?_
          refine ⟨_, rfl, .inl ⟨(mdL ts y)[j], congrArg (fun z => [z]) ex, ?_⟩⟩
          refine ⟨_, e4, ?_, same_off s4 nD, ?_⟩
          · rw [List.length_map, List.length_take, sizeLine_eq]
            have l2 : (mdL ts y).length ≤ 60 := by
              unfold mdL
              rw [List.length_map]
              exact Nat.le_trans (List.length_filter_le _ _) l60
            omega
          · rw [List.take_add_one, gi, List.map_append]
            exact upd_same
        · rintro Hi ⟨s4, e4⟩
          rw [List.length_map, List.take_length] at e4
          refine ⟨z0, D, [.int 0], (mdL ts y).map V.int, rfl, rfl, s4 _ _ g3, e4, ?_, fun zz nzz => ?_⟩
          · rw [List.length_map, sizeLine_eq]
            have l2 : (mdL ts y).length ≤ 60 := by
              unfold mdL
              rw [List.length_map]
              exact Nat.le_trans (List.length_filter_le _ _) l60
            show 1 + _ ≤ _
            omega
          refine ⟨zz, 0 :: mdL ts y, rfl, SqL.of upd_same, Nat.succ_pos _, fun mx m0 m1 => ?_⟩
          have e5 : mx = mdF ts y := by
            have z := mxI_is (l := 0 :: mdL ts y) (m := mx) (fun x hx => by
              rcases List.mem_cons.mp hx with rfl | hx
              · omega
              · obtain ⟨q, hq, rfl⟩ := List.mem_map.mp hx
                have := pos q (List.mem_filter.mp hq).1
                omega) (fun z => nomatch z) (fun _ => ⟨m0, m1⟩)
            rw [z]
            show max 0 (mxI (mdL ts y)) = mxI (mdL ts y)
            have : ∀ l : List Int, 0 ≤ mxI l := fun l => by
              cases l with
              | nil => exact Int.le_refl _
              | cons a l =>
                have : ∀ l : List Int, 0 ≤ mxI l := fun l => by
                  induction l with
                  | nil => exact Int.le_refl _
                  | cons a l ih => show 0 ≤ max a (mxI l); omega
                exact this _
            have := this (mdL ts y)
            omega
          refine ⟨_, _, rfl, rfl, gName_go ⟨some (.str y), some (.ref l), ?_, fun b o z => (Same.new nzz) _ _ (s4 _ _ (s3 _ _ (sc _ _ (sa _ _ z))))⟩⟩
          have e6 : wdF ts (ys.take (i + 1)) = wdF ts (ys.take i) + mdF ts y := by
            unfold wdF
            rw [List.take_add_one, gy, List.map_append, List.sum_append]
            show _ + (mdF ts y + 0) = _
            omega
          rw [e5, e6]
          rfl
      · rintro σ Ha ⟨o2, o3, rfl, sa⟩
        rw [List.length_map, List.take_length]
        exact ⟨_, rfl, k ys Ha rem (s1.trans sa)⟩
end
end Fp1
set_option Elab.async false
set_option linter.all false
set_option maxRecDepth 100000
set_option maxHeartbeats 8000000
/-! _law_plan -/
namespace Fp1
open PySem PySem.Spec PyProof.Rows L2 Fh Fs
open PySem.W (Frag)
abbrev sLpl : Stmt := top 91
abbrev NLpl : List Str := ["_law_pen_here", "_law_names", "_law_deep", "_law_is_beside", "_law_lot", "_law_word", "_law_k"]
abbrev ALpl : List Str := ["_law_pen_here", "_law_names", "_law_deep", "_law_is_beside"]
theorem KeepT.pen' {H H' : Hp} {p c : Addr} {n : Nat} (P : PenAt H p c n) (b : But p H H') : KeepT H H' := by
  obtain ⟨cs, s, r, S, _⟩ := P.open
  exact KeepT.but (no_tup S.hp (fun _ z => nomatch z) fun _ _ z => nomatch z) b
def Bp : Nat → Nat
  | 0 => 3
  | n + 1 => 3 * Bp n + 4
theorem bp_three : ∀ n, 3 ≤ Bp n
  | 0 => Nat.le_refl _
  | n + 1 => by show 3 ≤ 3 * Bp n + 4; omega
theorem Good.up {ns : List Str} {n m : Nat} {b : Bool} {d : PyData} (h : Good ns n b d) (le : n ≤ m) : Good ns m b d := by
  induction h generalizing m with
  | nm h => exact .nm h
  | @nd n b y ds h1 h2 h3 h4 ih =>
    obtain ⟨k, rfl⟩ : ∃ k, m = k + 1 := ⟨m - 1, by omega⟩
    exact .nd h1 h2 h3 fun d hd => ih d hd (by omega)
theorem good_done {ns : List Str} {n : Nat} {b : Bool} : Good ns (n + 1) b (.tuple [.str "then"]) := .nd (show rightNo (Str.ofString "then") ((0 : Nat) : Int) = true by decide +kernel) (show 0 ≤ 4 by decide) (by cases b <;> decide +kernel) (fun _ z => nomatch z)
section
variable {P : Program} {w : World} {K : Frag} {mg : Str → Option Value} {base : Heap}
def spLpl (K : Frag) (n : Nat) : Sp := fun vs H Q _ => ∃ (p c : Addr) (k : Nat) (l : Addr) (ns : List Str) (b : Bool), vs = [.ref p, .ref l, .int (n : Int), .bl b] ∧ PenAt H p c k ∧ k + Bp n ≤ 500000 ∧ H l = some (.lst (ns.map V.str)) ∧ ns.length ≤ 1000 ∧ l ≠ p ∧
  ∀ v d H', PenAt H' p c (k + Bp n) → But p H H' → Pl K H' v d → Good ns (n + 1) (!b) d → Q v H'
theorem scLpl : FnScope NLpl ALpl (defScope sLpl) := ⟨rfl, rfl, rfl, by decide +kernel, rfl, by decide +kernel, by decide +kernel⟩
theorem step_lpl {n kk : Nat} {sp' : Sp} {f aK aD : Addr} {fd fK fD : FuncData} (hk : 2 ≤ kk) (F : Fun K "_law_plan" "_law_plan" sLpl f fd) (FK : Fun K "_law_pick" "_law_pick" sPick aK fK) (FD : Fun K "_law_draw" "_law_draw" sDraw aD fD) (T : TxtP mg) (gr : mg "range" = none) (gt : mg "tuple" = none)
    (gF : mg "_law_plan" = some (.ref f)) (gK : mg "_law_pick" = some (.ref aK)) (gD : mg "_law_draw" = some (.ref aD)) (GP : FnOk P w K mg base CX0 kk f fd ALpl sp') (hs : ∀ j, n = j + 1 → sp' = spLpl K j) : FnOk P w K mg base CX0 (kk + 1) f fd ALpl (spLpl K n) := by
  have GD : FnOk P w K mg base CX0 1 aD fD ["_law_pen_here", "_law_size"] spDraw := ok_draw FD T
  have GK : FnOk P w K mg base CX0 2 aK fK ["_law_pen_here", "_law_items"] (spPick K) := ok_pick FK FD T gD
  have bD : Binds K fD ["_law_pen_here", "_law_size"] [] := FD.binds (ps := ["_law_pen_here", "_law_size"]) fun _ _ _ _ _ _ us hl => match us, hl with | [_, _], _ => rfl
  have bK : Binds K fK ["_law_pen_here", "_law_items"] [] := FK.binds (ps := ["_law_pen_here", "_law_items"]) fun _ _ _ _ _ _ us hl => match us, hl with | [_, _], _ => rfl
  have bF : Binds K fd ALpl [] := F.binds (ps := ALpl) fun _ _ _ _ _ _ us hl => match us, hl with | [_, _, _, _], _ => rfl
  refine F.ok scLpl (fun vs H Q E h => ?_) (fun cdv A outer s H vs Q E hr h => ?_)
  · obtain ⟨p, c, k, l, ns, b, rfl, _⟩ := h
    rfl
  · obtain ⟨p, c, k, l, ns, b, rfl, hP, hk5, hl, hn, lp, go⟩ := h
    have hr2 : Room 2 _ := hr.mono hk
    have hr1 : Room 1 _ := hr.mono (by omega)
    have hu := hu_of hr1
    have hu0 : _ < cLine := Nat.lt_of_le_of_lt (Nat.le_add_right _ 1) hu
    refine' ⟨_, pss_cons ?s1 (pss_cons ?s2 (pss_cons ?s3 (pss_cons ?s4 (pss_cons ?s5 (pss_one ?s6))))), ?q⟩
    case s1 => exact ps_set (i := 4) scLpl.nd rfl (Or.inl rfl) (pe_ifExp (pt_cmpR op_gt (pv 2) pe_int (nomark _)) (pe_call GD hr1 rfl gD FD.kp bD .nil pass0 (pa_cons (pv 0) (pa_cons pe_int pa_nil))) pe_int)
    case s2 =>
      refine' ps_if (pt_cmpR op_lt (pv 4) pe_int (nomark _)) (pss_one (ps_ret (pe_ifExp (PW.pt (pw_and (pt_cmpR (op_neE hu0) (pv 1) (pe_lst pa_nil) (nomark _)) (pw_and1 (pt_cmpR op_gt ?d pe_int (nomark _))))) ?k (pe_tup (pa_cons pe_str pa_nil))))) pss_nil
      case d => exact pe_call GD hr1 rfl gD FD.kp bD .nil pass0 (pa_cons (pv 0) (pa_cons pe_int pa_nil))
      case k => exact pe_call GK hr2 rfl gK FK.kp bK .nil pass0 (pa_cons (pv 0) (pa_cons (pv 1) pa_nil))
    case s3 =>
      refine' ps_if (pt_cmpR op_eq (pv 4) pe_int (nomark _)) (pss_one (ps_ret (pe_tup (pa_cons pe_str (pa_cons ?c pa_nil))))) pss_nil
      case c => exact pe_call GP hr rfl gF F.kp bF .nil pass0 (pa_cons (pv 0) (pa_cons (pv 1) (pa_cons (pe_op op_sub (pv 2) pe_int) (pa_cons (pv 3) pa_nil))))
    case s4 =>
      refine' ps_if (PW.pt (pw_and (pt_cmpR op_eq (pv 4) pe_int (nomark _)) (pw_and1 (pt_val (pv 3))))) (pss_one (ps_ret (pe_tup (pa_cons pe_str (pa_cons ?c (pa_cons ?d pa_nil)))))) pss_nil
      case c => exact pe_call GP hr rfl gF F.kp bF .nil pass0 (pa_cons (pv 0) (pa_cons (pv 1) (pa_cons (pe_op op_sub (pv 2) pe_int) (pa_cons pe_bl pa_nil))))
      case d => exact pe_call GP hr rfl gF F.kp bF .nil pass0 (pa_cons (pv 0) (pa_cons (pv 1) (pa_cons (pe_op op_sub (pv 2) pe_int) (pa_cons pe_bl pa_nil))))
    case s5 => exact ps_set (i := 5) scLpl.nd rfl (Or.inl rfl) (pe_ix ix_list (pe_lst (pa_cons pe_str (pa_cons pe_str (pa_cons pe_str (pa_cons pe_str (pa_cons pe_str pa_nil)))))) (pe_call GD hr1 rfl gD FD.kp bD .nil pass0 (pa_cons (pv 0) (pa_cons pe_int pa_nil))) (fun _ _ => rfl))
    case s6 =>
      refine' ps_ret (pe_op op_catA (pe_tup (pa_cons (pv 5) pa_nil)) (pe_callTy call_tuple_of (by rfl) gt (by decide +kernel) (pa_cons ?l pa_nil)))
      case l =>
        refine' pe_lc (own := [("_law_k", 6)]) (g := gName 6) (tt := tYes) rfl scLpl.nd (pi_range1 rfl gr (pa_cons (pe_op op_add pe_int ?n) pa_nil)) (blkOk_by (N := NLpl) (sc := defScope sLpl) (by decide +kernel)) (fun _ _ _ _ _ => pg_name (i := 6) scLpl.nd rfl (Or.inl rfl)) (fun _ _ _ _ _ => pts_nil) ?e
        case n => exact pe_call GD hr1 rfl gD FD.kp bD .nil pass0 (pa_cons (pv 0) (pa_cons pe_int pa_nil))
        case e => exact fun _ _ _ _ _ => pe_call GP hr rfl gF F.kp bF .nil pass0 (pa_cons (pv 0) (pa_cons (pv 1) (pa_cons (pe_op op_sub (pv 2) pe_int) (pa_cons (pv 3) pa_nil))))
    case q =>
      have ssz : sizeLine = 16777216 := sizeLine_eq
      have b3 := bp_three n
      -- the lot
      refine seq_cutS (fun σ Hc => ∃ q : Int, σ = [some (V.ref p), some (.ref l), some (.int (n : Int)), some (.bl b), some (.int q), none, none] ∧ PenAt Hc p c (k + 1) ∧ But p H Hc ∧ 0 ≤ q ∧ (n = 0 → q = 0)) ?_ ?_
      · intro NX rr
        refine ⟨_, rfl, _, _, rfl, rfl, decide (0 < (n : Int)), congrArg V.bl (decide_eq_decide.mpr (by omega)), ?_⟩
        by_cases h0 : 0 < (n : Int)
        · rw [decide_eq_true h0]
          exact iteT ⟨_, rfl, p, c, k, 9, rfl, hP, by omega, by decide, by decide, fun q H1 q0 q1 P1 b1 => gName_go (rr _ _ ⟨q, rfl, P1, b1, q0, fun e => by omega⟩)⟩
        · rw [decide_eq_false h0]
          exact iteF (gName_go (rr _ _ ⟨0, rfl, hP.same (Same.refl _) (by omega), But.refl p H, by decide, fun _ => rfl⟩))
      rintro σ Hc ⟨q, rfl, Pc, bc, q0, qn⟩
      have hlc := bc _ _ lp hl
      have ival : ∀ {x y : Int}, (V.int x = V.int y) ↔ x = y := ⟨fun e => V.int.inj e, fun e => by rw [e]⟩
      refine ⟨_, rfl, _, _, rfl, rfl, decide (q < 3), congrArg V.bl (decide_eq_decide.mpr (by omega)), ?_⟩
      by_cases c3 : q < 3
      · rw [decide_eq_true c3]
        refine iteT ⟨_, rfl, (show 0 ≤ sizeLine by decide), fun Z nZ => ⟨l, Z, _, rfl, rfl, SqL.of (Same.new nZ _ _ hlc), SqL.of upd_same, _, rfl, ?_⟩⟩
        have sZ : Same Hc (upd Hc Z (.lst [])) := Same.new nZ
        have PZ := Pc.same sZ (Nat.le_refl _)
        have hlZ := sZ _ _ hlc
        generalize upd Hc Z (.lst []) = HZ at sZ PZ hlZ ⊢
        have bZ := bc.trans (But.of sZ)
        have done : ∀ {Hx : Hp} {k' : Nat}, PenAt Hx p c k' → k' ≤ k + Bp n → But p H Hx → (2 - 1 : Nat) ≤ sizeLine ∧ ∀ t, Hx t = none → Q (.ref t) (upd Hx t (.tup [.str (Str.ofString "then")])) := fun {Hx k'} Px le bx => ⟨(show 1 ≤ sizeLine by decide), fun t nt => go _ _ _ (Px.same (Same.new nt) le) (bx.trans (But.of (Same.new nt))) (.tup (SqT.of upd_same) (.cons (.str _) .nil)) good_done⟩
        cases ns with
        | nil => exact iteF (iteF (done PZ (by omega) bZ))
        | cons y ns =>
          refine iteT ⟨_, rfl, p, c, k + 1, 8, rfl, PZ, by omega, by decide, by decide, fun g H1 g0 g1 P1 b1 => ?_⟩
          refine ⟨_, _, rfl, rfl, decide (0 < g), congrArg V.bl (decide_eq_decide.mpr (by omega)), ?_⟩
          by_cases cg : 0 < g
          · rw [decide_eq_true cg]
            refine iteT ⟨_, rfl, _, rfl, p, c, k + 2, l, _, rfl, P1, by omega, b1 _ _ lp hlZ, (by rw [List.length_map, List.length_cons]; omega), by rw [List.length_map]; exact hn, fun i x H2 gx P2 b2 => ?_⟩
            obtain ⟨y', gy, rfl, hy⟩ := at_strs gx
            exact go _ _ _ (P2.same (Same.refl _) (by omega)) ((bZ.trans b1).trans b2) (.str _) (.nm hy)
          · rw [decide_eq_false cg]
            exact iteF (done P1 (by omega) (bZ.trans b1))
      rw [decide_eq_false c3]
      refine iteF ?_
      cases n with
      | zero => exact absurd (qn rfl) (by omega)
      | succ n =>
      obtain rfl := hs n rfl
      have eB : Bp (n + 1) = 3 * Bp n + 4 := rfl
      have ev : V.int (((n + 1 : Nat) : Int) - 1) = V.int ((n : Nat) : Int) := congrArg V.int (by omega)
      refine ⟨_, rfl, rfl, decide (q = 3), congrArg V.bl (by rw [decide_eq_decide]; exact ival), ?_⟩
      by_cases c3' : q = 3
      · rw [decide_eq_true c3']
        refine iteT ⟨_, rfl, _, rfl, _, rfl, _, _, rfl, rfl, ?_⟩
        refine ⟨_, rfl, p, c, k + 1, l, ns, b, congrArg (fun z => [V.ref p, V.ref l, z, V.bl b]) ev, Pc, by omega, hlc, hn, lp, fun v d H1 P1 b1 pl gd => ⟨(show 2 ≤ sizeLine by decide), fun t nt => ?_⟩⟩
        have st : Same H1 (upd H1 t (.tup [.str (Str.ofString "again"), v])) := Same.new nt
        refine go (.ref t) (.tuple [.str "again", d]) _ (P1.same st (by omega)) ((bc.trans b1).trans (But.of st)) (.tup (SqT.of upd_same) (.cons (.str _) (.cons (pl.same st) .nil))) (.nd (show rightNo (Str.ofString "again") ((1 : Nat) : Int) = true by decide +kernel) (show 1 ≤ 4 by decide) (and_b (by decide +kernel)) fun e he => ?_)
        rw [List.mem_singleton.mp he, or_b (by decide +kernel)]
        exact gd
      rw [decide_eq_false c3']
      refine iteF (tNext_go ?_)
      with_reducible conv => whnf
      refine seq_cutS (fun σ Hd => σ = [some (V.ref p), some (.ref l), some (.int ((n + 1 : Nat) : Int)), some (.bl b), some (.int q), none, none] ∧ Hd = Hc) ?_ ?_
      · intro NX rr
        refine ⟨_, rfl, rfl, decide (q = 4), congrArg V.bl (by rw [decide_eq_decide]; exact ival), ?_⟩
        by_cases c4 : q = 4
        · rw [decide_eq_true c4]
          refine iteT ⟨_, rfl, b, rfl, ?_⟩
          cases b with
          | false => exact iteF (rr _ _ ⟨rfl, rfl⟩)
          | true =>
            refine iteT ⟨_, rfl, _, rfl, _, rfl, _, _, rfl, rfl, ?_⟩
            refine ⟨p, c, k + 1, l, ns, false, congrArg (fun z => [V.ref p, V.ref l, z, V.bl false]) ev, Pc, by omega, hlc, hn, lp, fun v1 d1 H1 P1 b1 pl1 gd1 => ⟨_, rfl, _, rfl, _, rfl, _, _, rfl, rfl, ?_⟩⟩
            have hl1 := b1 _ _ lp hlc
            refine ⟨p, c, k + 1 + Bp n, l, ns, false, congrArg (fun z => [V.ref p, V.ref l, z, V.bl false]) ev, P1, by omega, hl1, hn, lp, fun v2 d2 H2 P2 b2 pl2 gd2 => ⟨(show 3 ≤ sizeLine by decide), fun t nt => ?_⟩⟩
            have pl1' := pl1.keep (KeepT.pen' P1 b2)
            have st : Same H2 (upd H2 t (.tup [.str (Str.ofString "beside"), v1, v2])) := Same.new nt
            refine go (.ref t) (.tuple [.str "beside", d1, d2]) _ (P2.same st (by omega)) (((bc.trans b1).trans b2).trans (But.of st)) (.tup (SqT.of upd_same) (.cons (.str _) (.cons (pl1'.same st) (.cons (pl2.same st) .nil)))) (.nd (show rightNo (Str.ofString "beside") ((2 : Nat) : Int) = true by decide +kernel) (show 2 ≤ 4 by decide) rfl fun e he => ?_)
            rcases List.mem_cons.mp he with rfl | he
            · exact gd1
            · rw [List.mem_singleton.mp he]
              exact gd2
        · rw [decide_eq_false c4]
          exact iteF (iteF (rr _ _ ⟨rfl, rfl⟩))
      rintro σ Hd ⟨rfl, rfl⟩
      refine ⟨(show 5 ≤ sizeLine by decide), fun wl nwl => ?_⟩
      have sw : Same Hd (upd Hd wl (.lst [.str (Str.ofString "then"), .str (Str.ofString "then"), .str (Str.ofString "either"), .str (Str.ofString "any"), .str (Str.ofString "then")])) := Same.new nwl
      have gw : (upd Hd wl (.lst [.str (Str.ofString "then"), .str (Str.ofString "then"), .str (Str.ofString "either"), .str (Str.ofString "any"), .str (Str.ofString "then")])) wl = some (.lst [.str (Str.ofString "then"), .str (Str.ofString "then"), .str (Str.ofString "either"), .str (Str.ofString "any"), .str (Str.ofString "then")]) := upd_same
      have wp := (pen_apart Pc (Same.refl _) nwl).1
      generalize upd Hd wl (.lst [.str (Str.ofString "then"), .str (Str.ofString "then"), .str (Str.ofString "either"), .str (Str.ofString "any"), .str (Str.ofString "then")]) = Hw at sw gw ⊢
      refine ⟨_, rfl, p, c, k + 1, 5, rfl, Pc.same sw (Nat.le_refl _), by omega, by decide, by decide, fun g H1 g0 g1 P1 b1 => ?_⟩
      have gw1 := b1 _ _ wp gw
      obtain ⟨wd, at_, rw1, nbs⟩ : ∃ wd : Str, atI [V.str (Str.ofString "then"), .str (Str.ofString "then"), .str (Str.ofString "either"), .str (Str.ofString "any"), .str (Str.ofString "then")] g = some (.str wd) ∧ (∀ m : Nat, 1 ≤ m → rightNo wd (m : Int) = true) ∧ wd ≠ "beside" := by
        have ri : ∀ m : Nat, 1 ≤ m → rightNo (Str.ofString "either") (m : Int) = true := fun m h => by
          show (decide ((1 : Int) ≤ m) && decide ((m : Int) ≤ m)) = true
          rw [decide_eq_true (by omega), decide_eq_true (Int.le_refl _)]
          rfl
        have ra : ∀ m : Nat, 1 ≤ m → rightNo (Str.ofString "any") (m : Int) = true := fun m h => by
          show (decide ((1 : Int) ≤ m) && decide ((m : Int) ≤ m)) = true
          rw [decide_eq_true (by omega), decide_eq_true (Int.le_refl _)]
          rfl
        have rt : ∀ m : Nat, 1 ≤ m → rightNo (Str.ofString "then") (m : Int) = true := fun m _ => by
          show (decide ((0 : Int) ≤ m) && decide ((m : Int) ≤ m)) = true
          rw [decide_eq_true (by omega), decide_eq_true (Int.le_refl _)]
          rfl
        have : g = 0 ∨ g = 1 ∨ g = 2 ∨ g = 3 ∨ g = 4 := by omega
        rcases this with rfl | rfl | rfl | rfl | rfl
        · exact ⟨_, rfl, rt, by decide +kernel⟩
        · exact ⟨_, rfl, rt, by decide +kernel⟩
        · exact ⟨_, rfl, ri, by decide +kernel⟩
        · exact ⟨_, rfl, ra, by decide +kernel⟩
        · exact ⟨_, rfl, rt, by decide +kernel⟩
      refine ⟨wl, _, g, _, rfl, rfl, SqL.of gw1, at_, gName_go ?_⟩
      with_reducible conv => whnf
      have bc1 := (bc.trans (But.of sw)).trans b1
      have hl1 := b1 _ _ lp (sw _ _ hlc)
      refine ⟨_, rfl, (show 1 ≤ sizeLine by decide), fun t0 nt0 => ?_⟩
      have tp := (pen_apart P1 (Same.refl _) nt0).1
      have s0 : Same H1 (upd H1 t0 (.tup [.str wd])) := Same.new nt0
      have g0' : (upd H1 t0 (.tup [.str wd])) t0 = some (.tup [.str wd]) := upd_same
      generalize upd H1 t0 (.tup [.str wd]) = H2 at s0 g0' ⊢
      refine ⟨_, rfl, p, c, k + 2, 3, rfl, P1.same s0 (Nat.le_refl _), by omega, by decide, by decide, fun u H3 u0 u1 P3 b3' => ?_⟩
      obtain ⟨m, em, m1, m3⟩ : ∃ m : Nat, 1 + u = (m : Int) ∧ 1 ≤ m ∧ m ≤ 3 := ⟨(1 + u).toNat, by omega, by omega, by omega⟩
      refine ⟨_, _, rfl, rfl, (m : Int), congrArg (fun z => [V.int z]) em, by omega, by omega, fun D nD => ?_⟩
      have mm : (m : Int).toNat = m := by omega
      obtain ⟨Dp, Dc⟩ := pen_apart P3 (Same.refl _) nD
      have hl3 := b3' _ _ lp (s0 _ _ hl1)
      refine lc_it walk_range (fun j Hh => ∃ (xs : List V) (ds : List PyData), Hh D = some (.lst xs) ∧ Pls K Hh xs ds ∧ ds.length = j ∧ (∀ d ∈ ds, Good ns (n + 1) (!b) d) ∧ PenAt Hh p c (k + 3 + Bp n * j) ∧ But p H3 Hh) ⟨[], [], upd_same, .nil, rfl, (fun _ z => nomatch z), pen_off P3 Dp Dc, But.of (Same.new nD)⟩ (fun _ _ _ _ => trivial) ?_ ?_
      · rintro j x Ha Hb hj ⟨xs, ds, hD, pls, ld, gds, Pj, bj⟩ ⟨rfl, ex⟩
        have hj3 : j < 3 := by omega
        have bj3 : Bp n * j ≤ 2 * Bp n := by
          have : j = 0 ∨ j = 1 ∨ j = 2 := by omega
          rcases this with rfl | rfl | rfl <;> omega
        refine ⟨rfl, ?_⟩
        refine yes_of ?_
        refine ⟨_, rfl, _, rfl, _, rfl, _, _, rfl, rfl, ?_⟩
        refine ⟨_, rfl, p, c, k + 3 + Bp n * j, l, ns, b, congrArg (fun z => [V.ref p, V.ref l, z, V.bl b]) ev, Pj, by omega, bj _ _ lp hl3, hn, lp, fun v d H4 P4 b4 pl gd => ?_⟩
        have hD4 := b4 _ _ Dp hD
        have lx := pls.len
        refine ⟨xs, hD4, by rw [lx, ld, ssz]; omega, xs ++ [v], ds ++ [d], upd_same, ?_, by rw [List.length_append, ld]; rfl, fun e he => ?_, ?_, ?_⟩
        · exact ((pls.keep (KeepT.pen' Pj b4)).snoc pl).keep (KeepT.lst hD4)
        · rcases List.mem_append.mp he with z | z
          · exact gds e z
          · rw [List.mem_singleton.mp z]; exact gd
        · have e4 : k + 3 + Bp n * (j + 1) = k + 3 + Bp n * j + Bp n := by rw [Nat.mul_succ]; omega
          rw [e4]
          exact pen_off P4 Dp Dc
        · intro b' o nb z
          have nD' : b' ≠ D := fun e => by rw [e, nD] at z; cases z
          rw [upd_ne nD']
          exact b4 b' o nb (bj b' o nb z)
      · rintro H7 ⟨xs, ds, hD, pls, ld, gds, P7, b7⟩
        have lx := pls.len
        have ldm : ds.length = m := by omega
        have g7 := b7 _ _ tp (b3' _ _ tp g0')
        refine ⟨D, _, rfl, .inl ⟨SqL.of hD, fun t nt => ?_⟩⟩
        have s8 : Same H7 (upd H7 t (.tup xs)) := Same.new nt
        have g8 : (upd H7 t (.tup xs)) t = some (.tup xs) := upd_same
        generalize upd H7 t (.tup xs) = H8 at s8 g8 ⊢
        have xne : xs ≠ [] := fun e => by rw [e] at lx; have : 0 = ds.length := lx; omega
        refine ⟨t0, t, _, xs, rfl, rfl, SqT.of (s8 _ _ g7), SqT.of g8, by rw [ssz]; show 1 + xs.length ≤ _; omega, (fun z => nomatch z), fun _ e => absurd e xne, fun _ _ q2 nq2 => ?_⟩
        have s9 : Same H8 (upd H8 q2 (.tup ([.str wd] ++ xs))) := Same.new nq2
        have s79 := s8.trans s9
        have bm3 : Bp n * m ≤ 3 * Bp n := by
          have : m = 1 ∨ m = 2 ∨ m = 3 := by omega
          rcases this with rfl | rfl | rfl <;> omega
        have e5 : Bp n * (m : Int).toNat = Bp n * m := by rw [mm]
        refine go (.ref q2) (.tuple (.str wd :: ds)) _ (P7.same s79 (by omega)) (((bc1.trans (But.of s0)).trans (b3'.trans b7)).trans (But.of s79)) (.tup (SqT.of upd_same) (.cons (.str _) (pls.same s79))) (.nd (rw1 _ (by omega)) (by omega) (and_b nbs) fun e he => ?_)
        rw [or_b nbs]
        exact gds e he
theorem ok_lpl {f aK aD : Addr} {fd fK fD : FuncData} (F : Fun K "_law_plan" "_law_plan" sLpl f fd) (FK : Fun K "_law_pick" "_law_pick" sPick aK fK) (FD : Fun K "_law_draw" "_law_draw" sDraw aD fD) (T : TxtP mg) (gr : mg "range" = none) (gt : mg "tuple" = none)
    (gF : mg "_law_plan" = some (.ref f)) (gK : mg "_law_pick" = some (.ref aK)) (gD : mg "_law_draw" = some (.ref aD)) : ∀ n, FnOk P w K mg base CX0 (n + 3) f fd ALpl (spLpl K n)
  | 0 => step_lpl (n := 0) (kk := 2) (sp' := fun _ _ _ _ => False) (by decide) F FK FD T gr gt gF gK gD (F.ok scLpl (fun _ _ _ _ h => h.elim) (fun _ _ _ _ _ _ _ _ _ h => h.elim)) (fun j e => nomatch e)
  | n + 1 => step_lpl (n := n + 1) (kk := n + 3) (sp' := spLpl K n) (by omega) F FK FD T gr gt gF gK gD (ok_lpl F FK FD T gr gt gF gK gD n) (fun j e => by cases e; rfl)
end
end Fp1
set_option Elab.async false
set_option linter.all false
set_option maxRecDepth 100000
set_option maxHeartbeats 1000000
/-! FzG: x in (a, b) where items are data of any depth; isinstance of str beside data -/
namespace L2
open PySem PySem.Spec PyProof.Rows
end L2
set_option Elab.async false
set_option linter.all false
set_option maxRecDepth 100000
set_option maxHeartbeats 8000000
/-! _law_normal (printed by mkKnf.py), _law_count -/
namespace Fp1
open PySem PySem.Spec PyProof.Rows L2 Fh Fs
open PySem.W (Frag)
abbrev sNrm : Stmt := top 92
abbrev sCnt : Stmt := top 93
abbrev NNrm : List Str := ["_law_plan_here", "_law_parts", "_law_part", "_law_flat"]
structure TxtL (mg : Str → Option Value) : Prop where
  isinstance : mg "isinstance" = none
  str : mg "str" = none
  len : mg "len" = none
  list : mg "list" = none
  tuple : mg "tuple" = none
  sum : mg "sum" = none
def isStrD : PyData → Bool
  | .str _ => true
  | _ => false
theorem kit_strD (K : Frag) (d : PyData) : PySem.W.kitOne K (.type (tyn d)) (.type "str") = some (isStrD d) := by cases d <;> rfl
theorem sh_lst {n : Nat} {ds : List PyData} (h : ∀ d ∈ ds, Sh n d) (hn : n ≤ 60) : SeqAt.shaped (.list ds) = true := by
  have h1 : PyData.canLay0 (.list ds) = true := lay_all fun d hd => (h d hd).lay.1
  have h2 : PyData.depth (.list ds) ≤ n + 1 := by
    have := depth_all fun d hd => (h d hd).lay.2
    simp only [PyData.depth]
    omega
  unfold SeqAt.shaped
  rw [h1, decide_eq_true (by omega)]
  rfl
section
variable {K : Frag}
theorem room65 {k : Nat} {A : Around} (r : Room k A) : A.units + 65 < cLine := by have := r.un; omega
theorem done_new {H : Hp} {t : Addr} (h : H t = some (.tup [.str (Str.ofString "then")])) : Pl K H (.ref t) doneD := .tup (SqT.of h) (.cons (.str _) .nil)
end
section
variable {P : Program} {w : World} {K : Frag} {mg : Str → Option Value} {base : Heap}
theorem scNrm : FnScope NNrm ["_law_plan_here"] (defScope sNrm) := ⟨rfl, rfl, rfl, by decide +kernel, rfl, by decide +kernel, by decide +kernel⟩
theorem step_nrm {n kk : Nat} {sp' : Sp} {f : Addr} {fd : FuncData} (hk : 1 ≤ kk) (F : Fun K "_law_normal" "_law_normal" sNrm f fd) (gF : mg "_law_normal" = some (.ref f)) (T : TxtL mg)
    (GN : FnOk P w K mg base CX0 kk f fd ["_law_plan_here"] sp') (hs : ∀ j, n = j + 1 → sp' = spNf K j) : FnOk P w K mg base CX0 (kk + 1) f fd ["_law_plan_here"] (spNf K n) := by
  have bN : Binds K fd ["_law_plan_here"] [] := F.binds (ps := ["_law_plan_here"]) fun _ _ _ _ _ _ us hl => match us, hl with | [_], _ => rfl
  refine F.ok scNrm (fun vs H Q E h => ?_) (fun cdv A outer s H vs Q E hr h => ?_)
  · obtain ⟨v, d, rfl, _⟩ := h
    rfl
  · obtain ⟨v, d, rfl, hv, sh, hn, hw, k⟩ := h
    have hr1 : Room 1 _ := hr.mono hk
    have hu := hr1.units
    refine' ⟨_, pss_cons ?s1 (pss_cons ?s2 (pss_cons ?s3 (pss_cons ?s4 (pss_one ?s5)))), ?q⟩
    case s1 =>
      refine' ps_if (pt_val ?a) (pss_one (ps_ret (pv 0))) pss_nil
      case a => exact pe_callB call_isi (by rfl) T.isinstance (by decide +kernel) (pa_cons (pv 0) (pa_cons (pe_bltn (v := .ty "str") (by rfl) T.str (by decide +kernel) rfl (by decide) (by decide)) pa_nil))
    case s2 =>
      refine' ps_setLc (i := 1) (own := [("_law_part", 2)]) (g := gName 2) (tt := tYes) rfl scNrm.nd rfl rfl (sw_true rfl rfl rfl (by decide +kernel)) (pi_tup (pe_slice sl_tupA (pv 0) (po_some pe_int) po_none)) (blkOk_by (N := NNrm) (sc := defScope sNrm) (by decide +kernel)) (fun _ _ _ _ _ => pg_name (i := 2) scNrm.nd rfl (Or.inl rfl)) (fun _ _ _ _ _ => pts_nil) ?e
      case e => exact fun _ _ _ _ _ => pe_call GN hr rfl gF F.kp bN .nil pass0 (pa_cons (pv 2) pa_nil)
    case s3 =>
      refine' ps_if (pt_cmpR op_eq (pe_ix ix_tup (pv 0) pe_int (fun _ _ => rfl)) pe_str (nomark _)) (pss_cons (ps_set (i := 3) scNrm.nd rfl (Or.inl rfl) (pe_lst pa_nil)) (pss_cons ?l (pss_one ?r))) pss_nil
      case l =>
        refine' ps_for PassesOwn.never rfl (pi_list (pv 1)) (pg_name (i := 2) scNrm.nd rfl (Or.inl rfl)) (pss_one (ps_expr (pe_bm PySem.F.plainAttrs_list PySem.F.slot_list_extend PySem.F.type_list_extend mt_extend (pv 3) (pa_cons (pe_ifExp (PW.pt (pw_and (pt_val ?a) (pw_and1 ?b))) ?c ?d) pa_nil))))
        case a => exact pe_callB call_isi (by rfl) T.isinstance (by decide +kernel) (pa_cons (pv 2) (pa_cons (pe_bltn (v := .ty "tuple") (by rfl) T.tuple (by decide +kernel) rfl (by decide) (by decide)) pa_nil))
        case b => exact pt_cmpR op_eq (pe_ix ix_tup (pv 2) pe_int (fun _ _ => rfl)) pe_str (nomark _)
        case c => exact pe_callTy call_list_of (by rfl) T.list (by decide +kernel) (pa_cons (pe_slice sl_tupA (pv 2) (po_some pe_int) po_none) pa_nil)
        case d => exact pe_lst (pa_cons (pv 2) pa_nil)
      case r => exact ps_ret (pe_ifExp (pt_cmpR op_eq (pe_callB call_len_seq (by rfl) T.len PySem.boot_len (pa_cons (pv 3) pa_nil)) pe_int (nomark _)) (pe_ix ix_list (pv 3) pe_int (fun _ _ => rfl)) (pe_op op_catA (pe_tup (pa_cons pe_str pa_nil)) (pe_callTy call_tuple_of (by rfl) T.tuple (by decide +kernel) (pa_cons (pv 3) pa_nil))))
    case s4 =>
      refine' ps_if (PW.pt (pw_and (pt_cmpR op_eq (pe_ix ix_tup (pv 0) pe_int (fun _ _ => rfl)) pe_str (nomark _)) (pw_and1 (pt_cmpR (op_inD ?u) (pe_tup (pa_cons pe_str pa_nil)) (pv 1) (by rfl))))) (pss_one (ps_ret (pe_ifExp (pt_cmpR (op_eqD hu) (pe_ix ix_list (pv 1) pe_int (fun _ _ => rfl)) (pe_tup (pa_cons pe_str pa_nil)) (nomark _)) (pe_ix ix_list (pv 1) pe_int (fun _ _ => rfl)) (pe_ix ix_list (pv 1) pe_int (fun _ _ => rfl))))) pss_nil
      case u => exact room65 hr1
    case s5 => exact ps_ret (pe_op op_catA (pe_tup (pa_cons (pe_ix ix_tup (pv 0) pe_int (fun _ _ => rfl)) pa_nil)) (pe_callTy call_tuple_of (by rfl) T.tuple (by decide +kernel) (pa_cons (pv 1) pa_nil)))
    case q =>
      have ty := hv.ty
      have kt := kit_strD K d
      have ssz : sizeLine = 16777216 := sizeLine_eq
      refine ⟨_, rfl, _, _, _, _, isStrD d, rfl, .ty _, ty, kt, _, rfl, ?_⟩
      cases sh with
      | @nm _ y hy =>
        refine iteT ⟨_, rfl, ?_⟩
        have e : nf n (.str y) = .str y := by cases n <;> rfl
        rw [e] at k
        exact k v H (Same.refl _) hv
      | @nd n y ds h1 h2 h3 =>
        obtain rfl := hs n rfl
        refine iteF ?_
        cases hv with
        | @tup a vs _ hg r =>
          cases r with
          | @cons x0 d0 xs _ hx r =>
            cases hx
            have lx := r.len
            rw [w_tup, w_cons] at hw
            have wl := w_len ds
            refine ⟨_, rfl, 1, rfl, a, _, rfl, hg, fun z => tail_new xs z.1, fun _ q nq => ?_⟩
            rw [cut_tail]
            have sq : Same H (upd H q (.tup xs)) := Same.new nq
            have gq : (upd H q (.tup xs)) q = some (.tup xs) := upd_same
            generalize upd H q (.tup xs) = H1 at sq gq ⊢
            refine ⟨q, rfl, ⟨_, SqT.of gq⟩, fun D nD => ?_⟩
            refine lc_it (walk_tup (K := K) (a := q) (xs := xs)) (fun i Hh => ∃ ys, Pls K Hh ys ((ds.take i).map (nf n)) ∧ Hh D = some (.lst ys) ∧ Same H1 Hh) ⟨[], .nil, upd_same, Same.new nD⟩ (fun _ Hh _ ⟨_, _, _, z⟩ => SqT.of (z _ _ gq)) ?_ ?_
            · rintro i x Ha Hb hi ⟨ys, ey, hD, sa⟩ ⟨rfl, gx⟩
              refine ⟨rfl, ?_⟩
              refine yes_of ?_
              have di : i < ds.length := by omega
              have gd : ds[i]? = some ds[i] := List.getElem?_eq_getElem di
              have dx := (r.get gx gd).same (sq.trans sa)
              have mem : ds[i] ∈ ds := List.getElem_mem di
              have wm := w_mem mem
              have ly := ey.len
              rw [List.length_map, List.length_take] at ly
              refine ⟨_, rfl, x, ds[i], rfl, dx, h3 _ mem, by omega, by omega, fun z Hc sc hz => ?_⟩
              refine ⟨ys, sc _ _ hD, by omega, ys ++ [z], ?_, upd_same, ?_⟩
              · rw [List.take_add_one, gd, List.map_append]
                exact ((ey.same sc).snoc hz).keep (KeepT.lst (sc _ _ hD))
              · intro b' u z
                rw [upd_ne (fun e => by rw [e, nD] at z; cases z)]
                exact sc _ _ (sa _ _ z)
            · rintro Ha ⟨ys, ey, hD, sa⟩
              rw [lx, List.take_length] at ey
              have sA := sq.trans sa
              have hg2 := (KeepT.of sA).sqT hg
              have ly := ey.len
              rw [List.length_map] at ly
              have mm := w_map (w_nf n) ds
              have shm : ∀ e ∈ ds.map (nf n), Sh n e := fun e he => by
                obtain ⟨d, hd, rfl⟩ := List.mem_map.mp he
                exact sh_nf (h3 d hd)
              with_reducible conv => whnf
              refine ⟨_, rfl, a, _, 0, _, rfl, rfl, hg2, atI_nat rfl, rfl, decide (y = "then"), congrArg V.bl (eq_word _), ?_⟩
              have e0 : nf (n + 1) (.tuple (.str y :: ds)) = (if y = "then" then inTurn (ds.map (nf n)) else if y = "beside" then twoOf (ds.map (nf n)) (.tuple (.str y :: ds)) else .tuple (.str y :: ds.map (nf n))) := rfl
              rw [e0] at k
              by_cases e1 : y = "then"
              · rw [if_pos e1] at k
                rw [decide_eq_true e1]
                refine iteT ?_
                generalize hes : ds.map (nf n) = es at ey shm k ly mm
                have hw6 : PyData.weightAll es ≤ 1000000 := by omega
                have k' : ∀ x H', Same Ha H' → Pl K H' x (inTurn es) → Q x H' := fun x H' s h => k x H' (sA.trans s) h
                refine ⟨(show 0 ≤ sizeLine by decide), fun f nf => ?_⟩
                refine gName_go ?_
                clear k
                have lx := ey.len
                have s0 : Same Ha (upd Ha f (.lst [])) := Same.new nf
                have f0 : (upd Ha f (.lst [])) f = some (.lst []) := upd_same
                generalize upd Ha f (.lst []) = H0 at s0 f0 ⊢
                refine ⟨_, rfl, D, rfl, ⟨ys, SqL.of (s0 _ _ hD)⟩, ?_⟩
                refine for_it (walk_list (K := K) (a := D) (xs := ys)) (fun i σ Hh => ∃ o us, σ = [some (.ref a), some (.ref D), o, some (.ref f)] ∧ Same Ha Hh ∧ Hh f = some (.lst us) ∧ Pls K Hh us (flatF (es.take i))) ⟨none, [], rfl, s0, f0, .nil⟩ (fun i σ Hh _ ⟨_, _, _, z, _⟩ => SqL.of (z _ _ hD)) ?_ ?_
                · rintro i x σ Hx Hb hi ⟨o, us, rfl, sa, ha, pa⟩ ⟨rfl, gx⟩
                  have di : i < es.length := by omega
                  have gd : es[i]? = some es[i] := List.getElem?_eq_getElem di
                  have dx := (ey.get gx gd).same sa
                  have shi := shm es[i] (List.getElem_mem di)
                  have wi := w_mem (List.getElem_mem di)
                  have tk : es.take (i + 1) = es.take i ++ [es[i]] := by rw [List.take_add_one, gd]; rfl
                  have wf : PyData.weightAll (flatF (es.take i)) + (flat1 es[i]).length ≤ 1000000 := by
                    have h1 := w_flat (es.take (i + 1))
                    rw [tk, flat_snoc, w_app] at h1
                    have h2 := w_len (flat1 es[i])
                    have h3 : PyData.weightAll (es.take (i + 1)) ≤ PyData.weightAll es := by
                      have e := w_app (es.take (i + 1)) (es.drop (i + 1))
                      rw [List.take_append_drop] at e
                      omega
                    rw [tk] at h3
                    omega
                  have ly := pa.len
                  have wl := w_len (flatF (es.take i))
                  rw [tk, flat_snoc]
                  generalize es[i] = d at dx shi wf gd
                  have ty := dx.ty
                  have kt := kit_tup K d
                  -- the list that the found ones are longer by
                  have post : ∀ {q : Addr} {zs : List V} {Hc : Hp}, Same Hb Hc → Hb q = none → Hc q = some (.lst zs) → Pls K Hc zs (flat1 d) → ∃ l0 b ys0 zs0, V.ref f = V.ref l0 ∧ [V.ref q] = [V.ref b] ∧ Hc l0 = some (.lst ys0) ∧ Hc b = some (.lst zs0) ∧ ys0.length + zs0.length ≤ sizeLine ∧
                      ∃ o us', [some (V.ref a), some (V.ref D), some x, some (V.ref f)] = [some (V.ref a), some (V.ref D), o, some (V.ref f)] ∧ Same Ha (upd Hc l0 (.lst (ys0 ++ zs0))) ∧ (upd Hc l0 (.lst (ys0 ++ zs0))) f = some (.lst us') ∧ Pls K (upd Hc l0 (.lst (ys0 ++ zs0))) us' (flatF (es.take i) ++ flat1 d) := fun {q zs Hc} sq nq gq pz => by
                    have lz := pz.len
                    have fq := sq _ _ ha
                    exact ⟨f, q, us, zs, rfl, rfl, fq, gq, by omega, _, _, rfl, same_off (sa.trans sq) nf, upd_same, ((pa.same sq).append pz).keep (KeepT.lst fq)⟩
                  have alone : thenParts d = none → ∀ q, Hb q = none → Pls K (upd Hb q (.lst [x])) [x] (flat1 d) := fun e q nq => by
                    have e2 : flat1 d = [d] := by unfold flat1; rw [e]
                    rw [e2]
                    exact .cons (dx.same (Same.new nq)) .nil
                  refine ⟨.ref f, rfl, .inl ⟨rfl, _, SqL.of ha⟩, _, rfl, _, _, _, _, isTup d, rfl, .ty _, ty, kt, _, rfl, ?_⟩
                  cases shi with
                  | nm _ =>
                    refine iteF (iteF ⟨_, rfl, (show 1 ≤ sizeLine by decide), fun q nq => ?_⟩)
                    exact post (Same.new nq) nq upd_same (alone rfl q nq)
                  | @nd n2 y2 es2 h12 h22 h32 =>
                    cases dx with
                    | @tup a2 vs2 _ hg2' r2 =>
                      cases r2 with
                      | @cons x02 d02 xs0 _ hx2 r2 =>
                        cases hx2
                        refine iteT ⟨_, rfl, a2, _, 0, _, rfl, rfl, hg2', atI_nat rfl, rfl, decide (y2 = "then"), congrArg V.bl (eq_word _), ?_⟩
                        by_cases e : y2 = "then"
                        · subst e
                          refine iteT ⟨_, rfl, 1, rfl, a2, _, rfl, hg2', fun z => tail_new xs0 z.1, fun _ q nq => ?_⟩
                          rw [cut_tail]
                          have sq : Same Hb (upd Hb q (.tup xs0)) := Same.new nq
                          have gq : (upd Hb q (.tup xs0)) q = some (.tup xs0) := upd_same
                          generalize upd Hb q (.tup xs0) = Hc at sq gq ⊢
                          refine ⟨q, xs0, rfl, .inr (SqT.of gq), fun q2 nq2 => ?_⟩
                          have nq0 : Hb q2 = none := by
                            cases ee : Hb q2 with
                            | none => rfl
                            | some o => rw [sq _ _ ee] at nq2; cases nq2
                          exact post (sq.trans (Same.new nq2)) nq0 upd_same (r2.same (sq.trans (Same.new nq2)))
                        · rw [decide_eq_false e]
                          refine iteF ⟨_, rfl, (show 1 ≤ sizeLine by decide), fun q nq => ?_⟩
                          exact post (Same.new nq) nq upd_same (alone (if_neg e) q nq)
                · rintro σ Hx ⟨o, us, rfl, sa, ha, pa⟩
                  rw [lx, List.take_length] at pa
                  have ly := pa.len
                  have wl := w_len (flatF es)
                  have wf := w_flat es
                  refine ⟨_, rfl, f, _, rfl, .inl (SqL.of ha), rfl, decide (V.int (us.length : Nat) = V.int 1), rfl, ?_⟩
                  have inj : decide (V.int (us.length : Nat) = V.int 1) = decide (us.length = 1) := by
                    by_cases h : us.length = 1
                    · rw [decide_eq_true h, decide_eq_true (by rw [h]; rfl)]
                    · rw [decide_eq_false h, decide_eq_false (fun e => h (by injection e with e; omega))]
                  rw [inj]
                  have e0 : inTurn es = (match flatF es with | [d] => d | es => .tuple (.str "then" :: es)) := rfl
                  by_cases h : us.length = 1
                  · rw [decide_eq_true h]
                    match us, h, flatF es, pa, ly, e0 with
                    | [v], _, [d], .cons hv .nil, _, e0 => exact iteT ⟨_, rfl, f, _, 0, v, rfl, rfl, SqL.of ha, atI_nat rfl, k' v Hx sa (e0 ▸ hv)⟩
                  · rw [decide_eq_false h]
                    have e1 : inTurn es = .tuple (.str "then" :: flatF es) := by
                      rw [e0]
                      match flatF es, ly with
                      | [], _ => rfl
                      | [d], ly => exact absurd ly h
                      | _ :: _ :: _, _ => rfl
                    refine iteF ⟨(show 1 ≤ sizeLine by decide), fun t0 nt0 => ?_⟩
                    have s1 : Same Hx (upd Hx t0 (.tup [.str (Str.ofString "then")])) := Same.new nt0
                    have g1 : (upd Hx t0 (.tup [.str (Str.ofString "then")])) t0 = some (.tup [.str (Str.ofString "then")]) := upd_same
                    generalize upd Hx t0 (.tup [.str (Str.ofString "then")]) = H1 at s1 g1 ⊢
                    refine ⟨_, rfl, f, us, rfl, .inl ⟨SqL.of (s1 _ _ ha), fun t1 nt1 => ?_⟩⟩
                    have s2 : Same H1 (upd H1 t1 (.tup us)) := Same.new nt1
                    have g2 : (upd H1 t1 (.tup us)) t1 = some (.tup us) := upd_same
                    generalize upd H1 t1 (.tup us) = H2 at s2 g2 ⊢
                    have s12 := s1.trans s2
                    refine ⟨t0, t1, _, us, rfl, rfl, SqT.of (s2 _ _ g1), SqT.of g2, by show 1 + us.length ≤ sizeLine; omega, (fun z => nomatch z), fun _ e => ?_, fun _ _ t nt => ?_⟩
                    · subst e
                      exact k' (.ref t0) _ (sa.trans s12) (by
                        rw [e1]
                        have e3 : flatF es = [] := List.eq_nil_of_length_eq_zero (by rw [← ly]; rfl)
                        rw [e3]
                        exact .tup (.of (s2 _ _ g1)) (.cons (.str _) .nil))
                    · exact k' (.ref t) _ ((sa.trans s12).trans (Same.new nt)) (by
                        rw [e1]
                        exact .tup (.of upd_same) (.cons (.str _) (pa.same (s12.trans (Same.new nt)))))
              · rw [if_neg e1] at k
                rw [decide_eq_false e1]
                refine iteF (tNext_go ?_)
                with_reducible conv => whnf
                refine seq_cutS (fun σ Hd => σ = [some (.ref a), some (.ref D), none, none] ∧ Same Ha Hd ∧ (if y = "beside" then twoOf (ds.map (nf n)) (.tuple (.str y :: ds)) else .tuple (.str y :: ds.map (nf n))) = .tuple (.str y :: ds.map (nf n))) ?_ ?_
                · intro NX rr
                  refine ⟨_, rfl, a, _, 0, _, rfl, rfl, hg2, atI_nat rfl, rfl, decide (y = "beside"), congrArg V.bl (eq_word _), ?_⟩
                  by_cases e2 : y = "beside"
                  · rw [decide_eq_true e2]
                    rw [if_pos e2] at k
                    have l2 := beside_two (m := ds.length) (by rw [← e2]; exact h1)
                    rw [l2] at ly
                    rw [if_pos e2] at rr
                    subst e2
                    generalize ds.map (nf n) = ps at ey shm k rr
                    refine iteT ⟨(show 1 ≤ sizeLine by decide), fun t0 nt0 => ?_⟩
                    have s1 : Same Ha (upd Ha t0 (.tup [.str (Str.ofString "then")])) := Same.new nt0
                    have d1 : Pl K (upd Ha t0 (.tup [.str (Str.ofString "then")])) (.ref t0) doneD := done_new upd_same
                    generalize upd Ha t0 (.tup [.str (Str.ofString "then")]) = H1' at s1 d1 ⊢
                    match ys, ps, ly, ey, k, shm, hD, rr with
                    | [u, v], [p, q], _, .cons hu' (.cons hv' .nil), k, shm, hD, rr =>
                      have hD1 := s1 _ _ hD
                      have hu2 := hu'.same s1
                      have hv2 := hv'.same s1
                      have e0' : twoOf [p, q] (.tuple (.str (Str.ofString "beside") :: ds)) = (if isDone p = true then q else if isDone q = true then p else .tuple [.str "beside", p, q]) := rfl
                      rw [e0'] at k rr
                      refine ⟨_, rfl, doneD, [p, q], d1.dp, .lst (SqL.of hD1) (.cons hu2.dp (.cons hv2.dp .nil)), done_shaped, sh_lst (n := n) shm (by omega), (isDone p || (isDone q || false)), rfl, ?_⟩
                      rw [Bool.or_false]
                      have shp := shm _ List.mem_cons_self
                      cases ea : isDone p with
                      | true =>
                        rw [if_pos ea] at k
                        refine iteT ⟨_, rfl, D, _, 0, u, rfl, rfl, SqL.of hD1, atI_nat rfl, (show 1 ≤ sizeLine by decide), fun t3 nt3 => ?_⟩
                        have s3 : Same H1' (upd H1' t3 (.tup [.str (Str.ofString "then")])) := Same.new nt3
                        refine ⟨p, doneD, (hu2.same s3).dp, (done_new upd_same).dp, shp.shaped (by omega), done_shaped, isDone p, rfl, ?_⟩
                        rw [ea]
                        exact iteT ⟨_, rfl, D, _, 1, v, rfl, rfl, SqL.of (s3 _ _ hD1), atI_nat rfl, k v _ ((sA.trans s1).trans s3) (hv2.same s3)⟩
                      | false =>
                        rw [if_neg (by rw [ea]; exact fun z => nomatch z)] at k rr
                        cases eb : isDone q with
                        | true =>
                          rw [if_pos eb] at k
                          refine iteT ⟨_, rfl, D, _, 0, u, rfl, rfl, SqL.of hD1, atI_nat rfl, (show 1 ≤ sizeLine by decide), fun t3 nt3 => ?_⟩
                          have s3 : Same H1' (upd H1' t3 (.tup [.str (Str.ofString "then")])) := Same.new nt3
                          refine ⟨p, doneD, (hu2.same s3).dp, (done_new upd_same).dp, shp.shaped (by omega), done_shaped, isDone p, rfl, ?_⟩
                          rw [ea]
                          exact iteF ⟨_, rfl, D, _, 0, u, rfl, rfl, SqL.of (s3 _ _ hD1), atI_nat rfl, k u _ ((sA.trans s1).trans s3) (hu2.same s3)⟩
                        | false =>
                          rw [if_neg (by rw [eb]; exact fun z => nomatch z)] at rr
                          exact iteF (rr _ _ ⟨rfl, s1, rfl⟩)
                  · rw [decide_eq_false e2]
                    exact iteF (iteF (rr _ _ ⟨rfl, Same.refl _, if_neg e2⟩))
                · rintro σ Hd ⟨rfl, sd, ek⟩
                  rw [ek] at k
                  have hD := sd _ _ hD
                  have hg2 := (KeepT.of sd).sqT hg2
                  have ey := ey.same sd
                  have sA := sA.trans sd
                  refine ⟨_, rfl, a, _, 0, _, rfl, rfl, hg2, atI_nat rfl, (show 1 ≤ sizeLine by decide), fun t0 nt0 => ?_⟩
                  have s1 : Same Hd (upd Hd t0 (.tup [.str y])) := Same.new nt0
                  have g1 : (upd Hd t0 (.tup [.str y])) t0 = some (.tup [.str y]) := upd_same
                  generalize upd Hd t0 (.tup [.str y]) = H3 at s1 g1 ⊢
                  refine ⟨_, rfl, D, ys, rfl, .inl ⟨SqL.of (s1 _ _ hD), fun t1 nt1 => ?_⟩⟩
                  have s2 : Same H3 (upd H3 t1 (.tup ys)) := Same.new nt1
                  have g2 : (upd H3 t1 (.tup ys)) t1 = some (.tup ys) := upd_same
                  generalize upd H3 t1 (.tup ys) = H4 at s2 g2 ⊢
                  have s12 := s1.trans s2
                  refine ⟨t0, t1, _, ys, rfl, rfl, SqT.of (s2 _ _ g1), SqT.of g2, by show 1 + ys.length ≤ sizeLine; omega, (fun z => nomatch z), fun _ e => ?_, fun _ _ t nt => ?_⟩
                  · subst e
                    have e3 : ds = [] := List.eq_nil_of_length_eq_zero (by rw [← ly]; rfl)
                    subst e3
                    exact k (.ref t0) _ (sA.trans s12) (.tup (.of (s2 _ _ g1)) (.cons (.str _) .nil))
                  · exact k (.ref t) _ ((sA.trans s12).trans (Same.new nt)) (.tup (.of upd_same) (.cons (.str _) (ey.same (s12.trans (Same.new nt)))))
theorem ok_nrm {f : Addr} {fd : FuncData} (F : Fun K "_law_normal" "_law_normal" sNrm f fd) (gF : mg "_law_normal" = some (.ref f)) (T : TxtL mg) : ∀ n, FnOk P w K mg base CX0 (n + 3) f fd ["_law_plan_here"] (spNf K n)
  | 0 => step_nrm (n := 0) (kk := 2) (sp' := fun _ _ _ _ => False) (by decide) F gF T (F.ok scNrm (fun _ _ _ _ h => h.elim) (fun _ _ _ _ _ _ _ _ _ h => h.elim)) (fun j e => nomatch e)
  | n + 1 => step_nrm (n := n + 1) (kk := n + 3) (sp' := spNf K n) (by omega) F gF T (ok_nrm F gF T n) (fun j e => by cases e; rfl)
/-! ### _law_count -/
abbrev NCnt : List Str := ["_law_plan_here", "_law_part"]
def cntL (n : Nat) (ds : List PyData) : List Int := ds.map fun d => (((namesF n d).length : Nat) : Int)
theorem cnt_sum (n : Nat) : ∀ ds : List PyData, (cntL n ds).sum = (((ds.flatMap (namesF n)).length : Nat) : Int)
  | [] => rfl
  | d :: ds => by
    have ih := cnt_sum n ds
    rw [List.flatMap_cons, List.length_append]
    show (((namesF n d).length : Nat) : Int) + (cntL n ds).sum = _
    rw [ih]
    omega
def spCnt (K : Frag) (n : Nat) : Sp := fun vs H Q _ => ∃ v d, vs = [v] ∧ Pl K H v d ∧ Sh n d ∧ d.weight ≤ 900000 ∧ ∀ H', Same H H' → Q (.int (((namesF n d).length : Nat) : Int)) H'
theorem scCnt : FnScope NCnt ["_law_plan_here"] (defScope sCnt) := ⟨rfl, rfl, rfl, by decide +kernel, rfl, by decide +kernel, by decide +kernel⟩
theorem step_cnt {n kk : Nat} {sp' : Sp} {f : Addr} {fd : FuncData} (F : Fun K "_law_count" "_law_count" sCnt f fd) (gF : mg "_law_count" = some (.ref f)) (T : TxtL mg) (GN : FnOk P w K mg base CX0 kk f fd ["_law_plan_here"] sp') (hs : ∀ j, n = j + 1 → sp' = spCnt K j) : FnOk P w K mg base CX0 (kk + 1) f fd ["_law_plan_here"] (spCnt K n) := by
  have bN : Binds K fd ["_law_plan_here"] [] := F.binds (ps := ["_law_plan_here"]) fun _ _ _ _ _ _ us hl => match us, hl with | [_], _ => rfl
  refine F.ok scCnt (fun vs H Q E h => ?_) (fun cdv A outer s H vs Q E hr h => ?_)
  · obtain ⟨v, d, rfl, _⟩ := h
    rfl
  · obtain ⟨v, d, rfl, hv, sh, hw, k⟩ := h
    refine' ⟨_, pss_one (ps_ret (pe_ifExp (pt_val ?a) pe_int (pe_callB (cr_sum rfl) (by rfl) T.sum (by decide +kernel) (pa_cons ?l pa_nil)))), ?q⟩
    case a => exact pe_callB call_isi (by rfl) T.isinstance (by decide +kernel) (pa_cons (pv 0) (pa_cons (pe_bltn (v := .ty "str") (by rfl) T.str (by decide +kernel) rfl (by decide) (by decide)) pa_nil))
    case l =>
      refine' pe_lc (own := [("_law_part", 1)]) (g := gName 1) (tt := tYes) rfl scCnt.nd (pi_tup (pe_slice sl_tupA (pv 0) (po_some pe_int) po_none)) (blkOk_by (N := NCnt) (sc := defScope sCnt) (by decide +kernel)) (fun _ _ _ _ _ => pg_name (i := 1) scCnt.nd rfl (Or.inl rfl)) (fun _ _ _ _ _ => pts_nil) ?e
      case e => exact fun _ _ _ _ _ => pe_call GN hr rfl gF F.kp bN .nil pass0 (pa_cons (pv 1) pa_nil)
    case q =>
      have ty := hv.ty
      have kt := kit_strD K d
      have ssz : sizeLine = 16777216 := sizeLine_eq
      refine ⟨_, rfl, _, _, _, _, isStrD d, rfl, .ty _, ty, kt, _, rfl, ?_⟩
      cases sh with
      | @nm _ y hy =>
        have z := k H (Same.refl _)
        rw [names_str] at z
        exact iteT z
      | @nd n y ds h1 h2 h3 =>
        obtain rfl := hs n rfl
        refine iteF ?_
        cases hv with
        | @tup a vs _ hg r =>
          cases r with
          | @cons x0 d0 xs _ hx r =>
            cases hx
            have lx := r.len
            rw [w_tup, w_cons] at hw
            have wl := w_len ds
            refine ⟨_, rfl, 1, rfl, a, _, rfl, hg, fun z => tail_new xs z.1, fun _ q nq => ?_⟩
            rw [cut_tail]
            have sq : Same H (upd H q (.tup xs)) := Same.new nq
            have gq : (upd H q (.tup xs)) q = some (.tup xs) := upd_same
            generalize upd H q (.tup xs) = H1 at sq gq ⊢
            refine ⟨q, rfl, ⟨_, SqT.of gq⟩, fun D nD => ?_⟩
            refine lc_it (walk_tup (K := K) (a := q) (xs := xs)) (fun i Hh => Hh D = some (.lst ((cntL n (ds.take i)).map V.int)) ∧ Same H1 Hh) ⟨upd_same, Same.new nD⟩ (fun _ Hh _ ⟨_, z⟩ => SqT.of (z _ _ gq)) ?_ ?_
            · rintro i x Ha Hb hi ⟨hD, sa⟩ ⟨rfl, gx⟩
              refine ⟨rfl, ?_⟩
              refine yes_of ?_
              have di : i < ds.length := by omega
              have gd : ds[i]? = some ds[i] := List.getElem?_eq_getElem di
              have dx := (r.get gx gd).same (sq.trans sa)
              have mem : ds[i] ∈ ds := List.getElem_mem di
              have wm := w_mem mem
              refine ⟨_, rfl, x, ds[i], rfl, dx, h3 _ mem, by omega, fun Hc sc => ?_⟩
              refine ⟨_, sc _ _ hD, by unfold cntL; rw [List.length_map, List.length_map, List.length_take]; omega, ?_, fun b o z => ?_⟩
              · have e : cntL n (ds.take (i + 1)) = cntL n (ds.take i) ++ [(((namesF n ds[i]).length : Nat) : Int)] := by
                  unfold cntL
                  rw [List.take_add_one, gd, List.map_append]
                  rfl
                rw [e, List.map_append]
                exact upd_same
              · rw [upd_ne (fun e => by rw [e, nD] at z; cases z)]
                exact sc _ _ (sa _ _ z)
            · rintro Ha ⟨hD, sa⟩
              rw [lx, List.take_length] at hD
              refine ⟨D, cntL n ds, rfl, SqL.of hD, ?_⟩
              rw [cnt_sum]
              exact k Ha (sq.trans sa)
theorem ok_cnt {f : Addr} {fd : FuncData} (F : Fun K "_law_count" "_law_count" sCnt f fd) (gF : mg "_law_count" = some (.ref f)) (T : TxtL mg) : ∀ n, FnOk P w K mg base CX0 (n + 2) f fd ["_law_plan_here"] (spCnt K n)
  | 0 => step_cnt (n := 0) (kk := 1) (sp' := fun _ _ _ _ => False) F gF T (F.ok scCnt (fun _ _ _ _ h => h.elim) (fun _ _ _ _ _ _ _ _ _ h => h.elim)) (fun j e => nomatch e)
  | n + 1 => step_cnt (n := n + 1) (kk := n + 2) (sp' := spCnt K n) F gF T (ok_cnt F gF T n) (fun j e => by cases e; rfl)
end
end Fp1
set_option Elab.async false
set_option linter.all false
set_option maxRecDepth 100000
set_option maxHeartbeats 4000000
namespace Fp1
open PySem PySem.Spec PyProof.Rows L2 Fh Fs
open PySem.W (Frag)
abbrev sWds : Stmt := top 84
abbrev NW : List Str := ["_law_pen_here", "_law_count_here", "_law_letters", "_law_k", "_law_stem", "_law_at", "_law_front", "_law_step", "_law_tail", "_law_found", "_law_word"]
section
variable {P : Program} {w : World} {K : Frag} {mg : Str → Option Value} {base : Heap}
def GoodW (x : Str) : Prop := Word x ∧ x ≠ zs
abbrev ABC : List Nat := (Str.ofString "abcdefghijklmnopqrstuvwxyz").cps.toList
theorem app_empty (y : Str) : y ++ ("" : Str) = y := (str_of_list (by rw [app_tl]; exact List.append_nil _)).trans (str_of_list rfl).symm
theorem good_of {x : Str} (h2 : 1 ≤ x.length) (h3 : x.length ≤ 8) (h1 : Low x) : Word x := by
  have e : (sgB x).all id = true := List.all_eq_true.mpr fun b hb => by
    obtain ⟨c, hc, rfl⟩ := List.mem_map.mp hb
    exact decide_eq_true (h1 c hc)
  show (decide (1 ≤ x.length) && (decide (x.length ≤ 8) && (sgB x).all id)) = true
  rw [decide_eq_true h2, decide_eq_true h3, e]
  rfl
/-- how the words are made -/
structure JJ (stem : Str) (at_ fr st : Int) (xs : List Str) : Prop where
  jj : ∀ (k : Nat) a, xs[k]? = some a → ∃ ch tx, a = cutS stem none (some at_) ++ (⟨#[ch]⟩ : Str) ++ cutS stem (some at_) none ++ tx ∧ ABC[((fr + st * (0 + (k : Int))) % 26).toNat]? = some ch
theorem JJ.snoc {stem : Str} {at_ fr st : Int} {xs : List Str} {x : Str} {i ch : Nat} (h : JJ stem at_ fr st xs) (lx : xs.length = i) (hc : ABC[((fr + st * (0 + (i : Int))) % 26).toNat]? = some ch)
    (x0 : ∃ tx, x = cutS stem none (some at_) ++ (⟨#[ch]⟩ : Str) ++ cutS stem (some at_) none ++ tx) : JJ stem at_ fr st (xs ++ [x]) := by
  refine ⟨fun k a ha => ?_⟩
  by_cases hk : k < xs.length
  · rw [List.getElem?_append_left hk] at ha
    exact h.jj k a ha
  · rw [List.getElem?_append_right (by omega)] at ha
    have e0 : k - xs.length = 0 := by
      cases e : k - xs.length with
      | zero => rfl
      | succ m => rw [e] at ha; cases ha
    rw [e0] at ha
    cases ha
    have ek : k = i := by omega
    subst ek
    obtain ⟨tx, e⟩ := x0
    exact ⟨ch, tx, e, hc⟩
theorem abc_apart : ∀ i j : Fin 26, ABC[i.val]? = ABC[j.val]? → i = j := by decide +kernel
def steps : List Int := [1, 3, 5, 7, 9, 11, 15, 17]
theorem JJ.apart {stem : Str} {at_ fr st : Int} {xs : List Str} (h : JJ stem at_ fr st xs) (hs : st ∈ steps) (l : xs.length ≤ 10) : xs.Nodup := by
  refine List.pairwise_iff_getElem.mpr fun i j hi' hj hij e => ?_
  have gi : xs[i]? = some xs[i] := List.getElem?_eq_getElem hi'
  obtain ⟨c0, t0, e0, g0⟩ := h.jj i _ gi
  have gi : xs[j]? = some xs[i] := by rw [e]; exact List.getElem?_eq_getElem hj
  obtain ⟨c1, t1, e1, g1⟩ := h.jj j _ gi
  rw [e0] at e1
  have z := congrArg (fun s : Str => s.cps.toList) e1
  simp only [app_tl, List.append_assoc] at z
  have z2 := List.append_cancel_left z
  have z3 : c0 = c1 := by
    have q : c0 :: ((cutS stem (some at_) none).cps.toList ++ t0.cps.toList) = c1 :: ((cutS stem (some at_) none).cps.toList ++ t1.cps.toList) := z2
    injection q
  rw [← z3, ← g0] at g1
  have b0 : 0 ≤ (fr + st * (0 + (i : Int))) % 26 := Int.emod_nonneg _ (by decide)
  have b1 : (fr + st * (0 + (i : Int))) % 26 < 26 := Int.emod_lt_of_pos _ (by decide)
  have b2 : 0 ≤ (fr + st * (0 + (j : Int))) % 26 := Int.emod_nonneg _ (by decide)
  have b3 : (fr + st * (0 + (j : Int))) % 26 < 26 := Int.emod_lt_of_pos _ (by decide)
  have z4 := abc_apart ⟨((fr + st * (0 + (j : Int))) % 26).toNat, by omega⟩ ⟨((fr + st * (0 + (i : Int))) % 26).toNat, by omega⟩ g1
  have z5 : ((fr + st * (0 + (j : Int))) % 26).toNat = ((fr + st * (0 + (i : Int))) % 26).toNat := congrArg Fin.val z4
  simp only [steps, List.mem_cons, List.not_mem_nil, or_false] at hs
  rcases hs with rfl | rfl | rfl | rfl | rfl | rfl | rfl | rfl <;> omega
def spWordsG : Sp := fun vs H Q _ => ∃ (p c : Addr) (n : Nat) (m : Nat), vs = [.ref p, .int (m : Int)] ∧ PenAt H p c n ∧ n ≤ 900000 ∧ m ≤ 10 ∧
  ∀ (l : Addr) (xs : List Str) (H' : Hp), xs.length = m → (∀ x ∈ xs, GoodW x) → xs.Nodup → PenAt H' p c (n + 10) → But p H H' → H l = none → H' l = some (.lst (xs.map V.str)) → Q (.ref l) H'
theorem scWords : FnScope NW ["_law_pen_here", "_law_count_here"] (defScope sWds) := ⟨rfl, rfl, rfl, by decide +kernel, rfl, by decide +kernel, by decide +kernel⟩
theorem ok_words {f aK aD : Addr} {fd fK fD : FuncData} (F : Fun K "_law_words" "_law_words" sWds f fd) (FK : Fun K "_law_pick" "_law_pick" sPick aK fK) (FD : Fun K "_law_draw" "_law_draw" sDraw aD fD) (T : TxtP mg) (gr : mg "range" = none)
    (gK : mg "_law_pick" = some (.ref aK)) (gD : mg "_law_draw" = some (.ref aD)) : FnOk P w K mg base CX0 3 f fd ["_law_pen_here", "_law_count_here"] spWordsG := by
  have GD : FnOk P w K mg base CX0 1 aD fD ["_law_pen_here", "_law_size"] spDraw := ok_draw FD T
  have GK : FnOk P w K mg base CX0 2 aK fK ["_law_pen_here", "_law_items"] (spPick K) := ok_pick FK FD T gD
  have GS : FnOk P w K mg base CX0 2 aK fK ["_law_pen_here", "_law_items"] spPickS := ok_pickS FK FD T gD
  have bD : Binds K fD ["_law_pen_here", "_law_size"] [] := FD.binds (ps := ["_law_pen_here", "_law_size"]) fun _ _ _ _ _ _ us hl => match us, hl with | [_, _], _ => rfl
  have bK : Binds K fK ["_law_pen_here", "_law_items"] [] := FK.binds (ps := ["_law_pen_here", "_law_items"]) fun _ _ _ _ _ _ us hl => match us, hl with | [_, _], _ => rfl
  refine F.ok scWords (fun vs H Q E h => ?_) (fun cdv A outer s H vs Q E hr h => ?_)
  · obtain ⟨p, c, n, m, rfl, _⟩ := h
    rfl
  · obtain ⟨p, c, n, m, rfl, hP, hn, hm, k⟩ := h
    have hu := hu_of hr
    have hr1 : Room 1 _ := hr.mono (by decide)
    refine ⟨_, pss_cons (ps_set (i := 2) scWords.nd rfl (Or.inr rfl) pe_str)
      (pss_cons (ps_set (i := 4) scWords.nd rfl (Or.inl rfl) (pe_join pe_str
        (pe_lc (own := [("_law_k", 3)]) (g := gName 3) (tt := tYes) rfl scWords.nd (pi_range1 rfl gr (pa_cons (pe_call GD hr1 rfl gD FD.kp bD .nil pass0 (pa_cons (pv 0) (pa_cons pe_int pa_nil))) pa_nil)) (blkOk_by (N := NW) (sc := defScope sWds) (by decide +kernel)) (fun _ _ _ _ _ => pg_name (i := 3) scWords.nd rfl (Or.inl rfl)) (fun _ _ _ _ _ => pts_nil)
          (fun _ _ _ _ _ => pe_call GS hr rfl gK FK.kp bK .nil pass0 (pa_cons (pv 0) (pa_cons (pv 2) pa_nil))))))
      (pss_cons (ps_par (i := 5) (j := 6) (by rfl) scWords.nd rfl rfl (by decide) rfl rfl (pa_cons (pe_call GD hr1 rfl gD FD.kp bD .nil pass0 (pa_cons (pv 0) (pa_cons (pe_op op_add (pe_callB call_len_str (by rfl) T.len PySem.boot_len (pa_cons (pv 4) pa_nil)) pe_int) pa_nil))) (pa_cons (pe_call GD hr1 rfl gD FD.kp bD .nil pass0 (pa_cons (pv 0) (pa_cons pe_int pa_nil))) pa_nil)) (by rfl))
      (pss_cons (ps_par (i := 7) (j := 8) (by rfl) scWords.nd rfl rfl (by decide) rfl rfl (pa_cons (pe_call GK hr rfl gK FK.kp bK .nil pass0 (pa_cons (pv 0) (pa_cons (pe_lst (pa_cons pe_int (pa_cons pe_int (pa_cons pe_int (pa_cons pe_int (pa_cons pe_int (pa_cons pe_int (pa_cons pe_int (pa_cons pe_int pa_nil))))))))) pa_nil))) (pa_cons (pe_call GK hr rfl gK FK.kp bK .nil pass0 (pa_cons (pv 0) (pa_cons (pe_lst (pa_cons pe_str (pa_cons pe_str (pa_cons pe_str (pa_cons pe_str pa_nil))))) pa_nil))) pa_nil)) (by rfl))
      (pss_cons (ps_set (i := 9) scWords.nd rfl (Or.inl rfl) (pe_lst pa_nil))
      (pss_cons (ps_for PassesOwn.never rfl (pi_range1 rfl gr (pa_cons (pv 1) pa_nil)) (pg_name (i := 3) scWords.nd rfl (Or.inl rfl))
        (pss_cons (ps_set (i := 10) scWords.nd rfl (Or.inl rfl) (pe_op op_add_str (pe_op op_add_str (pe_slice sl_str (pv 4) po_none (po_some (pv 5))) (pe_ix ix_str (pv 2) (pe_op op_mod (pe_callTy call_int1 (by rfl) T.int (by decide +kernel) (pa_cons (pe_op op_add (pv 6) (pe_op op_mul (pv 7) (pv 3))) pa_nil)) pe_int) (fun _ _ => rfl))) (pe_slice sl_str (pv 4) (po_some (pv 5)) po_none)))
        (pss_one (ps_expr (pe_bm PySem.F.plainAttrs_list PySem.F.slot_list_append PySem.F.type_list_append mt_append (pv 9) (pa_cons (pe_ifExp (pt_cmpR op_eq (pe_op op_mod (pe_callTy call_int1 (by rfl) T.int (by decide +kernel) (pa_cons (pv 3) pa_nil)) pe_int) pe_int (nomark _)) (pe_op op_add_str (pv 10) (pv 8)) (pv 10)) pa_nil))))))
      (pss_one (ps_ret (pv 9)))))))), ?_⟩
    refine ⟨⟨_, rfl⟩, _, rfl, p, c, n, 6, rfl, hP, by omega, by decide, by decide, fun q H1 q0 q1 P1 b1 => ⟨q, rfl, by omega, by omega, fun D hD => ?_⟩⟩
    obtain ⟨Dp, Dc⟩ := pen_apart P1 (Same.refl _) hD
    have qn : q.toNat ≤ 5 := by omega
    refine lc_it walk_range (fun i Hh => ∃ ys : List Str, ys.length = i ∧ (∀ y ∈ ys, Low y ∧ y.length = 1) ∧ Hh D = some (.lst (ys.map V.str)) ∧ PenAt Hh p c (n + 1 + i) ∧ But p H1 Hh) ⟨[], rfl, (fun _ z => nomatch z), upd_same, pen_off P1 Dp Dc, But.of (Same.new hD)⟩ (fun _ _ _ _ => trivial) ?_ ?_
    · rintro i x H2 H3 hi ⟨ys, l2, g2, d2, P2, b2⟩ ⟨rfl, rfl⟩
      refine ⟨rfl, ?_⟩
      refine yes_of ?_
      refine ⟨_, rfl, _, rfl, p, c, n + 1 + i, _, rfl, P2, by omega, by decide +kernel, by decide +kernel, fun j ch H4 hj P4 b4 => ?_⟩
      have d4 := b4 D _ Dp d2
      refine ⟨ys.map V.str, d4, by rw [List.length_map, sizeLine_eq]; omega, ys ++ [⟨#[ch]⟩], by rw [List.length_append, l2]; rfl, fun y hy => ?_, by rw [List.map_append]; exact upd_same, pen_off P4 Dp Dc, ?_⟩
      · rcases List.mem_append.mp hy with z | z
        · exact g2 y z
        · rw [List.mem_singleton.mp z]
          exact ⟨Low.one (List.mem_of_getElem? hj), rfl⟩
      · intro b o nb z
        have nD : b ≠ D := fun e => by rw [e, hD] at z; cases z
        rw [upd_ne nD]
        exact b4 b o nb (b2 b o nb z)
    · rintro H2 ⟨ys, l2, g2, d2, P2, b2⟩
      obtain ⟨low, len, sum⟩ := join_low g2
      refine ⟨_, D, ys, rfl, rfl, .inl (SqL.of d2), by rw [sum]; show ys.length + ys.length * 0 ≤ _; omega, ?_⟩
      generalize Txt.join (Str.ofString "") ys = stem at low len ⊢
      have ls : stem.length ≤ 5 := by omega
      have lz : stem.length ≤ sizeLine := by rw [sizeLine_eq]; omega
      have P2' : PenAt H2 p c (n + 6) := P2.same (Same.refl _) (by omega)
      refine ⟨_, rfl, _, rfl, stem, rfl, lz, _, _, rfl, rfl, p, c, n + 6, (stem.length : Int) + 1, rfl, P2', by omega, by omega, by omega, fun at_ H3 a0 a1 P3 b3 => ?_⟩
      refine ⟨_, rfl, p, c, n + 6 + 1, 26, rfl, P3, by omega, by decide, by decide, fun fr H4 f0 f1 P4 b4 => ?_⟩
      refine ⟨_, _, rfl, ?_⟩
      refine ⟨_, rfl, (show 8 ≤ sizeLine by decide), fun l1 n1 => ?_⟩
      refine ⟨p, c, n + 8, l1, _, rfl, P4.same (Same.new n1) (Nat.le_refl _), by omega, upd_same, by decide, by decide, fun i1 x1 H5 e1 P5 b5 => ?_⟩
      obtain ⟨st, rfl, st0, st1, sst⟩ : ∃ v : Int, x1 = .int v ∧ 1 ≤ v ∧ v ≤ 17 ∧ v ∈ steps := by
        have hm1 := List.mem_of_getElem? e1
        simp only [List.mem_cons, List.not_mem_nil, or_false] at hm1
        rcases hm1 with z | z | z | z | z | z | z | z <;> exact ⟨_, z, by decide, by decide, by decide⟩
      refine ⟨_, rfl, (show 4 ≤ sizeLine by decide), fun lt nt => ?_⟩
      refine ⟨p, c, n + 9, lt, _, rfl, P5.same (Same.new nt) (Nat.le_refl _), by omega, upd_same, by decide, by decide, fun i2 x2 H6 e2 P6 b6 => ?_⟩
      obtain ⟨tl, rfl, tlen, tlow, tw⟩ : ∃ t : Str, x2 = .str t ∧ t.length ≤ 2 ∧ Low t ∧ (t.length = 0 ∨ 119 ∈ t.cps.toList) := by
        have hm1 := List.mem_of_getElem? e2
        simp only [List.mem_cons, List.not_mem_nil, or_false] at hm1
        rcases hm1 with z | z | z | z
        · exact ⟨_, z, by decide +kernel, (fun c hc => by exact absurd hc (by decide +kernel +revert)), .inl (by decide +kernel)⟩
        · exact ⟨_, z, by decide +kernel, (fun c hc => by exact absurd hc (by decide +kernel +revert)), .inl (by decide +kernel)⟩
        · exact ⟨_, z, by decide +kernel, (by unfold Low; decide +kernel), .inr (by decide +kernel)⟩
        · exact ⟨_, z, by decide +kernel, (by unfold Low; decide +kernel), .inr (by decide +kernel)⟩
      refine ⟨_, _, rfl, (show 0 ≤ sizeLine by decide), fun L nL => ?_⟩
      refine ⟨_, rfl, (m : Int), rfl, by omega, by omega, for_range (lo := 0) (n := m) (fun i σ Hh => ∃ z w xs, σ = [some (V.ref p), some (.int (m : Int)), some (.str (Str.ofString "abcdefghijklmnopqrstuvwxyz")), z, some (.str stem), some (.int at_), some (.int fr), some (.int st), some (.str tl), some (.ref L), w] ∧
        xs.length = i ∧ (∀ x ∈ xs, GoodW x) ∧ JJ stem at_ fr st xs ∧ Hh L = some (.lst (xs.map V.str)) ∧ ∀ b o, b ≠ L → H6 b = some o → Hh b = some o) ⟨none, none, [], rfl, rfl, (fun _ z => nomatch z), ⟨fun _ _ z => nomatch z⟩, upd_same, fun b o nb z => by rw [upd_ne nb]; exact z⟩ ?_ ?_⟩
      · rintro i σ H7 hi ⟨z, w1, xs, rfl, lx, gx, jx, dx, keep⟩
        obtain ⟨ch, hch, hcn⟩ : ∃ ch, atI (Str.ofString "abcdefghijklmnopqrstuvwxyz").cps.toList ((fr + st * (0 + (i : Int))) % 26) = some ch ∧ (Str.ofString "abcdefghijklmnopqrstuvwxyz").cps.toList[((fr + st * (0 + (i : Int))) % 26).toNat]? = some ch := by
          have b0 : 0 ≤ (fr + st * (0 + (i : Int))) % 26 := Int.emod_nonneg _ (by decide)
          have b1 : (fr + st * (0 + (i : Int))) % 26 < 26 := Int.emod_lt_of_pos _ (by decide)
          have lz26 : (Str.ofString "abcdefghijklmnopqrstuvwxyz").cps.toList.length = 26 := by decide +kernel
          have hl : ((fr + st * (0 + (i : Int))) % 26).toNat < (Str.ofString "abcdefghijklmnopqrstuvwxyz").cps.toList.length := by rw [lz26]; omega
          have g := atI_nat (List.getElem?_eq_getElem hl)
          rw [Int.toNat_of_nonneg b0] at g
          exact ⟨_, g, List.getElem?_eq_getElem hl⟩
        have chl : ch ∈ abc := by
          obtain ⟨j, _, h2, _⟩ := atI_get hch
          exact List.mem_of_getElem? h2
        obtain ⟨at2, rfl⟩ : ∃ k : Nat, at_ = (k : Int) := ⟨at_.toNat, (Int.toNat_of_nonneg a0).symm⟩
        have la : at2 ≤ stem.length := by omega
        have cp := cut_parts la
        have one : (⟨#[ch]⟩ : Str).length = 1 := rfl
        refine ⟨_, rfl, _, rfl, _, rfl, stem, rfl, lz, ?_⟩
        refine ⟨_, rfl, _, rfl, _, rfl, _, rfl, st, _, rfl, rfl, .inl ⟨by omega, by omega⟩, fr, _, rfl, rfl, .inl ⟨_, rfl, _, _, rfl, rfl, (show (0 : Int) < 26 by decide), ?_⟩⟩
        refine ⟨_, _, ch, rfl, rfl, by decide +kernel, hch, ?_⟩
        refine ⟨_, _, rfl, rfl, by rw [one, sizeLine_eq]; omega, ?_⟩
        refine ⟨_, rfl, _, rfl, _, rfl, stem, rfl, lz, ?_⟩
        refine ⟨_, _, rfl, rfl, by rw [app_len, one, sizeLine_eq]; omega, ?_⟩
        have bl : (cutS stem none (some (at2 : Int)) ++ (⟨#[ch]⟩ : Str) ++ cutS stem (some (at2 : Int)) none).length = stem.length + 1 := by rw [app_len, app_len, one]; omega
        have blow : Low (cutS stem none (some (at2 : Int)) ++ (⟨#[ch]⟩ : Str) ++ cutS stem (some (at2 : Int)) none) := ((low.cut _ _).app (Low.one chl)).app (low.cut _ _)
        generalize hbw : cutS stem none (some (at2 : Int)) ++ (⟨#[ch]⟩ : Str) ++ cutS stem (some (at2 : Int)) none = bw at bl blow ⊢
        have push : ∀ x : Str, GoodW x → (∃ tx, x = bw ++ tx) → (xs ++ [x]).length = i + 1 ∧ (∀ y ∈ xs ++ [x], GoodW y) ∧ JJ stem (at2 : Int) fr st (xs ++ [x]) ∧ (upd H7 L (.lst (xs.map V.str ++ [V.str x]))) L = some (.lst ((xs ++ [x]).map V.str)) ∧ ∀ b o, b ≠ L → H6 b = some o → (upd H7 L (.lst (xs.map V.str ++ [V.str x]))) b = some o := by
          intro x hx x0
          refine ⟨by rw [List.length_append, lx]; rfl, fun y hy => ?_, jx.snoc lx hcn (by rw [hbw]; exact x0), by rw [List.map_append]; exact upd_same, fun b o nb y => by rw [upd_ne nb]; exact keep b o nb y⟩
          rcases List.mem_append.mp hy with u | u
          · exact gx y u
          · rw [List.mem_singleton.mp u]
            exact hx
        have room : (xs.map V.str).length < sizeLine := by rw [List.length_map, lx, sizeLine_eq]; omega
        refine ⟨_, rfl, .inl ⟨rfl, _, SqL.of dx⟩, _, rfl, .inl ⟨_, rfl, _, _, rfl, rfl, (show (0 : Int) < 3 by decide), rfl, _, rfl, ite2 (fun cT => ?_) (fun cF => ?_)⟩⟩
        · have g : GoodW (bw ++ tl) := by
            refine ⟨good_of (by rw [app_len]; omega) (by rw [app_len]; omega) (blow.app tlow), ?_⟩
            rcases tw with t0 | t1
            · exact ne_zs_len (by rw [app_len]; omega)
            · exact ne_zs_w t1
          exact ⟨_, rfl, _, rfl, _, _, rfl, rfl, by rw [sizeLine_eq]; omega, L, _, _, rfl, rfl, dx, room, _, _, xs ++ [bw ++ tl], rfl, push _ g ⟨_, rfl⟩⟩
        · have g : GoodW bw := ⟨good_of (by omega) (by omega) blow, ne_zs_len (by omega)⟩
          exact ⟨_, rfl, L, _, _, rfl, rfl, dx, room, _, _, xs ++ [bw], rfl, push _ g ⟨"", (app_empty bw).symm⟩⟩
      · rintro σ H7 ⟨z, w1, xs, rfl, lx, gx, jx, dx, keep⟩
        refine ⟨_, rfl, ?_⟩
        have nLp : L ≠ p := (pen_apart P6 (Same.refl _) nL).1
        have nLc : L ≠ c := (pen_apart P6 (Same.refl _) nL).2
        have all : But p H H6 := (((((b1.trans b2).trans b3).trans b4).trans (But.of (Same.new n1))).trans b5).trans ((But.of (Same.new nt)).trans b6)
        refine k L xs H7 lx gx (jx.apart sst (by omega)) ?_ (fun b o nb y => ?_) (but_none all nL nLp) dx
        · obtain ⟨cs, s5, r5, S, s0, s1⟩ := P6.open
          exact PenS.at_ ⟨S.pc, keep _ _ (Ne.symm nLp) S.hp, keep _ _ (Ne.symm nLc) S.hc, S.hl⟩ s0 s1
        · have y6 := all b o nb y
          exact keep b o (fun e => by rw [e, nL] at y6; cases y6) y6
end
end Fp1
set_option Elab.async false
set_option linter.all false
set_option maxRecDepth 100000
set_option maxHeartbeats 1000000
/-! drawn plans: right, shaped, of moderate weight; what is told of them may be shown -/
namespace Fp1
open PySem PySem.Spec PyProof.Rows L2 Fh Fs
open PySem.W (Frag)
theorem good_rt {ns : List Str} (hn : ∀ y ∈ ns, wordB y = true) {n : Nat} {b : Bool} {d : PyData} (g : Good ns n b d) : Rt n b d := by
  induction g with
  | nm h => exact .nm (hn _ h)
  | nd h1 h2 h3 h4 ih => exact .nd h1 h3 ih
theorem good_sh {ns : List Str} (hn : ∀ y ∈ ns, wordB y = true) {n : Nat} {b : Bool} {d : PyData} (g : Good ns n b d) : Sh n d := by
  induction g with
  | nm h => exact .nm (hn _ h)
  | nd h1 h2 h3 h4 ih => exact .nd h1 (.inr h2) ih
def Wb : Nat → Nat
  | 0 => 8
  | n + 1 => 4 * Wb n + 11
theorem wb_eight : ∀ n, 8 ≤ Wb n
  | 0 => Nat.le_refl _
  | n + 1 => by have := wb_eight n; show 8 ≤ 4 * Wb n + 11; omega
theorem w_le {ds : List PyData} {m : Nat} (h : ∀ d ∈ ds, d.weight ≤ m) : PyData.weightAll ds ≤ ds.length * (m + 1) := by
  induction ds with
  | nil => rw [w_nil]; exact Nat.zero_le _
  | cons d ds ih =>
    rw [w_cons, List.length_cons, Nat.succ_mul]
    have := h d List.mem_cons_self
    have := ih fun e he => h e (List.mem_cons_of_mem _ he)
    omega
theorem good_w {ns : List Str} (hn : ∀ y ∈ ns, wordB y = true) {n : Nat} {b : Bool} {d : PyData} (g : Good ns n b d) : d.weight ≤ Wb n := by
  induction g with
  | nm h =>
    rw [w_str]
    exact Nat.le_trans (word_str (hn _ h)).2 (wb_eight _)
  | @nd n b y ds h1 h2 h3 h4 ih =>
    have w6 := word_six h1
    have a := w_le ih
    have m1 : ds.length * (Wb n + 1) ≤ 4 * (Wb n + 1) := Nat.mul_le_mul_right _ h2
    rw [w_tup, w_cons, w_str]
    show _ ≤ 4 * Wb n + 11
    omega
/-! ### data that may be shown -/
def Fine (d : PyData) : Prop := d.canLay0 = true ∧ d.intsShort 13 = true ∧ d.showable = true
def Fines (ds : List PyData) : Prop := PyData.canLayAll0 ds = true ∧ PyData.intsShortAll 13 ds = true ∧ PyData.showableAll ds = true
theorem fines_cons {d : PyData} {ds : List PyData} (h : Fine d) (r : Fines ds) : Fines (d :: ds) := by
  obtain ⟨a, b, c⟩ := h
  obtain ⟨e, f, g⟩ := r
  refine ⟨?_, ?_, ?_⟩
  · show (d.canLay0 && PyData.canLayAll0 ds) = true
    rw [a, e]; rfl
  · show (d.intsShort 13 && PyData.intsShortAll 13 ds) = true
    rw [b, f]; rfl
  · show (d.showable && PyData.showableAll ds) = true
    rw [c, g]; rfl
theorem fines_nil : Fines [] := ⟨rfl, rfl, rfl⟩
theorem fines_of {ds : List PyData} (h : ∀ d ∈ ds, Fine d) : Fines ds := by
  induction ds with
  | nil => exact fines_nil
  | cons d ds ih => exact fines_cons (h d List.mem_cons_self) (ih fun e he => h e (List.mem_cons_of_mem _ he))
theorem fine_tup {ds : List PyData} (h : Fines ds) : Fine (.tuple ds) := ⟨h.1, h.2.1, h.2.2⟩
theorem fine_str {y : Str} (h : PyData.canLay0 (.str y) = true) : Fine (.str y) := ⟨h, rfl, rfl⟩
theorem fine_sh {n : Nat} {d : PyData} (h : Sh n d) : Fine d := by
  induction h with
  | nm h => exact fine_str (word_str h).1
  | nd h1 h2 h3 ih => exact fine_tup (fines_cons (fine_str (word_str (word_fine h1).1).1) (fines_of ih))
/-! ### a plan's text as data -/
end Fp1
set_option Elab.async false
set_option linter.all false
set_option maxRecDepth 100000
set_option maxHeartbeats 8000000
/-! _law_book: kinds, tasks and a plan -/
namespace Fp1
open PySem PySem.Spec PyProof.Rows L2 Fh Fs
open PySem.W (Frag)
abbrev sBok : Stmt := top 94
abbrev NBok : List Str := ["_law_pen_here", "_law_titles", "_law_tasks", "_law_kinds", "_law_word", "_law_title", "_law_later", "_law_plan_here"]
theorem cut_take (xs : List V) (m : Nat) : cutV xs none (some (m : Int)) = xs.take m := by
  unfold cutV HT.sIx
  simp
  rw [if_neg (by omega)]
  omega
theorem cut_drop (xs : List V) (m : Nat) : cutV xs (some (m : Int)) none = xs.drop m := by
  unfold cutV HT.sIx
  simp
  rw [if_neg (by omega), List.take_of_length_le (by rw [List.length_drop]; omega)]
  by_cases h : m ≤ xs.length
  · rw [Nat.min_eq_left h]
  · rw [List.drop_of_length_le (show xs.length ≤ min m xs.length by omega), List.drop_of_length_le (show xs.length ≤ m by omega)]
theorem cut_sub (ys : List Str) (lo hi : Option Int) : ∃ ms : List Str, cutV (ys.map V.str) lo hi = ms.map V.str ∧ ms.Sublist ys := by
  unfold cutV
  refine ⟨(ys.drop (HT.sIx (ys.map V.str).length 0 lo)).take (HT.sIx (ys.map V.str).length (ys.map V.str).length hi - HT.sIx (ys.map V.str).length 0 lo), ?_, (List.take_sublist _ _).trans (List.drop_sublist _ _)⟩
  rw [List.map_take, List.map_drop]
/-- all but dicts stays -/
def KeepS (H H' : Hp) : Prop := ∀ b o, (∀ kvs, o ≠ .dK kvs) → H b = some o → H' b = some o
theorem KeepS.same {H H' : Hp} (s : Same H H') : KeepS H H' := fun b o _ h => s b o h
theorem KeepS.trans {A B C : Hp} (h : KeepS A B) (k : KeepS B C) : KeepS A C := fun b o n z => k b o n (h b o n z)
theorem KeepS.pen {H H' : Hp} {p c : Addr} {n : Nat} (P : PenAt H p c n) (b : But p H H') : KeepS H H' := fun x o n z => b x o (fun e => by
  obtain ⟨cs, s, r, S, _⟩ := P.open
  rw [e, S.hp] at z
  exact n _ (Option.some.inj z).symm) z
theorem KeepS.dict {H : Hp} {d : Addr} {kvs : List (Key × V)} {v : HO} (h : H d = some (.dK kvs)) : KeepS H (L2.upd H d v) := fun x o n z => by
  rw [upd_ne (fun e => by rw [e, h] at z; exact n _ (Option.some.inj z).symm)]
  exact z
theorem KeepS.u {H H' : Hp} (k : KeepS H H') : KeepU H H' := fun b xs h => k b _ (fun _ z => nomatch z) h
theorem KeepS.t {H H' : Hp} (k : KeepS H H') : KeepT H H' := fun a xs h => h.elim (fun z => .inl (k a _ (fun _ z => nomatch z) z)) fun ⟨o, z⟩ => .inr ⟨o, k a _ (fun _ z => nomatch z) z⟩
theorem KeepS.l {H H' : Hp} (k : KeepS H H') {b : Addr} {xs : List V} (h : H b = some (.lst xs)) : H' b = some (.lst xs) := k b _ (fun _ z => nomatch z) h
theorem nd_take {α : Type} {l : List α} {y : α} (nd : l.Nodup) : ∀ {i : Nat}, l[i]? = some y → y ∉ l.take i := by
  induction l with
  | nil => intro i h; cases h
  | cons a l ih =>
    intro i h
    have nd2 := List.nodup_cons.mp nd
    cases i with
    | zero => exact fun z => nomatch z
    | succ i =>
      rw [List.take_succ_cons]
      intro z
      rcases List.mem_cons.mp z with e | z
      · rw [List.getElem?_cons_succ] at h
        rw [e] at h
        exact nd2.1 (List.mem_of_getElem? h)
      · exact ih nd2.2 (by rw [List.getElem?_cons_succ] at h; exact h) z
/-- kinds with lists of their roles -/
inductive KsAt (H : Hp) : List (Str × V) → List (Str × List Str) → Prop where
  | nil : KsAt H [] []
  | cons {k : Str} {l : Addr} {ws : List Str} {m : List (Str × V)} {ks : List (Str × List Str)} : H l = some (.lst (ws.map V.str)) → KsAt H m ks → KsAt H ((k, .ref l) :: m) ((k, ws) :: ks)
theorem KsAt.keep {H H' : Hp} (k : KeepS H H') {m : List (Str × V)} {ks : List (Str × List Str)} (h : KsAt H m ks) : KsAt H' m ks := by
  induction h with
  | nil => exact .nil
  | cons e _ ih => exact .cons (k _ _ (fun _ z => nomatch z) e) ih
theorem KsAt.keys {H : Hp} {m : List (Str × V)} {ks : List (Str × List Str)} (h : KsAt H m ks) : m.map (·.1) = ks.map (·.1) := by
  induction h with
  | nil => rfl
  | cons _ _ ih => rw [List.map_cons, List.map_cons, ih]
theorem KsAt.snoc {H : Hp} {m : List (Str × V)} {ks : List (Str × List Str)} {k : Str} {l : Addr} {ws : List Str} (h : KsAt H m ks) (e : H l = some (.lst (ws.map V.str))) : KsAt H (m ++ [(k, .ref l)]) (ks ++ [(k, ws)]) := by
  induction h with
  | nil => exact .cons e .nil
  | cons z _ ih => exact .cons z ih
theorem PsAt.snoc {H : Hp} {m : List (Str × V)} {ts : List (Str × TSk)} {k : Str} {t : Addr} {T : TSk} (h : PsAt H m ts) (e : PlainAt H t T) : PsAt H (m ++ [(k, .ref t)]) (ts ++ [(k, T)]) := by
  induction h with
  | nil => exact .cons e .nil
  | cons z _ ih => exact .cons z ih
/-- drawn kinds -/
structure KinB (ks : List (Str × List Str)) : Prop where
  l1 : 1 ≤ ks.length
  l3 : ks.length ≤ 3
  nd : (ks.map (·.1)).Nodup
  w : ∀ q ∈ ks, Word q.1 ∧ q.1 ≠ zs ∧ OkW q.2 ∧ q.2.length ≤ 3
/-- drawn tasks -/
structure TasB (ts : List (Str × TSk)) : Prop where
  l4 : ts.length ≤ 4
  nd : (ts.map (·.1)).Nodup
  w : ∀ q ∈ ts, Word q.1 ∧ OkT q.2 ∧ SmT q.2
  mem : ∀ ys, Rem ts ys → ys.length ≤ 3 ∧ wdF ts ys ≤ 5
theorem tasB_nil : TasB [] := ⟨Nat.zero_le _, List.nodup_nil, (fun _ z => nomatch z), fun ys r => by
  have e : ys = [] := List.eq_nil_iff_forall_not_mem.mpr fun y hy => nomatch (r.mem y).mp hy
  rw [e]
  exact ⟨Nat.zero_le _, by decide⟩⟩
/-- a drawn plan -/
structure PlanB (ts : List (Str × TSk)) (d : PyData) : Prop where
  rt : Rt 4 false d
  sh : Sh 4 d
  w : d.weight ≤ 20000
  few : (namesF 4 d).length ≤ 16
  sub : ∀ y ∈ namesF 4 d, y ∈ ts.map (·.1)
theorem rml_small : ∀ {ts : List (Str × TSk)}, (∀ q ∈ ts, SmT q.2) → (rmL ts).length ≤ 4 * ts.length
  | [], _ => Nat.le_refl _
  | q :: ts, h => by
    have ih := rml_small (ts := ts) fun z hz => h z (List.mem_cons_of_mem _ hz)
    have a := h q List.mem_cons_self
    have := a.o
    have := a.s
    show ((q.2.o ++ q.2.s) ++ rmL ts).length ≤ _
    rw [List.length_append, List.length_append, List.length_cons]
    omega
theorem good_names {ns : List Str} {n : Nat} {b : Bool} {d : PyData} (h : Good ns n b d) : ∀ y ∈ namesF n d, y ∈ ns := by
  induction h with
  | nm h =>
    intro y hy
    rw [names_str] at hy
    rw [List.mem_singleton.mp hy]
    exact h
  | @nd n b y ds h1 h2 h3 h4 ih =>
    intro z hz
    rw [names_nd] at hz
    obtain ⟨d, hd, hz⟩ := List.mem_flatMap.mp hz
    exact ih d hd z hz
theorem good_sub {ns ms : List Str} (h : ∀ y ∈ ns, y ∈ ms) {n : Nat} {b : Bool} {d : PyData} (g : Good ns n b d) : Good ms n b d := by
  induction g with
  | nm z => exact .nm (h _ z)
  | nd h1 h2 h3 h4 ih => exact .nd h1 h2 h3 ih
theorem ksAt_but {H H' : Hp} {p c : Addr} {n : Nat} (P : PenAt H p c n) {m : List (Str × V)} {ks : List (Str × List Str)} (h : KsAt H m ks) (b : But p H H') : KsAt H' m ks := h.keep (KeepS.pen P b)
theorem tD_app (m : List (Str × V)) (y : Str) (v : V) (h : y ∉ m.map (·.1)) : putK (tD m) (.inr y) v = tD (m ++ [(y, v)]) := tD_new h
section
variable {P : Program} {w : World} {K : Frag} {mg : Str → Option Value} {base : Heap}
def spBok (K : Frag) : Sp := fun vs H Q _ => ∃ (p c : Addr) (n : Nat), vs = [.ref p] ∧ PenAt H p c n ∧ n ≤ 300000 ∧
  ∀ t kd td v mk ks mt ts d H', H' t = some (.tup [.ref kd, .ref td, v]) → H' kd = some (.dK (tD mk)) → KsAt H' mk ks → KinB ks → H' td = some (.dK (tD mt)) → PsAt H' mt ts → TasB ts → Pl K H' v d → PlanB ts d → kd ≠ p → td ≠ p → kd ≠ td → PenAt H' p c (n + 600) → But p H H' → Q (.ref t) H'
theorem scBok : FnScope NBok ["_law_pen_here"] (defScope sBok) := ⟨rfl, rfl, rfl, by decide +kernel, rfl, by decide +kernel, by decide +kernel⟩
/-- the law's defs that draw -/
structure Drw (K : Frag) (mg : Str → Option Value) (oW oK oD oS oT oR oV oP oC : Addr) (eW eK eD eS eT eR eV eP eC : FuncData) : Prop where
  dW : Fun K "_law_words" "_law_words" sWds oW eW
  dK : Fun K "_law_pick" "_law_pick" sPick oK eK
  dD : Fun K "_law_draw" "_law_draw" sDraw oD eD
  dS : Fun K "_law_shuffled" "_law_shuffled" sShuf oS eS
  dT : Fun K "_law_task" "_law_task" sTask oT eT
  dR : Fun K "_law_remembered" "_law_remembered" sLr oR eR
  dV : Fun K "_law_width" "_law_width" sLwd oV eV
  dP : Fun K "_law_plan" "_law_plan" sLpl oP eP
  dC : Fun K "_law_count" "_law_count" sCnt oC eC
  gW : mg "_law_words" = some (.ref oW)
  gK : mg "_law_pick" = some (.ref oK)
  gD : mg "_law_draw" = some (.ref oD)
  gS : mg "_law_shuffled" = some (.ref oS)
  gT : mg "_law_task" = some (.ref oT)
  gR : mg "_law_remembered" = some (.ref oR)
  gV : mg "_law_width" = some (.ref oV)
  gP : mg "_law_plan" = some (.ref oP)
  gC : mg "_law_count" = some (.ref oC)
variable {oW oK oD oS oT oR oV oP oC : Addr} {eW eK eD eS eT eR eV eP eC : FuncData}
theorem ok_bok {f : Addr} {fd : FuncData} (F : Fun K "_law_book" "_law_book" sBok f fd) (Z : Drw K mg oW oK oD oS oT oR oV oP oC eW eK eD eS eT eR eV eP eC) (TP : TxtP mg) (TK : TxtK mg) (T : TxtB mg) (TL : TxtL mg) (gr : mg "range" = none) : FnOk P w K mg base CX0 8 f fd ["_law_pen_here"] (spBok K) := by
  have GW : FnOk P w K mg base CX0 3 oW eW ["_law_pen_here", "_law_count_here"] spWordsG := ok_words Z.dW Z.dK Z.dD TP gr Z.gK Z.gD
  have GD : FnOk P w K mg base CX0 1 oD eD ["_law_pen_here", "_law_size"] spDraw := ok_draw Z.dD TP
  have GS : FnOk P w K mg base CX0 2 oS eS ["_law_pen_here", "_law_items"] (spShuf K) := ok_shuf Z.dS Z.dD TP Z.gD
  have GT : FnOk P w K mg base CX0 3 oT eT ["_law_pen_here", "_law_names", "_law_roles"] spTask := ok_task Z.dT Z.dS Z.dK Z.dD TP TK.tuple T.sorted T.set gr Z.gS Z.gK Z.gD
  have GR : FnOk P w K mg base CX0 1 oR eR ["_law_tasks"] (spLr K) := ok_lr Z.dR TK T
  have GV : FnOk P w K mg base CX0 2 oV eV ["_law_tasks"] (spLwd K) := ok_lwd Z.dV Z.dR Z.gR TK T
  have GP : FnOk P w K mg base CX0 6 oP eP ALpl (spLpl K 3) := ok_lpl Z.dP Z.dK Z.dD TP gr TK.tuple Z.gP Z.gK Z.gD 3
  have GC : FnOk P w K mg base CX0 6 oC eC ["_law_plan_here"] (spCnt K 4) := ok_cnt Z.dC Z.gC TL 4
  have bW : Binds K eW ["_law_pen_here", "_law_count_here"] [] := Z.dW.binds (ps := ["_law_pen_here", "_law_count_here"]) fun _ _ _ _ _ _ us hl => match us, hl with | [_, _], _ => rfl
  have bD : Binds K eD ["_law_pen_here", "_law_size"] [] := Z.dD.binds (ps := ["_law_pen_here", "_law_size"]) fun _ _ _ _ _ _ us hl => match us, hl with | [_, _], _ => rfl
  have bS : Binds K eS ["_law_pen_here", "_law_items"] [] := Z.dS.binds (ps := ["_law_pen_here", "_law_items"]) fun _ _ _ _ _ _ us hl => match us, hl with | [_, _], _ => rfl
  have bT : Binds K eT ["_law_pen_here", "_law_names", "_law_roles"] [] := Z.dT.binds (ps := ["_law_pen_here", "_law_names", "_law_roles"]) fun _ _ _ _ _ _ us hl => match us, hl with | [_, _, _], _ => rfl
  have bR : Binds K eR ["_law_tasks"] [] := Z.dR.binds (ps := ["_law_tasks"]) fun _ _ _ _ _ _ us hl => match us, hl with | [_], _ => rfl
  have bV : Binds K eV ["_law_tasks"] [] := Z.dV.binds (ps := ["_law_tasks"]) fun _ _ _ _ _ _ us hl => match us, hl with | [_], _ => rfl
  have bP : Binds K eP ALpl [] := Z.dP.binds (ps := ALpl) fun _ _ _ _ _ _ us hl => match us, hl with | [_, _, _, _], _ => rfl
  have bC : Binds K eC ["_law_plan_here"] [] := Z.dC.binds (ps := ["_law_plan_here"]) fun _ _ _ _ _ _ us hl => match us, hl with | [_], _ => rfl
  refine F.ok scBok (fun vs H Q E h => ?_) (fun cdv A outer s H vs Q E hr h => ?_)
  · obtain ⟨p, c, n, rfl, _⟩ := h
    rfl
  · obtain ⟨p, c, n, rfl, hP, hn, go⟩ := h
    have hu := hu_of (hr.mono (show 1 ≤ 7 by decide))
    have hr2 : Room 2 _ := hr.mono (by decide)
    have hr3 : Room 3 _ := hr.mono (by decide)
    have hr1 : Room 1 _ := hr.mono (by decide)
    have hr6 : Room 6 _ := hr.mono (by decide)
    refine' ⟨_, pss_cons ?s1 (pss_cons ?s2 (pss_cons ?s3 (pss_cons ?s4 (pss_one ?s5)))), ?q⟩
    case s1 => exact ps_par3 (i := 1) (j := 2) (l := 3) rfl scBok.nd rfl rfl rfl (by decide) (by decide) (by decide) rfl rfl rfl (pa_cons (pe_call GW hr3 rfl Z.gW Z.dW.kp bW .nil pass0 (pa_cons (pv 0) (pa_cons pe_int pa_nil))) (pa_cons pe_dnewK (pa_cons pe_dnewK pa_nil))) (by rfl)
    case s2 =>
      refine' ps_for PassesOwn.never rfl (pi_list (pe_slice sl_list (pv 1) po_none (po_some (pe_op op_add pe_int ?d)))) (pg_name (i := 4) scBok.nd rfl (Or.inl rfl)) (pss_one (ps_dput hu (pv 3) (pv 4) (pe_slice sl_list ?a po_none (po_some ?b)) rfl))
      case d => exact pe_call GD hr1 rfl Z.gD Z.dD.kp bD .nil pass0 (pa_cons (pv 0) (pa_cons pe_int pa_nil))
      case a => exact pe_call GS hr2 rfl Z.gS Z.dS.kp bS .nil pass0 (pa_cons (pv 0) (pa_cons (pe_slice sl_list (pv 1) (po_some pe_int) po_none) pa_nil))
      case b => exact pe_call GD hr1 rfl Z.gD Z.dD.kp bD .nil pass0 (pa_cons (pv 0) (pa_cons pe_int pa_nil))
    case s3 =>
      refine' ps_for PassesOwn.never rfl (pi_list (pe_slice sl_list ?a po_none (po_some (pe_op op_add pe_int ?d)))) (pg_name (i := 5) scBok.nd rfl (Or.inl rfl)) (pss_cons ?b1 (pss_cons ?b2 (pss_one ?b3)))
      case a => exact pe_call GS hr2 rfl Z.gS Z.dS.kp bS .nil pass0 (pa_cons (pv 0) (pa_cons (pe_slice sl_list (pv 1) (po_some pe_int) po_none) pa_nil))
      case d => exact pe_call GD hr1 rfl Z.gD Z.dD.kp bD .nil pass0 (pa_cons (pv 0) (pa_cons pe_int pa_nil))
      case b1 => exact ps_set (i := 6) scBok.nd rfl (Or.inl rfl) (pe_callTy call_dictD (by rfl) T.dict (by decide +kernel) (pa_cons (pv 2) pa_nil))
      case b2 =>
        refine' ps_dput hu (pv 6) (pv 5) ?t rfl
        case t => exact pe_call GT hr3 rfl Z.gT Z.dT.kp bT .nil pass0 (pa_cons (pv 0) (pa_cons (pe_slice sl_list (pv 1) (po_some pe_int) (po_some pe_int)) (pa_cons (pe_slice sl_list (pv 1) (po_some pe_int) po_none) pa_nil)))
      case b3 =>
        refine' ps_if (PW.pt (pw_and (pt_cmpR op_le (pe_callB call_len_seq (by rfl) TL.len PySem.boot_len (pa_cons ?r pa_nil)) pe_int (nomark _)) (pw_and1 (pt_cmpR op_le ?v pe_int (nomark _))))) (pss_one (ps_set (i := 2) scBok.nd rfl (Or.inl rfl) (pv 6))) pss_nil
        case r => exact pe_call GR hr1 rfl Z.gR Z.dR.kp bR .nil pass0 (pa_cons (pv 6) pa_nil)
        case v => exact pe_call GV hr2 rfl Z.gV Z.dV.kp bV .nil pass0 (pa_cons (pv 6) pa_nil)
    case s4 =>
      refine' ps_set (i := 7) scBok.nd rfl (Or.inl rfl) (pe_call GP hr6 rfl Z.gP Z.dP.kp bP .nil pass0 (pa_cons (pv 0) (pa_cons ?l (pa_cons pe_int (pa_cons pe_bl pa_nil)))))
      case l => exact pe_callB (cr_sortedTx rfl) (by rfl) T.sorted (by decide +kernel) (pa_cons (pe_callTy cr_setD (by rfl) T.set (by decide +kernel) (pa_cons (pv 2) pa_nil)) pa_nil)
    case s5 =>
      refine' ps_ret (pe_tup (pa_cons (pv 3) (pa_cons (pv 2) (pa_cons (pe_ifExp (pt_cmpR op_le ?c pe_int (nomark _)) (pv 7) (pe_tup (pa_cons pe_str pa_nil))) pa_nil))))
      case c => exact pe_call GC hr6 rfl Z.gC Z.dC.kp bC .nil pass0 (pa_cons (pv 7) pa_nil)
    case q =>
      have ssz : sizeLine = 16777216 := sizeLine_eq
      -- the titles
      refine seq_cutS (fun σ Hc => ∃ (l td kd : Addr) (xs : List Str), σ = [some (V.ref p), some (.ref l), some (.ref td), some (.ref kd), none, none, none, none] ∧ xs.length = 8 ∧ (∀ x ∈ xs, GoodW x) ∧ xs.Nodup ∧ PenAt Hc p c (n + 10) ∧ But p H Hc ∧ Hc l = some (.lst (xs.map V.str)) ∧ Hc td = some (.dK []) ∧ Hc kd = some (.dK []) ∧ l ≠ p ∧ td ≠ p ∧ kd ≠ p ∧ kd ≠ td ∧ H td = none ∧ H kd = none) ?_ ?_
      · intro NX rr
        refine ⟨_, rfl, p, c, n, 8, rfl, hP, by omega, by decide, fun l xs H1 lx gx nd P1 B1 nl hl => ?_⟩
        refine fun td ntd => ?_
        have s1 : Same H1 (upd H1 td (.dK [])) := Same.new ntd
        have g1 : (upd H1 td (.dK [])) td = some (.dK []) := upd_same
        have tp := (pen_apart P1 (Same.refl _) ntd).1
        generalize upd H1 td (.dK []) = H2 at s1 g1 ⊢
        refine fun kd nkd => ?_
        have s2 : Same H2 (upd H2 kd (.dK [])) := Same.new nkd
        have P2 := P1.same s1 (Nat.le_refl _)
        have kp := (pen_apart P2 (Same.refl _) nkd).1
        have kt : kd ≠ td := fun e => by rw [e, g1] at nkd; cases nkd
        have nH : ∀ {a : Addr}, a ≠ p → H1 a = none → H a = none := fun {a} na h => by
          cases e : H a with
          | none => rfl
          | some o => rw [B1 a o na e] at h; cases h
        exact ⟨_, _, _, rfl, rr _ _ ⟨l, td, kd, xs, rfl, lx, gx, nd, P2.same s2 (Nat.le_refl _), (B1.trans (But.of s1)).trans (But.of s2), s2 _ _ (s1 _ _ hl), s2 _ _ g1, upd_same, (pen_apart hP (Same.refl _) nl).1, tp, kp, kt, nH tp ntd, nH kp (none_back s1 nkd)⟩⟩
      rintro σ Hc ⟨l, td, kd, xs, rfl, lx, gx, nd, Pc, Bc, hl, htd, hkd, lp, tp, kp, kt, td0, kd0⟩
      have wx : ∀ x ∈ xs, Word x := fun x hx => (gx x hx).1
      -- the kinds
      refine seq_cutS (fun σ Hd => ∃ (o4 : Option V) (mk : List (Str × V)) (ks : List (Str × List Str)), σ = [some (V.ref p), some (.ref l), some (.ref td), some (.ref kd), o4, none, none, none] ∧ Hd kd = some (.dK (tD mk)) ∧ KsAt Hd mk ks ∧ KinB ks ∧ PenAt Hd p c (n + 30) ∧ But p H Hd ∧ Hd l = some (.lst (xs.map V.str)) ∧ Hd td = some (.dK [])) ?_ ?_
      · intro NX rr
        refine ⟨_, rfl, _, rfl, p, c, n + 10, 3, rfl, Pc, by omega, by decide, by decide, fun q H2 q0 q1 P2 b2 => ?_⟩
        obtain ⟨m, em, m1, m3⟩ : ∃ m : Nat, 1 + q = (m : Int) ∧ 1 ≤ m ∧ m ≤ 3 := ⟨(1 + q).toNat, by omega, by omega, by omega⟩
        refine ⟨_, _, rfl, rfl, _, rfl, l, xs.map V.str, rfl, SqL.of (b2 _ _ lp hl), fun D nD => ?_⟩
        have ec : cutV (xs.map V.str) none (some (1 + q)) = (xs.take m).map V.str := by rw [em, cut_take, List.map_take]
        rw [ec]
        have sD : Same H2 (upd H2 D (.lst ((xs.take m).map V.str))) := Same.new nD
        have gD : (upd H2 D (.lst ((xs.take m).map V.str))) D = some (.lst ((xs.take m).map V.str)) := upd_same
        generalize upd H2 D (.lst ((xs.take m).map V.str)) = H3 at sD gD ⊢
        have hl3 := sD _ _ (b2 _ _ lp hl)
        have lm : (xs.take m).length = m := by rw [List.length_take]; omega
        have ndm : (xs.take m).Nodup := (List.take_sublist m xs).nodup nd
        refine ⟨D, rfl, ⟨_, SqL.of gD⟩, ?_⟩
        refine for_it (walk_list (K := K) (a := D) (xs := (xs.take m).map V.str)) (fun i σ Hh => ∃ (o4 : Option V) (mk : List (Str × V)) (ks : List (Str × List Str)), σ = [some (V.ref p), some (.ref l), some (.ref td), some (.ref kd), o4, none, none, none] ∧ Hh kd = some (.dK (tD mk)) ∧ KsAt Hh mk ks ∧ ks.map (·.1) = (xs.take m).take i ∧ (∀ q ∈ ks, Word q.1 ∧ q.1 ≠ zs ∧ OkW q.2 ∧ q.2.length ≤ 3) ∧ PenAt Hh p c (n + 11 + 4 * i) ∧ KeepS H3 Hh ∧ Hh td = some (.dK []) ∧ But p H Hh)
          ⟨none, [], [], rfl, sD _ _ (b2 _ _ kp hkd), .nil, rfl, (fun _ z => nomatch z), P2.same sD (by omega), KeepS.same (Same.refl _), sD _ _ (b2 _ _ tp htd), (Bc.trans b2).trans (But.of sD)⟩ (fun i σ Hh _ ⟨_, _, _, _, _, _, _, _, _, z, _⟩ => SqL.of (z.l gD)) ?_ ?_
        · rintro i x σ Ha Hb hi ⟨o4, mk, ks, rfl, hk, kA, ke, kw, Pi, sA, hta, Bi⟩ ⟨rfl, gxi⟩
          obtain ⟨y, gy, rfl, hy⟩ := at_strs gxi
          rw [List.length_map, lm] at hi
          refine gName_go ?_
          with_reducible conv => whnf
          have hla := sA.l hl3
          refine ⟨_, rfl, _, rfl, 5, rfl, l, xs.map V.str, rfl, SqL.of hla, fun D2 nD2 => ?_⟩
          have ec5 : cutV (xs.map V.str) (some (5 : Int)) none = (xs.drop 5).map V.str := by rw [show (5 : Int) = ((5 : Nat) : Int) from rfl, cut_drop, List.map_drop]
          rw [ec5]
          have s2 : Same Hb (upd Hb D2 (.lst ((xs.drop 5).map V.str))) := Same.new nD2
          have g2 : (upd Hb D2 (.lst ((xs.drop 5).map V.str))) D2 = some (.lst ((xs.drop 5).map V.str)) := upd_same
          generalize upd Hb D2 (.lst ((xs.drop 5).map V.str)) = Hd at s2 g2 ⊢
          have l5 : (xs.drop 5).length = 3 := by rw [List.length_drop]; omega
          have Pd := Pi.same s2 (Nat.le_refl _)
          refine ⟨p, c, n + 11 + 4 * i, D2, xs.drop 5, rfl, Pd, by omega, SqL.of g2, by omega, fun x hx => wx x (List.mem_of_mem_drop hx), fun l4 zs4 H5 pz P5 b5 nl4 hl4 => ?_⟩
          have lz := pz.length_eq
          have l4p := (pen_apart Pd (Same.refl _) nl4).1
          refine ⟨_, rfl, p, c, n + 11 + 4 * i + (xs.drop 5).length, 4, rfl, P5, by omega, by decide, by decide, fun r H6 r0 r1 P6 b6 => ⟨r, rfl, l4, zs4.map V.str, rfl, SqL.of (b6 _ _ l4p hl4), fun D3 nD3 => ?_⟩⟩
          obtain ⟨rs, ers, sub⟩ := cut_sub zs4 none (some r)
          rw [ers]
          have s7 : Same H6 (upd H6 D3 (.lst (rs.map V.str))) := Same.new nD3
          have g7 : (upd H6 D3 (.lst (rs.map V.str))) D3 = some (.lst (rs.map V.str)) := upd_same
          generalize upd H6 D3 (.lst (rs.map V.str)) = H7 at s7 g7 ⊢
          have k7 : KeepS Hb H7 := ((KeepS.same s2).trans (KeepS.pen Pd b5)).trans ((KeepS.pen P5 b6).trans (KeepS.same s7))
          have bb : But p Hb H7 := ((But.of s2).trans b5).trans (b6.trans (But.of s7))
          have hk7 := bb _ _ kp hk
          have ynew : y ∉ mk.map (·.1) := fun z => by
            rw [kA.keys, ke] at z
            exact nd_take ndm gy z
          have lmk : mk.length ≤ 3 := by
            have e := congrArg List.length kA.keys
            rw [List.length_map, List.length_map] at e
            have e2 := congrArg List.length ke
            rw [List.length_map, List.length_take] at e2
            omega
          refine ⟨_, rfl, _, rfl, kd, _, rfl, DPut.k (k := .inr y) hk7 (by rw [tD_len, ssz]; omega), ?_⟩
          rw [tD_app mk y _ ynew]
          have k8 := KeepS.dict (v := .dK (tD (mk ++ [(y, .ref D3)]))) hk7
          have kd3 : D3 ≠ kd := fun e => by rw [e, hk7] at g7; cases g7
          have OkR : OkW rs := by
            refine ⟨sub.nodup (pz.nodup_iff.mpr ((List.drop_sublist 5 xs).nodup nd)), fun x hx => wx x (List.mem_of_mem_drop (pz.mem_iff.mp (sub.subset hx))), ?_⟩
            have := sub.length_le
            omega
          refine ⟨_, _, ks ++ [(y, rs)], rfl, upd_same, ?_, ?_, fun z hz => ?_, ?_, ?_, ?_, ?_⟩
          · exact ((kA.keep k7).snoc g7).keep k8
          · rw [List.map_append, ke, List.take_add_one, gy]
            rfl
          · rcases List.mem_append.mp hz with z | z
            · exact kw _ z
            · rw [List.mem_singleton.mp z]
              have yx := List.mem_of_mem_take hy
              have := sub.length_le
              exact ⟨wx y yx, (gx y yx).2, OkR, by show rs.length ≤ 3; omega⟩
          · have P7 := P6.same s7 (Nat.le_refl _)
            obtain ⟨cs, sp, re, S, z0, z1⟩ := P7.open
            have ck : c ≠ kd := fun e => by rw [← e, S.hc] at hk7; cases hk7
            exact (pen_off P7 kp (Ne.symm ck)).same (Same.refl _) (by omega)
          · exact (sA.trans k7).trans k8
          · rw [upd_ne (Ne.symm kt)]
            exact bb _ _ tp hta
          · intro b o nb z
            rw [upd_ne (fun e => by rw [e, kd0] at z; cases z)]
            exact bb b o nb (Bi b o nb z)
        · rintro σ Ha ⟨o4, mk, ks, rfl, hk, kA, ke, kw, Pi, sA, hta, Bi⟩
          rw [List.length_map, lm] at Pi ke
          rw [List.take_of_length_le (by omega)] at ke
          have lk := congrArg List.length ke
          rw [List.length_map, lm] at lk
          exact rr _ _ ⟨o4, mk, ks, rfl, hk, kA, ⟨by omega, by omega, by rw [ke]; exact ndm, kw⟩, Pi.same (Same.refl _) (by omega), Bi, sA.l hl3, hta⟩
      rintro σ Hd ⟨o4, mk, ks, rfl, hkd2, kA, kB, Pd, Bd', hld, htd2⟩
      clear Pc Bc hl htd hkd
      have lk3 := kB.l3
      -- the tasks
      refine seq_cutS (fun σ He => ∃ (o5 o6 : Option V) (ta : Addr) (mt : List (Str × V)) (ts : List (Str × TSk)), σ = [some (V.ref p), some (.ref l), some (.ref ta), some (.ref kd), o4, o5, o6, none] ∧ He ta = some (.dK (tD mt)) ∧ PsAt He mt ts ∧ TasB ts ∧ ta ≠ p ∧ kd ≠ ta ∧ PenAt He p c (n + 300) ∧ But p Hd He) ?_ ?_
      · intro NX rr
        refine ⟨_, rfl, _, rfl, 2, rfl, l, xs.map V.str, rfl, SqL.of hld, fun D nD => ?_⟩
        have ec : cutV (xs.map V.str) (some (2 : Int)) none = (xs.drop 2).map V.str := by rw [show (2 : Int) = ((2 : Nat) : Int) from rfl, cut_drop, List.map_drop]
        rw [ec]
        have sD : Same Hd (upd Hd D (.lst ((xs.drop 2).map V.str))) := Same.new nD
        have gD : (upd Hd D (.lst ((xs.drop 2).map V.str))) D = some (.lst ((xs.drop 2).map V.str)) := upd_same
        generalize upd Hd D (.lst ((xs.drop 2).map V.str)) = H1 at sD gD ⊢
        have l2 : (xs.drop 2).length = 6 := by rw [List.length_drop]; omega
        have P1 := Pd.same sD (Nat.le_refl _)
        refine ⟨p, c, n + 30, D, xs.drop 2, rfl, P1, by omega, SqL.of gD, by omega, fun x hx => wx x (List.mem_of_mem_drop hx), fun l4 zs4 H2 pz P2 b2 nl4 hl4 => ?_⟩
        have l4p := (pen_apart P1 (Same.refl _) nl4).1
        have lz := pz.length_eq
        refine ⟨_, rfl, p, c, n + 30 + (xs.drop 2).length, 4, rfl, P2, by omega, by decide, by decide, fun q H3 q0 q1 P3 b3 => ?_⟩
        obtain ⟨m, em, m1, m3⟩ : ∃ m : Nat, 1 + q = (m : Int) ∧ 1 ≤ m ∧ m ≤ 4 := ⟨(1 + q).toNat, by omega, by omega, by omega⟩
        refine ⟨_, _, rfl, rfl, _, rfl, l4, zs4.map V.str, rfl, SqL.of (b3 _ _ l4p hl4), fun D3 nD3 => ?_⟩
        have ec : cutV (zs4.map V.str) none (some (1 + q)) = (zs4.take m).map V.str := by rw [em, cut_take, List.map_take]
        rw [ec]
        have s4 : Same H3 (upd H3 D3 (.lst ((zs4.take m).map V.str))) := Same.new nD3
        have g4 : (upd H3 D3 (.lst ((zs4.take m).map V.str))) D3 = some (.lst ((zs4.take m).map V.str)) := upd_same
        have D3p := (pen_apart P3 (Same.refl _) nD3).1
        generalize upd H3 D3 (.lst ((zs4.take m).map V.str)) = H4 at s4 g4 ⊢
        have B4 : But p Hd H4 := ((But.of sD).trans b2).trans (b3.trans (But.of s4))
        have P4 := P3.same s4 (Nat.le_refl _)
        have lm : (zs4.take m).length = m := by rw [List.length_take]; omega
        have ndm : (zs4.take m).Nodup := (List.take_sublist m zs4).nodup (pz.nodup_iff.mpr ((List.drop_sublist 2 xs).nodup nd))
        have wm : ∀ y ∈ zs4.take m, Word y := fun y hy => wx y (List.mem_of_mem_drop (pz.mem_iff.mp (List.mem_of_mem_take hy)))
        refine ⟨D3, rfl, ⟨_, SqL.of g4⟩, ?_⟩
        refine for_it (walk_list (K := K) (a := D3) (xs := (zs4.take m).map V.str)) (fun i σ Hh => ∃ (o5 o6 : Option V) (ta : Addr) (mt : List (Str × V)) (ts : List (Str × TSk)), σ = [some (V.ref p), some (.ref l), some (.ref ta), some (.ref kd), o4, o5, o6, none] ∧ Hh ta = some (.dK (tD mt)) ∧ PsAt Hh mt ts ∧ TasB ts ∧ ts.length ≤ i ∧ (∀ y ∈ ts.map (·.1), y ∈ (zs4.take m).take i) ∧ ta ≠ p ∧ kd ≠ ta ∧ PenAt Hh p c (n + 37 + 60 * i) ∧ But p H4 Hh)
          ⟨none, none, td, [], [], rfl, B4 _ _ tp htd2, .nil, tasB_nil, Nat.le_refl _, (fun _ z => nomatch z), tp, kt, P4.same (Same.refl _) (by omega), But.of (Same.refl _)⟩ (fun i σ Hh _ ⟨_, _, _, _, _, _, _, _, _, _, _, _, _, _, z⟩ => SqL.of (z _ _ D3p g4)) ?_ ?_
        · rintro i x σ Ha Hb hi ⟨o5, o6, ta, mt, ts, rfl, ht, tA, tB, tl, tk, tap, kta, Pi, Bi⟩ ⟨rfl, gxi⟩
          obtain ⟨y, gy, rfl, hy⟩ := at_strs gxi
          rw [List.length_map, lm] at hi
          have Bd2 : But p Hd Hb := B4.trans Bi
          have hlb := Bd2 _ _ lp hld
          have hkb := Bd2 _ _ kp hkd2
          refine gName_go ?_
          with_reducible conv => whnf
          refine ⟨_, rfl, ta, _, rfl, .inl ht, fun la nla => ?_⟩
          have s5 : Same Hb (upd Hb la (.dK (tD mt))) := Same.new nla
          have g5 : (upd Hb la (.dK (tD mt))) la = some (.dK (tD mt)) := upd_same
          have lap := (pen_apart Pi (Same.refl _) nla).1
          have kla : kd ≠ la := fun e => by rw [← e, hkb] at nla; cases nla
          generalize upd Hb la (.dK (tD mt)) = H5 at s5 g5 ⊢
          have P5 := Pi.same s5 (Nat.le_refl _)
          refine gName_go ?_
          with_reducible conv => whnf
          obtain ⟨ms1, ec1, sub1⟩ := cut_sub xs (some 2) (some 6)
          obtain ⟨ms2, ec2, sub2⟩ := cut_sub xs (some 5) none
          have q1 := sub1.length_le
          have q2 := sub2.length_le
          have hl5 := s5 _ _ hlb
          refine ⟨_, rfl, _, rfl, 2, rfl, 6, rfl, l, xs.map V.str, rfl, SqL.of hl5, fun D6 nD6 => ?_⟩
          rw [ec1]
          have s6 : Same H5 (upd H5 D6 (.lst (ms1.map V.str))) := Same.new nD6
          have g6 : (upd H5 D6 (.lst (ms1.map V.str))) D6 = some (.lst (ms1.map V.str)) := upd_same
          generalize upd H5 D6 (.lst (ms1.map V.str)) = H6 at s6 g6 ⊢
          refine ⟨_, rfl, 5, rfl, l, xs.map V.str, rfl, SqL.of (s6 _ _ hl5), fun D7 nD7 => ?_⟩
          rw [ec2]
          have s7 : Same H6 (upd H6 D7 (.lst (ms2.map V.str))) := Same.new nD7
          have g7 : (upd H6 D7 (.lst (ms2.map V.str))) D7 = some (.lst (ms2.map V.str)) := upd_same
          generalize upd H6 D7 (.lst (ms2.map V.str)) = H7 at s7 g7 ⊢
          have s57 := s6.trans s7
          have P7 := P5.same s57 (Nat.le_refl _)
          refine ⟨p, c, n + 37 + 60 * i, D6, D7, ms1, ms2, rfl, P7, by omega, s7 _ _ g6, g7, by omega, by omega, fun x hx => wx x (sub1.subset hx), fun x hx => wx x (sub2.subset hx), fun t T H8 tp8 oT sT P8 b8 => ?_⟩
          have b58 : But p H5 H8 := (But.of s57).trans b8
          have bb : But p Hb H8 := (But.of s5).trans b58
          have k8 : KeepS Hb H8 := (KeepS.same s5).trans ((KeepS.same s57).trans (KeepS.pen P7 b8))
          have g8 := b58 _ _ lap g5
          have ynew : y ∉ mt.map (·.1) := fun z => nd_take ndm gy (tk y (tA.keys ▸ z))
          have lmt : mt.length ≤ 4 := by
            have e := congrArg List.length tA.keys
            rw [List.length_map, List.length_map] at e
            omega
          refine ⟨_, rfl, _, rfl, la, _, rfl, DPut.k (k := .inr y) g8 (by rw [tD_len, ssz]; omega), ?_⟩
          rw [tD_app mt y _ ynew]
          have k9 := KeepS.dict (v := .dK (tD (mt ++ [(y, .ref t)]))) g8
          have tA9 : PsAt (upd H8 la (.dK (tD (mt ++ [(y, .ref t)])))) (mt ++ [(y, .ref t)]) (ts ++ [(y, T)]) := ((tA.keep k8.u).snoc tp8).keep k9.u
          have g9 : (upd H8 la (.dK (tD (mt ++ [(y, .ref t)])))) la = some (.dK (tD (mt ++ [(y, .ref t)]))) := upd_same
          have P9 : PenAt (upd H8 la (.dK (tD (mt ++ [(y, .ref t)])))) p c (n + 37 + 60 * i + 60) := by
            obtain ⟨cs, sp, re, S, z0, z1⟩ := P8.open
            have ck : c ≠ la := fun e => by rw [← e, S.hc] at g8; cases g8
            exact pen_off P8 lap (Ne.symm ck)
          have b9 : But p H4 (upd H8 la (.dK (tD (mt ++ [(y, .ref t)])))) := Bi.trans fun b o nb z => by
            rw [upd_ne (fun e => by rw [e, nla] at z; cases z)]
            exact bb b o nb z
          have ht9 : (upd H8 la (.dK (tD (mt ++ [(y, .ref t)])))) ta = some (.dK (tD mt)) := by
            rw [upd_ne (fun e => by rw [e, nla] at ht; cases ht)]
            exact bb _ _ tap ht
          have tAo : PsAt (upd H8 la (.dK (tD (mt ++ [(y, .ref t)])))) mt ts := (tA.keep k8.u).keep k9.u
          generalize upd H8 la (.dK (tD (mt ++ [(y, .ref t)]))) = H9 at tA9 g9 P9 b9 ht9 tAo ⊢
          have nd9 : ((ts ++ [(y, T)]).map (·.1)).Nodup := by
            rw [← tA9.keys, List.map_append]
            exact List.nodup_append.mpr ⟨by rw [tA.keys]; exact tB.nd, by simp, fun a ha b hb e => ynew (by rw [List.mem_singleton.mp hb] at e; rw [← (show a = y from e)]; exact ha)⟩
          have w9 : ∀ q ∈ ts ++ [(y, T)], Word q.1 ∧ OkT q.2 ∧ SmT q.2 := fun z hz => by
            rcases List.mem_append.mp hz with z | z
            · exact tB.w _ z
            · rw [List.mem_singleton.mp z]
              exact ⟨wm y (hy), oT, sT⟩
          have l9 : (ts ++ [(y, T)]).length ≤ i + 1 := by
            rw [List.length_append]
            show ts.length + 1 ≤ i + 1
            omega
          have rm9 : (rmL (ts ++ [(y, T)])).length < 64 := by
            have := rml_small fun q hq => (w9 q hq).2.2
            omega
          have tk9 : ∀ z ∈ (ts ++ [(y, T)]).map (·.1), z ∈ (zs4.take m).take (i + 1) := fun z hz => by
            rw [List.take_add_one, gy]
            rw [List.map_append] at hz
            rcases List.mem_append.mp hz with z1 | z1
            · exact List.mem_append_left _ (tk _ z1)
            · exact List.mem_append_right _ z1
          have keep1 : ∀ H', Same H9 H' → ∃ (o5 o6 : Option V) (ta' : Addr) (mt : List (Str × V)) (ts : List (Str × TSk)), [some (V.ref p), some (.ref l), some (.ref ta), some (.ref kd), o4, some (.str y), some (.ref la), none] = [some (V.ref p), some (.ref l), some (.ref ta'), some (.ref kd), o4, o5, o6, none] ∧ H' ta' = some (.dK (tD mt)) ∧ PsAt H' mt ts ∧ TasB ts ∧ ts.length ≤ i + 1 ∧ (∀ y ∈ ts.map (·.1), y ∈ (zs4.take m).take (i + 1)) ∧ ta' ≠ p ∧ kd ≠ ta' ∧ PenAt H' p c (n + 37 + 60 * (i + 1)) ∧ But p H4 H' := fun H' s =>
            ⟨_, _, ta, mt, ts, rfl, s _ _ ht9, tAo.keep (KeepU.same s), tB, by omega, fun z hz => by rw [List.take_add_one]; exact List.mem_append_left _ (tk z hz), tap, kta, P9.same s (by omega), b9.trans (But.of s)⟩
          -- few enough to be remembered
          refine ⟨_, rfl, la, _, _, rfl, g9, tA9, nd9, rm9, fun tr ys H10 rem s10 hr10 => ?_⟩
          refine ⟨tr, _, rfl, .inr (SqT.of hr10), _, _, rfl, rfl, decide (ys.length ≤ 3), congrArg V.bl (decide_eq_decide.mpr (by rw [List.length_map]; omega)), ?_⟩
          by_cases c1 : ys.length ≤ 3
          · rw [decide_eq_true c1]
            refine iteT ?_
            refine ⟨_, rfl, la, _, _, rfl, s10 _ _ g9, tA9.keep (KeepU.same s10), ⟨nd9, by omega, fun z hz => (w9 z hz).2.1.n1⟩, rm9, fun zs H11 rem2 s11 => ?_⟩
            obtain rfl : ys = zs := rem.same rem2 fun _ => Iff.rfl
            refine ⟨_, _, rfl, rfl, decide (wdF (ts ++ [(y, T)]) ys ≤ 5), congrArg V.bl (decide_eq_decide.mpr (by omega)), ?_⟩
            by_cases c2 : wdF (ts ++ [(y, T)]) ys ≤ 5
            · rw [decide_eq_true c2]
              refine iteT ?_
              refine ⟨_, rfl, gName_go ?_⟩
              have s9 := s10.trans s11
              exact ⟨_, _, la, _, _, rfl, s9 _ _ g9, tA9.keep (KeepU.same s9), ⟨by omega, nd9, w9, fun us r => by
                obtain rfl : ys = us := rem.same r fun _ => Iff.rfl
                exact ⟨c1, c2⟩⟩, l9, tk9, lap, kla, P9.same s9 (by omega), b9.trans (But.of s9)⟩
            · rw [decide_eq_false c2]
              exact iteF (keep1 _ (s10.trans s11))
          · rw [decide_eq_false c1]
            exact iteF (iteF (keep1 _ s10))
        · rintro σ Ha ⟨o5, o6, ta, mt, ts, rfl, ht, tA, tB, tl, tk, tap, kta, Pi, Bi⟩
          rw [List.length_map, lm] at Pi
          exact rr _ _ ⟨o5, o6, ta, mt, ts, rfl, ht, tA, tB, tap, kta, Pi.same (Same.refl _) (by omega), B4.trans Bi⟩
      rintro σ He ⟨o5, o6, ta, mt, ts, rfl, hta, tA, tB, tap, kta, Pe, Be⟩
      have wts : ∀ y ∈ ts.map (·.1), wordB y = true := fun y hy => by
        obtain ⟨q, hq, rfl⟩ := List.mem_map.mp hy
        exact (tB.w q hq).1
      have lts := tB.l4
      have lmt : mt.length = ts.length := by
        have e := congrArg List.length tA.keys
        rw [List.length_map, List.length_map] at e
        exact e
      have hke := Be _ _ kp hkd2
      have kA2 := kA
      -- the plan
      refine seq_cutS (fun σ Hf => ∃ (o5 o6 : Option V) (v : V) (d : PyData), σ = [some (V.ref p), some (.ref l), some (.ref ta), some (.ref kd), o4, o5, o6, some v] ∧ Pl K Hf v d ∧ Good (ts.map (·.1)) 4 false d ∧ PenAt Hf p c (n + 500) ∧ But p He Hf) ?_ ?_
      · intro NX rr
        refine ⟨_, rfl, _, rfl, ta, tD mt, mt.map (·.1), rfl, hta, (by unfold tD; rw [List.map_map, List.map_map]; rfl), (by rw [List.length_map]; omega), fun D nD => ⟨D, _, rfl, upd_same, by rw [List.length_map]; omega, fun ys q pm so nq => ?_⟩⟩
        refine ⟨p, c, n + 300, q, ys, true, rfl, Pe.same ((Same.new nD).trans (Same.new nq)) (Nat.le_refl _), (by show n + 300 + 133 ≤ 500000; omega), upd_same, (by have := pm.length_eq; rw [List.length_map] at this; omega), (pen_apart (Pe.same (Same.new nD) (Nat.le_refl _)) (Same.refl _) nq).1, fun v d H' P7 b7 pv good => ?_⟩
        refine gName_go ?_
        exact rr _ _ ⟨o5, o6, v, d, rfl, pv, good_sub (fun y hy => by rw [← tA.keys]; exact pm.mem_iff.mp hy) good, P7.same (Same.refl _) (show n + 300 + 133 ≤ n + 500 by omega), ((But.of (Same.new nD)).trans (But.of (Same.new nq))).trans b7⟩
      rintro σ Hf ⟨o5, o6, v, d, rfl, pv, gd, Pf, Bf⟩
      have hw : d.weight ≤ 20000 := Nat.le_trans (good_w wts gd) (by decide)
      have fin : ∀ {v : V} {d : PyData} {Hg : Hp}, Same Hf Hg → Pl K Hg v d → PlanB ts d → ∀ t, Hg t = none → Q (.ref t) (upd Hg t (.tup [.ref kd, .ref ta, v])) := fun {v d Hg} s pl pb t nt => by
        have st := s.trans (Same.new nt (o := .tup [.ref kd, .ref ta, v]))
        have b := Bf.trans (But.of st)
        have bb := Be.trans b
        have kt : KeepU He (upd Hg t (.tup [.ref kd, .ref ta, v])) := (KeepU.pen Pe Bf).trans (KeepU.same st)
        exact go t kd ta v mk ks mt ts d _ upd_same (bb _ _ kp hkd2) (ksAt_but Pd kA (Be.trans b)) kB (b _ _ tap hta) (tA.keep kt) tB (pl.same (Same.new nt)) pb kp tap kta (Pf.same st (by omega)) (Bd'.trans bb)
      have shd : Sh 4 d := good_sh wts gd
      have s0 : Same Hf Hf := Same.refl _
      refine ⟨_, rfl, _, rfl, v, rfl, v, d, rfl, pv, shd, by omega, fun H1 s1 => ⟨_, _, rfl, rfl, decide ((namesF 4 d).length ≤ 16), congrArg V.bl (decide_eq_decide.mpr (by omega)), ?_⟩⟩
      by_cases c1 : (namesF 4 d).length ≤ 16
      · rw [decide_eq_true c1]
        refine iteT ⟨_, rfl, ?_⟩
        exact ⟨(show 3 ≤ sizeLine by decide), fin s1 (pv.same s1) ⟨good_rt wts gd, shd, hw, c1, good_names gd⟩⟩
      · rw [decide_eq_false c1]
        refine iteF ⟨(show 1 ≤ sizeLine by decide), fun t2 nt2 => ⟨(show 3 ≤ sizeLine by decide), ?_⟩⟩
        have g0 : Good (ts.map (·.1)) 4 false (.tuple [.str (Str.ofString "then")]) := good_done
        have s2 : Same H1 (upd H1 t2 (.tup [.str (Str.ofString "then")])) := Same.new nt2
        exact fin (s1.trans s2) (.tup (SqT.of upd_same) (.cons (.str _) .nil)) ⟨good_rt wts g0, good_sh wts g0, Nat.le_trans (good_w wts g0) (by decide), (by decide +kernel), good_names g0⟩
end
end Fp1
set_option Elab.async false
set_option linter.all false
set_option maxRecDepth 100000
set_option maxHeartbeats 2000000
/-! normal forms: they stay, keep their names, stay right (out of Pp and Qg, for laws without turns) -/
namespace Fp1
open PySem PySem.Spec PyProof.Rows L2 Fh Fs
open PySem.W (Frag)
/-- a plan in normal form -/
inductive Nm : PyData → Prop where
  | nm {y : Str} : Nm (.str y)
  | thn {ds : List PyData} : ds.length ≠ 1 → (∀ d ∈ ds, Nm d) → (∀ d ∈ ds, thenParts d = none) → Nm (.tuple (.str "then" :: ds))
  | bes {a b : PyData} : Nm a → Nm b → isDone a = false → isDone b = false → Nm (.tuple [.str "beside", a, b])
  | oth {y : Str} {ds : List PyData} : y ≠ "then" → y ≠ "beside" → (∀ d ∈ ds, Nm d) → Nm (.tuple (.str y :: ds))
theorem thenParts_nd (y : Str) (ds : List PyData) : thenParts (.tuple (.str y :: ds)) = if y = "then" then some ds else none := rfl
theorem nm_flat1 {d : PyData} (h : Nm d) : ∀ e ∈ flat1 d, Nm e ∧ thenParts e = none := by
  intro e he
  unfold flat1 at he
  cases q : thenParts d with
  | none =>
    rw [q] at he
    rcases List.mem_singleton.mp he with rfl
    exact ⟨h, q⟩
  | some es =>
    rw [q] at he
    cases h with
    | nm => cases q
    | @thn ds h1 h2 h3 =>
      rw [thenParts_nd, if_pos rfl] at q
      cases q
      exact ⟨h2 e he, h3 e he⟩
    | bes h1 h2 h3 h4 => rw [thenParts_nd, if_neg (by decide +kernel)] at q; cases q
    | oth h1 h2 h3 => rw [thenParts_nd, if_neg h1] at q; cases q
theorem nm_turn {ds : List PyData} (h : ∀ d ∈ ds, Nm d) : Nm (inTurn ds) := by
  have f : ∀ e ∈ flatF ds, Nm e ∧ thenParts e = none := fun e he => by
    obtain ⟨d, hd, he⟩ := List.mem_flatMap.mp he
    exact nm_flat1 (h d hd) e he
  unfold inTurn
  split
  · rename_i d e
    rw [e] at f
    exact (f d List.mem_cons_self).1
  · rename_i es ne
    refine .thn (fun l => ?_) (fun d hd => (f d hd).1) (fun d hd => (f d hd).2)
    match h : flatF ds, l with
    | [x], _ => exact ne x h
theorem nm_side {a b : PyData} (ha : Nm a) (hb : Nm b) : Nm (side a b) := by
  unfold side
  split
  · exact hb
  · rename_i ea
    split
    · exact ha
    · rename_i eb
      exact .bes ha hb (by cases h : isDone a with | true => exact absurd h ea | false => rfl) (by cases h : isDone b with | true => exact absurd h eb | false => rfl)
theorem nm_nf : ∀ {n : Nat} {d : PyData}, Sh n d → Nm (nf n d)
  | 0, _, .nm _ => .nm
  | n + 1, _, .nm h => .nm
  | n + 1, _, .nd (y := y) (ds := ds) h1 h2 h3 => by
    have m : ∀ e ∈ ds.map (nf n), Nm e := fun e he => by
      obtain ⟨d, hd, rfl⟩ := List.mem_map.mp he
      exact nm_nf (h3 d hd)
    show Nm (if y = "then" then inTurn (ds.map (nf n)) else if y = "beside" then twoOf (ds.map (nf n)) (.tuple (.str y :: ds)) else .tuple (.str y :: ds.map (nf n)))
    split
    · exact nm_turn m
    · rename_i ny
      split
      · rename_i e
        subst e
        obtain ⟨a, b, rfl⟩ := two_of (beside_two h1)
        exact nm_side (m _ List.mem_cons_self) (m _ (List.mem_cons_of_mem _ List.mem_cons_self))
      · rename_i nb
        exact .oth ny nb m
theorem flat_plain {ds : List PyData} (h : ∀ d ∈ ds, thenParts d = none) : flatF ds = ds := by
  induction ds with
  | nil => rfl
  | cons d r ih =>
    show flat1 d ++ flatF r = d :: r
    rw [ih fun e he => h e (List.mem_cons_of_mem _ he)]
    have e : flat1 d = [d] := by unfold flat1; rw [h d List.mem_cons_self]
    rw [e]
    rfl
theorem turn_plain {ds : List PyData} (l : ds.length ≠ 1) (h : ∀ d ∈ ds, thenParts d = none) : inTurn ds = .tuple (.str "then" :: ds) := by
  unfold inTurn
  rw [flat_plain h]
  match ds, l with
  | [], _ => rfl
  | [_], l => exact absurd rfl l
  | _ :: _ :: _, _ => rfl
theorem map_same {f : PyData → PyData} {ds : List PyData} (h : ∀ d ∈ ds, f d = d) : ds.map f = ds := by
  induction ds with
  | nil => rfl
  | cons d r ih => rw [List.map_cons, h d List.mem_cons_self, ih fun e he => h e (List.mem_cons_of_mem _ he)]
theorem nf_nm {n : Nat} {d : PyData} (h : Sh n d) : Nm d → nf n d = d := by
  induction h with
  | @nm n y h => intro _; cases n <;> rfl
  | @nd n y ds h1 h2 h3 ih =>
    intro nm
    show (if y = "then" then inTurn (ds.map (nf n)) else if y = "beside" then twoOf (ds.map (nf n)) (.tuple (.str y :: ds)) else .tuple (.str y :: ds.map (nf n))) = _
    cases nm with
    | thn l1 l2 l3 =>
      rw [if_pos rfl, map_same fun d hd => ih d hd (l2 d hd), turn_plain l1 l3]
    | @bes a b na nb la lb =>
      rw [if_neg (by decide +kernel), if_pos rfl]
      rw [map_same fun d hd => ih d hd (by
        rcases List.mem_cons.mp hd with rfl | hd
        · exact na
        · rw [List.mem_singleton.mp hd]; exact nb)]
      show side a b = _
      unfold side
      rw [if_neg (by rw [la]; exact fun z => nomatch z), if_neg (by rw [lb]; exact fun z => nomatch z)]
    | oth n1 n2 n3 => rw [if_neg n1, if_neg n2, map_same fun d hd => ih d hd (n3 d hd)]
theorem Rt.flag {n : Nat} {b : Bool} {d : PyData} (h : Rt n b d) : Rt n false d := by
  induction h with
  | nm h => exact .nm h
  | @nd n b y ds h1 h2 h3 ih =>
    refine .nd h1 rfl fun d hd => ?_
    cases e : decide (y = "beside") with
    | false => exact ih d hd
    | true =>
      have q := h3 d hd
      rw [e, Bool.or_true] at q
      exact q
theorem flat_rt {n : Nat} {b : Bool} {ds : List PyData} (h : ∀ d ∈ ds, Rt n b d) : ∀ e ∈ flatF ds, Rt n b e := fun e he => by
  obtain ⟨d, hd, he⟩ := List.mem_flatMap.mp he
  have hr := h d hd
  unfold flat1 at he
  cases q : thenParts d with
  | none => rw [q] at he; rw [List.mem_singleton.mp he]; exact hr
  | some es =>
    rw [q] at he
    cases hr with
    | nm _ => cases q
    | @nd n b y es' h1 h2 h3 =>
      rw [thenParts_nd] at q
      by_cases e1 : y = "then"
      · rw [if_pos e1] at q
        cases q
        have q := h3 e he
        rw [e1, show decide (Str.ofString "then" = Str.ofString "beside") = false by decide +kernel, Bool.or_false] at q
        exact q.up (by omega)
      · rw [if_neg e1] at q; cases q
theorem rt_turn {n : Nat} {b : Bool} {ds : List PyData} (h : ∀ d ∈ ds, Rt n b d) : Rt (n + 1) b (inTurn ds) := by
  have f := flat_rt h
  unfold inTurn
  split
  · rename_i d e
    rw [e] at f
    exact (f d List.mem_cons_self).up (by omega)
  · exact .nd (then_any _) (by cases b <;> decide +kernel) fun d hd => by
      rw [show decide (Str.ofString "then" = Str.ofString "beside") = false by decide +kernel, Bool.or_false]
      exact f d hd
theorem rt_side {n : Nat} {a b : PyData} (ha : Rt n true a) (hb : Rt n true b) : Rt (n + 1) false (side a b) := by
  unfold side
  split
  · exact hb.flag.up (by omega)
  · split
    · exact ha.flag.up (by omega)
    · exact .nd (ds := [a, b]) (show rightNo (Str.ofString "beside") ((2 : Nat) : Int) = true by decide +kernel) (by decide +kernel) fun d hd => by
        rw [show (false || decide (Str.ofString "beside" = Str.ofString "beside")) = true by decide +kernel]
        rcases List.mem_cons.mp hd with rfl | hd
        · exact ha
        · rw [List.mem_singleton.mp hd]; exact hb
theorem rt_nf : ∀ {n : Nat} {b : Bool} {d : PyData}, Rt n b d → Rt n b (nf n d)
  | 0, _, _, .nm h => .nm h
  | n + 1, _, _, .nm h => .nm h
  | n + 1, b, _, .nd (y := y) (ds := ds) h1 h2 h3 => by
    have m : ∀ e ∈ ds.map (nf n), Rt n (b || decide (y = "beside")) e := fun e he => by
      obtain ⟨d, hd, rfl⟩ := List.mem_map.mp he
      exact rt_nf (h3 d hd)
    show Rt (n + 1) b (if y = "then" then inTurn (ds.map (nf n)) else if y = "beside" then twoOf (ds.map (nf n)) (.tuple (.str y :: ds)) else .tuple (.str y :: ds.map (nf n)))
    by_cases e1 : y = "then"
    · rw [if_pos e1]
      rw [e1, show decide (Str.ofString "then" = Str.ofString "beside") = false by decide +kernel, Bool.or_false] at m
      exact rt_turn m
    · rw [if_neg e1]
      by_cases e2 : y = "beside"
      · rw [if_pos e2]
        rw [e2] at h1 h2 m
        obtain ⟨p, q, rfl⟩ := two_of (beside_two h1)
        have bf : b = false := by cases b with | false => rfl | true => exact absurd h2 (by decide +kernel)
        subst bf
        rw [show (false || decide (Str.ofString "beside" = Str.ofString "beside")) = true by decide +kernel] at m
        exact rt_side (m _ List.mem_cons_self) (m _ (List.mem_cons_of_mem _ List.mem_cons_self))
      · rw [if_neg e2]
        exact .nd (by rw [List.length_map]; exact h1) h2 m
theorem names_up {n : Nat} {d : PyData} (h : Sh n d) : ∀ {m : Nat}, n ≤ m → namesF m d = namesF n d := by
  induction h with
  | @nm n y h => intro m _; rw [names_str, names_str]
  | @nd n y ds h1 h2 h3 ih =>
    intro m le
    obtain ⟨k, rfl⟩ : ∃ k, m = k + 1 := ⟨m - 1, by omega⟩
    rw [names_nd, names_nd]
    have e : ds.map (namesF k) = ds.map (namesF n) := List.map_congr_left fun d hd => ih d hd (by omega)
    rw [List.flatMap_def, List.flatMap_def, e]
theorem flat_names {n : Nat} {f g : PyData → List Str} {ds : List PyData} (h : ∀ d ∈ ds, f d = g d) : ds.flatMap f = ds.flatMap g := by
  rw [List.flatMap_def, List.flatMap_def, List.map_congr_left h]
theorem flat1_names {n : Nat} {d : PyData} (h : Sh n d) : (flat1 d).flatMap (namesF n) = namesF n d := by
  unfold flat1
  cases q : thenParts d with
  | none =>
    show namesF n d ++ [] = _
    rw [List.append_nil]
  | some es =>
    cases h with
    | nm _ => cases q
    | @nd n y ds h1 h2 h3 =>
      rw [thenParts_nd] at q
      by_cases e : y = "then"
      · rw [if_pos e] at q
        cases q
        show es.flatMap (namesF (n + 1)) = es.flatMap (namesF n)
        exact flat_names (n := n) fun d hd => names_up (h3 d hd) (Nat.le_succ n)
      · rw [if_neg e] at q; cases q
theorem flatF_names {n : Nat} {ds : List PyData} (h : ∀ d ∈ ds, Sh n d) : (flatF ds).flatMap (namesF n) = ds.flatMap (namesF n) := by
  unfold flatF
  rw [List.flatMap_assoc]
  exact flat_names (n := n) fun d hd => flat1_names (h d hd)
theorem turn_names {n : Nat} {ds : List PyData} (h : ∀ d ∈ ds, Sh n d) : namesF (n + 1) (inTurn ds) = ds.flatMap (namesF n) := by
  have f := flatF_names h
  have s := sh_flat h
  unfold inTurn
  split
  · rename_i d e
    rw [e] at f s
    rw [names_up (s d List.mem_cons_self) (Nat.le_succ n), ← f]
    show _ = namesF n d ++ []
    rw [List.append_nil]
  · rw [names_nd, f]
theorem done_names {n : Nat} {d : PyData} (h : Sh n d) (e : isDone d = true) : namesF n d = [] := by
  cases h with
  | nm _ => rw [isDone_str] at e; cases e
  | @nd n y ds h1 h2 h3 =>
    rw [isDone_nd, Bool.and_eq_true] at e
    rw [List.isEmpty_iff.mp e.2]
    rfl
theorem side_names {n : Nat} {a b : PyData} (ha : Sh n a) (hb : Sh n b) : namesF (n + 1) (side a b) = namesF n a ++ namesF n b := by
  unfold side
  split
  · rename_i e
    rw [done_names ha e, names_up hb (Nat.le_succ n)]
    rfl
  · split
    · rename_i e
      rw [done_names hb e, names_up ha (Nat.le_succ n), List.append_nil]
    · show namesF n a ++ (namesF n b ++ []) = _
      rw [List.append_nil]
/-- a normal form has the plan's names -/
theorem nf_names : ∀ {n : Nat} {d : PyData}, Sh n d → namesF n (nf n d) = namesF n d
  | 0, _, .nm _ => rfl
  | n + 1, _, .nm _ => rfl
  | n + 1, _, .nd (y := y) (ds := ds) h1 h2 h3 => by
    have m : ∀ e ∈ ds.map (nf n), Sh n e := fun e he => by
      obtain ⟨d, hd, rfl⟩ := List.mem_map.mp he
      exact sh_nf (h3 d hd)
    have eq : (ds.map (nf n)).flatMap (namesF n) = ds.flatMap (namesF n) := by
      rw [List.flatMap_map]
      exact flat_names (n := n) fun d hd => nf_names (h3 d hd)
    show namesF (n + 1) (if y = "then" then inTurn (ds.map (nf n)) else if y = "beside" then twoOf (ds.map (nf n)) (.tuple (.str y :: ds)) else .tuple (.str y :: ds.map (nf n))) = _
    rw [names_nd]
    split
    · rw [turn_names m, eq]
    · rename_i ny
      split
      · rename_i e
        subst e
        obtain ⟨a, b, rfl⟩ := two_of (beside_two h1)
        show namesF (n + 1) (side (nf n a) (nf n b)) = _
        rw [side_names (m _ List.mem_cons_self) (m _ (List.mem_cons_of_mem _ List.mem_cons_self)), ← eq]
        show _ = namesF n (nf n a) ++ (namesF n (nf n b) ++ [])
        rw [List.append_nil]
      · rw [names_nd, eq]
theorem good_namesB {ns : List Str} {n : Nat} {b : Bool} {d : PyData} (h : Good ns n b d) : ∀ y ∈ namesF n d, y ∈ ns := by
  induction h with
  | @nm n b y h =>
    intro z hz
    rw [names_str] at hz
    rw [List.mem_singleton.mp hz]
    exact h
  | @nd n b y ds h1 h2 h3 h4 ih =>
    intro z hz
    rw [names_nd] at hz
    obtain ⟨d, hd, hz⟩ := List.mem_flatMap.mp hz
    exact ih d hd z hz
end Fp1
set_option Elab.async false
set_option linter.all false
set_option maxRecDepth 100000
set_option maxHeartbeats 4000000
/-! FzX: repr of data of all sorts: tuples tracked or written, lists, dicts of text keys -/
namespace Fs
open PySem PySem.Spec PyProof.Rows L2 Fh
open PySem.W (Frag)
mutual
inductive Dw (K : Frag) (H : Hp) : V → PyData → Prop where
  | non : Dw K H .non .none
  | bl (b : Bool) : Dw K H (.bl b) (.bool b)
  | int (i : Int) : Dw K H (.int i) (.int i)
  | str (x : Str) : Dw K H (.str x) (.str x)
  | tup {a : Addr} {xs : List V} {ds : List PyData} : SqT K H a xs → Dws K H xs ds → Dw K H (.ref a) (.tuple ds)
  | lst {a : Addr} {xs : List V} {ds : List PyData} : H a = some (.lst xs) → Dws K H xs ds → Dw K H (.ref a) (.list ds)
  | dK {a : Addr} {es : List (Key × V)} {kvs : List (PyData × PyData)} : H a = some (.dK es) → Dwk K H es kvs → Dw K H (.ref a) (.dict kvs)
inductive Dws (K : Frag) (H : Hp) : List V → List PyData → Prop where
  | nil : Dws K H [] []
  | cons {x : V} {d : PyData} {xs : List V} {ds : List PyData} : Dw K H x d → Dws K H xs ds → Dws K H (x :: xs) (d :: ds)
inductive Dwk (K : Frag) (H : Hp) : List (Key × V) → List (PyData × PyData) → Prop where
  | nil : Dwk K H [] []
  | cons {k : Key} {v : V} {d : PyData} {es : List (Key × V)} {kvs : List (PyData × PyData)} : Dw K H v d → Dwk K H es kvs → Dwk K H ((k, v) :: es) ((kP k, d) :: kvs)
end
mutual
theorem Db.dw {K : Frag} {H : Hp} : ∀ {v : V} {d : PyData}, Db K H v d → Dw K H v d
  | _, _, .non => .non
  | _, _, .bl b => .bl b
  | _, _, .int i => .int i
  | _, _, .dct h => .dK h .nil
  | _, _, .str x => .str x
  | _, _, .tup h r => .tup h (Dbs.dw r)
  | _, _, .lst h r => .lst h (Dbs.dw r)
theorem Dbs.dw {K : Frag} {H : Hp} : ∀ {v : List V} {d : List PyData}, Dbs K H v d → Dws K H v d
  | _, _, .nil => .nil
  | _, _, .cons h r => .cons (Db.dw h) (Dbs.dw r)
end
mutual
theorem DA.dw {K : Frag} {N : Addr → Prop} {H : Hp} : ∀ {v : V} {d : PyData}, DA N H v d → Dw K H v d
  | _, _, .non => .non
  | _, _, .bl b => .bl b
  | _, _, .int i => .int i
  | _, _, .str x => .str x
  | _, _, .tup h _ r => .tup (SqT.of h) (DAs.dw r)
  | _, _, .lst h _ _ r => .lst h (DAs.dw r)
  | _, _, .dK h _ r => .dK h (DKs.dw r)
theorem DAs.dw {K : Frag} {N : Addr → Prop} {H : Hp} : ∀ {v : List V} {d : List PyData}, DAs N H v d → Dws K H v d
  | _, _, .nil => .nil
  | _, _, .cons h r => .cons (DA.dw h) (DAs.dw r)
theorem DKs.dw {K : Frag} {N : Addr → Prop} {H : Hp} : ∀ {v : List (Key × V)} {d : List (PyData × PyData)}, DKs N H v d → Dwk K H v d
  | _, _, .nil => .nil
  | _, _, .cons h r => .cons (DA.dw h) (DKs.dw r)
end
mutual
theorem Dw.same {K : Frag} {H H' : Hp} (s : Same H H') : ∀ {v : V} {d : PyData}, Dw K H v d → Dw K H' v d
  | _, _, .non => .non
  | _, _, .bl b => .bl b
  | _, _, .int i => .int i
  | _, _, .str x => .str x
  | _, _, .tup h r => .tup ((KeepT.of s).sqT h) (Dws.same s r)
  | _, _, .lst h r => .lst (s _ _ h) (Dws.same s r)
  | _, _, .dK h r => .dK (s _ _ h) (Dwk.same s r)
theorem Dws.same {K : Frag} {H H' : Hp} (s : Same H H') : ∀ {v : List V} {d : List PyData}, Dws K H v d → Dws K H' v d
  | _, _, .nil => .nil
  | _, _, .cons h r => .cons (Dw.same s h) (Dws.same s r)
theorem Dwk.same {K : Frag} {H H' : Hp} (s : Same H H') : ∀ {v : List (Key × V)} {d : List (PyData × PyData)}, Dwk K H v d → Dwk K H' v d
  | _, _, .nil => .nil
  | _, _, .cons h r => .cons (Dw.same s h) (Dwk.same s r)
end
section
variable {X : Cx} {pins : List (Addr × Obj)} {σ : L2.St} {H : Hp} {s : Shared}
mutual
theorem Dw.reads (hS : (X.K.lookup sysModules).isSome = true) (I : Inv X pins σ H s) : ∀ {v : V} {d : PyData} {u : Value}, Dw X.K H v d → RelV v u → ∃ as, Reads s.heap u d as ∧ sysModules ∉ as
  | _, _, u, .non, r => by
    have e : u = Value.none := r
    rw [e]
    exact ⟨[], .none, List.not_mem_nil⟩
  | _, _, u, .bl b, r => by
    have e : u = Value.bool b := r
    rw [e]
    exact ⟨[], .bool b, List.not_mem_nil⟩
  | _, _, u, .int i, r => by
    obtain ⟨t, e⟩ := (show ∃ t, u = Value.int i t from r)
    rw [e]
    exact ⟨[], .int i t, List.not_mem_nil⟩
  | _, _, u, .str x, r => by
    obtain ⟨t, e⟩ := (show ∃ t, u = Value.str x t from r)
    rw [e]
    exact ⟨[], .str x t, List.not_mem_nil⟩
  | _, _, u, .lst (a := a) (xs := xs) hA rs, r => by
    have e : u = Value.ref a := r
    rw [e]
    obtain ⟨_, its, m, rv, ho⟩ := (show ObjOk X.prog X.w H s.heap a (.lst xs) from I.hok a _ hA)
    obtain ⟨as, ra, ns⟩ := Dws.reads hS I rs rv
    have na : sysModules ≠ a := fun e => by
      have z := no_mods hS I
      rw [e, hA] at z
      cases z
    exact ⟨a :: as, .list ho rfl rfl (by simpa using ra), fun z => (List.mem_cons.mp z).elim na ns⟩
  | _, _, u, .tup h rs, r => by
    obtain ⟨its, rv, ⟨o, ho, hc, n, hd⟩, _⟩ := I.tuple h
    obtain rfl : u = Value.ref _ := r
    obtain ⟨as, ra, ns⟩ := Dws.reads hS I rs rv
    exact ⟨as, .tuple ho hc hd (by simpa using ra), ns⟩
  | _, _, u, .dK (a := a) (es := es) hA rs, r => by
    have e : u = Value.ref a := r
    rw [e]
    obtain ⟨_, hs, vs, rv, o, ds, ep, ho, hx, hd, _, hp, _⟩ := (show ObjOk X.prog X.w H s.heap a (.dK es) from I.hok a _ hA)
    obtain ⟨as, bs, r1, r2, n1, n2⟩ := Dwk.reads hS I rs rv hp
    refine ⟨a :: as ++ bs, .dict ho hx.1 hd r1 r2, fun z => ?_⟩
    rcases List.mem_append.mp z with y | y
    · rcases List.mem_cons.mp y with x | x
      · exact absurd x.symm (beq_eq_false_iff_ne.mp hs)
      · exact n1 x
    · exact n2 y
theorem Dws.reads (hS : (X.K.lookup sysModules).isSome = true) (I : Inv X pins σ H s) : ∀ {vs : List V} {ds : List PyData} {us : List Value}, Dws X.K H vs ds → Vals vs us → ∃ as, ReadsAll s.heap us ds as ∧ sysModules ∉ as
  | _, _, _, .nil, .nil => ⟨[], .nil, List.not_mem_nil⟩
  | _, _, _, .cons h rs, .cons r1 r2 => by
    obtain ⟨as, a1, a2⟩ := Dw.reads hS I h r1
    obtain ⟨bs, b1, b2⟩ := Dws.reads hS I rs r2
    exact ⟨as ++ bs, .cons a1 b1, fun z => (List.mem_append.mp z).elim a2 b2⟩
theorem Dwk.reads (hS : (X.K.lookup sysModules).isSome = true) (I : Inv X pins σ H s) : ∀ {es : List (Key × V)} {kvs : List (PyData × PyData)} {vs : List (Key × Value)} {ds : List DictEntry}, Dwk X.K H es kvs → KV es vs → Pairs (mixKind X.prog X.w) ds vs →
    ∃ as bs, ReadsAll s.heap (ds.map (·.key)) (kvs.map (·.1)) as ∧ ReadsAll s.heap (ds.map (·.val)) (kvs.map (·.2)) bs ∧ sysModules ∉ as ∧ sysModules ∉ bs
  | _, _, _, _, .nil, .nil, .nil => ⟨[], [], .nil, .nil, List.not_mem_nil, List.not_mem_nil⟩
  | _, _, _, _, .cons hd rs, .cons r1 r2, .cons p1 p2 p3 => by
    obtain ⟨as, bs, a1, b1, a2, b2⟩ := Dwk.reads hS I rs r2 p3
    obtain ⟨cs, c1, c2⟩ := Dw.reads hS I hd (show RelV _ _ from p2 ▸ r1.2)
    have k1 := key_reads (h := s.heap) p1
    rw [← r1.1] at k1
    exact ⟨[] ++ as, cs ++ bs, .cons k1 a1, .cons c1 b1, a2, fun z => (List.mem_append.mp z).elim c2 b2⟩
end
end
def rReprW (K : Frag) : List V → Hp → VK → Prop := fun xs H Q => ∃ (v : V) (d : PyData), xs = [v] ∧ Dw K H v d ∧ Rp d ∧ Q (.str d.shown) H
theorem call_reprW {X : Cx} (hS : (X.K.lookup sysModules).isSome = true) (hg : X.A.guards = some []) (hu : X.A.units + 64 < cLine) : CallR X (.builtin "repr") (rReprW X.K) := by
  intro pins s σ H xs us Q I r h
  obtain ⟨v, d, rfl, hd, ⟨h1, h2, h3⟩, q⟩ := h
  obtain ⟨u, rfl, ru⟩ := vals1 r
  obtain ⟨as, ra, ns⟩ := Dw.reads hS I hd ru
  have fin : ∀ {h' : Heap} (t : Tok) (tk : Nat), (∀ b o, s.heap.get? b = some o → h'.get? b = some o) → EP X pins σ Q (.str d.shown t) { s with heap := h', toks := tk } := fun {h'} t tk k => ⟨.str _, H, I.kept (t' := tk) k, ⟨_, rfl⟩, q⟩
  match hd, ra with
  | .non, .none => exact PySem.P.repr_of_none ⟨.str _, H, I.tok _, ⟨_, rfl⟩, q⟩
  | .bl b, .bool _ => exact PySem.P.repr_of_bool ⟨.str _, H, I.tok _, ⟨_, rfl⟩, q⟩
  | .int i, .int _ t => exact PySem.P.repr_of_int (of_decide_eq_true h1) ⟨.str _, H, I.tok _, ⟨_, rfl⟩, q⟩
  | .dK _ _, .dict a b c e f => exact PySem.repr_of_reads' (.dict a b c e f) h1 (fun _ => ns) hg (by omega) (fun _ _ z => z) (fun h' t tk k => fin t tk k) h3
  | .str x, .str _ t => exact PySem.P.repr_of_str ⟨.str _, H, I.tok _, ⟨_, rfl⟩, q⟩ (by simpa only [PyData.shown] using h3)
  | .tup _ _, .tuple a b c e => exact PySem.repr_of_reads' (.tuple a b c e) h1 (fun _ => ns) hg (by omega) (fun _ _ z => z) (fun h' t tk k => fin t tk k) h3
  | .lst _ _, .list a b c e => exact PySem.repr_of_reads' (.list a b c e) h1 (fun _ => ns) hg (by omega) (fun _ _ z => z) (fun h' t tk k => fin t tk k) h3
end Fs
set_option Elab.async false
set_option linter.all false
set_option maxRecDepth 100000
set_option maxHeartbeats 4000000
/-! dicts out of comprehensions of pairs; drawn kinds and tasks beside those of a book -/
namespace Fp1
open PySem PySem.Spec PyProof.Rows L2 Fh Fs
open PySem.W (Frag)
/-! ### a list of pairs that grows -/
def MonD (D : Addr) (R : Hp → Str → V → Prop) : Prop := ∀ H H' y v acc, H D = some (.lst acc) → (∀ b o, b ≠ D → H b = some o → H' b = some o) → R H y v → R H' y v
def PrD (K : Frag) (Hk : Hp) (D : Addr) (ks : List Str) (R : Hp → Str → V → Prop) (H : Hp) : Prop := ∃ (ps : List Addr) (m : List (Str × V)), Same Hk H ∧ H D = some (.lst (ps.map V.ref)) ∧ Paired (fun p kv => SqT K H p [kV kv.1, kv.2]) ps (tD m) ∧ m.map (·.1) = ks ∧ ∀ q ∈ m, R H q.1 q.2
theorem paired_map {α β : Type} {F G : α → β → Prop} (h : ∀ a b, F a b → G a b) : ∀ {l1 : List α} {l2 : List β}, Paired F l1 l2 → Paired G l1 l2
  | _, _, .nil => .nil
  | _, _, .cons z r => .cons (h _ _ z) (paired_map h r)
theorem prD_nil {K : Frag} {Hk : Hp} {D : Addr} {R : Hp → Str → V → Prop} (nD : Hk D = none) : PrD K Hk D [] R (L2.upd Hk D (.lst [])) := ⟨[], [], Same.new nD, upd_same, .nil, rfl, fun _ z => nomatch z⟩
theorem pair_step {K : Frag} {Hk Ha Hc : Hp} {D : Addr} {ks : List Str} {R : Hp → Str → V → Prop} {y : Str} {v : V} (mon : MonD D R) (nD : Hk D = none) (h : PrD K Hk D ks R Ha) (l : ks.length ≤ 1000) (s : Same Ha Hc) (r : R Hc y v) {t : Addr} (nt : Hc t = none) :
    ∃ acc, (L2.upd Hc t (.tup [.str y, v])) D = some (.lst acc) ∧ acc.length < sizeLine ∧ PrD K Hk D (ks ++ [y]) R (L2.upd (L2.upd Hc t (.tup [.str y, v])) D (.lst (acc ++ [.ref t]))) := by
  obtain ⟨ps, m, sa, hD, pr, mk, tk⟩ := h
  have hD1 := s _ _ hD
  have s2 : Same Hc (L2.upd Hc t (.tup [.str y, v])) := Same.new nt
  have hD2 := s2 _ _ hD1
  have ht : (L2.upd Hc t (.tup [.str y, v])) t = some (.tup [.str y, v]) := upd_same
  generalize L2.upd Hc t (.tup [.str y, v]) = He at s2 hD2 ht ⊢
  have kT : KeepT He (L2.upd He D (.lst (ps.map V.ref ++ [.ref t]))) := KeepT.lst hD2
  have off : ∀ b o, b ≠ D → He b = some o → (L2.upd He D (.lst (ps.map V.ref ++ [.ref t]))) b = some o := fun b o n z => by rw [upd_ne n]; exact z
  have sc := s.trans s2
  have pl := pr.length
  rw [tD_len] at pl
  have lm := congrArg List.length mk
  rw [List.length_map] at lm
  refine ⟨ps.map V.ref, hD2, by rw [List.length_map, sizeLine_eq]; omega, ps ++ [t], m ++ [(y, v)], same_off (sa.trans sc) nD, ?_, ?_, ?_, fun q hq => ?_⟩
  · rw [upd_same, List.map_append]
    rfl
  · rw [tD_snoc]
    exact (paired_map (fun a b z => kT.sqT ((KeepT.of sc).sqT z)) pr).snoc (kT.sqT (SqT.of ht))
  · rw [List.map_append, mk]
    rfl
  · rcases List.mem_append.mp hq with z | z
    · exact mon _ _ _ _ _ hD (fun b o n z => off b o n (sc b o z)) (tk q z)
    · rw [List.mem_singleton.mp z]
      exact mon _ _ _ _ _ hD1 (fun b o n z => off b o n (s2 b o z)) r
theorem merge_nd : ∀ {m m0 : List (Str × V)}, ((m0 ++ m).map (·.1)).Nodup → mergeK (tD m0) (tD m) = tD (m0 ++ m)
  | [], m0, _ => by rw [List.append_nil]; rfl
  | (k, v) :: m, m0, nd => by
    have e : m0 ++ (k, v) :: m = (m0 ++ [(k, v)]) ++ m := by rw [List.append_assoc]; rfl
    have no : k ∉ m0.map (·.1) := fun z => by
      rw [List.map_append, List.nodup_append] at nd
      exact nd.2.2 k z k (by rw [List.map_cons]; exact List.mem_cons_self) rfl
    rw [e] at nd ⊢
    rw [← merge_nd nd, ← tD_new no]
    rfl
theorem pair_end {K : Frag} {Hk Hz : Hp} {D : Addr} {ks : List Str} {R : Hp → Str → V → Prop} (h : PrD K Hk D ks R Hz) (nd : ks.Nodup) : ∃ (ps : List Addr) (m : List (Str × V)), Same Hk Hz ∧ Hz D = some (.lst (ps.map V.ref)) ∧ Paired (fun p kv => SqT K Hz p [kV kv.1, kv.2]) ps (tD m) ∧ mergeK [] (tD m) = tD m ∧ m.map (·.1) = ks ∧ ∀ q ∈ m, R Hz q.1 q.2 := by
  obtain ⟨ps, m, sa, hD, pr, mk, tk⟩ := h
  exact ⟨ps, m, sa, hD, pr, merge_nd (m0 := []) (by rw [List.nil_append, mk]; exact nd), mk, tk⟩
/-! ### tasks -/
theorem tsAt_some {CT : Addr} {H : Hp} {ts : List (Str × TSk)} : ∀ {m : List (Str × V)}, (∀ q ∈ m, ∃ a T, q.2 = .ref a ∧ TaskAt CT H a T ∧ (q.1, T) ∈ ts) → ∃ us, TsAt CT H m us ∧ us.map (·.1) = m.map (·.1) ∧ ∀ q ∈ us, q ∈ ts
  | [], _ => ⟨[], .nil, rfl, fun _ z => nomatch z⟩
  | (y, v) :: m, h => by
    obtain ⟨a, T, e, hT, hm⟩ := h _ List.mem_cons_self
    obtain ⟨us, h1, h2, h3⟩ := tsAt_some fun q hq => h q (List.mem_cons_of_mem _ hq)
    have e : v = .ref a := e
    subst e
    refine ⟨(y, T) :: us, .cons hT h1, by rw [List.map_cons, List.map_cons, h2], fun q hq => ?_⟩
    rcases List.mem_cons.mp hq with rfl | hq
    · exact hm
    · exact h3 q hq
theorem keys_perm {us ts : List (Str × TSk)} (h : (us.map (·.1)).Perm (ts.map (·.1))) (nd : (ts.map (·.1)).Nodup) (sub : ∀ q ∈ us, q ∈ ts) : us.Perm ts := by
  have ndu := h.nodup_iff.mpr nd
  refine (List.perm_ext_iff_of_nodup (nodup_map ndu) (nodup_map nd)).mpr fun q => ⟨sub q, fun hq => ?_⟩
  obtain ⟨q', hq', e⟩ := List.mem_map.mp (h.mem_iff.mpr (List.mem_map.mpr ⟨q, hq, rfl⟩))
  rw [← key_one nd (sub _ hq') hq e]
  exact hq'
theorem made_uniq {ts us vs : List (Str × TSk)} (nd : (ts.map (·.1)).Nodup) (h1 : MadeT ts us) (h2 : MadeT ts vs) : us = vs := by
  refine assoc_same (sorted_same (h1.1.trans h2.1.symm) h1.2.1 h2.2.1) (h1.1.nodup_iff.mpr nd) fun q hq => ?_
  obtain ⟨r, hr, e⟩ := List.mem_map.mp (h2.1.mem_iff.mpr (h1.1.mem_iff.mp (List.mem_map.mpr ⟨q, hq, rfl⟩)))
  rw [← key_one nd (h2.2.2 _ hr) (h1.2.2 _ hq) e]
  exact hr
theorem made_of {ts us vs : List (Str × TSk)} (p : us.Perm ts) (h : MadeT us vs) : MadeT ts vs := ⟨h.1.trans (p.map _), h.2.1, fun q hq => p.mem_iff.mp (h.2.2 q hq)⟩
theorem wdF_perm {us ts : List (Str × TSk)} (h : us.Perm ts) (ys : List Str) : wdF us ys = wdF ts ys := by
  have e : ∀ y, mdF us y = mdF ts y := fun y => mxI_perm ((h.filter _).map _)
  unfold wdF
  rw [List.map_congr_left fun y _ => e y]
theorem rem_perm {us ts : List (Str × TSk)} (h : us.Perm ts) {ys : List Str} (r : Rem us ys) : Rem ts ys := ⟨r.nd, r.so, fun y => (r.mem y).trans (permT_mem h)⟩
/-- books whose tasks, plan are drawn ones -/
theorem planB_whole {ts : List (Str × TSk)} {d : PyData} (h : PlanB ts d) : Whole 4 d := ⟨h.rt, h.sh, by decide, by have := h.w; omega, by have := h.few; omega⟩
theorem PlanB.nf {ts : List (Str × TSk)} {d : PyData} (h : PlanB ts d) : PlanB ts (nf 4 d) := ⟨rt_nf h.rt, sh_nf h.sh, by have := w_nf 4 d; have := h.w; omega, by rw [nf_names h.sh]; exact h.few, by rw [nf_names h.sh]; exact h.sub⟩
theorem nf_idem {ts : List (Str × TSk)} {d : PyData} (h : PlanB ts d) : nf 4 (nf 4 d) = nf 4 d := nf_nm (sh_nf h.sh) (nm_nf h.sh)
theorem planB_due {ts : List (Str × TSk)} {ns : List Str} {d : PyData} (h : PlanB ts d) (e : ∀ y, y ∈ ts.map (·.1) → y ∈ ns) : Due 4 d ns .fine :=
  .fine (planB_whole h) h.few (Nat.le_trans (lv_le (sh_nf h.sh)) (by decide)) fun y hy => e y (h.sub y hy)
theorem tasB_right {ts us : List (Str × TSk)} (h : TasB ts) (p : us.Perm ts) : RightT us := ⟨by rw [p.length_eq]; have := h.l4; omega, (p.map _).nodup_iff.mpr h.nd, fun q hq => by
  obtain ⟨a, b, _⟩ := h.w q (p.mem_iff.mp hq)
  exact ⟨a, b⟩⟩
theorem tasB_few {ts us : List (Str × TSk)} (h : TasB ts) (p : us.Perm ts) : (rmL us).length < 64 := by
  rw [permT_len p]
  have := rml_small fun q hq => (h.w q hq).2.2
  have := h.l4
  omega
theorem tasB_mem {ts us : List (Str × TSk)} (h : TasB ts) (p : us.Perm ts) : ∀ ys, Rem us ys → memF us ys = none := fun ys r => by
  obtain ⟨l3, l5⟩ := h.mem ys (rem_perm p r)
  rw [permT_memF p]
  unfold memF
  rw [if_neg (by omega), if_neg (by omega)]
theorem made_pm {ts us : List (Str × TSk)} (nd : (ts.map (·.1)).Nodup) (h : MadeT ts us) : us.Perm ts := keys_perm h.1 nd h.2.2
theorem right_b {ls : List (Str × List Str)} {ts us : List (Str × TSk)} {d : PyData} (kin : KinR ls) (tB : TasB ts) (pB : PlanB ts d) (md : MadeT ts us) : RightB 4 ls us (nf 4 d) :=
  have p := made_pm tB.nd md
  ⟨kin, tasB_right tB p, md.2.1, tasB_few tB p, tasB_mem tB p, planB_due pB.nf fun y hy => (p.map _).mem_iff.mpr hy, nf_idem pB⟩
/-! ### what stays -/
theorem KeepS.b {H H' : Hp} (k : KeepS H H') : KeepB H H' := fun b o nb z => k b o (fun kvs e => by rw [e] at nb; exact bits_dK nb) z
/-- all but lists stays -/
def KeepN (H H' : Hp) : Prop := ∀ b o, (∀ xs, o ≠ .lst xs) → H b = some o → H' b = some o
theorem KeepN.b {H H' : Hp} (k : KeepN H H') : KeepB H H' := fun b o nb z => k b o (fun xs e => by rw [e] at nb; exact bits_lst nb) z
theorem KeepN.t {H H' : Hp} (k : KeepN H H') : KeepT H H' := fun a xs h => h.elim (fun z => .inl (k a _ (fun _ z => nomatch z) z)) fun ⟨o, z⟩ => .inr ⟨o, k a _ (fun _ z => nomatch z) z⟩
theorem BookW.keepN {K : Frag} {CB CT : Addr} {H H' : Hp} {a : Addr} {m1 m2 : List (Str × V)} {ks : List (Str × List Str)} {us : List (Str × TSk)} {d : PyData} (s : KeepN H H') (h : BookW K CB CT H a m1 m2 ks us d) : BookW K CB CT H' a m1 m2 ks us d := by
  obtain ⟨dx, k, t, pv, h1, h2, h3, h4, h5, h6⟩ := h
  exact ⟨dx, k, t, pv, s _ _ (fun _ z => nomatch z) h1, s _ _ (fun _ z => nomatch z) h2, h3.keep (fun t xs z => s _ _ (fun _ z => nomatch z) z), s _ _ (fun _ z => nomatch z) h4, h5.keep s.b, h6.keep s.t⟩
/-- another dict is changed -/
theorem BookW.off {K : Frag} {CB CT : Addr} {H : Hp} {a g : Addr} {m1 m2 : List (Str × V)} {ks : List (Str × List Str)} {us : List (Str × TSk)} {d : PyData} {kvs : List (Key × V)} {o : HO} (h : BookW K CB CT H a m1 m2 ks us d) (hg : H g = some (.dK kvs)) (no : ∀ dx k t pv, H a = some (.ins CB dx (fldB (.ref k) (.ref t) pv)) → k ≠ g ∧ t ≠ g) : BookW K CB CT (L2.upd H g o) a m1 m2 ks us d := by
  obtain ⟨dx, k, t, pv, h1, h2, h3, h4, h5, h6⟩ := h
  obtain ⟨n1, n2⟩ := no _ _ _ _ h1
  have kS := KeepS.dict (v := o) hg
  exact ⟨dx, k, t, pv, kS _ _ (fun _ z => nomatch z) h1, by rw [upd_ne n1]; exact h2, h3.keep (fun t xs z => kS _ _ (fun _ z => nomatch z) z), by rw [upd_ne n2]; exact h4, h5.keep kS.b, h6.keep kS.t⟩
/-- all but what was locked stays -/
def KeepF (H H' : Hp) : Prop := ∀ b o, (∀ x u, o ≠ .frz x u) → H b = some o → H' b = some o
theorem KeepF.frz {H : Hp} {d : Addr} {od : Obj} {u v : HO} (h : H d = some (.frz od u)) : KeepF H (L2.upd H d v) := fun b o n z => by
  rw [upd_ne (fun e => by rw [e, h] at z; exact n _ _ (Option.some.inj z).symm)]
  exact z
theorem KeepF.b {H H' : Hp} (k : KeepF H H') : KeepB H H' := fun b o nb z => k b o (fun x u e => by rw [e] at nb; rcases nb with ⟨_, _, _, w⟩ | ⟨_, w⟩ <;> cases w) z
theorem keepT_frzD {H : Hp} {d : Addr} {od : Obj} {kvs : List (Key × V)} {v : HO} (h : H d = some (.frz od (.dK kvs))) : KeepT H (L2.upd H d v) := fun a xs r =>
  r.elim (fun z => .inl (by rw [upd_ne (fun e => by rw [e, h] at z; cases z)]; exact z)) fun ⟨o, z⟩ => .inr ⟨o, by rw [upd_ne (fun e => by rw [e, h] at z; cases z)]; exact z⟩
/-- the dicts of the book at a are others than x -/
def OfB (CB a x : Addr) (H : Hp) : Prop := ∀ dx k t pv, H a = some (.ins CB dx (fldB (.ref k) (.ref t) pv)) → k ≠ x ∧ t ≠ x
theorem OfB.next {K : Frag} {CB CT : Addr} {H H' : Hp} {a x : Addr} {m1 m2 : List (Str × V)} {ks : List (Str × List Str)} {us : List (Str × TSk)} {d : PyData} (h : OfB CB a x H) (bw : BookW K CB CT H a m1 m2 ks us d) (s : ∀ C dx fs, H a = some (.ins C dx fs) → H' a = some (.ins C dx fs)) : OfB CB a x H' := fun dx k t pv e => by
  obtain ⟨dx2, k2, t2, pv2, ha, _⟩ := bw
  have z := s _ _ _ ha
  rw [e] at z
  exact h dx k t pv (by rw [ha, ← Option.some.inj z])
theorem OfB.same {K : Frag} {CB CT : Addr} {H H' : Hp} {a x : Addr} {m1 m2 : List (Str × V)} {ks : List (Str × List Str)} {us : List (Str × TSk)} {d : PyData} (h : OfB CB a x H) (bw : BookW K CB CT H a m1 m2 ks us d) (s : Same H H') : OfB CB a x H' := h.next bw fun _ _ _ z => s _ _ z
/-- another dict is changed -/
theorem OfB.off {K : Frag} {CB CT : Addr} {H : Hp} {a x g : Addr} {m1 m2 : List (Str × V)} {ks : List (Str × List Str)} {us : List (Str × TSk)} {d : PyData} {kvs : List (Key × V)} {o : HO} (h : OfB CB a x H) (bw : BookW K CB CT H a m1 m2 ks us d) (hg : H g = some (.dK kvs)) : OfB CB a x (L2.upd H g o) := h.next bw fun _ _ _ z => by
  rw [upd_ne (fun e => by rw [e, hg] at z; cases z)]
  exact z
theorem OfB.pen {K : Frag} {CB CT : Addr} {H H' : Hp} {a x p c : Addr} {n : Nat} {m1 m2 : List (Str × V)} {ks : List (Str × List Str)} {us : List (Str × TSk)} {d : PyData} (h : OfB CB a x H) (bw : BookW K CB CT H a m1 m2 ks us d) (P : PenAt H p c n) (b : But p H H') : OfB CB a x H' := h.next bw fun _ _ _ z => b _ _ (fun e => by
  obtain ⟨_, cs, s, r', hp, _⟩ := P
  rw [e, hp] at z
  cases z) z
/-- a new dict is none of them -/
theorem OfB.new {K : Frag} {CB CT : Addr} {H H' : Hp} {a x : Addr} {m1 m2 : List (Str × V)} {ks : List (Str × List Str)} {us : List (Str × TSk)} {d : PyData} (bw : BookW K CB CT H a m1 m2 ks us d) (s : Same H H') (n : H x = none) : OfB CB a x H' := OfB.next (H := H) (fun dx k t pv e => by
  obtain ⟨dx3, k3, t3, pv3, ha3, hk3, _, ht3, _⟩ := bw
  rw [e] at ha3
  have e1 : HO.ins CB dx (fldB (.ref k) (.ref t) pv) = .ins CB dx3 (fldB (.ref k3) (.ref t3) pv3) := Option.some.inj ha3
  injection e1 with _ _ e1
  unfold fldB at e1
  injection e1 with a1 e1
  injection e1 with a2 _
  injection a1 with _ a1
  injection a1 with a1
  injection a2 with _ a2
  injection a2 with a2
  subst a1 a2
  exact ⟨(fun e => by rw [e, n] at hk3; cases hk3), fun e => by rw [e, n] at ht3; cases ht3⟩) bw fun _ _ _ z => s _ _ z
theorem KsAt.len {H : Hp} {m : List (Str × V)} {ks : List (Str × List Str)} (h : KsAt H m ks) : m.length = ks.length := by
  have := congrArg List.length h.keys
  rw [List.length_map, List.length_map] at this
  exact this
theorem not_pen {H : Hp} {p c x : Addr} {n : Nat} {m : List (Str × V)} (P : PenAt H p c n) (h : H x = some (.dK (tD m))) (r : ∀ (i : Nat) (q : Str × V), m[i]? = some q → ∃ a : Addr, q.2 = V.ref a) : x ≠ p := fun e => by
  obtain ⟨pc, cs, s, r', hp, _⟩ := P
  rw [e, hp] at h
  have h := Option.some.inj h
  injection h with h
  rcases m with _ | ⟨q0, _ | ⟨q, m⟩⟩
  · cases h
  · have h := congrArg List.length h
    cases h
  · obtain ⟨a, ea⟩ := r 1 q rfl
    injection h with _ h
    injection h with h _
    have h := congrArg Prod.snd h
    have h : V.int s = q.2 := h
    rw [ea] at h
    cases h
theorem BookW.but {K : Frag} {CB CT : Addr} {H H' : Hp} {a p c : Addr} {n : Nat} {m1 m2 : List (Str × V)} {ks : List (Str × List Str)} {us : List (Str × TSk)} {d : PyData} (P : PenAt H p c n) (b : But p H H') (h : BookW K CB CT H a m1 m2 ks us d) : BookW K CB CT H' a m1 m2 ks us d := by
  obtain ⟨dx, k, t, pv, h1, h2, h3, h4, h5, h6⟩ := h
  have s := KeepS.pen P b
  have n1 : k ≠ p := not_pen P h2 fun i q g => by
    obtain ⟨t, ws, e, _⟩ := h3.at_ g
    exact ⟨t, e⟩
  have n2 : t ≠ p := not_pen P h4 fun i q g => by
    obtain ⟨t, T, e, _⟩ := h5.at_ g
    exact ⟨t, e⟩
  exact ⟨dx, k, t, pv, s _ _ (fun _ z => nomatch z) h1, b _ _ n1 h2, h3.keep (fun t xs z => s _ _ (fun _ z => nomatch z) z), b _ _ n2 h4, h5.keep s.b, h6.keep s.t⟩
theorem pen_two {H H' : Hp} {p c : Addr} {n m : Nat} (h : PenAt H p c n) (h1 : ∀ o, H p = some o → H' p = some o) (h2 : ∀ o, H c = some o → H' c = some o) (le : n ≤ m) : PenAt H' p c m := by
  obtain ⟨pc, cs, s, r, hp, hc, hl, h0, h3⟩ := h
  exact ⟨pc, cs, s, r, h1 _ hp, h2 _ hc, hl, h0, by omega⟩
theorem pen_has {H : Hp} {p c : Addr} {n : Nat} (h : PenAt H p c n) : (∃ kvs, H p = some (.dK kvs)) ∧ ∃ xs, H c = some (.lst xs) := by
  obtain ⟨pc, cs, s, r, hp, hc, hl, h0, h3⟩ := h
  exact ⟨⟨_, hp⟩, _, hc⟩
def RtT (CT : Addr) (ts : List (Str × TSk)) : Hp → Str → V → Prop := fun H y v => ∃ a T, v = .ref a ∧ TaskAt CT H a T ∧ (y, T) ∈ ts
theorem mon_T {CT D : Addr} {ts : List (Str × TSk)} : MonD D (RtT CT ts) := fun H H' y v acc hD off ⟨a, T, e, hT, hm⟩ => ⟨a, T, e, hT.keep (fun b o nb z => off b o (fun q => by rw [q, hD] at z; cases z; exact bits_lst nb) z), hm⟩
theorem dget_some {H : Hp} {d : Addr} {m : List (Str × V)} {y : Str} {v : V} (h : H d = some (.dK (tD m))) (l : m.lookup y = some v) : DGet H d (.str y) (some v) := by
  have z := DGet.k (k := Sum.inr y) h
  rw [tD_val, l] at z
  exact z
theorem dget_frz {H : Hp} {d : Addr} {od : Obj} {m : List (Str × V)} {y : Str} {v : V} (h : H d = some (.frz od (.dK (tD m)))) (l : m.lookup y = some v) : DGet H d (.str y) (some v) := .inl ⟨tD m, .inr y, .inr ⟨od, h⟩, rfl, by rw [tD_val, l]⟩
theorem PsAt.find {H : Hp} {m : List (Str × V)} {ts : List (Str × TSk)} (h : PsAt H m ts) (nd : (ts.map (·.1)).Nodup) {y : Str} (hy : y ∈ ts.map (·.1)) : ∃ t T, m.lookup y = some (.ref t) ∧ PlainAt H t T ∧ (y, T) ∈ ts := by
  rw [← h.keys] at hy nd
  obtain ⟨q, hq, e⟩ := List.mem_map.mp hy
  obtain ⟨i, hi, gi⟩ := List.mem_iff_getElem.mp hq
  have g : m[i]? = some q := by rw [List.getElem?_eq_getElem hi, gi]
  obtain ⟨t, T, e1, p1, c1⟩ := h.at_ g
  have lk := look_at nd g
  have e : q.1 = y := e
  rw [e] at lk c1
  exact ⟨t, T, by rw [lk, e1], p1, List.mem_of_getElem? c1⟩
theorem KsAt.at_ {H : Hp} {m : List (Str × V)} {ks : List (Str × List Str)} (h : KsAt H m ks) : ∀ {i : Nat} {q : Str × V}, m[i]? = some q → ∃ l ws, q.2 = .ref l ∧ H l = some (.lst (ws.map V.str)) ∧ ks[i]? = some (q.1, ws) := by
  induction h with
  | nil => intro i q z; cases z
  | cons e _ ih =>
    intro i q z
    cases i with
    | zero => cases z; exact ⟨_, _, rfl, e, rfl⟩
    | succ i => exact ih (i := i) z
theorem KsAt.find {H : Hp} {m : List (Str × V)} {ks : List (Str × List Str)} (h : KsAt H m ks) (nd : (ks.map (·.1)).Nodup) {y : Str} (hy : y ∈ ks.map (·.1)) : ∃ l ws, m.lookup y = some (.ref l) ∧ H l = some (.lst (ws.map V.str)) ∧ (y, ws) ∈ ks := by
  rw [← h.keys] at hy nd
  obtain ⟨q, hq, e⟩ := List.mem_map.mp hy
  obtain ⟨i, hi, gi⟩ := List.mem_iff_getElem.mp hq
  have g : m[i]? = some q := by rw [List.getElem?_eq_getElem hi, gi]
  obtain ⟨t, T, e1, p1, c1⟩ := h.at_ g
  have lk := look_at nd g
  have e : q.1 = y := e
  rw [e] at lk c1
  exact ⟨t, T, by rw [lk, e1], p1, List.mem_of_getElem? c1⟩
/-- lists of kinds, none at D -/
def RlK (D : Addr) (ks : List (Str × List Str)) : Hp → Str → V → Prop := fun H y v => ∃ l ws, v = .ref l ∧ H l = some (.lst (ws.map V.str)) ∧ l ≠ D ∧ (y, ws) ∈ ks
theorem mon_K {D : Addr} {ks : List (Str × List Str)} : MonD D (RlK D ks) := fun H H' y v acc hD off ⟨l, ws, e, hl, n, hm⟩ => ⟨l, ws, e, off _ _ n hl, n, hm⟩
theorem tD_keysV (m : List (Str × V)) : ((tD m).map fun kv => kV kv.1) = (m.map (·.1)).map V.str := by
  show (m.map _).map _ = _
  rw [List.map_map, List.map_map]
  rfl
/-! ### kinds -/
/-- ls: the kinds ks, ascending, with ascending roles -/
structure AscK (ks ls : List (Str × List Str)) : Prop where
  pm : (ls.map (·.1)).Perm (ks.map (·.1))
  so : sortedS (ls.map (·.1)) = true
  w : ∀ q ∈ ls, sortedS q.2 = true ∧ ∃ ws, (q.1, ws) ∈ ks ∧ q.2.Perm ws
theorem pair_one {β : Type} {ks : List (Str × β)} (nd : (ks.map (·.1)).Nodup) {y : Str} {a b : β} (h1 : (y, a) ∈ ks) (h2 : (y, b) ∈ ks) : a = b := by
  induction ks with
  | nil => cases h1
  | cons q ks ih =>
    rw [List.map_cons, List.nodup_cons] at nd
    rcases List.mem_cons.mp h1 with e1 | h1'
    · rcases List.mem_cons.mp h2 with e2 | h2'
      · rw [← e1] at e2
        exact (congrArg Prod.snd e2).symm
      · exact absurd (List.mem_map.mpr ⟨_, h2', (congrArg Prod.fst e1 : y = q.1)⟩) nd.1
    · rcases List.mem_cons.mp h2 with e2 | h2'
      · exact absurd (List.mem_map.mpr ⟨_, h1', (congrArg Prod.fst e2 : y = q.1)⟩) nd.1
      · exact ih nd.2 h1' h2'
theorem AscK.uniq {ks a b : List (Str × List Str)} (nd : (ks.map (·.1)).Nodup) (h1 : AscK ks a) (h2 : AscK ks b) : a = b := by
  refine assoc_same (sorted_same (h1.pm.trans h2.pm.symm) h1.so h2.so) (h1.pm.nodup_iff.mpr nd) fun q hq => ?_
  obtain ⟨r, hr, e⟩ := List.mem_map.mp (h2.pm.mem_iff.mpr (h1.pm.mem_iff.mp (List.mem_map.mpr ⟨q, hq, rfl⟩)))
  obtain ⟨s1, w1, m1, p1⟩ := h1.w q hq
  obtain ⟨s2, w2, m2, p2⟩ := h2.w r hr
  have e : r.1 = q.1 := e
  rw [e] at m2
  obtain rfl := pair_one nd m1 m2
  have eq2 : r.2 = q.2 := sorted_same (p2.trans p1.symm) s2 s1
  have : r = q := Prod.ext e eq2
  rw [← this]
  exact hr
theorem ascK_made {K : Frag} {H : Hp} {m : List (Str × V)} {ks ls : List (Str × List Str)} (e : (m.map (·.1)).Perm (ks.map (·.1))) (h : MadeK K H m (fun x ws => (x, ws) ∈ ks) ls) : AscK ks ls :=
  ⟨h.1.trans e, h.2.1, fun q hq => by
    obtain ⟨_, _, s, _, v, ws, _, _, mem, p⟩ := h.2.2 q hq
    exact ⟨s, ws, mem, p⟩⟩
theorem kt_some {H : Hp} {P : Str → List Str → Prop} : ∀ {m : List (Str × V)}, (∀ q ∈ m, ∃ t ws, q.2 = .ref t ∧ H t = some (.tup (ws.map V.str)) ∧ P q.1 ws) → ∃ ls, KT H m ls ∧ ls.map (·.1) = m.map (·.1) ∧ ∀ q ∈ ls, P q.1 q.2
  | [], _ => ⟨[], .nil, rfl, fun _ z => nomatch z⟩
  | (y, v) :: m, h => by
    obtain ⟨a, ws, e, hT, hm⟩ := h _ List.mem_cons_self
    obtain ⟨us, h1, h2, h3⟩ := kt_some fun q hq => h q (List.mem_cons_of_mem _ hq)
    have e : v = .ref a := e
    subst e
    refine ⟨(y, ws) :: us, .cons hT h1, by rw [List.map_cons, List.map_cons, h2], fun q hq => ?_⟩
    rcases List.mem_cons.mp hq with rfl | hq
    · exact hm
    · exact h3 q hq
/-! ### data that may be shown -/
structure Sl (d : PyData) : Prop where
  s : d.showable = true
  l : d.leavesShort 13 = true
theorem Sl.of {d : PyData} (h : Fine d) : Sl d := ⟨h.2.2, PyData.leavesShort_of_canLay0 13 d h.1 h.2.1⟩
theorem Sl.rp {d : PyData} (h : Sl d) (h3 : d.depth ≤ 60) (h4 : d.weight ≤ 1000000) : Rp d := by
  have e : (2 : Nat) ^ 20 = 1048576 := by decide
  exact ⟨h.s, h3, PyData.shown_fits (B := 13) (by decide) (by decide) h.l (by omega)⟩
theorem sl_list {ds : List PyData} (h : ∀ d ∈ ds, Sl d) : Sl (.list ds) := by
  have a : ∀ ds : List PyData, (∀ d ∈ ds, Sl d) → PyData.showableAll ds = true ∧ PyData.leavesShortAll 13 ds = true := by
    intro ds
    induction ds with
    | nil => intro _; exact ⟨rfl, rfl⟩
    | cons d ds ih =>
      intro h
      obtain ⟨x, y⟩ := ih fun e he => h e (List.mem_cons_of_mem _ he)
      have z := h d List.mem_cons_self
      exact ⟨by show (d.showable && _) = true; rw [z.s, x]; rfl, by show (d.leavesShort 13 && _) = true; rw [z.l, y]; rfl⟩
  exact ⟨(a ds h).1, (a ds h).2⟩
def kD (ks : List (Str × List Str)) : PyData := .dict (ks.map fun q => (.str q.1, dL q.2))
theorem fine_dL {l : List Str} (h : ∀ x ∈ l, Word x) : Fine (dL l) := fine_tup (fines_of fun d hd => by
  obtain ⟨x, hx, rfl⟩ := List.mem_map.mp hd
  exact fine_str (word_lay (h x hx)))
theorem sl_kD {ks : List (Str × List Str)} (h : ∀ q ∈ ks, Word q.1 ∧ ∀ x ∈ q.2, Word x) : Sl (kD ks) := by
  have a : ∀ ks : List (Str × List Str), (∀ q ∈ ks, Word q.1 ∧ ∀ x ∈ q.2, Word x) → PyData.showableKv (ks.map fun q => (PyData.str q.1, dL q.2)) = true ∧ PyData.leavesShortKv 13 (ks.map fun q => (PyData.str q.1, dL q.2)) = true := by
    intro ks
    induction ks with
    | nil => intro _; exact ⟨rfl, rfl⟩
    | cons q ks ih =>
      intro h
      obtain ⟨x, y⟩ := ih fun e he => h e (List.mem_cons_of_mem _ he)
      obtain ⟨w1, w2⟩ := h q List.mem_cons_self
      have z1 := Sl.of (fine_str (word_lay w1))
      have z2 := Sl.of (fine_dL w2)
      refine ⟨?_, ?_⟩
      · show (PyData.showable (.str q.1) && PyData.showable (dL q.2) && _) = true
        rw [z1.s, z2.s, x]; rfl
      · show (PyData.leavesShort 13 (.str q.1) && PyData.leavesShort 13 (dL q.2) && _) = true
        rw [z1.l, z2.l, y]; rfl
  exact ⟨(a ks h).1, (a ks h).2⟩
theorem kD_depth (ks : List (Str × List Str)) : (kD ks).depth ≤ 2 := by
  have a : ∀ ks : List (Str × List Str), PyData.depthKv (ks.map fun q => (PyData.str q.1, dL q.2)) ≤ 1 := by
    intro ks
    induction ks with
    | nil => exact Nat.zero_le _
    | cons q ks ih =>
      show max (max (PyData.depth (.str q.1)) (PyData.depth (dL q.2))) _ ≤ 1
      have e1 : PyData.depth (.str q.1) = 0 := rfl
      have e2 : PyData.depth (dL q.2) = 1 := by simp only [dL, PyData.depth, depth_strs]
      rw [e1, e2]
      omega
  show PyData.depthKv _ + 1 ≤ 2
  have := a ks
  omega
theorem dL_weight {l : List Str} (h : ∀ x ∈ l, Word x) : (dL l).weight ≤ 9 * l.length := by
  show PyData.weightAll (l.map PyData.str) ≤ _
  induction l with
  | nil => exact Nat.zero_le _
  | cons x l ih =>
    have e := ih fun y hy => h y (List.mem_cons_of_mem _ hy)
    have w := (word_str (h x List.mem_cons_self)).2
    show PyData.weight (.str x) + 1 + _ ≤ _
    have e2 : PyData.weight (.str x) = x.length := rfl
    rw [List.length_cons, e2]
    omega
theorem kD_weight {ks : List (Str × List Str)} (h : ∀ q ∈ ks, Word q.1 ∧ (∀ x ∈ q.2, Word x) ∧ q.2.length ≤ 4) : (kD ks).weight ≤ 46 * ks.length := by
  show PyData.weightKv (ks.map fun q => (PyData.str q.1, dL q.2)) ≤ _
  induction ks with
  | nil => exact Nat.zero_le _
  | cons q ks ih =>
    have e := ih fun y hy => h y (List.mem_cons_of_mem _ hy)
    obtain ⟨w1, w2, l4⟩ := h q List.mem_cons_self
    have w := (word_str w1).2
    have wd := dL_weight w2
    show PyData.weight (.str q.1) + PyData.weight (dL q.2) + 2 + _ ≤ _
    have e2 : PyData.weight (.str q.1) = q.1.length := rfl
    rw [List.length_cons, e2]
    omega
theorem dws_strs {K : Frag} {H : Hp} : ∀ l : List Str, Dws K H (l.map V.str) (l.map PyData.str)
  | [] => .nil
  | x :: l => .cons (.str x) (dws_strs l)
theorem dw_L {K : Frag} {H : Hp} {t : Addr} {l : List Str} (h : H t = some (.tup (l.map V.str))) : Dw K H (.ref t) (dL l) := .tup (SqT.of h) (dws_strs l)
theorem dw_KT {K : Frag} {H : Hp} {t : Addr} {m : List (Str × V)} {ks : List (Str × List Str)} (h : H t = some (.dK (tD m))) (kt : KT H m ks) : Dw K H (.ref t) (kD ks) := by
  refine .dK h ?_
  clear h
  induction kt with
  | nil => exact .nil
  | cons e _ ih => exact .cons (k := .inr _) (dw_L e) ih
/-- kinds as they are due -/
def RtK (ks : List (Str × List Str)) : Hp → Str → V → Prop := fun H y v => ∃ t zs, v = .ref t ∧ H t = some (.tup (zs.map V.str)) ∧ sortedS zs = true ∧ ∃ ws, (y, ws) ∈ ks ∧ zs.Perm ws
theorem mon_RK {D : Addr} {ks : List (Str × List Str)} : MonD D (RtK ks) := fun H H' y v acc hD off ⟨t, zs, e, ht, r⟩ => ⟨t, zs, e, off _ _ (fun q => by rw [q, hD] at ht; cases ht) ht, r⟩
theorem ascK_due {H : Hp} {ks : List (Str × List Str)} {m : List (Str × V)} {zs : List Str} (e : m.map (·.1) = zs) (pz : zs.Perm (ks.map (·.1))) (so : sortedS zs = true) (r : ∀ q ∈ m, RtK ks H q.1 q.2) : ∃ ls, KT H m ls ∧ AscK ks ls := by
  obtain ⟨ls, h1, h2, h3⟩ := kt_some (P := fun y zs => sortedS zs = true ∧ ∃ ws, (y, ws) ∈ ks ∧ zs.Perm ws) (m := m) (H := H) fun q hq => by
    obtain ⟨t, zs, a, b, c, d⟩ := r q hq
    exact ⟨t, zs, a, b, c, d⟩
  exact ⟨ls, h1, by rw [h2, e]; exact pz, by rw [h2, e]; exact so, h3⟩
theorem mxI_nn : ∀ l : List Int, 0 ≤ mxI l
  | [] => Int.le_refl _
  | x :: l => by
    have := mxI_nn l
    show 0 ≤ max x (mxI l)
    omega
theorem wdF_nn (ts : List (Str × TSk)) : ∀ ys : List Str, 0 ≤ wdF ts ys
  | [] => Int.le_refl _
  | y :: ys => by
    have := wdF_nn ts ys
    have := mxI_nn (mdL ts y)
    show 0 ≤ mxI (mdL ts y) + wdF ts ys
    omega
theorem sl_small {w : Int} (h0 : 0 ≤ w) (h5 : w ≤ 5) : Sl (.int w) ∧ PyData.weight (.int w) ≤ 10 := by
  have : w = 0 ∨ w = 1 ∨ w = 2 ∨ w = 3 ∨ w = 4 ∨ w = 5 := by omega
  rcases this with rfl | rfl | rfl | rfl | rfl | rfl <;> exact ⟨⟨by decide +kernel, by decide +kernel⟩, by decide +kernel⟩
theorem rem_words {ts : List (Str × TSk)} (tB : TasB ts) {ys : List Str} (r : Rem ts ys) : ∀ y ∈ ys, Word y := fun y hy => by
  obtain ⟨q, hq, z⟩ := List.mem_flatMap.mp ((r.mem y).mp hy)
  obtain ⟨_, ok, _⟩ := tB.w q hq
  rcases List.mem_append.mp z with z | z
  · exact ok.o.1.2.1 y z
  · exact ok.s.1.2.1 y z
def dueD7 (ls : List (Str × List Str)) (ns ys : List Str) (w : Int) (d : PyData) : PyData := .list [kD ls, dL ns, dL ys, .int w, d]
theorem kin_rp {ls : List (Str × List Str)} (kin : KinR ls) : Sl (kD ls) ∧ Rp (kD ls) := by
  have s := sl_kD fun q hq => ⟨(kin.w q hq).1, (kin.w q hq).2.1.2.1⟩
  have := kD_depth ls
  have := kD_weight fun q hq => ⟨(kin.w q hq).1, (kin.w q hq).2.1.2.1, (kin.w q hq).2.2.2⟩
  have := kin.l3
  exact ⟨s, s.rp (by omega) (by omega)⟩
theorem due_rp {ls : List (Str × List Str)} {ts : List (Str × TSk)} {ns ys : List Str} {d : PyData} (kin : KinR ls) (tB : TasB ts) (pB : PlanB ts d) (r : Rem ts ys) (hn : ∀ y ∈ ns, Word y) (ln : ns.length ≤ 8) : Rp (dueD7 ls ns ys (wdF ts ys) (nf 4 d)) := by
  obtain ⟨l3, l5⟩ := tB.mem ys r
  obtain ⟨s4, w4⟩ := sl_small (wdF_nn ts ys) l5
  have hy := rem_words tB r
  have sp := sh_nf pB.sh
  have s1 := (kin_rp kin).1
  have s2 := Sl.of (fine_dL hn)
  have s3 := Sl.of (fine_dL hy)
  have s5 := Sl.of (fine_sh sp)
  have dk := kD_depth ls
  have wk := kD_weight fun q hq => ⟨(kin.w q hq).1, (kin.w q hq).2.1.2.1, (kin.w q hq).2.2.2⟩
  have k3 := kin.l3
  have w2 := dL_weight hn
  have w3 := dL_weight hy
  have wn := w_nf 4 d
  have wd := pB.w
  have dn := sp.lay.2
  refine (sl_list (ds := [kD ls, dL ns, dL ys, .int (wdF ts ys), nf 4 d]) fun e he => ?_).rp ?_ ?_
  · rcases List.mem_cons.mp he with rfl | he
    · exact s1
    rcases List.mem_cons.mp he with rfl | he
    · exact s2
    rcases List.mem_cons.mp he with rfl | he
    · exact s3
    rcases List.mem_cons.mp he with rfl | he
    · exact s4
    · rw [List.mem_singleton.mp he]
      exact s5
  · show PyData.depthAll [kD ls, dL ns, dL ys, .int (wdF ts ys), nf 4 d] + 1 ≤ 60
    have e2 : ∀ l : List Str, PyData.depth (dL l) = 1 := fun l => by simp only [dL, PyData.depth, depth_strs]
    have e4 : PyData.depth (.int (wdF ts ys)) = 0 := rfl
    simp only [PyData.depthAll, e2, e4]
    omega
  · show PyData.weightAll [kD ls, dL ns, dL ys, .int (wdF ts ys), nf 4 d] ≤ _
    simp only [PyData.weightAll]
    omega
/-! ### plain tasks as data -/
def Pts (H : Hp) : List V → List TSk → Prop
  | [], [] => True
  | x :: xs, T :: Ts => (∃ t, x = .ref t ∧ PlainAt H t T) ∧ Pts H xs Ts
  | _, _ => False
theorem Pts.keep {H H' : Hp} (k : KeepU H H') : ∀ {xs : List V} {Ts : List TSk}, Pts H xs Ts → Pts H' xs Ts
  | [], [], _ => trivial
  | _ :: _, _ :: _, ⟨⟨t, e, p⟩, r⟩ => ⟨⟨t, e, p.keep k⟩, Pts.keep k r⟩
theorem Pts.snoc {H : Hp} {t : Addr} {T : TSk} (p : PlainAt H t T) : ∀ {xs : List V} {Ts : List TSk}, Pts H xs Ts → Pts H (xs ++ [.ref t]) (Ts ++ [T])
  | [], [], _ => ⟨⟨t, rfl, p⟩, trivial⟩
  | _ :: _, _ :: _, ⟨h, r⟩ => ⟨h, Pts.snoc p r⟩
theorem Pts.len {H : Hp} : ∀ {xs : List V} {Ts : List TSk}, Pts H xs Ts → xs.length = Ts.length
  | [], [], _ => rfl
  | _ :: _, _ :: _, ⟨_, r⟩ => by rw [List.length_cons, List.length_cons, Pts.len r]
theorem plain_dp {K : Frag} {H : Hp} {t : Addr} {T : TSk} (h : PlainAt H t T) : Dp K H (.ref t) (dT T) := by
  obtain ⟨t1, t2, t3, t4, h0, h1, h2, h3, h4⟩ := h
  exact .tup (SqT.of h0) (.cons (dp_R _) (.cons (.int _) (.cons (dp_L h1) (.cons (dp_L h2) (.cons (dp_L h3) (.cons (dp_L h4) .nil))))))
theorem pts_dp {K : Frag} {H : Hp} : ∀ {xs : List V} {Ts : List TSk}, Pts H xs Ts → DpAll K H xs (Ts.map dT)
  | [], [], _ => .nil
  | _ :: _, _ :: _, ⟨⟨t, e, p⟩, r⟩ => by
    rw [e]
    exact .cons (plain_dp p) (pts_dp r)
theorem shaped_tasks {Ts : List TSk} (h : ∀ T ∈ Ts, OkT T) : SeqAt.shaped (.list (Ts.map dT)) = true := by
  have a : PyData.canLayAll0 (Ts.map dT) = true ∧ PyData.depthAll (Ts.map dT) ≤ 2 := by
    induction Ts with
    | nil => exact ⟨rfl, Nat.zero_le _⟩
    | cons T Ts ih =>
      obtain ⟨x, y⟩ := ih fun e he => h e (List.mem_cons_of_mem _ he)
      have z := SeqAt.canLay_of_shaped (shaped_dT (h T List.mem_cons_self))
      have dr : PyData.depth (dR T.r) = 0 := by cases T.r <;> simp only [dR, PyData.depth]
      have e : PyData.depth (dT T) ≤ 2 := by
        simp only [dT, dL, PyData.depth, PyData.depthAll, depth_strs, dr]
        omega
      refine ⟨?_, ?_⟩
      · show (PyData.canLay0 (dT T) && _) = true
        rw [z, x]; rfl
      · show max (PyData.depth (dT T)) _ ≤ 2
        omega
  unfold SeqAt.shaped
  have c : PyData.canLay0 (.list (Ts.map dT)) = true := a.1
  have dd : PyData.depth (.list (Ts.map dT)) ≤ 64 := by
    show PyData.depthAll _ + 1 ≤ 64
    have := a.2
    omega
  rw [c, decide_eq_true dd]
  rfl
theorem TsAt.find {CT : Addr} {H : Hp} {m : List (Str × V)} {us : List (Str × TSk)} (h : TsAt CT H m us) (nd : (us.map (·.1)).Nodup) {i : Nat} {q : Str × TSk} (g : us[i]? = some q) : ∃ a, m.lookup q.1 = some (.ref a) ∧ TaskAt CT H a q.2 := by
  have hi : i < m.length := by
    rw [h.len]
    by_cases c : i < us.length
    · exact c
    · rw [List.getElem?_eq_none (by omega)] at g; cases g
  have gm : m[i]? = some m[i] := List.getElem?_eq_getElem hi
  obtain ⟨a, T, e1, h1, c1⟩ := h.at_ gm
  rw [g] at c1
  have c1 := Option.some.inj c1
  have lk := look_at (by rw [h.keys]; exact nd) gm
  rw [c1]
  exact ⟨a, by rw [lk, e1], h1⟩
/-! ### values of any kind -/
def inD (ns : List Str) : PyData → Bool
  | .str y => decide (y ∈ ns)
  | _ => false
theorem askN_of {K : Frag} {N : Addr → Prop} {H : Hp} {v : V} {d : PyData} (ns : List Str) (h : DA N H v d) : AskN K H v ns (inD ns d) := by
  cases h with
  | str x => exact .inl ⟨x, rfl, rfl⟩
  | non => exact .inr ⟨_, .base .non, rfl, rfl⟩
  | bl b => exact .inr ⟨_, .base (.bl b), rfl, rfl⟩
  | int i => exact .inr ⟨_, .base (.int i), rfl, rfl⟩
  | lst h1 h2 h3 h4 => exact .inr ⟨_, ty_l (SqL.of h1), rfl, rfl⟩
  | tup h1 h3 h4 => exact .inr ⟨_, ty_t (SqT.of h1), rfl, rfl⟩
  | dK h1 h3 _ => exact .inr ⟨_, .base (.dK h1), rfl, rfl⟩
theorem inD_perm {a b : List Str} (h : a.Perm b) (d : PyData) : inD a d = inD b d := by
  cases d <;> try rfl
  exact decide_eq_decide.mpr h.mem_iff
theorem bool_rp (b : Bool) : Rp (.bool b) := by
  cases b <;> exact ⟨rfl, by decide +kernel, by rw [sizeLine_eq]; decide +kernel⟩
end Fp1
set_option Elab.async false
set_option linter.all false
set_option maxRecDepth 100000
set_option maxHeartbeats 4000000
/-! _law_item: the task with a name, or the value of the error -/
namespace Fp1
open PySem PySem.Spec PyProof.Rows L2 Fh Fs
open PySem.W (Frag)
abbrev sItem : Stmt := top 95
section
variable {P : Program} {w : World} {K : Frag} {mg : Str → Option Value} {base : Heap} {aF aM aD CE aE CT aW aR aH aA aI gE g1 g2 g3 g4 g5 g6 p1 p2 p3 p4 p5 p6 : Addr} {fW fR fH fA fI fE f1 f2 f3 f4 f5 f6 : FuncData}
  {CB cK cJ cO cP cT cS cM cN cV cQ : Addr} {dK dJ dO dP dT' dS dM dN dV dQ : FuncData} {CP fP CM fM CU fU aS bG : Addr} {fS dG : FuncData}
def spItem (K : Frag) (CB CT : Addr) : Sp := fun vs H Q _ => ∃ a v m1 m2 ks us d, vs = [.ref a, v] ∧ BookW K CB CT H a m1 m2 ks us d ∧
  ((∃ y u T, v = .str y ∧ m2.lookup y = some (.ref u) ∧ TaskAt CT H u T ∧ ∀ t H', Same H H' → PlainAt H' t T → Q (.ref t) H') ∨
   AskN K H v (us.map (·.1)) false ∧ ∃ e, Dw K H v e ∧ Rp e ∧ ∀ t H', Same H H' → H' t = some (.tup [.str "unknown", .str e.shown, .bl true]) → Q (.ref t) H')
theorem scItem : FnScope ["_law_book_here", "_law_value", "e"] ["_law_book_here", "_law_value"] (defScope sItem) := ⟨rfl, rfl, rfl, by decide +kernel, rfl, by decide +kernel, by decide +kernel⟩
theorem ok_item {f : Addr} {fd : FuncData} (F : Fun K "_law_item" "_law_item" sItem f fd) (FS : Fun K "_law_shown" "_law_shown" sShown aS fS) (gS : mg "_law_shown" = some (.ref aS)) (mG : Meth K CB "__getitem__" bG) (fG : PySem.W.fnIn K bG = true) (FG : Fun K "__getitem__" "Book.__getitem__" sBgi bG dG)
    (G : Pkg K mg w aF aM aD CE aE CT aW aR aH aA aI fW fR fH fA fI) (M : Mets K CT gE g1 g2 g3 g4 g5 g6 p1 p2 p3 p4 p5 p6 fE f1 f2 f3 f4 f5 f6) (B : BkG K mg CB cK cJ cO cP cT cS cM cN cV cQ dK dJ dO dP dT' dS dM dN dV dQ) (E3 : Err3 K mg CP fP CM fM CU fU)
    (gr : mg "repr" = none) (gl : mg "LookupError" = none) (hS : (K.lookup sysModules).isSome = true) : FnG P w K mg base CX0 5 f fd ["_law_book_here", "_law_value"] (spItem K CB CT) := by
  have GS : FnOk P w K mg base CX0 3 aS fS ["_law_one"] (spShown CT) := ok_shown FS G M
  have bS : Binds K fS ["_law_one"] [] := FS.binds (ps := ["_law_one"]) fun _ _ _ _ _ _ us hl => match us, hl with | [_], _ => rfl
  have GG : FnOk P w K mg base (L2.CX P w) 2 bG dG ["self", "name"] (spBgi K CB CT CU) := ok_bgi FG G B E3
  have bG' : Binds K dG ["self", "name"] [] := FG.binds (ps := ["self", "name"]) fun _ _ _ _ _ _ us hl => match us, hl with | [_, _], _ => rfl
  refine FunG_ok F scItem (fun vs H Q E h => ?_) (fun cdv A outer s H vs Q E hG hr h => ?_)
  · obtain ⟨a, v, m1, m2, ks, us, d, rfl, _⟩ := h
    rfl
  · obtain ⟨a, v, m1, m2, ks, us, d, rfl, bw, k⟩ := h
    have gd : (A.deeper (envOfC "_law_item" (defScope sItem) s.heap.objs.size f cdv)).guards = some [] := (guards_deeper _ _).trans hG
    have hu := hr.units
    refine ⟨_, PSs.nox (pss_one (ps_try_as (i := 2) (Wout := fun _ _ _ _ => False) rfl rfl scItem.nd rfl rfl ⟨rfl, by decide, Or.inl E3.U.gC⟩ takes0
      (fun W pn xe tk _ => pss_one (ps_ret (pe_call (E := E0) GS (hr.mono (by decide)) rfl gS FS.kp bS .nil pass0 (pa_cons (pe_ixOS (E := fun σ cls d H' => σ.length = 3 → W cls d σ H') mG.at_ fG mG.fn (GG.raw bG' .nil) (hr.mono (by decide)) (fun σ pins H s e s' I c => tk e s' (XE.of_call I (fun cls d H' h => h I.len) c)) (pv 0) (pv 1)) pa_nil))))
      (fun a oe cls d pn hz hf => pss_one (ps_ret (pe_tup (pa_cons pe_str (pa_cons (pe_callB (r := rReprW K) (call_reprW hS ?gd ?hu) (by rfl) gr (by decide +kernel) (pa_cons (pe_errUField E3.U hz hf (pv 2)) pa_nil)) (pa_cons (pe_callB (r := rIsED K CU a cls d) (call_isEU E3.U E3.cU hz hf) (by rfl) G.TR.isinstance (by decide +kernel) (pa_cons (pv 2) (pa_cons (pe_bltn (v := .ty "LookupError") (by rfl) gl boot_lerr rfl (by decide) (by decide)) pa_nil))) pa_nil)))))))), ?_⟩
    case gd => exact gd
    case hu => exact hu
    obtain ⟨dx, k1, t1, pl, ha, hk, kt, ht, ta, hp⟩ := id bw
    rcases k with ⟨y, u, T, rfl, hl, hT, go⟩ | ⟨ask, e, de, re, go⟩
    · exact ⟨_, rfl, _, rfl, a, dx, _, rfl, ha, a, .str y, m1, m2, ks, us, d, rfl, bw, .inl ⟨y, _, rfl, hl, u, T, rfl, hT, go⟩⟩
    · refine ⟨_, rfl, _, rfl, a, dx, _, rfl, ha, a, v, m1, m2, ks, us, d, rfl, bw, .inr ⟨ask, fun dd H' s' hd l => ⟨true, E3.U.te, fun _ a0 _ => ?_, fun q => nomatch q⟩⟩⟩
      refine ⟨_, rfl, rfl, rfl, dd, v, rfl, hd, v, e, rfl, de.same s', re, ?_⟩
      refine ⟨_, rfl, dd, _, _, _, true, rfl, rfl, rfl, hd, .ty _, E3.lU, (show 3 ≤ sizeLine by decide), fun t nt => ?_⟩
      exact go t _ (s'.trans (Same.new nt)) upd_same
end
end Fp1
set_option Elab.async false
set_option linter.all false
set_option maxRecDepth 100000
set_option maxHeartbeats 4000000
namespace Fp1
open PySem PySem.Spec PyProof.Rows L2 Fh Fs
open PySem.W (Frag)
abbrev sAny : Stmt := top 85
def odd0 : List PyData := [.none, .bool true, .bool false, .int 0, .int 1, .int 2, .int 3, .int 4, .int (-1), .int (10 ^ (Int.toNat 60)), .str "", .str "a", .str "A", .str "ab", .str "abcdefghi", .str "a b", .tuple [], .tuple [.str "a"]]
def odd1 : List PyData := [.list [], .list [.str "a"], .list [.int 1], .dict [], .dict [(.str "a", .int 1)], .tuple [.int 1, .int 2], .tuple [.str "then"], .tuple [.none], .tuple [.str "a", .int 1], .list [.list [.str "a"]], .tuple [.tuple [.str "a"]]]
def odd2 : List PyData := [.str "then", .dict [(.str "p", .list [])], .list [.str "a", .str "a"], .tuple [.str "either"]]
def odds : List PyData := ((odd0 ++ odd1) ++ odd2)
theorem odds_ok : ∀ d ∈ odds, okD d = true := by
  have h : odds.all okD = true := by decide +kernel
  exact fun d hd => List.all_eq_true.mp h d hd
theorem scAny : FnScope ["_law_pen_here", "_law_some"] ["_law_pen_here"] (defScope sAny) := ⟨rfl, rfl, rfl, by decide +kernel, rfl, by decide +kernel, by decide +kernel⟩
theorem ok_any {P : Program} {w : World} {K : Frag} {mg : Str → Option Value} {base : Heap} {f fP fD : Addr} {fd fdP fdD : FuncData} (F : Fun K "_law_any_value" "_law_any_value" sAny f fd) (FP : Fun K "_law_pick" "_law_pick" sPick fP fdP) (FD : Fun K "_law_draw" "_law_draw" sDraw fD fdD) (T : TxtP mg)
    (gP : mg "_law_pick" = some (.ref fP)) (gD : mg "_law_draw" = some (.ref fD)) : FnOk P w K mg base CX0 3 f fd ["_law_pen_here"] (spAnyN odds) := by
  have GP : FnOk P w K mg base CX0 2 fP fdP ["_law_pen_here", "_law_items"] (spPick K) := ok_pick FP FD T gD
  have bP : Binds K fdP ["_law_pen_here", "_law_items"] [] := FP.binds (ps := ["_law_pen_here", "_law_items"]) fun _ _ _ _ _ _ us hl => match us, hl with | [_, _], _ => rfl
  refine F.ok scAny (fun vs H Q E h => ?_) (fun cdv A outer s H vs Q E hr h => ?_)
  · obtain ⟨N, p, c, n, rfl, _⟩ := h
    rfl
  · obtain ⟨N, p, c, n, rfl, hN, kept, hP, hn, k⟩ := h
    refine ⟨_, pss_cons (PS.imp (ps_set (i := 1) scAny.nd rfl (Or.inl rfl) (pe_lst (pds_cons pd_non (pds_cons pd_bl (pds_cons pd_bl (pds_cons pd_int (pds_cons pd_int (pds_cons pd_int (pds_cons pd_int (pds_cons pd_int (pds_cons pd_neg (pds_cons (pd_pow ⟨by decide, by decide, by decide⟩) (pds_cons pd_str (pds_cons pd_str (pds_cons pd_str (pds_cons pd_str (pds_cons pd_str (pds_cons pd_str (pds_cons (pd_tup pds_nil) (pds_cons (pd_tup (pds_cons pd_str pds_nil)) pds_nil)))))))))))))))))))) (start_D (N := N) (ds := odd0)))
      (pss_cons (PS.imp (ps_set (i := 1) scAny.nd rfl (Or.inl rfl) (pe_op op_cat (pv 1) (pe_lst (pds_cons (pd_lst pds_nil) (pds_cons (pd_lst (pds_cons pd_str pds_nil)) (pds_cons (pd_lst (pds_cons pd_int pds_nil)) (pds_cons pd_dict0 (pds_cons pd_dictI (pds_cons (pd_tup (pds_cons pd_int (pds_cons pd_int pds_nil))) (pds_cons (pd_tup (pds_cons pd_str pds_nil)) (pds_cons (pd_tup (pds_cons pd_non pds_nil)) (pds_cons (pd_tup (pds_cons pd_str (pds_cons pd_int pds_nil))) (pds_cons (pd_lst (pds_cons (pd_lst (pds_cons pd_str pds_nil)) pds_nil)) (pds_cons (pd_tup (pds_cons (pd_tup (pds_cons pd_str pds_nil)) pds_nil)) pds_nil)))))))))))))) (grow_D (N := N) (ds := odd1)))
      (pss_cons (PS.imp (ps_set (i := 1) scAny.nd rfl (Or.inl rfl) (pe_op op_cat (pv 1) (pe_lst (pds_cons pd_str (pds_cons pd_dictL (pds_cons (pd_lst (pds_cons pd_str (pds_cons pd_str pds_nil))) (pds_cons (pd_tup (pds_cons pd_str pds_nil)) pds_nil))))))) (grow_D (N := N) (ds := odd2)))
      (pss_one (ps_ret (pe_call GP hr rfl gP FP.kp bP .nil pass0 (pa_cons (pv 0) (pa_cons (pv 1) pa_nil))))))), ?_⟩
    refine ⟨p, none, rfl, kept, by decide, fun l0 y0 H0 s0 g0 d0 => ?_⟩
    refine ⟨p, l0, y0, _, rfl, kept.same s0, g0, d0, by decide, fun l1 y1 H1 z1 g1 d1 => ?_⟩
    have s1 := s0.trans z1
    refine ⟨p, l1, y1, _, rfl, kept.same s1, g1, d1, by decide, fun l2 y2 H2 z2 g2 d2 => ?_⟩
    have s2 := s1.trans z2
    have len : y2.length = odds.length := d2.length
    refine ⟨_, rfl, _, rfl, p, c, n, l2, y2, rfl, hP.same s2 (Nat.le_refl _), hn, g2, by rw [len]; decide, by rw [len]; decide, fun i x H' gx P' B' => ?_⟩
    obtain ⟨d, e1, e2⟩ := d2.get gx
    exact k d x H' (List.mem_of_getElem? e1) (DA.but (N := N) B' hN e2) P' ((But.of s2).trans B')
end Fp1
set_option Elab.async false
set_option linter.all false
set_option maxRecDepth 100000
set_option maxHeartbeats 4000000
/-! k07: the law -/
namespace Fp1
open PySem PySem.Spec PyProof.Rows L2 Fh Fs
open PySem.W (Frag)
abbrev sLaw : Stmt := top 96
abbrev NL : List Str := ["_law_script", "_law_pen_here", "_law_lap", "_law_kinds", "_law_tasks", "_law_plan_here", "_law_given", "_law_word", "_law_duties", "_law_book_here", "_law_due", "_law_told", "_law_odd", "_law_is_in", "_law_title"]
structure TxtQ (mg : Str → Option Value) : Prop where
  range : mg "range" = none
  min : mg "min" = none
  repr : mg "repr" = none
  lerr : mg "LookupError" = none
structure Defs (K : Frag) (mg : Str → Option Value) (oN oD oK oS oW oA oT oM oH oR oV oP oX oC oB oI : Addr) (eN eD eK eS eW eA eT eM eH eR eV eP eX eC eB eI : FuncData) : Prop where
  dN : Fun K "_law_pen" "_law_pen" sPen oN eN
  dD : Fun K "_law_draw" "_law_draw" sDraw oD eD
  dK : Fun K "_law_pick" "_law_pick" sPick oK eK
  dS : Fun K "_law_shuffled" "_law_shuffled" sShuf oS eS
  dW : Fun K "_law_words" "_law_words" sWds oW eW
  dA : Fun K "_law_any_value" "_law_any_value" sAny oA eA
  dT : Fun K "_law_task" "_law_task" sTask oT eT
  dM : Fun K "_law_made_task" "_law_made_task" sMade oM eM
  dH : Fun K "_law_shown" "_law_shown" sShown oH eH
  dR : Fun K "_law_remembered" "_law_remembered" sLr oR eR
  dV : Fun K "_law_width" "_law_width" sLwd oV eV
  dP : Fun K "_law_plan" "_law_plan" sLpl oP eP
  dX : Fun K "_law_normal" "_law_normal" sNrm oX eX
  dC : Fun K "_law_count" "_law_count" sCnt oC eC
  dB : Fun K "_law_book" "_law_book" sBok oB eB
  dI : Fun K "_law_item" "_law_item" sItem oI eI
  gN : mg "_law_pen" = some (.ref oN)
  gD : mg "_law_draw" = some (.ref oD)
  gK : mg "_law_pick" = some (.ref oK)
  gS : mg "_law_shuffled" = some (.ref oS)
  gW : mg "_law_words" = some (.ref oW)
  gA : mg "_law_any_value" = some (.ref oA)
  gT : mg "_law_task" = some (.ref oT)
  gM : mg "_law_made_task" = some (.ref oM)
  gH : mg "_law_shown" = some (.ref oH)
  gR : mg "_law_remembered" = some (.ref oR)
  gV : mg "_law_width" = some (.ref oV)
  gP : mg "_law_plan" = some (.ref oP)
  gX : mg "_law_normal" = some (.ref oX)
  gC : mg "_law_count" = some (.ref oC)
  gB : mg "_law_book" = some (.ref oB)
  gI : mg "_law_item" = some (.ref oI)
theorem neS {x : Str} : V.bl (!decide (V.str x = V.str x)) = V.bl false := by rw [decide_eq_true rfl]; rfl
def rListW (K : Frag) : List V → Hp → VK → Prop := fun xs H Q => ∃ p ys, xs = [.ref p] ∧ (SqL K H p ys ∨ SqT K H p ys) ∧ ∀ l, H l = none → Q (.ref l) (upd H l (.lst ys))
/-- what a lap has drawn -/
structure St7 (K : Frag) (p c : Addr) (kd : Addr) (mk : List (Str × V)) (ks : List (Str × List Str)) (td : Addr) (mt : List (Str × V)) (ts : List (Str × TSk)) (v : V) (d : PyData) (n : Nat) (H : Hp) : Prop where
  pen : PenAt H p c n
  hk : H kd = some (.dK (tD mk))
  kA : KsAt H mk ks
  ht : H td = some (.dK (tD mt))
  tA : PsAt H mt ts
  pl : Pl K H v d
  kp : kd ≠ p
  tp : td ≠ p
theorem St7.but {K : Frag} {p c kd : Addr} {mk : List (Str × V)} {ks : List (Str × List Str)} {td : Addr} {mt : List (Str × V)} {ts : List (Str × TSk)} {v : V} {d : PyData} {n m : Nat} {H H' : Hp} (h : St7 K p c kd mk ks td mt ts v d n H) (b : But p H H') (P : PenAt H' p c m) : St7 K p c kd mk ks td mt ts v d m H' := by
  have kS := KeepS.pen h.pen b
  exact ⟨P, b _ _ h.kp h.hk, h.kA.keep kS, b _ _ h.tp h.ht, h.tA.keep kS.u, h.pl.keep kS.t, h.kp, h.tp⟩
theorem St7.same {K : Frag} {p c kd : Addr} {mk : List (Str × V)} {ks : List (Str × List Str)} {td : Addr} {mt : List (Str × V)} {ts : List (Str × TSk)} {v : V} {d : PyData} {n : Nat} {H H' : Hp} (h : St7 K p c kd mk ks td mt ts v d n H) (s : Same H H') : St7 K p c kd mk ks td mt ts v d n H' := h.but (But.of s) (h.pen.same s (Nat.le_refl _))
section
variable {P : Program} {w : World} {K : Frag} {mg : Str → Option Value} {base : Heap} {aF aM aD CE aE CT aW aR aH aA aI gE g1 g2 g3 g4 g5 g6 p1 p2 p3 p4 p5 p6 : Addr} {fW fR fH fA fI fE f1 f2 f3 f4 f5 f6 : FuncData} {CP fP aC aa aw ai ah aN aT aS aV aL : Addr} {fC fa fw fi fh fN fT fS fV fL : FuncData}
  {CB cK cJ cO cP cT cS cM cN cV cQ bI bY bL bC bG bE kP nP rP wP pP kA nA rA wA pA : Addr} {dK dJ dO dP dT' dS dM dN dV dQ dI dY dL' dC dG dE dkA dnA drA dwA dpA : FuncData} {CM fM CU fU : Addr}
  {oN oD oK oS oW oA oT oM oH oR oV oP oX oC oB oI : Addr} {eN eD eK eS eW eA eT eM eH eR eV eP eX eC eB eI : FuncData}
def spLaw (K : Frag) : Sp := fun vs H Q _ => ∃ (a : Addr) (ns : List Int), vs = [.ref a] ∧ SqL K H a (ns.map V.int) ∧ ns.length ≤ 63 ∧ ∀ H', Q (.bl true) H'
theorem scLaw : FnScope NL ["_law_script"] (defScope sLaw) := ⟨rfl, rfl, rfl, by decide +kernel, rfl, by decide +kernel, by decide +kernel⟩
/-- the defs of books -/
structure AllG (K : Frag) (mg : Str → Option Value) (w : World) (aF aM aD CE aE CT aW aR aH aA aI gE g1 g2 g3 g4 g5 g6 p1 p2 p3 p4 p5 p6 CP fP aC aa aw ai ah aN aT aS aV aL CB cK cJ cO cP cT cS cM cN cV cQ bI bY bL bC bG bE kP nP rP wP pP kA nA rA wA pA CM fM CU fU : Addr)
    (fW fR fH fA fI fE f1 f2 f3 f4 f5 f6 fC fa fw fi fh fN fT fS fV fL dK dJ dO dP dT' dS dM dN dV dQ dI dY dL' dC dG dE dkA dnA drA dwA dpA : FuncData) : Prop where
  CG : CpG K mg w aF aM aD CE aE CP fP aC aa aw ai ah aN aT aS aV aL fC fa fw fi fh fN fT fS fV fL
  G : Pkg K mg w aF aM aD CE aE CT aW aR aH aA aI fW fR fH fA fI
  M : Mets K CT gE g1 g2 g3 g4 g5 g6 p1 p2 p3 p4 p5 p6 fE f1 f2 f3 f4 f5 f6
  B : BkG K mg CB cK cJ cO cP cT cS cM cN cV cQ dK dJ dO dP dT' dS dM dN dV dQ
  BM : BmG K CB bI bY bL bC bG bE kP nP rP wP pP kA nA rA wA pA dI dY dL' dC dG dE dkA dnA drA dwA dpA
  E3 : Err3 K mg CP fP CM fM CU fU
set_option maxHeartbeats 0 in
theorem ok_law {f : Addr} {fd : FuncData} (F : Fun K "law" "law" sLaw f fd) (A : AllG K mg w aF aM aD CE aE CT aW aR aH aA aI gE g1 g2 g3 g4 g5 g6 p1 p2 p3 p4 p5 p6 CP fP aC aa aw ai ah aN aT aS aV aL CB cK cJ cO cP cT cS cM cN cV cQ bI bY bL bC bG bE kP nP rP wP pP kA nA rA wA pA CM fM CU fU fW fR fH fA fI fE f1 f2 f3 f4 f5 f6 fC fa fw fi fh fN fT fS fV fL dK dJ dO dP dT' dS dM dN dV dQ dI dY dL' dC dG dE dkA dnA drA dwA dpA)
    (Z : Defs K mg oN oD oK oS oW oA oT oM oH oR oV oP oX oC oB oI eN eD eK eS eW eA eT eM eH eR eV eP eX eC eB eI) (TP : TxtP mg) (TQ : TxtQ mg) (TL : TxtL mg) (hS : (K.lookup sysModules).isSome = true) (nfl : PySem.W.notFirst K CB (.type "list") = true) (kl : PySem.W.kitOne K (.type "list") (.ref CB) = some false) : FnG P w K mg base CX0 20 f fd ["_law_script"] (spLaw K) := by
  have Dr : Drw K mg oW oK oD oS oT oR oV oP oC eW eK eD eS eT eR eV eP eC := ⟨Z.dW, Z.dK, Z.dD, Z.dS, Z.dT, Z.dR, Z.dV, Z.dP, Z.dC, Z.gW, Z.gK, Z.gD, Z.gS, Z.gT, Z.gR, Z.gV, Z.gP, Z.gC⟩
  have T := A.G.T
  have TK := A.G.TK
  have GPen : FnOk P w K mg base CX0 1 oN eN ["_law_script"] (spPen K) := ok_pen Z.dN TP
  have GB : FnOk P w K mg base CX0 8 oB eB ["_law_pen_here"] (spBok K) := ok_bok Z.dB Dr TP TK T TL TQ.range
  have GS : FnOk P w K mg base CX0 2 oS eS ["_law_pen_here", "_law_items"] (spShuf K) := ok_shuf Z.dS Z.dD TP Z.gD
  have GM : FnOk P w K mg base CX0 6 oM eM ["_law_one"] (spMade CT) := ok_made Z.dM A.G
  have GR : FnOk P w K mg base CX0 1 oR eR ["_law_tasks"] (spLr K) := ok_lr Z.dR TK T
  have GV : FnOk P w K mg base CX0 2 oV eV ["_law_tasks"] (spLwd K) := ok_lwd Z.dV Z.dR Z.gR TK T
  have GX : FnOk P w K mg base CX0 7 oX eX ["_law_plan_here"] (spNf K 4) := ok_nrm Z.dX Z.gX TL 4
  have GA : FnOk P w K mg base CX0 3 oA eA ["_law_pen_here"] (spAnyN odds) := ok_any Z.dA Z.dK Z.dD TP Z.gK Z.gD
  have GI : FnG P w K mg base CX0 5 oI eI ["_law_book_here", "_law_value"] (spItem K CB CT) := ok_item Z.dI Z.dH Z.gH A.BM.mG A.BM.fG A.BM.FG A.G A.M A.B A.E3 TQ.repr TQ.lerr hS
  have GBI : FnOk P w K mg base (L2.CX P w) 11 bI dI NBk (spBkG K CB CT CP CM CU 4) := ok_bkG A.BM.FI A.G A.M A.CG A.E3 A.B 4
  have GY : FnOk P w K mg base CX0 13 bY dY ["self"] (spBcp K CB CT 4) := ok_bcp A.BM.FY A.BM.FI A.BM.mkB A.G A.M A.CG A.E3 A.B 4
  have GL : FnOk P w K mg base CX0 1 bL dL' ["self"] (spBln K CB CT) := ok_bln A.BM.FL A.G A.B
  have GC : FnOk P w K mg base CX0 1 bC dC ["self", "name"] (spBco K CB CT) := ok_bco A.BM.FC A.G A.B
  have GE : FnOk P w K mg base CX0 4 bE dE ["self", "other"] (spBqG K CB CT) := ok_bqG A.BM.FE A.G A.M A.B
  have Gk : FnOk P w K mg base CX0 1 kA dkA ["self"] (spBks K CB CT) := ok_bks A.BM.Fk A.G A.B
  have Gn : FnOk P w K mg base CX0 1 nA dnA ["self"] (spBnm K CB CT) := ok_bnm A.BM.Fn A.G A.B
  have Gr : FnOk P w K mg base CX0 5 rA drA ["self"] (spBrm K CB CT) := ok_brm A.BM.Fr A.G A.M A.B
  have Gw : FnOk P w K mg base CX0 6 wA dwA ["self"] (spBwd K CB CT) := ok_bwd A.BM.Fw A.G A.M A.B
  have Gp : FnOk P w K mg base CX0 1 pA dpA ["self"] (getSp CB "_plan") := ok_bp A.BM.Fp A.B
  have bN : Binds K eN ["_law_script"] [] := Z.dN.binds (ps := ["_law_script"]) fun _ _ _ _ _ _ us hl => match us, hl with | [_], _ => rfl
  have bB : Binds K eB ["_law_pen_here"] [] := Z.dB.binds (ps := ["_law_pen_here"]) fun _ _ _ _ _ _ us hl => match us, hl with | [_], _ => rfl
  have bS : Binds K eS ["_law_pen_here", "_law_items"] [] := Z.dS.binds (ps := ["_law_pen_here", "_law_items"]) fun _ _ _ _ _ _ us hl => match us, hl with | [_, _], _ => rfl
  have bM : Binds K eM ["_law_one"] [] := Z.dM.binds (ps := ["_law_one"]) fun _ _ _ _ _ _ us hl => match us, hl with | [_], _ => rfl
  have bR : Binds K eR ["_law_tasks"] [] := Z.dR.binds (ps := ["_law_tasks"]) fun _ _ _ _ _ _ us hl => match us, hl with | [_], _ => rfl
  have bV : Binds K eV ["_law_tasks"] [] := Z.dV.binds (ps := ["_law_tasks"]) fun _ _ _ _ _ _ us hl => match us, hl with | [_], _ => rfl
  have bX : Binds K eX ["_law_plan_here"] [] := Z.dX.binds (ps := ["_law_plan_here"]) fun _ _ _ _ _ _ us hl => match us, hl with | [_], _ => rfl
  have bA : Binds K eA ["_law_pen_here"] [] := Z.dA.binds (ps := ["_law_pen_here"]) fun _ _ _ _ _ _ us hl => match us, hl with | [_], _ => rfl
  have bIt : Binds K eI ["_law_book_here", "_law_value"] [] := Z.dI.binds (ps := ["_law_book_here", "_law_value"]) fun _ _ _ _ _ _ us hl => match us, hl with | [_, _], _ => rfl
  have kI : Binds K dI NBk [] := A.BM.FI.binds (ps := NBk) fun _ _ _ _ _ _ us hl => match us, hl with | [_, _, _, _], _ => rfl
  have kY : Binds K dY ["self"] [] := A.BM.FY.binds (ps := ["self"]) fun _ _ _ _ _ _ us hl => match us, hl with | [_], _ => rfl
  have kL : Binds K dL' ["self"] [] := A.BM.FL.binds (ps := ["self"]) fun _ _ _ _ _ _ us hl => match us, hl with | [_], _ => rfl
  have kC : Binds K dC ["self", "name"] [] := A.BM.FC.binds (ps := ["self", "name"]) fun _ _ _ _ _ _ us hl => match us, hl with | [_, _], _ => rfl
  have kE : Binds K dE ["self", "other"] [] := A.BM.FE.binds (ps := ["self", "other"]) fun _ _ _ _ _ _ us hl => match us, hl with | [_, _], _ => rfl
  have kk : Binds K dkA ["self"] [] := A.BM.Fk.binds (ps := ["self"]) fun _ _ _ _ _ _ us hl => match us, hl with | [_], _ => rfl
  have kn : Binds K dnA ["self"] [] := A.BM.Fn.binds (ps := ["self"]) fun _ _ _ _ _ _ us hl => match us, hl with | [_], _ => rfl
  have kr : Binds K drA ["self"] [] := A.BM.Fr.binds (ps := ["self"]) fun _ _ _ _ _ _ us hl => match us, hl with | [_], _ => rfl
  have kw : Binds K dwA ["self"] [] := A.BM.Fw.binds (ps := ["self"]) fun _ _ _ _ _ _ us hl => match us, hl with | [_], _ => rfl
  have kp : Binds K dpA ["self"] [] := A.BM.Fp.binds (ps := ["self"]) fun _ _ _ _ _ _ us hl => match us, hl with | [_], _ => rfl
  refine FunG_ok F scLaw (fun vs H Q E h => ?_) (fun cdv Ar outer s H vs Q E hG hr h => ?_)
  · obtain ⟨a, ns, rfl, _⟩ := h
    rfl
  · obtain ⟨sc, ns, rfl, hL, hn, k⟩ := h
    have gd : (Ar.deeper (envOfC "law" (defScope sLaw) s.heap.objs.size f cdv)).guards = some [] := (guards_deeper _ _).trans hG
    have hu64 := hr.units
    have hu := hu_of (hr.mono (show 1 ≤ 19 by decide))
    have hr1 : Room 1 _ := hr.mono (by decide)
    have hr2 : Room 2 _ := hr.mono (by decide)
    have hr3 : Room 3 _ := hr.mono (by decide)
    have hr5 : Room 5 _ := hr.mono (by decide)
    have hr6 : Room 6 _ := hr.mono (by decide)
    have hr7 : Room 7 _ := hr.mono (by decide)
    have hr8 : Room 8 _ := hr.mono (by decide)
    have hr12 : Room 12 _ := hr.mono (by decide)
    have hr13 : Room 13 _ := hr.mono (by decide)
    have nd := scLaw.nd
    refine' ⟨_, PSs.nox (pss_cons ?s0 (pss_cons (ps_for PassesOwn.never rfl ?r0 (pg_name (i := 2) nd rfl (Or.inl rfl))
      (pss_cons ?a1 (pss_cons ?a2 (pss_cons ?a3 (pss_cons ?a4 (pss_cons ?a5 (pss_cons ?a6 (pss_cons ?a7 (pss_cons ?a8 (pss_cons ?a9 (pss_cons ?a10 (pss_cons ?a11 (pss_cons ?a12 (pss_cons ?a13 (pss_cons ?a14 (pss_cons ?a15 (pss_cons ?a16 (pss_cons ?a17 (pss_cons ?a18 (pss_cons ?a19 (pss_one ?a20))))))))))))))))))))) (pss_one (ps_ret pe_bl)))), ?q⟩
    case s0 => exact ps_set (i := 1) nd rfl (Or.inl rfl) (pe_call GPen hr1 rfl Z.gN Z.dN.kp bN .nil pass0 (pa_cons (pv 0) pa_nil))
    case r0 => exact pi_range1 rfl TQ.range (pa_cons (pe_op op_add pe_int (pe_callB (call_min2 rfl) (by rfl) TQ.min (by decide +kernel) (pa_cons pe_int (pa_cons (pe_callB call_len_seq (by rfl) TP.len PySem.boot_len (pa_cons (pv 0) pa_nil)) pa_nil)))) pa_nil)
    case a1 => exact ps_asg (pe_call GB hr8 rfl Z.gB Z.dB.kp bB .nil pass0 (pa_cons (pv 1) pa_nil)) (pg_tup (n := 3) rfl (pgs_cons (pg_name (i := 3) nd rfl (Or.inr rfl)) (pgs_cons (pg_name (i := 4) nd rfl (Or.inr rfl)) (pgs_cons (pg_name (i := 5) nd rfl (Or.inl rfl)) pgs_nil))))
    case a2 =>
      refine' ps_set (i := 6) nd rfl (Or.inl rfl) (pe_callTy (call_dictP rfl) (by rfl) T.dict (by decide +kernel) (pa_cons ?l pa_nil))
      case l =>
        refine' pe_lc (own := [("_law_title", 14)]) (g := gName 14) (tt := tYes) rfl nd (pi_list ?it) (blkOk_by (N := NL) (sc := defScope sLaw) (by decide +kernel)) (fun _ _ _ _ _ => pg_name (i := 14) nd rfl (Or.inl rfl)) (fun _ _ _ _ _ => pts_nil) ?e
        case it => exact pe_call GS hr2 rfl Z.gS Z.dS.kp bS .nil pass0 (pa_cons (pv 1) (pa_cons (pe_callTy (call_list_dK rfl) (by rfl) T.list (by decide +kernel) (pa_cons (pv 4) pa_nil)) pa_nil))
        case e => exact fun _ _ _ _ _ => pe_tup (pa_cons (pv 14) (pa_cons (pe_call GM hr6 rfl Z.gM Z.dM.kp bM .nil pass0 (pa_cons (pe_dget hu (pv 4) (pv 14) (fun _ _ => rfl)) pa_nil)) pa_nil))
    case a3 =>
      refine' ps_set (i := 8) nd rfl (Or.inl rfl) (pe_callTy (call_dictP rfl) (by rfl) T.dict (by decide +kernel) (pa_cons ?l pa_nil))
      case l =>
        refine' pe_lc (own := [("_law_word", 7)]) (g := gName 7) (tt := tYes) rfl nd (pi_list ?it) (blkOk_by (N := NL) (sc := defScope sLaw) (by decide +kernel)) (fun _ _ _ _ _ => pg_name (i := 7) nd rfl (Or.inl rfl)) (fun _ _ _ _ _ => pts_nil) ?e
        case it => exact pe_call GS hr2 rfl Z.gS Z.dS.kp bS .nil pass0 (pa_cons (pv 1) (pa_cons (pe_callTy (call_list_dK rfl) (by rfl) T.list (by decide +kernel) (pa_cons (pv 3) pa_nil)) pa_nil))
        case e => exact fun _ _ _ _ _ => pe_tup (pa_cons (pv 7) (pa_cons (pe_callTy (r := rListW K) call_list_of (by rfl) T.list (by decide +kernel) (pa_cons (pe_dget hu (pv 3) (pv 7) (fun _ _ => rfl)) pa_nil)) pa_nil))
    case a4 => exact ps_set (i := 9) nd rfl (Or.inr rfl) (pe_make (E := E0) A.BM.mkB GBI hr12 rfl A.B.C.gC kI .nil passL (pa_cons (pv 8) (pa_cons (pv 6) (pa_cons (pv 5) pa_nil))))
    case a5 => exact ps_lock (ps_for PassesOwn.never rfl (pi_keys (pv 8)) (pg_name (i := 7) nd rfl (Or.inl rfl)) (pss_one (ps_expr (pe_bm PySem.F.plainAttrs_list PySem.F.slot_list_append PySem.F.type_list_append mt_append (pe_dget hu (pv 8) (pv 7) (fun _ _ => rfl)) (pa_cons pe_str pa_nil)))))
    case a6 => exact ps_expr (pe_dclear (pv 6))
    case a7 =>
      refine' ps_set (i := 10) nd rfl (Or.inl rfl) (pe_lst (pa_cons (pe_callTy (call_dictP rfl) (by rfl) T.dict (by decide +kernel) (pa_cons ?l pa_nil)) (pa_cons ?t pa_nil)))
      case l =>
        refine' pe_lc (own := [("_law_word", 7)]) (g := gName 7) (tt := tYes) rfl nd (pi_list (pe_callB (call_sortedD rfl) (by rfl) T.sorted (by decide +kernel) (pa_cons (pv 3) pa_nil))) (blkOk_by (N := NL) (sc := defScope sLaw) (by decide +kernel)) (fun _ _ _ _ _ => pg_name (i := 7) nd rfl (Or.inl rfl)) (fun _ _ _ _ _ => pts_nil) ?e
        case e => exact fun _ _ _ _ _ => pe_tup (pa_cons (pv 7) (pa_cons (pe_callTy (r := rTo K) call_tuple_of (by rfl) TK.tuple (by decide +kernel) (pa_cons (pe_callB (r := rSo K) cr_sortedSeq (by rfl) T.sorted (by decide +kernel) (pa_cons (pe_dget hu (pv 3) (pv 7) (fun _ _ => rfl)) pa_nil)) pa_nil)) pa_nil))
      case t => exact pe_callTy call_tuple_of (by rfl) TK.tuple (by decide +kernel) (pa_cons (pe_callB (call_sortedD rfl) (by rfl) T.sorted (by decide +kernel) (pa_cons (pv 4) pa_nil)) pa_nil)
    case a8 =>
      refine' ps_set (i := 10) nd rfl (Or.inl rfl) (pe_op op_cat (pv 10) (pe_lst (pa_cons ?r (pa_cons ?v (pa_cons ?x pa_nil)))))
      case r => exact pe_call GR hr1 rfl Z.gR Z.dR.kp bR .nil pass0 (pa_cons (pv 4) pa_nil)
      case v => exact pe_call GV hr2 rfl Z.gV Z.dV.kp bV .nil pass0 (pa_cons (pv 4) pa_nil)
      case x => exact pe_call GX hr7 rfl Z.gX Z.dX.kp bX .nil pass0 (pa_cons (pv 5) pa_nil)
    case a9 => exact ps_set (i := 11) nd rfl (Or.inl rfl) (pe_prop (pv 9) A.B.C.cl A.BM.pk Gk hr2 kk .nil pass0 (by rfl))
    case a10 =>
      refine' ps_if (pt_cmpR op_ne (pe_callB (call_reprW hS gd hu64) (by rfl) TQ.repr (by decide +kernel) (pa_cons (pe_lst (pa_cons (pv 11) (pa_cons ?n (pa_cons ?r (pa_cons ?w (pa_cons ?p pa_nil)))))) pa_nil)) (pe_callB (call_reprW hS gd hu64) (by rfl) TQ.repr (by decide +kernel) (pa_cons (pv 10) pa_nil)) (nomark _)) (pss_one (ps_ret pe_bl)) pss_nil
      case n => exact pe_prop (pv 9) A.B.C.cl A.BM.pn Gn hr2 kn .nil pass0 (by rfl)
      case r => exact pe_prop (pv 9) A.B.C.cl A.BM.pr Gr hr6 kr .nil pass0 (by rfl)
      case w => exact pe_prop (pv 9) A.B.C.cl A.BM.pw Gw hr7 kw .nil pass0 (by rfl)
      case p => exact pe_prop (pv 9) A.B.C.cl A.BM.pp Gp hr2 kp .nil pass0 (by rfl)
    case a11 => exact ps_if (pt_cmpR op_ne (pe_callB (call_lenO A.BM.mL.at_ A.BM.mL.fn (GL.raw kL .nil) hr2 pass0) (by rfl) TP.len PySem.boot_len (pa_cons (pv 9) pa_nil)) (pe_callB call_lenD (by rfl) TP.len PySem.boot_len (pa_cons (pv 4) pa_nil)) (nomark _)) (pss_one (ps_ret pe_bl)) pss_nil
    case a12 => exact ps_dput hu (pv 11) pe_str (pe_tup pa_nil) rfl
    case a13 =>
      refine' ps_if (PW.pt (pw_or (pt_cmpR op_ne (pe_callB (call_reprW hS gd hu64) (by rfl) TQ.repr (by decide +kernel) (pa_cons ?k pa_nil)) (pe_callB (call_reprW hS gd hu64) (by rfl) TQ.repr (by decide +kernel) (pa_cons (pe_ix ix_list (pv 10) pe_int (fun _ _ => rfl)) pa_nil)) (nomark _)) (pw_or (pt_cmpR (op_neO A.BM.mE.at_ A.BM.mE.fn A.BM.ne A.BM.su (GE.raw kE .nil) hr5 pass0) (pv 9) ?y (nomark _)) (pw_or1 (pt_cmpR (op_eqOX A.BM.mE.at_ A.BM.mE.fn (GE.raw kE .nil) (hr.mono (by decide)) pass0) (pv 9) (pv 10) (nomark _)))))) (pss_one (ps_ret pe_bl)) pss_nil
      case k => exact pe_prop (pv 9) A.B.C.cl A.BM.pk Gk hr2 kk .nil pass0 (by rfl)
      case y => exact pe_meth0 (pv 9) A.B.C.cl A.BM.mY GY hr13 kY .nil pass0
    case a14 =>
      refine' ps_if (pt_cmpR (op_neD hu64) ?l ?m (nomark _)) (pss_one (ps_ret pe_bl)) pss_nil
      case l =>
        refine' pe_lc (own := [("_law_title", 14)]) (g := gName 14) (tt := tYes) rfl nd (pi_list (pe_callB (call_sortedD rfl) (by rfl) T.sorted (by decide +kernel) (pa_cons (pv 4) pa_nil))) (blkOk_by (N := NL) (sc := defScope sLaw) (by decide +kernel)) (fun _ _ _ _ _ => pg_name (i := 14) nd rfl (Or.inl rfl)) (fun _ _ _ _ _ => pts_nil) ?e
        case e => exact fun _ _ _ _ _ => pe_callG GI gd hr5 rfl Z.gI Z.dI.kp bIt .nil pass0 (pa_cons (pv 9) (pa_cons (pv 14) pa_nil))
      case m =>
        refine' pe_lc (own := [("_law_title", 14)]) (g := gName 14) (tt := tYes) rfl nd (pi_list (pe_callB (call_sortedD rfl) (by rfl) T.sorted (by decide +kernel) (pa_cons (pv 4) pa_nil))) (blkOk_by (N := NL) (sc := defScope sLaw) (by decide +kernel)) (fun _ _ _ _ _ => pg_name (i := 14) nd rfl (Or.inl rfl)) (fun _ _ _ _ _ => pts_nil) ?e
        case e => exact fun _ _ _ _ _ => pe_dget hu (pv 4) (pv 14) (fun _ _ => rfl)
    case a15 => exact ps_set (i := 12) nd rfl (Or.inl rfl) (pe_call GA hr3 rfl Z.gA Z.dA.kp bA .nil pass0 (pa_cons (pv 1) pa_nil))
    case a16 => exact ps_set (i := 13) nd rfl (Or.inl rfl) (pe_and (pe_callB call_isi (by rfl) TL.isinstance (by decide +kernel) (pa_cons (pv 12) (pa_cons (pe_bltn (v := .ty "str") (by rfl) TL.str (by decide +kernel) rfl (by decide) (by decide)) pa_nil))) (pe_one (pe_cmp (pc_din hu (pv 12) (pv 4)) rfl)))
    case a17 =>
      refine' ps_if (PW.pt (pw_or (pt_cmpR op_ne (pe_callB (call_reprW hS gd hu64) (by rfl) TQ.repr (by decide +kernel) (pa_cons (pe_cmpR (op_inO A.BM.mC.at_ A.BM.mC.fn (GC.raw kC .nil) hr1 pass0) (pv 12) (pv 9) (by rfl)) pa_nil)) (pe_callB (call_reprW hS gd hu64) (by rfl) TQ.repr (by decide +kernel) (pa_cons (pv 13) pa_nil)) (nomark _)) (pw_or1 (pt_cmpR (op_neE hr.units0) (pe_lock ?l) (pe_lst pa_nil) (nomark _))))) (pss_one (ps_ret pe_bl)) pss_nil
      case l =>
        refine' pe_lc (own := [("_law_title", 14)]) (g := gName 14) rfl nd (pi_keys (pv 4)) (blkOk_by (N := NL) (sc := defScope sLaw) (by decide +kernel)) (fun _ _ _ _ _ => pg_name (i := 14) nd rfl (Or.inl rfl)) (fun _ _ _ _ _ => pts_one (pt_cmpR (r := rNinO CB (fun vs H Q E => spBco K CB CT (vs ++ []) H Q E) E0) (op_ninO A.BM.mC.at_ A.BM.mC.fn (GC.raw kC .nil) hr1 pass0) (pv 14) (pv 9) (by rfl))) ?e
        case e => exact fun _ _ _ _ _ => pv 14
    case a18 =>
      refine' ps_if (PW.pt (pw_and (pt_not (pt_val (pv 13))) (pw_and1 (pt_cmpR (op_neD hu64) ?i (pe_tup (pa_cons pe_str (pa_cons (pe_callB (call_reprW hS gd hu64) (by rfl) TQ.repr (by decide +kernel) (pa_cons (pv 12) pa_nil)) (pa_cons pe_bl pa_nil)))) (nomark _))))) (pss_one (ps_ret pe_bl)) pss_nil
      case i => exact pe_callG GI gd hr5 rfl Z.gI Z.dI.kp bIt .nil pass0 (pa_cons (pv 9) (pa_cons (pv 12) pa_nil))
    case a19 =>
      refine' ps_set (i := 6) nd rfl (Or.inl rfl) (pe_callTy (call_dictP rfl) (by rfl) T.dict (by decide +kernel) (pa_cons (pe_lock ?l) pa_nil))
      case l =>
        refine' pe_lc (own := [("_law_title", 14)]) (g := gName 14) (tt := tYes) rfl nd (pi_keys (pv 4)) (blkOk_by (N := NL) (sc := defScope sLaw) (by decide +kernel)) (fun _ _ _ _ _ => pg_name (i := 14) nd rfl (Or.inl rfl)) (fun _ _ _ _ _ => pts_nil) ?e
        case e => exact fun _ _ _ _ _ => pe_tup (pa_cons (pv 14) (pa_cons (pe_call GM hr6 rfl Z.gM Z.dM.kp bM .nil pass0 (pa_cons (pe_dget hu (pv 4) (pv 14) (fun _ _ => rfl)) pa_nil)) pa_nil))
    case a20 =>
      refine' ps_if (pt_cmpR (op_neO A.BM.mE.at_ A.BM.mE.fn A.BM.ne A.BM.su (GE.raw kE .nil) hr5 pass0) ?m (pv 9) (nomark _)) (pss_one (ps_ret pe_bl)) pss_nil
      case m => exact pe_make (E := E0) A.BM.mkB GBI hr12 rfl A.B.C.gC kI .nil passL (pa_cons (pv 3) (pa_cons (pv 6) (pa_cons (pe_call GX hr7 rfl Z.gX Z.dX.kp bX .nil pass0 (pa_cons (pv 5) pa_nil)) pa_nil)))
    case q =>
      have ssz : sizeLine = 16777216 := sizeLine_eq
      refine ⟨_, rfl, sc, ns, rfl, hL, hn, fun p c H1 s1 np hP => ?_⟩
      obtain ⟨M, hM, hM2⟩ : ∃ N : Nat, (5 + (if ((ns.map V.int).length : Int) < 5 then ((ns.map V.int).length : Int) else 5) : Int) = (N : Int) ∧ N ≤ 10 := by
        refine ⟨(5 + (if ((ns.map V.int).length : Int) < 5 then ((ns.map V.int).length : Int) else 5) : Int).toNat, ?_, ?_⟩
        · split <;> omega
        · split <;> omega
      refine ⟨_, rfl, sc, _, rfl, Or.inl (s1.seq hL), 5, _, rfl, 5, _, rfl, rfl, (M : Int), congrArg (fun z => [V.int z]) hM, by omega, by omega, for_range (lo := 0) (n := M)
        (fun i σ H2 => ∃ x2 x3 x4 x5 x6 x7 x8 x9 x10 x11 x12 x13, σ = [some (V.ref sc), some (.ref p), x2, x3, x4, x5, x6, x7, x8, x9, x10, x11, x12, x13, none] ∧ PenAt H2 p c (1000 * i)) ⟨none, none, none, none, none, none, none, none, none, none, none, none, rfl, hP⟩ ?_ ?_⟩
      · rintro i σ H2 hi ⟨x2, x3, x4, x5, x6, x7, x8, x9, x10, x11, x12, x13, rfl, hP2⟩
        refine gName_go ?_
        with_reducible conv => whnf
        -- the book's parts
        refine seq_cutS (fun σ Hc => ∃ (kd td : Addr) (v : V) (mk : List (Str × V)) (ks : List (Str × List Str)) (mt : List (Str × V)) (ts : List (Str × TSk)) (d : PyData), σ = [some (V.ref sc), some (.ref p), some (.int (0 + (i : Int))), some (.ref kd), some (.ref td), some v, x6, x7, x8, x9, x10, x11, x12, x13, none] ∧ St7 K p c kd mk ks td mt ts v d (1000 * i + 600) Hc ∧ KinB ks ∧ TasB ts ∧ PlanB ts d) ?_ ?_
        · intro NX rr
          refine ⟨_, rfl, p, c, 1000 * i, rfl, hP2, by omega, fun t kd td v mk ks mt ts d H' ht hkd kA kB htd tA tB pl pB kp' tp' kt' P' b' => ?_⟩
          exact ⟨t, _, rfl, SqT.of ht, rfl, _, _, rfl, gName_go ⟨_, _, rfl, gName_go ⟨_, _, rfl, gName_go ⟨rfl, rr _ _ ⟨kd, td, v, mk, ks, mt, ts, d, rfl, ⟨P', hkd, kA, htd, tA, pl, kp', tp'⟩, kB, tB, pB⟩⟩⟩⟩⟩
        rintro σ Hc ⟨kd, td, v, mk, ks, mt, ts, d, rfl, st, kB, tB, pB⟩
        clear hP2
        have ndt := tB.nd
        have ndk := kB.nd
        have wt : ∀ y ∈ ts.map (·.1), Word y := fun y hy => by
          obtain ⟨z, hz, rfl⟩ := List.mem_map.mp hy
          exact (tB.w z hz).1
        have wk : ∀ y ∈ ks.map (·.1), Word y := fun y hy => by
          obtain ⟨z, hz, rfl⟩ := List.mem_map.mp hy
          exact (kB.w z hz).1
        have lt4 := tB.l4
        have lk3 := kB.l3
        -- the tasks are made
        refine seq_cutS (fun σ Hd => ∃ (g : Addr) (mg : List (Str × V)) (us : List (Str × TSk)), σ = [some (V.ref sc), some (.ref p), some (.int (0 + (i : Int))), some (.ref kd), some (.ref td), some v, some (.ref g), x7, x8, x9, x10, x11, x12, x13, none] ∧ St7 K p c kd mk ks td mt ts v d (1000 * i + 610) Hd ∧ Hd g = some (.dK (tD mg)) ∧ TsAt CT Hd mg us ∧ us.Perm ts ∧ g ≠ p ∧ g ≠ td ∧ g ≠ kd) ?_ ?_
        · intro NX rr
          refine ⟨_, rfl, _, rfl, td, _, rfl, st.ht, fun l0 nl0 => ?_⟩
          rw [tD_keysV, st.tA.keys]
          have s0 : Same Hc (upd Hc l0 (.lst ((ts.map (·.1)).map V.str))) := Same.new nl0
          have g0 : (upd Hc l0 (.lst ((ts.map (·.1)).map V.str))) l0 = some (.lst ((ts.map (·.1)).map V.str)) := upd_same
          generalize upd Hc l0 (.lst ((ts.map (·.1)).map V.str)) = Ha at s0 g0 ⊢
          have sta := st.same s0
          refine ⟨p, c, _, l0, ts.map (·.1), rfl, sta.pen, by omega, SqL.of g0, by rw [List.length_map]; omega, wt, fun L zs Hb pz Pb bb nL hL' => ?_⟩
          have stb := sta.but bb Pb
          have ndz : zs.Nodup := pz.nodup_iff.mpr ndt
          have lz := pz.length_eq
          rw [List.length_map] at lz
          refine ⟨L, rfl, ⟨_, SqL.of hL'⟩, fun D nD => ?_⟩
          refine lc_it (walk_list (K := K) (a := L) (xs := zs.map V.str)) (fun j Hh => PrD K Hb D (zs.take j) (RtT CT ts) Hh) (prD_nil nD) (fun _ Hh _ ⟨_, _, z, _⟩ => SqL.of (z _ _ hL')) ?_ ?_
          · rintro j x Hx Hy hj pr ⟨rfl, gx⟩
            obtain ⟨y, gy, rfl, my⟩ := at_strs gx
            rw [List.length_map] at hj
            obtain ⟨_, _, sb, _⟩ := id pr
            have stx := stb.same sb
            obtain ⟨tt, T', lk, pt, mem⟩ := stx.tA.find ndt (pz.mem_iff.mp my)
            refine ⟨rfl, ?_⟩
            refine yes_of ?_
            refine ⟨_, rfl, _, rfl, _, rfl, td, .ref tt, rfl, dget_some stx.ht lk, tt, T', rfl, pt, (tB.w _ mem).2.1, fun a He se na ta => ⟨(show 2 ≤ sizeLine by decide), fun t nt => ?_⟩⟩
            rw [take_snoc gy]
            exact pair_step mon_T nD pr (by rw [List.length_take]; omega) se ⟨a, T', rfl, ta, mem⟩ nt
          · rintro Hz pr
            rw [List.length_map, List.take_length] at pr
            obtain ⟨ps, mg, sz, hD, pp, me, mkk, tk⟩ := pair_end pr ndz
            refine ⟨D, ps, tD mg, rfl, SqL.of hD, pp, fun g ng => gName_go ?_⟩
            rw [me]
            obtain ⟨us, tA', uk, usub⟩ := tsAt_some tk
            have pu : us.Perm ts := keys_perm (by rw [uk, mkk]; exact pz) ndt usub
            have stz := stb.same sz
            have gp := (pen_apart stz.pen (Same.refl _) ng).1
            refine rr _ _ ⟨g, mg, us, rfl, (stz.same (Same.new ng)).but (But.of (Same.refl _)) ((stz.pen.same (Same.new ng)) (by rw [List.length_map]; omega)), upd_same, tA'.keep (.of (Same.new ng)), pu, gp, (fun e => by rw [e, stz.ht] at ng; cases ng), (fun e => by rw [e, stz.hk] at ng; cases ng)⟩
        rintro σ Hd ⟨g, mg', us, rfl, st2, hg, tA, pu, gp, gt, gk⟩
        clear st
        -- the kinds are copied
        refine seq_cutS (fun σ He => ∃ (h : Addr) (mh : List (Str × V)), σ = [some (V.ref sc), some (.ref p), some (.int (0 + (i : Int))), some (.ref kd), some (.ref td), some v, some (.ref g), x7, some (.ref h), x9, x10, x11, x12, x13, none] ∧ St7 K p c kd mk ks td mt ts v d (1000 * i + 620) He ∧ But p Hd He ∧ He h = some (.dK (tD mh)) ∧ (mh.map (·.1)).Perm (ks.map (·.1)) ∧ (∀ q ∈ mh, ∃ l ws, q.2 = .ref l ∧ Hd l = none ∧ l ≠ p ∧ He l = some (.lst (ws.map V.str)) ∧ (q.1, ws) ∈ ks) ∧ Hd h = none) ?_ ?_
        · intro NX rr
          refine ⟨_, rfl, _, rfl, kd, _, rfl, st2.hk, fun l0 nl0 => ?_⟩
          rw [tD_keysV, st2.kA.keys]
          have s0 : Same Hd (upd Hd l0 (.lst ((ks.map (·.1)).map V.str))) := Same.new nl0
          have g0 : (upd Hd l0 (.lst ((ks.map (·.1)).map V.str))) l0 = some (.lst ((ks.map (·.1)).map V.str)) := upd_same
          generalize upd Hd l0 (.lst ((ks.map (·.1)).map V.str)) = Ha at s0 g0 ⊢
          have sta := st2.same s0
          refine ⟨p, c, _, l0, ks.map (·.1), rfl, sta.pen, by omega, SqL.of g0, by rw [List.length_map]; omega, wk, fun L zs Hb pz Pb bb nL hL' => ?_⟩
          have stb := sta.but bb Pb
          have b0 : But p Hd Hb := (But.of s0).trans bb
          have ndz : zs.Nodup := pz.nodup_iff.mpr ndk
          have lz := pz.length_eq
          rw [List.length_map] at lz
          refine ⟨L, rfl, ⟨_, SqL.of hL'⟩, fun D nD => ?_⟩
          refine lc_it (walk_list (K := K) (a := L) (xs := zs.map V.str)) (fun j Hh => PrD K Hb D (zs.take j) (fun H y v => RlK D ks H y v ∧ ∀ l, v = .ref l → Hb l = none) Hh) (prD_nil nD) (fun _ Hh _ ⟨_, _, z, _⟩ => SqL.of (z _ _ hL')) ?_ ?_
          · rintro j x Hx Hy hj pr ⟨rfl, gx⟩
            obtain ⟨y, gy, rfl, my⟩ := at_strs gx
            rw [List.length_map] at hj
            obtain ⟨_, _, sb, hDx, _⟩ := id pr
            have stx := stb.same sb
            obtain ⟨l1, ws, lk, pt, mem⟩ := stx.kA.find ndk (pz.mem_iff.mp my)
            refine ⟨rfl, ?_⟩
            refine yes_of ?_
            refine ⟨_, rfl, _, rfl, _, rfl, kd, .ref l1, rfl, dget_some stx.hk lk, l1, _, rfl, .inl (SqL.of pt), fun l2 nl2 => ⟨(show 2 ≤ sizeLine by decide), fun t nt => ?_⟩⟩
            rw [take_snoc gy]
            exact pair_step (fun H H' y v acc hD off ⟨r1, r2⟩ => ⟨mon_K H H' y v acc hD off r1, r2⟩) nD pr (by rw [List.length_take]; omega) (Same.new nl2) ⟨⟨l2, ws, rfl, upd_same, (fun e => by rw [e, hDx] at nl2; cases nl2), mem⟩, fun l e => by cases e; exact sb.free nl2⟩ nt
          · rintro Hz pr
            rw [List.length_map, List.take_length] at pr
            obtain ⟨ps, mh, sz, hD, pp, me, mkk, tk⟩ := pair_end pr ndz
            refine ⟨D, ps, tD mh, rfl, SqL.of hD, pp, fun h nh => gName_go ?_⟩
            rw [me]
            have stz := stb.same sz
            have bz : But p Hd Hz := b0.trans (But.of sz)
            have nfree : ∀ {a : Addr}, a ≠ p → Hz a = none → Hd a = none := fun {a} na z => by
              cases e : Hd a with
              | none => rfl
              | some o => rw [bz a o na e] at z; cases z
            have hp' := (pen_apart stz.pen (Same.refl _) nh).1
            refine rr _ _ ⟨h, mh, rfl, (stz.same (Same.new nh)).but (But.of (Same.refl _)) ((stz.pen.same (Same.new nh)) (by rw [List.length_map]; omega)), bz.trans (But.of (Same.new nh)), upd_same, by rw [mkk]; exact pz, fun q hq => ?_, nfree hp' nh⟩
            obtain ⟨⟨l, ws, e, hl, _, mem⟩, fr⟩ := tk q hq
            have lb := fr l e
            have lp : l ≠ p := (pen_apart stb.pen (Same.refl _) lb).1
            refine ⟨l, ws, e, ?_, lp, (Same.new nh) _ _ hl, mem⟩
            cases e' : Hd l with
            | none => rfl
            | some o => rw [b0 l o lp e'] at lb; cases lb
        rintro σ He ⟨h, mh, rfl, st3, bde, hh, ph, mhk, nhd⟩
        have lh := ph.length_eq
        rw [List.length_map, List.length_map] at lh
        have hge := bde _ _ gp hg
        have tAe := tA.keep (KeepS.pen st2.pen bde).b
        -- the book
        refine seq_cutS (fun σ Hf => ∃ (bk : Addr) (m1 m2 : List (Str × V)) (ls : List (Str × List Str)) (us' : List (Str × TSk)), σ = [some (V.ref sc), some (.ref p), some (.int (0 + (i : Int))), some (.ref kd), some (.ref td), some v, some (.ref g), x7, some (.ref h), some (.ref bk), x10, x11, x12, x13, none] ∧ Same He Hf ∧ BookW K CB CT Hf bk m1 m2 ls us' (nf 4 d) ∧ KinR ls ∧ AscK ks ls ∧ MadeT ts us' ∧ OfB CB bk g Hf ∧ OfB CB bk td Hf) ?_ ?_
        · intro NX rr
          refine ⟨_, rfl, _, rfl, _, rfl, fun bk dy nb ndy ne => ?_⟩
          have nb2 : (upd He dy (.own bk)) bk = none := by rw [upd_ne (Ne.symm ne)]; exact nb
          have sB : Same He (upd (upd He dy (.own bk)) bk (.ins CB dy [])) := (Same.new ndy).trans (Same.new nb2)
          have gB : (upd (upd He dy (.own bk)) bk (.ins CB dy [])) bk = some (.ins CB dy []) := upd_same
          generalize upd (upd He dy (.own bk)) bk (.ins CB dy []) = Hb at sB gB ⊢
          have back : ∀ {H' : Hp}, Ext bk Hb H' → Same He H' := fun ext x o z => ext x o (fun e => by rw [e, nb] at z; cases z) (sB _ _ z)
          have plb := st3.pl.same sB
          have rk : RightK K Hb mh (fun x ws => (x, ws) ∈ ks) := ⟨by have := kB.l1; omega, by omega, ph.nodup_iff.mpr ndk, fun q hq => by
            obtain ⟨l, ws, e, _, _, hl, mem⟩ := mhk q hq
            obtain ⟨w1, _, w2, w3⟩ := kB.w _ mem
            have w3 : ws.length ≤ 3 := w3
            exact ⟨w1, ws, by rw [e]; exact wl_l (sB _ _ hl), w2, by omega, mem⟩⟩
          refine ⟨bk, dy, h, g, v, d, mh, mg', us, fun x ws => (x, ws) ∈ ks, .fine, none, rfl, gB, sB _ _ hh, rk, sB _ _ hge, tAe.keep (.of sB), tasB_right tB pu, tasB_few tB pu, tasB_mem tB pu, ⟨plb.gd pB.rt.short, fun _ => plb⟩, planB_due pB (fun y hy => (pu.map _).mem_iff.mpr hy), (fun _ _ => trivial), (fun _ _ z => nomatch z), fun _ _ ls us' m1 m2 H' ext mk' mt' _ bw nB => ⟨rfl, gName_go (rr _ _ ⟨bk, m1, m2, ls, us', rfl, back ext, bw, made_kin rk mk', ascK_made ph mk', made_of pu mt', (fun dx k t pv e => ?_), fun dx k t pv e => ?_⟩)⟩⟩
          · obtain ⟨z1, z2⟩ := nB _ _ _ _ e
            have gb := sB _ _ hge
            exact ⟨(fun e => by rw [e, gb] at z1; cases z1), fun e => by rw [e, gb] at z2; cases z2⟩
          · obtain ⟨z1, z2⟩ := nB _ _ _ _ e
            have gb := sB _ _ st3.ht
            exact ⟨(fun e => by rw [e, gb] at z1; cases z1), fun e => by rw [e, gb] at z2; cases z2⟩
        rintro σ Hf ⟨bk, m1, m2, ls, us', rfl, sef, bw, kin, ascl, mdt, ofg, ofd⟩
        have rb : RightB 4 ls us' (nf 4 d) := right_b kin tB pB mdt
        -- what was passed is changed
        refine seq_cutS (fun σ Hg => ∃ x7 : Option V, σ = [some (V.ref sc), some (.ref p), some (.int (0 + (i : Int))), some (.ref kd), some (.ref td), some v, some (.ref g), x7, some (.ref h), some (.ref bk), x10, x11, x12, x13, none] ∧ St7 K p c kd mk ks td mt ts v d (1000 * i + 620) Hg ∧ BookW K CB CT Hg bk m1 m2 ls us' (nf 4 d) ∧ Hg g = some (.dK (tD mg')) ∧ OfB CB bk g Hg ∧ OfB CB bk td Hg) ?_ ?_
        · intro NX rr
          have hhf := sef _ _ hh
          refine ⟨h, .dK (tD mh), hhf, trivial, fun od => ?_⟩
          have fz : (upd Hf h (.frz od (.dK (tD mh)))) h = some (.frz od (.dK (tD mh))) := upd_same
          have hnl : ∀ q ∈ mh, q.2 ≠ .ref h := fun q hq e => by
            obtain ⟨l, ws, e1, _, _, hl, _⟩ := mhk q hq
            rw [e1] at e
            have e : l = h := V.ref.inj e
            rw [e, hh] at hl
            cases hl
          have off0 : ∀ b o, (∀ q ∈ mh, q.2 ≠ .ref b) → b ≠ h → Hf b = some o → (upd Hf h (.frz od (.dK (tD mh)))) b = some o := fun b o _ n z => by rw [upd_ne n]; exact z
          have ls0 : ∀ q ∈ mh, ∃ l xs, q.2 = .ref l ∧ (upd Hf h (.frz od (.dK (tD mh)))) l = some (.lst xs) ∧ xs.length ≤ 60 := fun q hq => by
            obtain ⟨l, ws, e, _, _, hl, mem⟩ := mhk q hq
            obtain ⟨_, _, _, w3⟩ := kB.w _ mem
            have w3 : ws.length ≤ 3 := w3
            have hl2 : (upd Hf h (.frz od (.dK (tD mh)))) l = some (.lst (ws.map V.str)) := by
              rw [upd_ne (fun z => hnl q hq (by rw [e, z]))]
              exact sef _ _ hl
            exact ⟨l, _, e, hl2, by rw [List.length_map]; omega⟩
          generalize upd Hf h (.frz od (.dK (tD mh))) = HF at fz off0 ls0 ⊢
          refine ⟨_, rfl, h, od, rfl, .inl ⟨tD mh, fz, ?_⟩⟩
          refine for_it walk_keys (fun j σ Hh => ∃ x7 : Option V, σ = [some (V.ref sc), some (.ref p), some (.int (0 + (i : Int))), some (.ref kd), some (.ref td), some v, some (.ref g), x7, some (.ref h), some (.ref bk), x10, x11, x12, x13, none] ∧ Hh h = some (.frz od (.dK (tD mh))) ∧ (∀ b o, (∀ q ∈ mh, q.2 ≠ .ref b) → b ≠ h → Hf b = some o → Hh b = some o) ∧ ∀ q ∈ mh, ∃ l xs, q.2 = .ref l ∧ Hh l = some (.lst xs) ∧ xs.length ≤ 60 + j) ⟨x7, rfl, fz, off0, ls0⟩ (fun _ _ _ _ ⟨_, _, z, _⟩ => z) ?_ ?_
          · rintro j x σ Ha Hb hj ⟨y7, rfl, fa, offa, lsa⟩ ⟨rfl, kx, vx, gx, rfl⟩
            obtain ⟨q, gq, rfl, rfl⟩ := tD_at gx
            have mq := List.mem_of_getElem? gq
            obtain ⟨l, xs, el, hl, lx⟩ := lsa q mq
            have lk := look_at (by rw [List.Perm.nodup_iff ph]; exact ndk) gq
            rw [el] at lk
            rw [tD_len] at hj
            refine gName_go ?_
            with_reducible conv => whnf
            refine ⟨_, rfl, _, rfl, h, .ref l, rfl, dget_frz fa lk, Or.inl ⟨rfl, _, SqL.of hl⟩, l, _, _, rfl, rfl, hl, by rw [ssz]; omega, _, rfl, ?_, fun b o n1 n2 z => ?_, fun q' hq' => ?_⟩
            · rw [upd_ne (fun e => hnl q mq (by rw [el, e]))]
              exact fa
            · rw [upd_ne (fun e => n1 q mq (by rw [el, e]))]
              exact offa b o n1 n2 z
            · obtain ⟨l', xs', el', hl', lx'⟩ := lsa q' hq'
              by_cases e : l' = l
              · exact ⟨l, _, by rw [el', e], upd_same, by rw [List.length_append, List.length_singleton]; omega⟩
              · exact ⟨l', xs', el', by rw [upd_ne e]; exact hl', by omega⟩
          · rintro σ Ha ⟨y7, rfl, fa, offa, lsa⟩
            refine ⟨fa, rr _ _ ⟨y7, rfl, ?_⟩⟩
            have off : ∀ b o, (∀ q ∈ mh, q.2 ≠ .ref b) → Hf b = some o → (upd Ha h (.dK (tD mh))) b = some o := fun b o n z => by
              by_cases e : b = h
              · rw [e] at z ⊢
                rw [upd_same, ← z, hhf]
              · rw [upd_ne e]
                exact offa b o n e z
            generalize upd Ha h (.dK (tD mh)) = Hz at off ⊢
            have old : ∀ b o, Hd b = some o → b ≠ p → Hz b = some o := fun b o z nb => off b o (fun q hq e => by
              obtain ⟨l, ws, e1, n1, _⟩ := mhk q hq
              rw [e1] at e
              have e : l = b := V.ref.inj e
              rw [e, z] at n1
              cases n1) (sef _ _ (bde b o nb z))
            have kN : KeepN Hf Hz := fun b o n z => off b o (fun q hq e => by
              obtain ⟨l, ws, e1, _, _, hl, _⟩ := mhk q hq
              rw [e1] at e
              have e : l = b := V.ref.inj e
              have hl := sef _ _ hl
              rw [e, z] at hl
              exact n _ (Option.some.inj hl)) z
            have P3 := st3.pen.same sef (Nat.le_refl _)
            obtain ⟨⟨kvp, hp2⟩, _⟩ := pen_has P3
            obtain ⟨_, xc, hc2⟩ := pen_has st2.pen
            have cp : c ≠ p := fun e => by
              obtain ⟨⟨kv, z⟩, _⟩ := pen_has st2.pen
              rw [e, z] at hc2
              cases hc2
            have Pz : PenAt Hz p c (1000 * i + 620) := pen_two P3 (fun o z => off p o (fun q hq e => by
              obtain ⟨l, ws, e1, _, lp, _⟩ := mhk q hq
              rw [e1] at e
              exact lp (V.ref.inj e)) z) (fun o z => by
              have z1 := old c _ hc2 cp
              have z2 := sef _ _ (bde _ _ cp hc2)
              rw [z1]
              rw [z] at z2
              exact z2.symm) (Nat.le_refl _)
            exact ⟨st2.but (fun b o nb z => old b o z nb) Pz, bw.keepN kN, old _ _ hg gp, ofg.next bw fun _ _ _ z => kN _ _ (fun _ y => nomatch y) z, ofd.next bw fun _ _ _ z => kN _ _ (fun _ y => nomatch y) z⟩
        rintro σ Hg ⟨y7, rfl, st4, bw4, hg4, ofg4, ofd4⟩
        clear st2 st3 ofg ofd
        refine seq_cutS (fun σ Hh => σ = [some (V.ref sc), some (.ref p), some (.int (0 + (i : Int))), some (.ref kd), some (.ref td), some v, some (.ref g), y7, some (.ref h), some (.ref bk), x10, x11, x12, x13, none] ∧ St7 K p c kd mk ks td mt ts v d (1000 * i + 620) Hh ∧ BookW K CB CT Hh bk m1 m2 ls us' (nf 4 d) ∧ OfB CB bk td Hh) ?_ ?_
        · intro NX rr
          refine ⟨_, rfl, .inr (.inr (.inl ⟨rfl, .inl ⟨_, hg4⟩⟩)), g, _, rfl, rfl, hg4, rr _ _ ⟨rfl, ?_, bw4.off hg4 ofg4, ofd4.off bw4 hg4⟩⟩
          have kS := KeepS.dict (v := .dK []) hg4
          refine ⟨pen_two st4.pen (fun o z => by rw [upd_ne (Ne.symm gp)]; exact z) (fun o z => ?_) (Nat.le_refl _), by rw [upd_ne (Ne.symm gk)]; exact st4.hk, st4.kA.keep kS, by rw [upd_ne (Ne.symm gt)]; exact st4.ht, st4.tA.keep kS.u, st4.pl.keep kS.t, st4.kp, st4.tp⟩
          obtain ⟨_, xc, hc2⟩ := pen_has st4.pen
          rw [upd_ne (fun e => by rw [e, hg4] at hc2; cases hc2)]
          exact z
        rintro σ Hh ⟨rfl, st5, bw5, of5⟩
        clear st4 bw4 hg4 ofg4 ofd4 bw sef bde hge tAe tA hg
        have eA : ∀ {zs : List Str}, zs.Perm (ts.map (·.1)) → sortedS zs = true → zs = us'.map (·.1) := fun pm so => sorted_same (pm.trans mdt.1.symm) so mdt.2.1
        have pus : us'.Perm ts := made_pm ndt mdt
        have hms : (tD mt).map (·.1) = (ts.map (·.1)).map Sum.inr := by
          rw [← st5.tA.keys]
          show (mt.map _).map _ = _
          rw [List.map_map, List.map_map]
          rfl
        have hks : (tD mk).map (·.1) = (ks.map (·.1)).map Sum.inr := by
          rw [← st5.kA.keys]
          show (mk.map _).map _ = _
          rw [List.map_map, List.map_map]
          rfl
        -- what is due: kinds and names
        refine seq_cutS (fun σ Hi => ∃ (L kdd nt : Addr) (mm : List (Str × V)), σ = [some (V.ref sc), some (.ref p), some (.int (0 + (i : Int))), some (.ref kd), some (.ref td), some v, some (.ref g), y7, some (.ref h), some (.ref bk), some (.ref L), x11, x12, x13, none] ∧ Same Hh Hi ∧ Hi L = some (.lst [.ref kdd, .ref nt]) ∧ Hi kdd = some (.dK (tD mm)) ∧ KT Hi mm ls ∧ Hi nt = some (.tup ((us'.map (·.1)).map V.str))) ?_ ?_
        · intro NX rr
          refine ⟨_, rfl, kd, _, ks.map (·.1), rfl, .inl st5.hk, hks, by rw [List.length_map]; omega, fun zs Lz pz so nL => ?_⟩
          have s0 : Same Hh (upd Hh Lz (.lst (zs.map V.str))) := Same.new nL
          have g0 : (upd Hh Lz (.lst (zs.map V.str))) Lz = some (.lst (zs.map V.str)) := upd_same
          generalize upd Hh Lz (.lst (zs.map V.str)) = Ha at s0 g0 ⊢
          have ndz : zs.Nodup := pz.nodup_iff.mpr ndk
          have lz := pz.length_eq
          rw [List.length_map] at lz
          have sta := st5.same s0
          refine ⟨Lz, rfl, ⟨_, SqL.of g0⟩, fun D nD => ?_⟩
          refine lc_it (walk_list (K := K) (a := Lz) (xs := zs.map V.str)) (fun j Hx => PrD K Ha D (zs.take j) (RtK ks) Hx) (prD_nil nD) (fun _ Hx _ ⟨_, _, z, _⟩ => SqL.of (z _ _ g0)) ?_ ?_
          · rintro j x Hx Hy hj pr ⟨rfl, gx⟩
            obtain ⟨y, gy, rfl, my⟩ := at_strs gx
            rw [List.length_map] at hj
            obtain ⟨_, _, sb, _⟩ := id pr
            have stx := sta.same sb
            obtain ⟨l1, ws, lk, pt, mem⟩ := stx.kA.find ndk (pz.mem_iff.mp my)
            refine ⟨rfl, ?_⟩
            refine yes_of ?_
            have w3 : ws.length ≤ 3 := (kB.w _ mem).2.2.2
            refine ⟨_, rfl, _, rfl, _, rfl, kd, .ref l1, rfl, dget_some stx.hk lk, l1, ws, rfl, .inl (SqL.of pt), by omega, fun z2 q2 pm2 so2 nq2 => ?_⟩
            refine ⟨q2, _, rfl, .inl ⟨SqL.of upd_same, fun t2 nt2 => ⟨(show 2 ≤ sizeLine by decide), fun t nt => ?_⟩⟩⟩
            rw [take_snoc gy]
            exact pair_step mon_RK nD pr (by rw [List.length_take]; omega) ((Same.new nq2).trans (Same.new nt2)) ⟨t2, z2, rfl, upd_same, so2, ws, mem, pm2⟩ nt
          · rintro Hz pr
            rw [List.length_map, List.take_length] at pr
            obtain ⟨ps, mm, sz, hD, pp, me, mkk, tk⟩ := pair_end pr ndz
            refine ⟨D, ps, tD mm, rfl, SqL.of hD, pp, fun kdd nkdd => ?_⟩
            rw [me]
            obtain ⟨ls2, kt2, as2⟩ := ascK_due mkk pz so tk
            obtain rfl := AscK.uniq ndk as2 ascl
            have s1 : Same Hz (upd Hz kdd (.dK (tD mm))) := Same.new nkdd
            have g1 : (upd Hz kdd (.dK (tD mm))) kdd = some (.dK (tD mm)) := upd_same
            generalize upd Hz kdd (.dK (tD mm)) = Hb at s1 g1 ⊢
            have stb := (sta.same sz).same s1
            refine ⟨_, rfl, td, _, ts.map (·.1), rfl, .inl stb.ht, hms, by rw [List.length_map]; omega, fun ws q3 pw sow nq3 => ?_⟩
            refine ⟨q3, _, rfl, .inl ⟨SqL.of upd_same, fun nt nnt => ?_⟩⟩
            have s2 : Same Hb (upd (upd Hb q3 (.lst (ws.map V.str))) nt (.tup (ws.map V.str))) := (Same.new nq3).trans (Same.new nnt)
            have g2 : (upd (upd Hb q3 (.lst (ws.map V.str))) nt (.tup (ws.map V.str))) nt = some (.tup (ws.map V.str)) := upd_same
            rw [eA pw sow] at s2 g2 ⊢
            generalize upd (upd Hb q3 (.lst ((us'.map (·.1)).map V.str))) nt (.tup ((us'.map (·.1)).map V.str)) = Hd at s2 g2 ⊢
            refine ⟨(show 2 ≤ sizeLine by decide), fun L nL => gName_go ?_⟩
            have s3 : Same Hd (upd Hd L (.lst [.ref kdd, .ref nt])) := Same.new nL
            have s23 := s2.trans s3
            exact rr _ _ ⟨L, kdd, nt, mm, rfl, s0.trans (sz.trans (s1.trans s23)), upd_same, s23 _ _ g1, kt2.same (s1.trans s23), s3 _ _ g2⟩
        rintro σ Hi ⟨L, kdd, nt, mm, rfl, si, hL2, hkdd, ktm, hnt⟩
        have st6 := st5.same si
        have bw6 := bw5.same si
        have of6 := of5.same bw5 si
        clear st5 bw5 si of5
        -- what is due: the rest
        refine seq_cutS (fun σ Hj => ∃ (L tr : Addr) (x : V) (ys : List Str), σ = [some (V.ref sc), some (.ref p), some (.int (0 + (i : Int))), some (.ref kd), some (.ref td), some v, some (.ref g), y7, some (.ref h), some (.ref bk), some (.ref L), x11, x12, x13, none] ∧ Same Hi Hj ∧ Hj L = some (.lst [.ref kdd, .ref nt, .ref tr, .int (wdF ts ys), x]) ∧ Hj tr = some (.tup (ys.map V.str)) ∧ Rem ts ys ∧ Pl K Hj x (nf 4 d)) ?_ ?_
        · intro NX rr
          have few := tasB_few tB (List.Perm.refl ts)
          refine ⟨_, rfl, _, rfl, td, mt, ts, rfl, st6.ht, st6.tA, ndt, few, fun tr ys Ha rem sa hta => ?_⟩
          have sta := st6.same sa
          refine ⟨_, rfl, td, mt, ts, rfl, sta.ht, sta.tA, ⟨ndt, by omega, fun q hq => (tB.w q hq).2.1.n1⟩, few, fun ys2 Hb rem2 sb => ?_⟩
          obtain rfl := rem.same rem2 fun _ => Iff.rfl
          have stb := sta.same sb
          refine ⟨_, rfl, v, d, rfl, stb.pl, pB.sh, by decide, (by have := pB.w; omega), fun x Hd sd hx => ⟨(show 3 ≤ sizeLine by decide), fun l nl => ?_⟩⟩
          have s3 : Same Hd (upd Hd l (.lst [.ref tr, .int (wdF ts ys), x])) := Same.new nl
          have g3 : (upd Hd l (.lst [.ref tr, .int (wdF ts ys), x])) l = some (.lst [.ref tr, .int (wdF ts ys), x]) := upd_same
          generalize upd Hd l (.lst [.ref tr, .int (wdF ts ys), x]) = He2 at s3 g3 ⊢
          have sbd := sb.trans (sd.trans s3)
          refine ⟨L, l, _, _, rfl, rfl, (sa.trans sbd) _ _ hL2, g3, (show 5 ≤ sizeLine by decide), fun L3 nL3 => gName_go ?_⟩
          have s4 : Same He2 (upd He2 L3 (.lst ([.ref kdd, .ref nt] ++ [.ref tr, .int (wdF ts ys), x]))) := Same.new nL3
          exact rr _ _ ⟨L3, tr, x, ys, rfl, sa.trans (sbd.trans s4), upd_same, (sbd.trans s4) _ _ hta, rem, hx.same (s3.trans s4)⟩
        rintro σ Hj ⟨L3, tr, x, ys, rfl, sj, hL3, htr, rem, hx⟩
        have st7 := st6.same sj
        have bw7 := bw6.same sj
        have of7 := of6.same bw6 sj
        have hkdd7 := sj _ _ hkdd
        have ktm7 := ktm.same sj
        have hnt7 := sj _ _ hnt
        clear st6 bw6 of6 sj hL2 hkdd ktm hnt
        have rpD := due_rp kin tB pB rem (fun y hy => wt y ((pus.map _).mem_iff.mp hy)) (by rw [List.length_map, pus.length_eq]; omega : (us'.map (·.1)).length ≤ 8)
        -- the kinds are told
        refine seq_cutS (fun σ Hk => ∃ (q : Addr), σ = [some (V.ref sc), some (.ref p), some (.int (0 + (i : Int))), some (.ref kd), some (.ref td), some v, some (.ref g), y7, some (.ref h), some (.ref bk), some (.ref L3), some (.ref q), x12, x13, none] ∧ Same Hj Hk ∧ Hk q = some (.dK (tD m1)) ∧ Hj q = none) ?_ ?_
        · intro NX rr
          obtain ⟨dx, k1, t1, pv1, ha, hk1, kt1, ht1, ta1, hp1⟩ := id bw7
          refine ⟨_, rfl, bk, dx, _, rfl, ha, bk, m1, m2, ls, us', _, rfl, bw7, fun q nq => gName_go (rr _ _ ⟨q, rfl, Same.new nq, upd_same, nq⟩)⟩
        rintro σ Hk ⟨q, rfl, sk, hq, nq⟩
        have st8 := st7.same sk
        have bw8 := bw7.same sk
        obtain ⟨dx, k1, t1, pv1, ha8, hk1, kt1, ht1, ta1, hp1⟩ := id bw8
        -- all of them are told
        refine seq_cutS (fun σ Hl => σ = [some (V.ref sc), some (.ref p), some (.int (0 + (i : Int))), some (.ref kd), some (.ref td), some v, some (.ref g), y7, some (.ref h), some (.ref bk), some (.ref L3), some (.ref q), x12, x13, none] ∧ Same Hk Hl) ?_ ?_
        · intro NX rr
          refine ⟨_, rfl, _, rfl, bk, dx, _, rfl, ha8, bk, m1, m2, ls, us', _, rfl, bw8, fun q1 nq1 => ?_⟩
          have s1 : Same Hk (upd Hk q1 (.tup ((us'.map (·.1)).map V.str))) := Same.new nq1
          have g1 : (upd Hk q1 (.tup ((us'.map (·.1)).map V.str))) q1 = some (.tup ((us'.map (·.1)).map V.str)) := upd_same
          generalize upd Hk q1 (.tup ((us'.map (·.1)).map V.str)) = Ha at s1 g1 ⊢
          refine ⟨_, rfl, bk, dx, _, rfl, s1 _ _ ha8, bk, m1, m2, ls, us', _, rfl, bw8.same s1, rb.few, fun q2 y2 Hb rem2 s2 g2 => ?_⟩
          obtain rfl := rem.same rem2 fun y => (permT_mem pus).symm
          have s12 := s1.trans s2
          refine ⟨_, rfl, bk, dx, _, rfl, s12 _ _ ha8, bk, m1, m2, ls, us', _, rfl, bw8.same s12, rb.tas, rb.few, fun y3 Hd rem3 s3 => ?_⟩
          obtain rfl := rem.same rem3 fun y => (permT_mem pus).symm
          rw [wdF_perm pus]
          have s13 := s12.trans s3
          refine ⟨_, rfl, bk, dx, _, rfl, s13 _ _ ha8, bk, dx, _, _, rfl, s13 _ _ ha8, rfl, (show 5 ≤ sizeLine by decide), fun l nl => ?_⟩
          have s4 : Same Hd (upd Hd l (.lst [.ref q, .ref q1, .ref q2, .int (wdF ts ys), pv1])) := Same.new nl
          have g4 : (upd Hd l (.lst [.ref q, .ref q1, .ref q2, .int (wdF ts ys), pv1])) l = some (.lst [.ref q, .ref q1, .ref q2, .int (wdF ts ys), pv1]) := upd_same
          generalize upd Hd l (.lst [.ref q, .ref q1, .ref q2, .int (wdF ts ys), pv1]) = He2 at s4 g4 ⊢
          have s14 := s13.trans s4
          have s24 := s2.trans (s3.trans s4)
          refine ⟨_, dueD7 ls (us'.map (·.1)) ys (wdF ts ys) (nf 4 d), rfl, .lst g4 (.cons (dw_KT (s14 _ _ hq) (kt1.same s14)) (.cons (dw_L (s24 _ _ g1)) (.cons (dw_L ((s3.trans s4) _ _ g2)) (.cons (.int _) (.cons (hp1.same s14).db.dw .nil))))), rpD, ?_⟩
          have sk4 := sk.trans s14
          have dwL : Dw K He2 (.ref L3) (dueD7 ls (us'.map (·.1)) ys (wdF ts ys) (nf 4 d)) := .lst (sk4 _ _ hL3) (.cons (dw_KT (sk4 _ _ hkdd7) (ktm7.same sk4)) (.cons (dw_L (sk4 _ _ hnt7)) (.cons (dw_L (sk4 _ _ htr)) (.cons (.int _) (.cons (hx.same sk4).db.dw .nil)))))
          generalize efo : (dueD7 ls (us'.map (·.1)) ys (wdF ts ys) (nf 4 d)).shown = fo
          refine ⟨_, rfl, _, _, rfl, dwL, rpD, ?_⟩
          rw [efo]
          exact ⟨rfl, false, neS, iteF (rr _ _ ⟨rfl, s14⟩)⟩
        rintro σ Hl ⟨rfl, sl⟩
        have st9 := st8.same sl
        have bw9 := bw8.same sl
        have sjl := sk.trans sl
        have hq9 := sl _ _ hq
        have hL9 := sjl _ _ hL3
        have hkdd9 := sjl _ _ hkdd7
        have ktm9 := ktm7.same sjl
        have ofq : OfB CB bk q Hl := OfB.new bw7 sjl nq
        have of9 := of7.same bw7 sjl
        have qp : q ≠ p := (pen_apart st7.pen (Same.refl _) nq).1
        have qk : q ≠ kd := fun e => by rw [e, st7.hk] at nq; cases nq
        have qt : q ≠ td := fun e => by rw [e, st7.ht] at nq; cases nq
        have qd : kdd ≠ q := fun e => by rw [← e, hkdd7] at nq; cases nq
        clear st7 st8 bw7 of7 bw8 ha8 hk1 kt1 ht1 ta1 hp1 hkdd7 ktm7 hnt7 hL3 htr hq sk sl
        -- how many
        refine seq_cutS (fun σ Hm => σ = [some (V.ref sc), some (.ref p), some (.int (0 + (i : Int))), some (.ref kd), some (.ref td), some v, some (.ref g), y7, some (.ref h), some (.ref bk), some (.ref L3), some (.ref q), x12, x13, none] ∧ Hm = Hl) ?_ ?_
        · intro NX rr
          obtain ⟨dx, k1, t1, pv1, ha9, _⟩ := id bw9
          have e : ((us'.length : Nat) : Int) = (((tD mt).length : Nat) : Int) := by rw [tD_len, st9.tA.len, pus.length_eq]
          refine ⟨_, rfl, bk, dx, _, rfl, ha9, bk, m1, m2, ls, us', _, rfl, bw9, _, rfl, by omega, by rw [pus.length_eq]; omega, ?_⟩
          refine ⟨_, rfl, td, _, rfl, st9.ht, rfl, false, ?_, iteF (rr _ _ ⟨rfl, rfl⟩)⟩
          rw [e, decide_eq_true rfl]
          rfl
        rintro σ Hm ⟨rfl, rfl⟩
        -- what was told is changed
        refine seq_cutS (fun σ Hn => σ = [some (V.ref sc), some (.ref p), some (.int (0 + (i : Int))), some (.ref kd), some (.ref td), some v, some (.ref g), y7, some (.ref h), some (.ref bk), some (.ref L3), some (.ref q), x12, x13, none] ∧ St7 K p c kd mk ks td mt ts v d (1000 * i + 620) Hn ∧ BookW K CB CT Hn bk m1 m2 ls us' (nf 4 d) ∧ Hn L3 = some (.lst [.ref kdd, .ref nt, .ref tr, .int (wdF ts ys), x]) ∧ Hn kdd = some (.dK (tD mm)) ∧ KT Hn mm ls ∧ OfB CB bk td Hn) ?_ ?_
        · intro NX rr
          have lm1 : m1.length = ls.length := by
            obtain ⟨_, _, _, _, _, _, kt, _⟩ := id bw9
            exact kt.len
          have := kin.l3
          refine ⟨(show 0 ≤ sizeLine by decide), fun t nt' => ?_⟩
          have s1 : Same Hm (upd Hm t (.tup [])) := Same.new nt'
          have hq1 := s1 _ _ hq9
          have stq := st9.same s1
          have bwq := bw9.same s1
          have ofq' := ofq.same bw9 s1
          have ofdq := of9.same bw9 s1
          have hL10 := s1 _ _ hL9
          have hkdd10 := s1 _ _ hkdd9
          have ktm10 := ktm9.same s1
          generalize upd Hm t (.tup []) = Ha at s1 hq1 stq bwq ofq' ofdq hL10 hkdd10 ktm10 ⊢
          have key : ∀ o, St7 K p c kd mk ks td mt ts v d (1000 * i + 620) (upd Ha q o) := fun o => by
            have kS := KeepS.dict (v := o) hq1
            refine ⟨pen_two stq.pen (fun o' z => by rw [upd_ne (Ne.symm qp)]; exact z) (fun o' z => ?_) (Nat.le_refl _), by rw [upd_ne (Ne.symm qk)]; exact stq.hk, stq.kA.keep kS, by rw [upd_ne (Ne.symm qt)]; exact stq.ht, stq.tA.keep kS.u, stq.pl.keep kS.t, stq.kp, stq.tp⟩
            obtain ⟨_, xc, hc2⟩ := pen_has stq.pen
            rw [upd_ne (fun e => by rw [e, hq1] at hc2; cases hc2)]
            exact z
          refine ⟨_, rfl, q, _, rfl, DPut.k (k := .inr _) hq1 (by rw [tD_len, ssz]; omega), rr _ _ ⟨rfl, key _, bwq.off hq1 ofq', ?_, ?_, ?_, ofdq.off bwq hq1⟩⟩
          · have kS := KeepS.dict (v := .dK (putK (tD m1) (.inr (Str.ofString "zzzzzzzz")) (.ref t))) hq1
            exact kS _ _ (fun _ z => nomatch z) hL10
          · rw [upd_ne qd]
            exact hkdd10
          · have kS := KeepS.dict (v := .dK (putK (tD m1) (.inr (Str.ofString "zzzzzzzz")) (.ref t))) hq1
            exact ktm10.keep (fun t xs z => kS _ _ (fun _ z => nomatch z) z)
        rintro σ Hn ⟨rfl, st10, bw10, hL10, hkdd10, ktm10, of10⟩
        clear st9 bw9 hq9 hL9 hkdd9 ktm9 ofq of9 sjl
        have rpK := (kin_rp kin).2
        -- it has changed nothing
        refine seq_cutS (fun σ Ho => σ = [some (V.ref sc), some (.ref p), some (.int (0 + (i : Int))), some (.ref kd), some (.ref td), some v, some (.ref g), y7, some (.ref h), some (.ref bk), some (.ref L3), some (.ref q), x12, x13, none] ∧ Same Hn Ho) ?_ ?_
        · intro NX rr
          obtain ⟨dx, k1, t1, pv1, ha, hk1, kt1, ht1, ta1, hp1⟩ := id bw10
          refine ⟨_, rfl, bk, dx, _, rfl, ha, bk, m1, m2, ls, us', _, rfl, bw10, fun q1 nq1 => ?_⟩
          have s1 : Same Hn (upd Hn q1 (.dK (tD m1))) := Same.new nq1
          have g1 : (upd Hn q1 (.dK (tD m1))) q1 = some (.dK (tD m1)) := upd_same
          generalize upd Hn q1 (.dK (tD m1)) = Ha at s1 g1 ⊢
          refine ⟨_, kD ls, rfl, dw_KT g1 (kt1.same s1), rpK, ?_⟩
          generalize efo : (kD ls).shown = fo
          refine ⟨_, rfl, L3, _, 0, _, rfl, rfl, SqL.of (s1 _ _ hL10), atI_nat rfl, .ref kdd, kD ls, rfl, dw_KT (s1 _ _ hkdd10) (ktm10.same s1), rpK, ?_⟩
          rw [efo]
          refine ⟨rfl, false, neS, iteF ?_⟩
          refine ⟨_, rfl, _, rfl, bk, dx, _, rfl, s1 _ _ ha, rfl, bk, m1, m2, ls, us', _, rfl, bw10.same s1, rb, fun b n1 n2 Hb s2 nb bwb => ?_⟩
          have s12 := s1.trans s2
          obtain ⟨dy, _, _, _, hb, _⟩ := id bwb
          refine ⟨bk, dx, _, rfl, s12 _ _ ha, .inl ⟨b, dy, _, rfl, hb⟩, bk, .ref b, m1, m2, ls, us', _, 4, rfl, bw10.same s12, rb, .inl ⟨b, n1, n2, rfl, bwb, fun Hd s3 => ⟨true, rfl, false, rfl, iteF ?_⟩⟩⟩
          have s13 := s12.trans s3
          exact ⟨_, rfl, _, rfl, bk, dx, _, rfl, s13 _ _ ha, .inr ⟨L3, _, rfl, s13 _ _ hL10, nfl⟩, bk, .ref L3, m1, m2, ls, us', _, 4, rfl, bw10.same s13, rb, .inr ⟨_, ty_l (SqL.of (s13 _ _ hL10)), kl, false, rfl, iteF (rr _ _ ⟨rfl, s13⟩)⟩⟩
        rintro σ Ho ⟨rfl, so⟩
        have st11 := st10.same so
        have bw11 := bw10.same so
        have of11 := of10.same bw10 so
        clear st10 bw10 of10 hL10 hkdd10 ktm10 so
        -- the items
        have okT : ∀ T ∈ us'.map (·.2), OkT T := fun T hT => by
          obtain ⟨z, hz, rfl⟩ := List.mem_map.mp hT
          exact (rb.tas.2.2 z hz).2
        have tk2 : ∀ {j : Nat} {z : Str × TSk}, us'[j]? = some z → (us'.take (j + 1)).map (·.2) = (us'.take j).map (·.2) ++ [z.2] := fun {j z} h => by
          rw [List.take_add_one, h, List.map_append]
          rfl
        have lus : us'.length ≤ 4 := by rw [pus.length_eq]; omega
        have lz' : ∀ {zs : List Str}, zs = us'.map (·.1) → ∀ {j : Nat} {y : Str}, zs[j]? = some y → ∃ z, us'[j]? = some z ∧ z.1 = y := fun {zs} e {j y} h => by
          rw [e, List.getElem?_map] at h
          cases g : us'[j]? with
          | none => rw [g] at h; cases h
          | some z => rw [g] at h; exact ⟨z, rfl, Option.some.inj h⟩
        refine seq_cutS (fun σ Hp2 => σ = [some (V.ref sc), some (.ref p), some (.int (0 + (i : Int))), some (.ref kd), some (.ref td), some v, some (.ref g), y7, some (.ref h), some (.ref bk), some (.ref L3), some (.ref q), x12, x13, none] ∧ Same Ho Hp2) ?_ ?_
        · intro NX rr
          refine ⟨_, rfl, td, _, ts.map (·.1), rfl, .inl st11.ht, hms, by rw [List.length_map]; omega, fun zs Lz pz so nL => ?_⟩
          have s0 : Same Ho (upd Ho Lz (.lst (zs.map V.str))) := Same.new nL
          have g0 : (upd Ho Lz (.lst (zs.map V.str))) Lz = some (.lst (zs.map V.str)) := upd_same
          generalize upd Ho Lz (.lst (zs.map V.str)) = Ha at s0 g0 ⊢
          have ez := eA pz so
          have lz : zs.length = us'.length := by rw [ez, List.length_map]
          have bwa := bw11.same s0
          refine ⟨Lz, rfl, ⟨_, SqL.of g0⟩, fun D nD => ?_⟩
          refine lc_it (walk_list (K := K) (a := Lz) (xs := zs.map V.str)) (fun j Hx => Same Ha Hx ∧ ∃ xs, Hx D = some (.lst xs) ∧ Pts Hx xs ((us'.take j).map (·.2))) ⟨Same.new nD, [], upd_same, trivial⟩ (fun _ Hx _ z => SqL.of (z.1 _ _ g0)) ?_ ?_
          · rintro j x Hx Hy hj ⟨sx, xs, hD, pts⟩ ⟨rfl, gx⟩
            obtain ⟨y, gy, rfl, my⟩ := at_strs gx
            rw [List.length_map, lz] at hj
            obtain ⟨z, gz, ez1⟩ := lz' ez gy
            have bwx := bwa.same sx
            obtain ⟨dx, k1, t1, pv1, ha, hk1, kt1, ht1, ta1, hp1⟩ := id bwx
            obtain ⟨u, lk, hT⟩ := ta1.find rb.tas.2.1 gz
            rw [ez1] at lk
            refine ⟨rfl, ?_⟩
            refine yes_of ?_
            refine ⟨_, rfl, _, rfl, bk, .str y, m1, m2, ls, us', _, rfl, bwx, .inl ⟨y, u, z.2, rfl, lk, hT, fun t Hz sz pt => ?_⟩⟩
            have hDz := sz _ _ hD
            have kU := KeepU.upd (o := .lst (xs ++ [.ref t])) hDz
            refine ⟨xs, hDz, by rw [pts.len, List.length_map, List.length_take, ssz]; omega, same_off (sx.trans sz) nD, xs ++ [.ref t], upd_same, ?_⟩
            rw [tk2 gz]
            exact ((pts.keep (KeepU.same sz)).snoc pt).keep kU
          · rintro Hz ⟨sz, xs, hD, pts⟩
            rw [List.length_map, lz, List.take_length] at pts
            have s1 := s0.trans sz
            have stz := st11.same s1
            refine ⟨_, rfl, td, _, ts.map (·.1), rfl, .inl stz.ht, hms, by rw [List.length_map]; omega, fun zs2 Lz2 pz2 so2 nL2 => ?_⟩
            have s2 : Same Hz (upd Hz Lz2 (.lst (zs2.map V.str))) := Same.new nL2
            have g2 : (upd Hz Lz2 (.lst (zs2.map V.str))) Lz2 = some (.lst (zs2.map V.str)) := upd_same
            generalize upd Hz Lz2 (.lst (zs2.map V.str)) = Hb at s2 g2 ⊢
            have ez2 := eA pz2 so2
            have lz2 : zs2.length = us'.length := by rw [ez2, List.length_map]
            have stb := stz.same s2
            refine ⟨Lz2, rfl, ⟨_, SqL.of g2⟩, fun D2 nD2 => ?_⟩
            refine lc_it (walk_list (K := K) (a := Lz2) (xs := zs2.map V.str)) (fun j Hx => Same Hb Hx ∧ ∃ xs, Hx D2 = some (.lst xs) ∧ Pts Hx xs ((us'.take j).map (·.2))) ⟨Same.new nD2, [], upd_same, trivial⟩ (fun _ Hx _ z => SqL.of (z.1 _ _ g2)) ?_ ?_
            · rintro j x Hx Hy hj ⟨sx, xs', hD2, pts2⟩ ⟨rfl, gx⟩
              obtain ⟨y, gy, rfl, my⟩ := at_strs gx
              rw [List.length_map, lz2] at hj
              obtain ⟨z, gz, ez1⟩ := lz' ez2 gy
              have stx := stb.same sx
              obtain ⟨tt, T', lk, pt, mem⟩ := stx.tA.find ndt (pz2.mem_iff.mp my)
              have eT : T' = z.2 := pair_one ndt mem (by rw [← ez1]; exact mdt.2.2 z (List.mem_of_getElem? gz))
              subst eT
              refine ⟨rfl, ?_⟩
              refine yes_of ?_
              have kU := KeepU.upd (o := .lst (xs' ++ [.ref tt])) hD2
              refine ⟨_, rfl, _, rfl, td, .ref tt, rfl, dget_some stx.ht lk, xs', hD2, by rw [pts2.len, List.length_map, List.length_take, ssz]; omega, same_off sx nD2, xs' ++ [.ref tt], upd_same, ?_⟩
              rw [tk2 gz]
              exact (pts2.snoc pt).keep kU
            · rintro Hw ⟨sw, xs', hD2, pts2⟩
              rw [List.length_map, lz2, List.take_length] at pts2
              have s2w := s2.trans sw
              refine ⟨.list ((us'.map (·.2)).map dT), .list ((us'.map (·.2)).map dT), .lst (SqL.of (s2w _ _ hD)) (pts_dp (pts.keep (KeepU.same s2w))), .lst (SqL.of hD2) (pts_dp pts2), shaped_tasks okT, shaped_tasks okT, false, ?_, iteF (rr _ _ ⟨rfl, s1.trans s2w⟩)⟩
              rw [SeqAt.eqv_refl _ (SeqAt.canLay_of_shaped (shaped_tasks okT))]
              rfl
        rintro σ Hp2 ⟨rfl, so⟩
        have st12 := st11.same so
        have bw12 := bw11.same so
        have of12 := of11.same bw11 so
        clear st11 bw11 of11 so
        -- a value of any kind
        refine seq_cutS (fun σ Hq => ∃ (y : V) (e : PyData), σ = [some (V.ref sc), some (.ref p), some (.int (0 + (i : Int))), some (.ref kd), some (.ref td), some v, some (.ref g), y7, some (.ref h), some (.ref bk), some (.ref L3), some (.ref q), some y, x13, none] ∧ St7 K p c kd mk ks td mt ts v d (1000 * i + 630) Hq ∧ BookW K CB CT Hq bk m1 m2 ls us' (nf 4 d) ∧ e ∈ odds ∧ DA (fun a => a = p) Hq y e ∧ OfB CB bk td Hq) ?_ ?_
        · intro NX rr
          obtain ⟨⟨kvp, hp2⟩, _⟩ := pen_has st12.pen
          refine ⟨_, rfl, (fun a => a = p), p, c, _, rfl, rfl, (fun a e z => by rw [e, hp2] at z; cases z), st12.pen, by omega, fun e y Hq me da Pq bq => gName_go (rr _ _ ⟨y, e, rfl, ?_, ?_, me, da, of12.pen bw12 st12.pen bq⟩)⟩
          · exact (st12.but bq Pq).but (But.of (Same.refl _)) (Pq.same (Same.refl _) (by omega))
          · exact bw12.but st12.pen bq
        rintro σ Hq ⟨y, e, rfl, st13, bw13, me, dae, ofd⟩
        clear st12 bw12 of12
        have oke := odds_ok e me
        have rpe : Rp e := okD_repr oke
        have askH : ∀ {H : Hp}, DA (fun a => a = p) H y e → AskN K H y (us'.map (·.1)) (inD (us'.map (·.1)) e) := fun h => askN_of _ h
        have ein : inD (us'.map (·.1)) e = inD (ts.map (·.1)) e := inD_perm (pus.map _) e
        generalize eb : inD (us'.map (·.1)) e = b at askH ein
        -- is it in?
        refine seq_cutS (fun σ Hr => σ = [some (V.ref sc), some (.ref p), some (.int (0 + (i : Int))), some (.ref kd), some (.ref td), some v, some (.ref g), y7, some (.ref h), some (.ref bk), some (.ref L3), some (.ref q), some y, some (.bl b), none] ∧ Hr = Hq) ?_ ?_
        · intro NX rr
          have ty := (IsD.of dae).ty (K := K)
          have kt := kit_str K e
          refine ⟨_, rfl, _, _, _, _, isStr e, rfl, .ty _, ty, kt, isStr e, rfl, ?_⟩
          cases dae with
          | str z =>
            refine iteT ⟨_, rfl, _, rfl, td, _, rfl, DGet.k (k := Sum.inr z) st13.ht, gName_go ?_⟩
            have e2 : (valV (tD mt) (Sum.inr z)).isSome = b := by rw [valV_in, st13.tA.keys, ein]; rfl
            rw [e2]
            exact rr _ _ ⟨rfl, rfl⟩
          | non => exact iteF (gName_go (by rw [show false = b from ein.symm]; exact rr _ _ ⟨rfl, rfl⟩))
          | bl _ => exact iteF (gName_go (by rw [show false = b from ein.symm]; exact rr _ _ ⟨rfl, rfl⟩))
          | int _ => exact iteF (gName_go (by rw [show false = b from ein.symm]; exact rr _ _ ⟨rfl, rfl⟩))
          | lst _ _ _ _ => exact iteF (gName_go (by rw [show false = b from ein.symm]; exact rr _ _ ⟨rfl, rfl⟩))
          | tup _ _ _ => exact iteF (gName_go (by rw [show false = b from ein.symm]; exact rr _ _ ⟨rfl, rfl⟩))
          | dK _ _ _ => exact iteF (gName_go (by rw [show false = b from ein.symm]; exact rr _ _ ⟨rfl, rfl⟩))
        rintro σ Hr ⟨rfl, rfl⟩
        -- in the book
        refine seq_cutS (fun σ Hs => σ = [some (V.ref sc), some (.ref p), some (.int (0 + (i : Int))), some (.ref kd), some (.ref td), some v, some (.ref g), y7, some (.ref h), some (.ref bk), some (.ref L3), some (.ref q), some y, some (.bl b), none] ∧ Same Hr Hs) ?_ ?_
        · intro NX rr
          obtain ⟨dx, k1, t1, pv1, ha, hk1, kt1, ht1, ta1, hp1⟩ := id bw13
          refine ⟨_, rfl, _, rfl, bk, dx, _, rfl, ha, bk, y, m1, m2, ls, us', _, b, rfl, bw13, askH dae, b, rfl, ?_⟩
          refine ⟨_, .bool b, rfl, .bl b, bool_rp b, ?_⟩
          refine ⟨_, rfl, _, .bool b, rfl, .bl b, bool_rp b, rfl, false, neS, iteF ?_⟩
          refine ⟨td, .dK (tD mt), st13.ht, trivial, fun od => ?_⟩
          have fz : (upd Hr td (.frz od (.dK (tD mt)))) td = some (.frz od (.dK (tD mt))) := upd_same
          have back : ∀ {Hi : Hp}, Same (upd Hr td (.frz od (.dK (tD mt)))) Hi → Same Hr (upd Hi td (.dK (tD mt))) := fun {Hi} z b o q => by
            by_cases e : b = td
            · rw [e] at q ⊢
              rw [upd_same, ← q, st13.ht]
            · rw [upd_ne e]
              exact z b o (by rw [upd_ne e]; exact q)
          have bwf : BookW K CB CT (upd Hr td (.frz od (.dK (tD mt)))) bk m1 m2 ls us' (nf 4 d) := bw13.off st13.ht ofd
          generalize upd Hr td (.frz od (.dK (tD mt))) = HF at fz back bwf ⊢
          refine ⟨_, rfl, td, od, rfl, .inl ⟨tD mt, fz, fun D nD => ?_⟩⟩
          refine lc_it walk_keys (fun j Hi => Same HF Hi ∧ Hi D = some (.lst [])) ⟨Same.new nD, upd_same⟩ (fun _ _ _ z => z.1 _ _ fz) ?_ ?_
          · rintro j x Hi Hj hj ⟨s2, e2⟩ ⟨rfl, kx, vx, gx, rfl⟩
            obtain ⟨q0, gq, rfl, rfl⟩ := tD_at gx
            have mem : q0.1 ∈ us'.map (·.1) := (pus.map _).mem_iff.mpr (by rw [← st13.tA.keys]; exact List.mem_map.mpr ⟨q0, List.mem_of_getElem? gq, rfl⟩)
            have bwx := bwf.same s2
            obtain ⟨dx2, _, _, _, ha2, _⟩ := id bwx
            refine ⟨rfl, ?_⟩
            exact ⟨_, rfl, _, rfl, bk, dx2, _, rfl, ha2, bk, _, m1, m2, ls, us', _, true, rfl, bwx, .inl ⟨q0.1, rfl, (decide_eq_true mem).symm⟩, true, rfl, false, rfl, iteF ⟨s2, e2⟩⟩
          · rintro Hi ⟨s2, e2⟩
            have fi := s2 _ _ fz
            have Dtd : D ≠ td := fun e => by rw [e, fi] at e2; cases e2
            have sb := back s2
            have e3 : (upd Hi td (.dK (tD mt))) D = some (.lst []) := by rw [upd_ne Dtd]; exact e2
            refine ⟨fi, ?_⟩
            generalize upd Hi td (.dK (tD mt)) = Hb at sb e3 ⊢
            refine ⟨(show 0 ≤ sizeLine by decide), fun l nl => ?_⟩
            have s3 : Same Hb (upd Hb l (.lst [])) := Same.new nl
            exact ⟨D, l, [], rfl, rfl, SqL.of (s3 _ _ e3), SqL.of upd_same, false, rfl, iteF (rr _ _ ⟨rfl, sb.trans s3⟩)⟩
        rintro σ Hs ⟨rfl, ss⟩
        have st14 := st13.same ss
        have bw14 := bw13.same ss
        have da14 := dae.same ss
        clear st13 bw13 dae ss ofd
        -- the value of the error
        refine seq_cutS (fun σ Ht => σ = [some (V.ref sc), some (.ref p), some (.int (0 + (i : Int))), some (.ref kd), some (.ref td), some v, some (.ref g), y7, some (.ref h), some (.ref bk), some (.ref L3), some (.ref q), some y, some (.bl b), none] ∧ Same Hs Ht) ?_ ?_
        · intro NX rr
          refine ⟨_, rfl, b, rfl, ?_⟩
          cases b with
          | true => exact iteF (rr _ _ ⟨rfl, Same.refl _⟩)
          | false =>
            refine iteT ?_
            have esh := okD_lay oke
            refine ⟨_, rfl, _, rfl, bk, y, m1, m2, ls, us', _, rfl, bw14, .inr ⟨askH da14, e, DA.dw da14, rpe, fun t Ha sa hta => ?_⟩⟩
            refine ⟨_, rfl, _, e, rfl, DA.dw (da14.same sa), rpe, (show 3 ≤ sizeLine by decide), fun t2 nt2 => ?_⟩
            generalize e.shown = sh at esh hta nt2 ⊢
            have s2 : Same Ha (upd Ha t2 (.tup [.str (Str.ofString "unknown"), .str sh, .bl true])) := Same.new nt2
            have shp : SeqAt.shaped (.tuple [.str "unknown", .str sh, .bool true]) = true := by
              have c : PyData.canLay0 (.tuple [.str "unknown", .str sh, .bool true]) = true := by
                show PyData.canLayAll0 [.str "unknown", .str sh, .bool true] = true
                refine lay_all fun d hd => ?_
                rcases List.mem_cons.mp hd with rfl | hd
                · exact (by decide +kernel : PyData.canLay0 (.str "unknown") = true)
                rcases List.mem_cons.mp hd with rfl | hd
                · exact esh
                · rw [List.mem_singleton.mp hd]; rfl
              unfold SeqAt.shaped
              rw [c]
              rfl
            refine ⟨.tuple [.str "unknown", .str sh, .bool true], .tuple [.str "unknown", .str sh, .bool true], .tup (SqT.of (s2 _ _ hta)) (.cons (.str _) (.cons (.str _) (.cons (.bl _) .nil))), .tup (SqT.of upd_same) (.cons (.str _) (.cons (.str _) (.cons (.bl _) .nil))), shp, shp, false, ?_, iteF (rr _ _ ⟨rfl, sa.trans s2⟩)⟩
            rw [SeqAt.eqv_refl _ (SeqAt.canLay_of_shaped shp)]
            rfl
        rintro σ Ht ⟨rfl, ss⟩
        have st15 := st14.same ss
        have bw15 := bw14.same ss
        clear st14 bw14 da14 ss
        -- the tasks are made again
        refine seq_cutS (fun σ Hd => ∃ (g2 : Addr) (mg2 : List (Str × V)) (us2 : List (Str × TSk)), σ = [some (V.ref sc), some (.ref p), some (.int (0 + (i : Int))), some (.ref kd), some (.ref td), some v, some (.ref g2), y7, some (.ref h), some (.ref bk), some (.ref L3), some (.ref q), some y, some (.bl b), none] ∧ Same Ht Hd ∧ Hd g2 = some (.dK (tD mg2)) ∧ TsAt CT Hd mg2 us2 ∧ us2.Perm ts) ?_ ?_
        · intro NX rr
          refine ⟨td, .dK (tD mt), st15.ht, trivial, fun od => ?_⟩
          have fz : (upd Ht td (.frz od (.dK (tD mt)))) td = some (.frz od (.dK (tD mt))) := upd_same
          have kU : KeepU Ht (upd Ht td (.frz od (.dK (tD mt)))) := KeepU.frz st15.ht fun _ z => nomatch z
          have back : ∀ {Hi : Hp}, Same (upd Ht td (.frz od (.dK (tD mt)))) Hi → Same Ht (upd Hi td (.dK (tD mt))) := fun {Hi} z b o q => by
            by_cases e : b = td
            · rw [e] at q ⊢
              rw [upd_same, ← q, st15.ht]
            · rw [upd_ne e]
              exact z b o (by rw [upd_ne e]; exact q)
          have tA0 := st15.tA.keep kU
          generalize upd Ht td (.frz od (.dK (tD mt))) = HF at fz back tA0 ⊢
          have ndm : (mt.map (·.1)).Nodup := by rw [st15.tA.keys]; exact ndt
          have lmt := st15.tA.len
          refine ⟨_, rfl, td, od, rfl, .inl ⟨tD mt, fz, fun D nD => ?_⟩⟩
          refine lc_it walk_keys (fun j Hi => PrD K HF D ((ts.map (·.1)).take j) (RtT CT ts) Hi) (prD_nil nD) (fun _ _ _ ⟨_, _, z, _⟩ => z _ _ fz) ?_ ?_
          · rintro j x Hx Hy hj pr ⟨rfl, kx, vx, gx, rfl⟩
            obtain ⟨q0, gq, rfl, rfl⟩ := tD_at gx
            obtain ⟨_, _, sb, _⟩ := id pr
            obtain ⟨tt, T', ev, pt, mt'⟩ := tA0.at_ gq
            have lk := look_at ndm gq
            rw [ev] at lk
            have gy : (ts.map (·.1))[j]? = some q0.1 := by rw [List.getElem?_map, mt']; rfl
            have mem := List.mem_of_getElem? mt'
            rw [tD_len] at hj
            refine ⟨rfl, ?_⟩
            refine yes_of ?_
            refine ⟨_, rfl, _, rfl, _, rfl, td, .ref tt, rfl, dget_frz (sb _ _ fz) lk, tt, T', rfl, pt.keep (KeepU.same sb), (tB.w _ mem).2.1, fun a He se na ta => ⟨(show 2 ≤ sizeLine by decide), fun t nt => ?_⟩⟩
            rw [take_snoc gy]
            exact pair_step mon_T nD pr (by rw [List.length_take]; omega) se ⟨a, T', rfl, ta, mem⟩ nt
          · rintro Hz pr
            rw [tD_len, lmt, show ts.length = (ts.map (·.1)).length from (List.length_map _).symm, List.take_length] at pr
            obtain ⟨ps, mg, sz, hD, pp, me, mkk, tk⟩ := pair_end pr ndt
            have fi := sz _ _ fz
            refine ⟨fi, ?_⟩
            have sb := back sz
            have Dtd : D ≠ td := fun e => by rw [e, fi] at hD; cases hD
            have hD2 : (upd Hz td (.dK (tD mt))) D = some (.lst (ps.map V.ref)) := by rw [upd_ne Dtd]; exact hD
            have kF : KeepF Hz (upd Hz td (.dK (tD mt))) := KeepF.frz fi
            have pp2 := paired_map (G := fun (p : Addr) (kv : Key × V) => SqT K (upd Hz td (.dK (tD mt))) p [kV kv.1, kv.2]) (fun a b z => (keepT_frzD fi).sqT z) pp
            have tk2' : ∀ q ∈ mg, RtT CT ts (upd Hz td (.dK (tD mt))) q.1 q.2 := fun q0 hq0 => by
              obtain ⟨a, T', e1, hT, hm⟩ := tk q0 hq0
              exact ⟨a, T', e1, hT.keep kF.b, hm⟩
            generalize upd Hz td (.dK (tD mt)) = Hb at sb hD2 pp2 tk2' ⊢
            refine ⟨D, ps, tD mg, rfl, SqL.of hD2, pp2, fun g2 ng => gName_go ?_⟩
            rw [me]
            obtain ⟨us2, tA', uk, usub⟩ := tsAt_some tk2'
            have pu2 : us2.Perm ts := keys_perm (by rw [uk, mkk]) ndt usub
            exact rr _ _ ⟨g2, mg, us2, rfl, sb.trans (Same.new ng), upd_same, tA'.keep (.of (Same.new ng)), pu2⟩
        rintro σ Hv ⟨g2, mg2, us2, rfl, sv, hg2, tA2, pu2⟩
        have st16 := st15.same sv
        have bw16 := bw15.same sv
        clear st15 bw15 sv
        -- the book again
        refine ⟨_, rfl, _, rfl, _, rfl, v, d, rfl, st16.pl, pB.sh, by decide, (by have := pB.w; omega), fun x2 Hw sw hx2 => ?_⟩
        refine fun b2 dy nb ndy ne => ?_
        have nb2 : (upd Hw dy (.own b2)) b2 = none := by rw [upd_ne (Ne.symm ne)]; exact nb
        have sB : Same Hw (upd (upd Hw dy (.own b2)) b2 (.ins CB dy [])) := (Same.new ndy).trans (Same.new nb2)
        have gB : (upd (upd Hw dy (.own b2)) b2 (.ins CB dy [])) b2 = some (.ins CB dy []) := upd_same
        generalize upd (upd Hw dy (.own b2)) b2 (.ins CB dy []) = Hb at sB gB ⊢
        have back : ∀ {H' : Hp}, Ext b2 Hb H' → Same Hw H' := fun ext x o z => ext x o (fun e => by rw [e, nb] at z; cases z) (sB _ _ z)
        have swb := sw.trans sB
        have st17 := st16.same swb
        have plb := hx2.same sB
        have pBn := pB.nf
        have rk : RightK K Hb mk (fun x ws => (x, ws) ∈ ks) := ⟨by rw [st17.kA.len]; exact kB.l1, by rw [st17.kA.len]; exact kB.l3, by rw [st17.kA.keys]; exact ndk, fun q0 hq0 => by
          obtain ⟨l, ws, lk, hl, mem⟩ := st17.kA.find ndk (y := q0.1) (by rw [← st17.kA.keys]; exact List.mem_map.mpr ⟨q0, hq0, rfl⟩)
          have e0 := lookup_mem (y := q0.1) (v := q0.2) (by rw [st17.kA.keys]; exact ndk) hq0
          rw [lk] at e0
          obtain ⟨w1, _, w2, w3⟩ := kB.w _ mem
          have w3 : ws.length ≤ 3 := w3
          exact ⟨w1, ws, by rw [← Option.some.inj e0]; exact wl_l hl, w2, by omega, mem⟩⟩
        refine ⟨b2, dy, kd, g2, x2, nf 4 d, mk, mg2, us2, fun x ws => (x, ws) ∈ ks, .fine, none, rfl, gB, st17.hk, rk, swb _ _ hg2, tA2.keep (.of swb), tasB_right tB pu2, tasB_few tB pu2, tasB_mem tB pu2, ⟨plb.gd pBn.rt.short, fun _ => plb⟩, planB_due pBn (fun y hy => (pu2.map _).mem_iff.mpr hy), (fun _ _ => trivial), (fun _ _ z => nomatch z), fun _ _ ls3 us3 n1 n2 Hx ext mk3 mt3 _ bw3 _ => ⟨rfl, ?_⟩⟩
        have sx := back ext
        obtain rfl := AscK.uniq ndk (ascK_made (by rw [st17.kA.keys]) mk3) ascl
        obtain rfl := made_uniq ndt (made_of pu2 mt3) mdt
        rw [nf_idem pB] at bw3
        have s18 := sw.trans sx
        have bw18 := bw16.same s18
        have st18 := st16.same s18
        obtain ⟨dz, _, _, _, hb2, _⟩ := id bw3
        obtain ⟨dx, _, _, _, hbk, _⟩ := id bw18
        refine ⟨_, rfl, b2, dz, _, rfl, hb2, .inl ⟨bk, dx, _, rfl, hbk⟩, b2, .ref bk, n1, n2, ls3, us3, _, 4, rfl, bw3, rb, .inl ⟨bk, m1, m2, rfl, bw18, fun Hy sy => ⟨true, rfl, false, rfl, iteF ?_⟩⟩⟩
        exact ⟨_, _, _, _, _, _, _, _, _, _, _, _, rfl, (st18.pen.same sy (by omega))⟩
      · rintro σ H2 ⟨x2, x3, x4, x5, x6, x7, x8, x9, x10, x11, x12, x13, rfl, P2⟩
        exact k _
end
end Fp1
set_option Elab.async false
set_option linter.all false
set_option maxRecDepth 100000
set_option maxHeartbeats 4000000
/-! FyD: a head by facts with classes, getters and tables with text keys; a table of ints told at every text -/
namespace FhY
open PySem PySem.Spec PyProof.Rows L2 Fh
open PySem.W (Frag)
abbrev AlYT : Type := AlY × List (Option (List (Option (Str × Int))))
def obsKT (fa : List He.Fa) (fn : List He.DefD) (gs : List GDef) (ts : List He.Tab) (ex : Frag → Bool) (K : Frag) : AlYT := (obsK fa fn gs ex K, ts.map fun t => He.dicW K (t.1 K))
def valYT (fn : List He.DefD) (gs : List GDef) (ts : List He.Tab) (w : World) : AlYT := (valY fn gs, ts.map fun t => some (He.keysIn w.params t.2))
section
variable {fa : List He.Fa} {fn : List He.DefD} {gs : List GDef} {ts : List He.Tab} {ex : Frag → Bool} {K : Frag} {w : World}
theorem saysT_y (c : obsKT fa fn gs ts ex K = valYT fn gs ts w) : obsK fa fn gs ex K = valY fn gs := congrArg (fun z : AlYT => z.1) c
theorem saysT_tab (c : obsKT fa fn gs ts ex K = valYT fn gs ts w) (i : Nat) {t : He.Tab} (h : ts[i]? = some t := by rfl) : ∃ es n, KDict K w (t.1 K) es n := by
  have e : ts.map (fun t => He.dicW K (t.1 K)) = ts.map fun t => some (He.keysIn w.params t.2) := congrArg (fun z : AlYT => z.2) c
  have e2 : (ts.map fun t => He.dicW K (t.1 K))[i]? = (ts.map fun t => some (He.keysIn w.params t.2))[i]? := by rw [e]
  rw [List.getElem?_map, List.getElem?_map, h] at e2
  exact He.dicW_ok (Option.some.inj e2)
end
/-! ### a table of ints, at every text -/
def intEnt (e : DictEntry) : Option (Str × Int) := match e.key, e.val with
  | .str x _, .int i _ => some (x, i)
  | _, _ => none
def tabI (K : Frag) (a : Addr) (kvs : List (Str × Int)) : Bool := match K.lookup a with
  | some ⟨_, _, .dict es _, _⟩ => decide (es.toList.map intEnt = kvs.map some)
  | _ => false
def lookI (kvs : List (Str × Int)) (z : Str) : Option Int := (kvs.find? fun q => q.1 == z).map (·.2)
theorem intEnt_some {e : DictEntry} {q : Str × Int} (h : intEnt e = some q) : (∃ t, e.key = .str q.1 t) ∧ ∃ t, e.val = .int q.2 t := by
  unfold intEnt at h
  split at h
  · rename_i x tx i ti hk hv
    have h2 := Option.some.inj h
    subst h2
    exact ⟨⟨tx, hk⟩, ti, hv⟩
  · cases h
theorem find_ent (z : Str) : ∀ {l : List DictEntry} {kvs : List (Str × Int)}, l.map intEnt = kvs.map some →
    (l.any (·.refKey) = false) ∧ (match l.find? (·.key.isStr z) with
      | some e => ∃ i t, lookI kvs z = some i ∧ e.val = .int i t
      | none => lookI kvs z = none)
  | [], [], _ => ⟨rfl, rfl⟩
  | [], _ :: _, h => by cases h
  | _ :: _, [], h => by cases h
  | e :: r, q :: kvs, h => by
    have h1 : intEnt e :: r.map intEnt = some q :: kvs.map some := h
    injection h1 with h2 h3
    obtain ⟨⟨t, hk⟩, u, hv⟩ := intEnt_some h2
    obtain ⟨i1, i2⟩ := find_ent z h3
    have er : e.refKey = false := by
      unfold DictEntry.refKey
      rw [hk]
    have es : e.key.isStr z = (q.1 == z) := by
      rw [hk]
      rfl
    refine ⟨by rw [List.any_cons, er, i1]; rfl, ?_⟩
    have el : lookI (q :: kvs) z = if (q.1 == z) = true then some q.2 else lookI kvs z := by
      unfold lookI
      rw [List.find?_cons]
      cases q.1 == z <;> rfl
    rw [List.find?_cons, es, el]
    cases hq : q.1 == z with
    | true => exact ⟨q.2, u, rfl, hv⟩
    | false => exact i2
theorem tabI_ok {K : Frag} {a : Addr} {kvs : List (Str × Int)} (h : tabI K a kvs = true) (z : Str) : ∃ r, PySem.W.nsIn K a z = some r ∧ match lookI kvs z with
    | none => r = none
    | some i => ∃ t, r = some (.int i t) := by
  unfold tabI at h
  unfold PySem.W.nsIn
  split at h
  · rename_i es n sl e
    rw [e]
    have h2 := of_decide_eq_true h
    obtain ⟨i1, i2⟩ := find_ent z h2
    cases hf : es.toList.find? (·.key.isStr z) with
    | none =>
      rw [hf] at i2
      have i3 : lookI kvs z = none := i2
      rw [i3]
      refine ⟨none, ?_, rfl⟩
      show (match es.toList.find? (·.key.isStr z) with | some e => some (some e.val) | none => if es.toList.any (·.refKey) then none else some none) = some none
      rw [hf, i1]
      rfl
    | some e =>
      rw [hf] at i2
      obtain ⟨i, t, j1, j2⟩ := i2
      rw [j1]
      refine ⟨some e.val, ?_, t, by rw [j2]⟩
      show (match es.toList.find? (·.key.isStr z) with | some e => some (some e.val) | none => if es.toList.any (·.refKey) then none else some none) = _
      rw [hf]
  · cases h
end FhY
set_option Elab.async false
set_option linter.all false
set_option maxRecDepth 100000
set_option maxHeartbeats 4000000
/-! FyE: the hook of FyD that looks at sys.modules, too -/
namespace FhY
open PySem PySem.Spec PyProof.Rows L2 Fh
open PySem.W (Frag)
end FhY
set_option Elab.async false
set_option linter.all false
set_option maxRecDepth 100000
set_option maxHeartbeats 1000000
/-! FzH: a lambda as a value (made, perhaps never called); a def whose code object is known -/
namespace Fh
open PySem PySem.Spec PyProof.Rows L2
open PySem.W (Frag)
/-- a def whose code object stands at c -/
structure FunC (K : Frag) (x qual : Str) (st : Stmt) (f c : Addr) (fd : FuncData) : Prop where
  ex : ∃ (oc : Value) (od : Option Addr) (kV doc pm : Value) (an : Option Addr) (ct : Value) (osl : Array (Option Value)),
    fd = PySem.W.fnOf x qual (defArgs st) (defBody st) (defScope st) .none kV doc pm an (.ref c) ct ∧ K.lookup f = some ⟨oc, od, .func fd, osl⟩ ∧ PySem.W.codeIn K (.ref c) qual = true
  kp : PySem.W.keepIn K (.ref f) = true
section
variable {P : Program} {w : World} {K : Frag} {mg : Str → Option Value} {base : Heap}
theorem FunC.of {x qual : Str} {st : Stmt} {p : Str × Option Str} {fd : FuncData} (F : Fun K x qual st (He.fAd K p) fd) : FunC K x qual st (He.fAd K p) (He.codeOf K p) fd := by
  obtain ⟨oc, od, kV, doc, pm, an, cdv, ct, osl, e, lk, hcd⟩ := F.ex
  obtain ⟨c, rfl⟩ := He.codeIn_ref hcd
  have q : He.codeOf K p = c := He.codeOf_eq lk (by rw [e])
  rw [q]
  exact ⟨⟨oc, od, kV, doc, pm, an, ct, osl, e, lk, hcd⟩, F.kp⟩
theorem FunC.ok {x qual : Str} {st : Stmt} {f c : Addr} {fd : FuncData} {N ps : List Str} {k : Nat} {sp : Sp} (F : FunC K x qual st f c fd) (S : FnScope N ps (defScope st)) (len : ∀ vs H Q E, sp vs H Q E → vs.length = ps.length)
    (hbody : ∀ (A : Around) (outer : List Env) (s : Shared) (H : Hp) (vs : List V) (Q : VK) (E : XK), Room k (A.deeper (envOfC qual (defScope st) s.heap.objs.size f (.ref c))) → sp vs H Q E →
      ∃ t, PSs (cxOf CX0 P w K mg base N qual (defScope st) f (.ref c) A outer s H E).nox (defBody st) t ∧ t { nx := fun _ H' => Q .non H', rt := Q } (start N vs) H) : FnOk P w K mg base CX0 (k + 1) f fd ps sp := by
  obtain ⟨oc, od, kV, doc, pm, an, ct, osl, rfl, lk, hcd⟩ := F.ex
  refine fn_of lk hcd S len fun A outer s H vs Q E hr hsp => ?_
  obtain ⟨t, h, q⟩ := hbody A outer s H vs Q E hr hsp
  exact ⟨t, h.nox, q⟩
end
end Fh
namespace Fs
open PySem PySem.Spec PyProof.Rows L2 Fh
open PySem.W (Frag)
theorem KeepT.ext {H H' : Hp} (e : LamX.ExtN H H') : KeepT H H' := fun a xs h => h.elim (fun z => .inl (e _ _ z fun _ q => nomatch q)) fun ⟨o, z⟩ => .inr ⟨o, e _ _ z fun _ q => nomatch q⟩
end Fs
set_option Elab.async false
set_option linter.all false
set_option maxRecDepth 100000
set_option maxHeartbeats 4000000
/-! FyF: the hook of FyE with tables of code objects -/
namespace FhY
open PySem PySem.Spec PyProof.Rows L2 Fh
open PySem.W (Frag)
end FhY
set_option Elab.async false
set_option linter.all false
set_option maxRecDepth 100000
set_option maxHeartbeats 4000000
/-! FyG: the hook of FyE that looks its objects up off a tree (for o_head, whose heap is a list) -/
namespace FhY
open PySem PySem.Spec PyProof.Rows L2 Fh
open PySem.W (Frag)
noncomputable section
/-- a state's objects, off a tree -/
def lkS (s : Shared) : Addr → Option Obj := match HandSHeadRun.putAll s.heap.objs.toList .nil 0 with
  | some (t, n) => HandSHeadRun.getT ⟨t, n, s.heap.life, s.gens, s.drawn, s.toks, s.os⟩
  | none => s.heap.get?
theorem lkS_eq (s : Shared) : lkS s = s.heap.get? := by
  funext a
  unfold lkS
  cases e : HandSHeadRun.putAll s.heap.objs.toList .nil 0 with
  | none => rfl
  | some r =>
    obtain ⟨t, n⟩ := r
    show HandSHeadRun.getT _ a = _
    rw [HandSHeadRun.getT_eq]
    show (PySem.W.absHeap t n s.heap.life).get? a = _
    rw [HandSHeadRun.putAll_heap e]
/-- a set of addresses -/
inductive NT where
  | nil
  | node (b : Bool) (l r : NT)
def NT.has : Nat → NT → Nat → Bool
  | 0, _, _ => false
  | _, .nil, _ => false
  | f + 1, .node b l r, a => match Nat.beq a 0 with
    | true => b
    | false => match Nat.beq (a % 2) 1 with
      | true => NT.has f l (a / 2)
      | false => NT.has f r (a / 2 - 1)
def NT.put : Nat → NT → Nat → NT
  | 0, t, _ => t
  | f + 1, .nil, a => match Nat.beq a 0 with
    | true => .node true .nil .nil
    | false => match Nat.beq (a % 2) 1 with
      | true => .node false (NT.put f .nil (a / 2)) .nil
      | false => .node false .nil (NT.put f .nil (a / 2 - 1))
  | f + 1, .node b l r, a => match Nat.beq a 0 with
    | true => .node true l r
    | false => match Nat.beq (a % 2) 1 with
      | true => .node b (NT.put f l (a / 2)) r
      | false => .node b l (NT.put f r (a / 2 - 1))
/-- those not seen yet -/
def addG : List Addr → NT → List Addr → NT × List Addr
  | [], t, new => (t, new)
  | a :: r, t, new => match NT.has 40 t a with
    | true => addG r t new
    | false => addG r (NT.put 40 t a) (a :: new)
/-- what is reached in n levels, each once -/
def asG (g : Addr → Option Obj) : Nat → NT → List Addr → List Addr
  | 0, _, _ => []
  | n + 1, t, fr => match addG fr t [] with
    | (t', new) => new ++ asG g n t' (new.flatMap fun a => match g a with
      | some o => He.refsD o
      | none => [])
def obsYG (n : Nat) (fa : List He.Fa) (fn : List He.DefD) (gs : List GDef) (ts : List He.Tab) (ex : Frag → Bool) (g : Addr → Option Obj) : AlYT := obsKT fa fn gs ts ex (He.frT g (sysModules :: cStatics :: asG g (n + 1) .nil [mainGlobals]))
def hookYG (n : Nat) (fa : List He.Fa) (fn : List He.DefD) (gs : List GDef) (ts : List He.Tab) (ex : Frag → Bool) : PySem.W.Hook where
  α := AlYT
  obs := fun s => obsYG n fa fn gs ts ex (lkS s)
  val := fun w => valYT fn gs ts w
  says := fun w h => ∃ K : Frag, K.In h ∧ obsKT fa fn gs ts ex K = valYT fn gs ts w
  of := fun _ s e => ⟨_, by rw [lkS_eq s]; exact He.frT_in, e⟩
  keeps := fun _ _ _ ⟨K, hK, c⟩ k => ⟨K, PySem.W.Frag.In.keeps hK k, c⟩
end
end FhY
set_option Elab.async false
set_option linter.all false
set_option maxRecDepth 100000
set_option maxHeartbeats 0
namespace Fp1
open PySem PySem.Spec PyProof.Rows L2 Fh Fs FhY
open PySem.W (Frag)
abbrev sErrI : Stmt := inClass (top 12) 0
abbrev sErrP : Stmt := inClass (top 11) 0
abbrev sErrM : Stmt := inClass (top 16) 0
abbrev sErrU : Stmt := inClass (top 15) 0
def fewestL : List (Str × Int) := [("then", 0), ("either", 1), ("any", 1), ("again", 1), ("beside", 2)]
def mostL : List (Str × Int) := [("again", 1), ("beside", 2)]
theorem fewest_eq (z : Str) : lookI fewestL z = fewest z := by
  unfold lookI fewest fewestL
  simp only [List.find?_cons, List.find?_nil]
  by_cases h1 : z = "then"
  · subst h1; rfl
  by_cases h2 : z = "either"
  · subst h2; rfl
  by_cases h3 : z = "any"
  · subst h3; rfl
  by_cases h4 : z = "again"
  · subst h4; rfl
  by_cases h5 : z = "beside"
  · subst h5; rfl
  rw [if_neg h1, if_neg h2, if_neg h3, if_neg h4, if_neg h5, beq_eq_false_iff_ne.mpr (Ne.symm h1), beq_eq_false_iff_ne.mpr (Ne.symm h2), beq_eq_false_iff_ne.mpr (Ne.symm h3), beq_eq_false_iff_ne.mpr (Ne.symm h4), beq_eq_false_iff_ne.mpr (Ne.symm h5)]
  rfl
theorem most_eq (z : Str) : lookI mostL z = most z := by
  unfold lookI most mostL
  simp only [List.find?_cons, List.find?_nil]
  by_cases h4 : z = "again"
  · subst h4; rfl
  by_cases h5 : z = "beside"
  · subst h5; rfl
  rw [if_neg h4, if_neg h5, beq_eq_false_iff_ne.mpr (Ne.symm h4), beq_eq_false_iff_ne.mpr (Ne.symm h5)]
  rfl
def ownB (K : Frag) (C : Addr) : Bool := He.eqO (PySem.W.findIn K (.ref C) "__class__") (some (some (.builtin "object.__class__"))) && (He.eqO (PySem.W.specialIn K (.builtin "object.__class__") "__get__") (some (some (.builtin "getset_descriptor.__get__"))) &&
  (decide (PySem.W.takesIn K (.builtin "object.__class__") = some true) && (decide (PySem.W.mroIn K C (.type "object") = some true) && (decide (PySem.W.kitOne K (.ref C) (.ref C) = some true) &&
  (decide (PySem.W.kitOne K (.type "NoneType") (.ref C) = some false) && (decide (PySem.W.kitOne K (.type "tuple") (.ref C) = some false) && decide (PySem.W.kitOne K (.type "str") (.ref C) = some false)))))))
theorem ownB_ok {K : Frag} {mg : Str → Option Value} {nm : Str} {C : Addr} (gC : mg nm = some (.ref C)) (cl : Cls K C) (h : ownB K C = true) : OwnC K mg nm C := by
  obtain ⟨h1, h⟩ := He.ba h
  obtain ⟨h2, h⟩ := He.ba h
  obtain ⟨h3, h⟩ := He.ba h
  obtain ⟨h4, h⟩ := He.ba h
  obtain ⟨h5, h⟩ := He.ba h
  obtain ⟨h6, h⟩ := He.ba h
  obtain ⟨h7, h8⟩ := He.ba h
  exact ⟨gC, cl, He.eqO_ok h1, He.eqO_ok h2, of_decide_eq_true h3, of_decide_eq_true h4, of_decide_eq_true h5, of_decide_eq_true h6, of_decide_eq_true h7, of_decide_eq_true h8⟩
def empB (K : Frag) (a : Addr) : Bool := match K.lookup a with
  | some ⟨.type c, _, .seq its _, _⟩ => decide (c = "tuple") && decide (its.toList = [])
  | _ => false
theorem empB_ok {K : Frag} {a : Addr} (h : empB K a = true) (H : Hp) : SqT K H a [] := by
  unfold empB at h
  cases q : K.lookup a with
  | none => rw [q] at h; cases h
  | some o =>
    obtain ⟨oc, od, dt, osl⟩ := o
    rw [q] at h
    cases oc with
    | type c =>
      cases dt with
      | seq its n =>
        obtain ⟨h1, h2⟩ := He.ba (show (decide (c = "tuple") && decide (its.toList = [])) = true from h)
        have h3 := of_decide_eq_true h2
        have h4 : its.size ≤ sizeLine := by
          have e : its.toList.length = its.size := Array.length_toList
          rw [h3] at e
          have e2 : its.size = 0 := e.symm
          rw [e2]
          exact Nat.zero_le _
        exact .inr ⟨_, its, n, q, congrArg Value.type (of_decide_eq_true h1), rfl, h4, by rw [h3]; exact .nil⟩
      | _ => cases h
    | _ => cases dt <;> cases h
def exB (K : Frag) : Bool := clB K ("InvalidText", .ve, ["index"]) && (tabI K (He.ga K "FEWEST") fewestL && (tabI K (He.ga K "MOST") mostL && (clB K ("InvalidPlan", .ve, ["value"]) && (He.tupB K "DONE" [.str "then"] && ((K.lookup sysModules).isSome && (clB K ("TooMany", .oe, ["limit"]) && (clB K ("UnknownTask", .le, ["value"]) && (ownB K (He.ga K "Task") && (propB K (He.ga K "Task") "role" && (propB K (He.ga K "Task") "many" && (propB K (He.ga K "Task") "other" && (propB K (He.ga K "Task") "same" && (propB K (He.ga K "Task") "takes" && (propB K (He.ga K "Task") "forgets" && (He.eqO (PySem.W.findIn K (.ref (He.ga K "Task")) "__ne__") (some (some (.builtin "object.__ne__"))) && (decide (PySem.W.subIn K (.ref (He.ga K "Task")) (.type "object") = some true) && (PySem.W.notFirst K (He.ga K "Task") (.type "tuple") && (PySem.W.notFirst K (He.ga K "Task") (.type "str") && (PySem.W.notFirst K (He.ga K "Task") (.type "NoneType") && (decide (PySem.W.kitOne K (.type "str") (.ref (He.ga K "Task")) = some false) && (decide (PySem.W.kitOne K (.type "NoneType") (.ref (He.ga K "Task")) = some false) && (decide (PySem.W.kitOne K (.type "tuple") (.ref (He.ga K "Task")) = some false) && (empB K (kwAt "other" K) && (empB K (kwAt "same" K) && (empB K (kwAt "takes" K) && (empB K (kwAt "forgets" K) && (ownB K (He.ga K "Book") && (propB K (He.ga K "Book") "kinds" && (propB K (He.ga K "Book") "names" && (propB K (He.ga K "Book") "remembered" && (propB K (He.ga K "Book") "width" && (propB K (He.ga K "Book") "plan" && (He.eqO (PySem.W.findIn K (.ref (He.ga K "Book")) "__ne__") (some (some (.builtin "object.__ne__"))) && (decide (PySem.W.subIn K (.ref (He.ga K "Book")) (.type "object") = some true) && (PySem.W.fnIn K (He.ma K (He.ga K "Book") "__getitem__") && (PySem.W.notFirst K (He.ga K "Book") (.type "list") && (decide (PySem.W.kitOne K (.type "list") (.ref (He.ga K "Book")) = some false) && (decide (PySem.W.exmOne K (.ref (He.ga K "TooMany")) (.ref (He.ga K "InvalidPlan")) = some false) && (decide (PySem.W.exmOne K (.ref (He.ga K "UnknownTask")) (.ref (He.ga K "InvalidPlan")) = some false) && (decide (PySem.W.exmOne K (.ref (He.ga K "UnknownTask")) (.ref (He.ga K "TooMany")) = some false)))))))))))))))))))))))))))))))))))))))))
def ts : List He.Tab := [(fun K => He.ga K "FEWEST", fewestL.map (·.1)), (fun K => He.ga K "MOST", mostL.map (·.1))]
def ckD : He.DefD := ⟨("check_plan", none), "check_plan", "check_plan", defArgs sCk, defBody sCk, defScope sCk, [.bl false], []⟩
def dTk : He.DefD := ⟨("Task", some "__init__"), "__init__", "Task.__init__", defArgs sTkI, defBody sTkI, defScope sTkI, [.non], [("many", .int 1), ("other", .adr (kwAt "other")), ("same", .adr (kwAt "same")), ("takes", .adr (kwAt "takes")), ("forgets", .adr (kwAt "forgets"))]⟩
def gs : List GDef := [gDef "Task" "role" "Task.role" "property" sG1, gDef "Task" "many" "Task.many" "property" sG2, gDef "Task" "other" "Task.other" "property" sG3, gDef "Task" "same" "Task.same" "property" sG4, gDef "Task" "takes" "Task.takes" "property" sG5, gDef "Task" "forgets" "Task.forgets" "property" sG6, gDef "Book" "kinds" "Book.kinds" "property" sBks, gDef "Book" "names" "Book.names" "property" sBnm, gDef "Book" "remembered" "Book.remembered" "property" sBrm, gDef "Book" "width" "Book.width" "property" sBwd, gDef "Book" "plan" "Book.plan" "property" sBp]
def fn : List He.DefD := [dDef "is_word_of_plans" sIwp, dDef "has_right_number" sHrn, dDef "_word_end" sWe, dDef "_next_part" sNp, dDef "_read_parts" sRps, dDef "read_part" sRp, dDef "read_plan" sRd, ckD, dDef "_is_right_alone" sAl, dDef "is_word" sWord, dDef "normal_form" sNf, dDef "in_turn" sTurn, dDef "side_by_side" sSide, dDef "names_inside" sNi, dDef "are_words" sAre, dDef "is_whole" sWhole, dDef "_ascending" sAsc, dDef "are_roles" sRol, dDef "_are_kinds" sAks, dDef "checked_kinds" sCks, dDef "are_tasks" sAts, dDef "checked_tasks" sCts, dDef "checked_plan" sCp, dDef "levels" sLv, dDef "remembered_names" sRn, dDef "width_of" sWo, dDef "check_memory" sCm, dDef "_most_doers" sMd, dDef "_law_pen" sPen, dDef "_law_draw" sDraw, dDef "_law_pick" sPick, dDef "_law_shuffled" sShuf, dDef "_law_words" sWds, dDef "_law_any_value" sAny, dDef "_law_task" sTask, dDef "_law_made_task" sMade, dDef "_law_shown" sShown, dDef "_law_remembered" sLr, dDef "_law_width" sLwd, dDef "_law_plan" sLpl, dDef "_law_normal" sNrm, dDef "_law_count" sCnt, dDef "_law_book" sBok, dDef "_law_item" sItem, dDef "law" sLaw, dMeth "InvalidText" "__init__" "InvalidText.__init__" sErrI, dMeth "InvalidPlan" "__init__" "InvalidPlan.__init__" sErrP, dMeth "TooMany" "__init__" "TooMany.__init__" sErrM, dMeth "UnknownTask" "__init__" "UnknownTask.__init__" sErrU, dMeth "Task" "__eq__" "Task.__eq__" sEq, dMeth "Book" "__init__" "Book.__init__" sBkI, dMeth "Book" "copied" "Book.copied" sBcp, dMeth "Book" "__len__" "Book.__len__" sBln, dMeth "Book" "__contains__" "Book.__contains__" sBco, dMeth "Book" "__getitem__" "Book.__getitem__" sBgi, dMeth "Book" "__eq__" "Book.__eq__" sBq, dTk]
def fa : List He.Fa := [.glo "is_word_of_plans", .glo "has_right_number", .glo "_word_end", .glo "_next_part", .glo "_read_parts", .glo "read_part", .glo "read_plan", .glo "check_plan", .glo "_is_right_alone", .glo "is_word", .glo "normal_form", .glo "in_turn", .glo "side_by_side", .glo "names_inside", .glo "are_words", .glo "is_whole", .glo "_ascending", .glo "are_roles", .glo "_are_kinds", .glo "checked_kinds", .glo "are_tasks", .glo "checked_tasks", .glo "checked_plan", .glo "levels", .glo "remembered_names", .glo "width_of", .glo "check_memory", .glo "_most_doers", .glo "_law_pen", .glo "_law_draw", .glo "_law_pick", .glo "_law_shuffled", .glo "_law_words", .glo "_law_any_value", .glo "_law_task", .glo "_law_made_task", .glo "_law_shown", .glo "_law_remembered", .glo "_law_width", .glo "_law_plan", .glo "_law_normal", .glo "_law_count", .glo "_law_book", .glo "_law_item", .glo "law", .free "isinstance", .free "str", .free "len", .free "all", .free "tuple", .free "any", .free "enumerate", .free "list", .free "set", .free "sorted", .free "int", .free "bool", .free "dict", .free "max", .free "sum", .free "range", .free "min", .free "repr", .free "LookupError", .int "LONGEST" 8, .str "LETTERS" "abcdefghijklmnopqrstuvwxyz", .glo "InvalidText", .glo "InvalidPlan", .glo "TooMany", .glo "UnknownTask", .glo "FEWEST", .glo "MOST", .glo "DONE", .int "MANY" 3, .int "KINDS" 3, .int "ROLES" 4, .int "TASKS" 8, .int "REMEMBERED" 3, .int "WIDTH" 5, .int "NAMES" 16, .int "LEVELS" 5, .glo "Task", .cls "Task", .noat "Task" "_role", .noat "Task" "_many", .noat "Task" "_other", .noat "Task" "_same", .noat "Task" "_takes", .noat "Task" "_forgets", .mkr "Task", .meth "Task" "__eq__", .glo "Book", .cls "Book", .noat "Book" "_kinds", .noat "Book" "_tasks", .noat "Book" "_plan", .noat "Book" "_steps", .noat "Book" "_survey", .mkr "Book", .meth "Book" "copied", .meth "Book" "__len__", .meth "Book" "__contains__", .meth "Book" "__getitem__", .meth "Book" "__eq__"]
def names : List Str := (["_wall", "__name__", "LETTERS", "LONGEST", "is_word", "are_words", "is_whole", "InvalidTask", "InvalidKinds", "InvalidTasks", "InvalidPlan", "InvalidText", "Clash", "NotSameKinds", "UnknownTask", "TooMany", "DONE", "FEWEST", "MOST", "is_word_of_plans"] : List Str) ++ (["has_right_number", "_is_right_alone", "check_plan", "in_turn", "side_by_side", "normal_form", "names_inside", "levels", "KINDS", "ROLES", "TASKS", "REMEMBERED", "WIDTH", "MANY", "NAMES", "LEVELS", "_ascending", "Task", "are_roles", "_are_kinds"] : List Str) ++ (["checked_kinds", "are_tasks", "checked_tasks", "checked_plan", "remembered_names", "_most_doers", "width_of", "check_memory", "text_of", "_word_end", "_next_part", "_read_parts", "read_part", "plan_text", "read_plan", "_FIELDS", "_DIGITS", "_kind_line", "_task_line", "book_text"] : List Str) ++ (["_read_kind", "_fields_of", "_task_of", "_read_task", "_read_plan", "_can_be_remembered", "_read_kinds", "_read_tasks", "read_book", "Book", "_law_pen", "_law_draw", "_law_pick", "_law_shuffled", "_law_words", "_law_any_value", "_law_task", "_law_made_task", "_law_shown", "_law_remembered"] : List Str) ++ (["_law_width", "_law_plan", "_law_normal", "_law_count", "_law_book", "_law_item"] : List Str)
abbrev L : PySem.W.OpenLaw := PySem.Challenge.rw_fewhands_k07_books_made
abbrev R : PySem.W.OpenRow := PySem.W.OpenLaw.row L
abbrev hk : PySem.W.Hook := hookYG 7 fa fn gs ts exB
section
variable {P : Program} {w : World} {K : Frag} {h : Heap} {mg : Str → Option Value}
theorem relI_of {o : Option Int} {r : Option Value} (h : match o with
    | none => r = none
    | some i => ∃ t, r = some (.int i t)) : relI o r := by
  cases o with
  | none => exact h
  | some i => exact h
theorem facts {f : Addr} (X : K.In h) (G : h.Ns mainGlobals mg) (hfa : mg ("law" : Str) = some (.ref f)) (c : obsKT fa fn gs ts exB K = valYT fn gs ts w) :
    ∃ fd : FuncData, (∀ (s : Shared) (v : Value), BindsTo s fd ⟨[v], []⟩ [("_law_script", v)]) ∧ ∀ base : Heap, K.In base → base.Ns mainGlobals mg → FnG P w K mg base CX0 20 f fd ["_law_script"] (spLaw K) := by
  have cy := saysT_y c
  have d := says_d cy
  obtain ⟨bT, m⟩ := He.ba (says_more cy)
  obtain ⟨bF, m⟩ := He.ba m
  obtain ⟨bM, m⟩ := He.ba m
  obtain ⟨bP, m⟩ := He.ba m
  obtain ⟨bD, m⟩ := He.ba m
  obtain ⟨bS, m⟩ := He.ba m
  obtain ⟨bTM, m⟩ := He.ba m
  obtain ⟨bTU, m⟩ := He.ba m
  obtain ⟨bO, m⟩ := He.ba m
  obtain ⟨bp0, m⟩ := He.ba m
  obtain ⟨bp1, m⟩ := He.ba m
  obtain ⟨bp2, m⟩ := He.ba m
  obtain ⟨bp3, m⟩ := He.ba m
  obtain ⟨bp4, m⟩ := He.ba m
  obtain ⟨bp5, m⟩ := He.ba m
  obtain ⟨bne, m⟩ := He.ba m
  obtain ⟨bsu, m⟩ := He.ba m
  obtain ⟨bf0, m⟩ := He.ba m
  obtain ⟨bf1, m⟩ := He.ba m
  obtain ⟨bf2, m⟩ := He.ba m
  obtain ⟨bk0, m⟩ := He.ba m
  obtain ⟨bk1, m⟩ := He.ba m
  obtain ⟨bk2, m⟩ := He.ba m
  obtain ⟨be0, m⟩ := He.ba m
  obtain ⟨be1, m⟩ := He.ba m
  obtain ⟨be2, m⟩ := He.ba m
  obtain ⟨be3, m⟩ := He.ba m
  obtain ⟨bB, m⟩ := He.ba m
  obtain ⟨bbp0, m⟩ := He.ba m
  obtain ⟨bbp1, m⟩ := He.ba m
  obtain ⟨bbp2, m⟩ := He.ba m
  obtain ⟨bbp3, m⟩ := He.ba m
  obtain ⟨bbp4, m⟩ := He.ba m
  obtain ⟨bbn, m⟩ := He.ba m
  obtain ⟨bbs, m⟩ := He.ba m
  obtain ⟨bfn, m⟩ := He.ba m
  obtain ⟨bnl, m⟩ := He.ba m
  obtain ⟨bkl, m⟩ := He.ba m
  obtain ⟨x1, m⟩ := He.ba m
  obtain ⟨x2, x3⟩ := He.ba m
  have D1 := saysT_tab c 0
  have D2 := saysT_tab c 1
  obtain ⟨fd0, F0⟩ := funT d 0 (x := "is_word_of_plans") (st := sIwp) rfl
  obtain ⟨fd1, F1⟩ := funT d 1 (x := "has_right_number") (st := sHrn) rfl
  obtain ⟨fd2, F2⟩ := funT d 2 (x := "_word_end") (st := sWe) rfl
  obtain ⟨fd3, F3⟩ := funT d 3 (x := "_next_part") (st := sNp) rfl
  obtain ⟨fd4, F4⟩ := funT d 4 (x := "_read_parts") (st := sRps) rfl
  obtain ⟨fd5, F5⟩ := funT d 5 (x := "read_part") (st := sRp) rfl
  obtain ⟨fd6, F6⟩ := funT d 6 (x := "read_plan") (st := sRd) rfl
  obtain ⟨fd7, F7⟩ : ∃ fd, FunCk K (He.ga K "check_plan") fd := by
    obtain ⟨fd, F⟩ := d.def_ 7 (d := ckD) rfl
    exact ⟨fd, F⟩
  obtain ⟨fd8, F8⟩ := funT d 8 (x := "_is_right_alone") (st := sAl) rfl
  obtain ⟨fd9, F9⟩ := funT d 9 (x := "is_word") (st := sWord) rfl
  obtain ⟨fd10, F10⟩ := funT d 10 (x := "normal_form") (st := sNf) rfl
  obtain ⟨fd11, F11⟩ := funT d 11 (x := "in_turn") (st := sTurn) rfl
  obtain ⟨fd12, F12⟩ := funT d 12 (x := "side_by_side") (st := sSide) rfl
  obtain ⟨fd13, F13⟩ := funT d 13 (x := "names_inside") (st := sNi) rfl
  obtain ⟨fd14, F14⟩ := funT d 14 (x := "are_words") (st := sAre) rfl
  obtain ⟨fd15, F15⟩ := funT d 15 (x := "is_whole") (st := sWhole) rfl
  obtain ⟨fd16, F16⟩ := funT d 16 (x := "_ascending") (st := sAsc) rfl
  obtain ⟨fd17, F17⟩ := funT d 17 (x := "are_roles") (st := sRol) rfl
  obtain ⟨fd18, F18⟩ := funT d 18 (x := "_are_kinds") (st := sAks) rfl
  obtain ⟨fd19, F19⟩ := funT d 19 (x := "checked_kinds") (st := sCks) rfl
  obtain ⟨fd20, F20⟩ := funT d 20 (x := "are_tasks") (st := sAts) rfl
  obtain ⟨fd21, F21⟩ := funT d 21 (x := "checked_tasks") (st := sCts) rfl
  obtain ⟨fd22, F22⟩ := funT d 22 (x := "checked_plan") (st := sCp) rfl
  obtain ⟨fd23, F23⟩ := funT d 23 (x := "levels") (st := sLv) rfl
  obtain ⟨fd24, F24⟩ := funT d 24 (x := "remembered_names") (st := sRn) rfl
  obtain ⟨fd25, F25⟩ := funT d 25 (x := "width_of") (st := sWo) rfl
  obtain ⟨fd26, F26⟩ := funT d 26 (x := "check_memory") (st := sCm) rfl
  obtain ⟨fd27, F27⟩ := funT d 27 (x := "_most_doers") (st := sMd) rfl
  obtain ⟨fd28, F28⟩ := funT d 28 (x := "_law_pen") (st := sPen) rfl
  obtain ⟨fd29, F29⟩ := funT d 29 (x := "_law_draw") (st := sDraw) rfl
  obtain ⟨fd30, F30⟩ := funT d 30 (x := "_law_pick") (st := sPick) rfl
  obtain ⟨fd31, F31⟩ := funT d 31 (x := "_law_shuffled") (st := sShuf) rfl
  obtain ⟨fd32, F32⟩ := funT d 32 (x := "_law_words") (st := sWds) rfl
  obtain ⟨fd33, F33⟩ := funT d 33 (x := "_law_any_value") (st := sAny) rfl
  obtain ⟨fd34, F34⟩ := funT d 34 (x := "_law_task") (st := sTask) rfl
  obtain ⟨fd35, F35⟩ := funT d 35 (x := "_law_made_task") (st := sMade) rfl
  obtain ⟨fd36, F36⟩ := funT d 36 (x := "_law_shown") (st := sShown) rfl
  obtain ⟨fd37, F37⟩ := funT d 37 (x := "_law_remembered") (st := sLr) rfl
  obtain ⟨fd38, F38⟩ := funT d 38 (x := "_law_width") (st := sLwd) rfl
  obtain ⟨fd39, F39⟩ := funT d 39 (x := "_law_plan") (st := sLpl) rfl
  obtain ⟨fd40, F40⟩ := funT d 40 (x := "_law_normal") (st := sNrm) rfl
  obtain ⟨fd41, F41⟩ := funT d 41 (x := "_law_count") (st := sCnt) rfl
  obtain ⟨fd42, F42⟩ := funT d 42 (x := "_law_book") (st := sBok) rfl
  obtain ⟨fd43, F43⟩ := funT d 43 (x := "_law_item") (st := sItem) rfl
  obtain ⟨fd44, F44⟩ := funT d 44 (x := "law") (st := sLaw) rfl
  have g0 := (He.glo_ok X G (d.fact 0 (f := .glo "is_word_of_plans") rfl))
  have g1 := (He.glo_ok X G (d.fact 1 (f := .glo "has_right_number") rfl))
  have g2 := (He.glo_ok X G (d.fact 2 (f := .glo "_word_end") rfl))
  have g3 := (He.glo_ok X G (d.fact 3 (f := .glo "_next_part") rfl))
  have g4 := (He.glo_ok X G (d.fact 4 (f := .glo "_read_parts") rfl))
  have g5 := (He.glo_ok X G (d.fact 5 (f := .glo "read_part") rfl))
  have g6 := (He.glo_ok X G (d.fact 6 (f := .glo "read_plan") rfl))
  have g7 := (He.glo_ok X G (d.fact 7 (f := .glo "check_plan") rfl))
  have g8 := (He.glo_ok X G (d.fact 8 (f := .glo "_is_right_alone") rfl))
  have g9 := (He.glo_ok X G (d.fact 9 (f := .glo "is_word") rfl))
  have g10 := (He.glo_ok X G (d.fact 10 (f := .glo "normal_form") rfl))
  have g11 := (He.glo_ok X G (d.fact 11 (f := .glo "in_turn") rfl))
  have g12 := (He.glo_ok X G (d.fact 12 (f := .glo "side_by_side") rfl))
  have g13 := (He.glo_ok X G (d.fact 13 (f := .glo "names_inside") rfl))
  have g14 := (He.glo_ok X G (d.fact 14 (f := .glo "are_words") rfl))
  have g15 := (He.glo_ok X G (d.fact 15 (f := .glo "is_whole") rfl))
  have g16 := (He.glo_ok X G (d.fact 16 (f := .glo "_ascending") rfl))
  have g17 := (He.glo_ok X G (d.fact 17 (f := .glo "are_roles") rfl))
  have g18 := (He.glo_ok X G (d.fact 18 (f := .glo "_are_kinds") rfl))
  have g19 := (He.glo_ok X G (d.fact 19 (f := .glo "checked_kinds") rfl))
  have g20 := (He.glo_ok X G (d.fact 20 (f := .glo "are_tasks") rfl))
  have g21 := (He.glo_ok X G (d.fact 21 (f := .glo "checked_tasks") rfl))
  have g22 := (He.glo_ok X G (d.fact 22 (f := .glo "checked_plan") rfl))
  have g23 := (He.glo_ok X G (d.fact 23 (f := .glo "levels") rfl))
  have g24 := (He.glo_ok X G (d.fact 24 (f := .glo "remembered_names") rfl))
  have g25 := (He.glo_ok X G (d.fact 25 (f := .glo "width_of") rfl))
  have g26 := (He.glo_ok X G (d.fact 26 (f := .glo "check_memory") rfl))
  have g27 := (He.glo_ok X G (d.fact 27 (f := .glo "_most_doers") rfl))
  have g28 := (He.glo_ok X G (d.fact 28 (f := .glo "_law_pen") rfl))
  have g29 := (He.glo_ok X G (d.fact 29 (f := .glo "_law_draw") rfl))
  have g30 := (He.glo_ok X G (d.fact 30 (f := .glo "_law_pick") rfl))
  have g31 := (He.glo_ok X G (d.fact 31 (f := .glo "_law_shuffled") rfl))
  have g32 := (He.glo_ok X G (d.fact 32 (f := .glo "_law_words") rfl))
  have g33 := (He.glo_ok X G (d.fact 33 (f := .glo "_law_any_value") rfl))
  have g34 := (He.glo_ok X G (d.fact 34 (f := .glo "_law_task") rfl))
  have g35 := (He.glo_ok X G (d.fact 35 (f := .glo "_law_made_task") rfl))
  have g36 := (He.glo_ok X G (d.fact 36 (f := .glo "_law_shown") rfl))
  have g37 := (He.glo_ok X G (d.fact 37 (f := .glo "_law_remembered") rfl))
  have g38 := (He.glo_ok X G (d.fact 38 (f := .glo "_law_width") rfl))
  have g39 := (He.glo_ok X G (d.fact 39 (f := .glo "_law_plan") rfl))
  have g40 := (He.glo_ok X G (d.fact 40 (f := .glo "_law_normal") rfl))
  have g41 := (He.glo_ok X G (d.fact 41 (f := .glo "_law_count") rfl))
  have g42 := (He.glo_ok X G (d.fact 42 (f := .glo "_law_book") rfl))
  have g43 := (He.glo_ok X G (d.fact 43 (f := .glo "_law_item") rfl))
  have g44 := (He.glo_ok X G (d.fact 44 (f := .glo "law") rfl))
  obtain ⟨fdEI, FEI⟩ := funM d 45 (cn := "InvalidText") (m := "__init__") (q := "InvalidText.__init__") (st := sErrI) rfl
  have CII := clB_one bT
  have eiI : EK K (He.ga K "InvalidText") .ve := CII.ei
  have ETI : PySem.ErrN.ErrNxt K mg (He.ga K "InvalidText") (He.ma K (He.ga K "InvalidText") "__init__") := errN_of (He.glo_ok X G (d.fact 66 (f := .glo "InvalidText") rfl)) eiI (CII.no "index" List.mem_cons_self) CII.iC CII.tI (by
    obtain ⟨oc, od, kV, doc, pm, an, cdv, ct, osl, e, lk, hcd⟩ := FEI.ex
    refine ⟨oc, od, kV, doc, pm, an, cdv, ct, osl, ⟨38, 17, 38, 21⟩, ⟨38, 23, 38, 28⟩, ⟨39, 8, 39, 12⟩, ⟨39, 8, 39, 18⟩, ⟨39, 21, 39, 26⟩, ⟨39, 8, 39, 26⟩, ?_, hcd⟩
    rw [lk, e]
    rfl)
  obtain ⟨fdEP, FEP⟩ := funM d 46 (cn := "InvalidPlan") (m := "__init__") (q := "InvalidPlan.__init__") (st := sErrP) rfl
  have CIP := clB_one bP
  have eiP : EK K (He.ga K "InvalidPlan") .ve := CIP.ei
  have ETP : PySem.ErrP.ErrPxt K mg (He.ga K "InvalidPlan") (He.ma K (He.ga K "InvalidPlan") "__init__") := errP_of (He.glo_ok X G (d.fact 67 (f := .glo "InvalidPlan") rfl)) eiP (CIP.no "value" List.mem_cons_self) CIP.iC CIP.tI (by
    obtain ⟨oc, od, kV, doc, pm, an, cdv, ct, osl, e, lk, hcd⟩ := FEP.ex
    refine ⟨oc, od, kV, doc, pm, an, cdv, ct, osl, ⟨34, 17, 34, 21⟩, ⟨34, 23, 34, 28⟩, ⟨35, 8, 35, 12⟩, ⟨35, 8, 35, 18⟩, ⟨35, 21, 35, 26⟩, ⟨35, 8, 35, 26⟩, ?_, hcd⟩
    rw [lk, e]
    rfl)
  obtain ⟨fdEM, FEM⟩ := funM d 47 (cn := "TooMany") (m := "__init__") (q := "TooMany.__init__") (st := sErrM) rfl
  have CIM := clB_one bTM
  have eiM : EK K (He.ga K "TooMany") .oe := CIM.ei
  have ETM : PySem.ErrM.ErrMxt K mg (He.ga K "TooMany") (He.ma K (He.ga K "TooMany") "__init__") := errM_of (He.glo_ok X G (d.fact 68 (f := .glo "TooMany") rfl)) eiM (CIM.no "limit" List.mem_cons_self) CIM.iC CIM.tI (by
    obtain ⟨oc, od, kV, doc, pm, an, cdv, ct, osl, e, lk, hcd⟩ := FEM.ex
    refine ⟨oc, od, kV, doc, pm, an, cdv, ct, osl, ⟨52, 17, 52, 21⟩, ⟨52, 23, 52, 28⟩, ⟨53, 8, 53, 12⟩, ⟨53, 8, 53, 18⟩, ⟨53, 21, 53, 26⟩, ⟨53, 8, 53, 26⟩, ?_, hcd⟩
    rw [lk, e]
    rfl)
  obtain ⟨fdEU, FEU⟩ := funM d 48 (cn := "UnknownTask") (m := "__init__") (q := "UnknownTask.__init__") (st := sErrU) rfl
  have CIU := clB_one bTU
  have eiU : EK K (He.ga K "UnknownTask") .le := CIU.ei
  have ETU : PySem.ErrU.ErrUxt K mg (He.ga K "UnknownTask") (He.ma K (He.ga K "UnknownTask") "__init__") := errU_of (He.glo_ok X G (d.fact 69 (f := .glo "UnknownTask") rfl)) eiU (CIU.no "value" List.mem_cons_self) CIU.iC CIU.tI (by
    obtain ⟨oc, od, kV, doc, pm, an, cdv, ct, osl, e, lk, hcd⟩ := FEU.ex
    refine ⟨oc, od, kV, doc, pm, an, cdv, ct, osl, ⟨48, 17, 48, 21⟩, ⟨48, 23, 48, 28⟩, ⟨49, 8, 49, 12⟩, ⟨49, 8, 49, 18⟩, ⟨49, 21, 49, 26⟩, ⟨49, 8, 49, 26⟩, ?_, hcd⟩
    rw [lk, e]
    rfl)
  have T : TxtR K mg w (He.ga K "FEWEST") (He.ga K "MOST") (He.ga K "DONE") (He.ga K "InvalidText") (He.ma K (He.ga K "InvalidText") "__init__") := ⟨(He.free_ok X G (d.fact 45 (f := .free "isinstance") rfl)), (He.free_ok X G (d.fact 46 (f := .free "str") rfl)), (He.free_ok X G (d.fact 47 (f := .free "len") rfl)), (He.str_ok X G (d.fact 65 (f := .str "LETTERS" "abcdefghijklmnopqrstuvwxyz") rfl)), (He.int_ok X G (d.fact 64 (f := .int "LONGEST" 8) rfl)), (He.glo_ok X G (d.fact 70 (f := .glo "FEWEST") rfl)), (He.glo_ok X G (d.fact 71 (f := .glo "MOST") rfl)), (He.glo_ok X G (d.fact 72 (f := .glo "DONE") rfl)), fun H => He.tupB_ok bD H, D1, D2,
    fun z => by
      obtain ⟨r, h1, h2⟩ := tabI_ok bF z
      rw [fewest_eq] at h2
      exact ⟨r, h1, relI_of h2⟩,
    fun z => by
      obtain ⟨r, h1, h2⟩ := tabI_ok bM z
      rw [most_eq] at h2
      exact ⟨r, h1, relI_of h2⟩, ETI⟩
  have R : Rdr K mg w (He.ga K "FEWEST") (He.ga K "MOST") (He.ga K "DONE") (He.ga K "InvalidText") (He.ma K (He.ga K "InvalidText") "__init__") (He.ga K "is_word_of_plans") (He.ga K "has_right_number") (He.ga K "_word_end") (He.ga K "_next_part") (He.ga K "_read_parts") (He.ga K "read_part") (He.ga K "read_plan") fd0 fd1 fd2 fd3 fd4 fd5 fd6 := ⟨T, errC_of eiI, F0, F1, F2, F3, F4, F5, F6, g0, g1, g2, g3, g4, g5, g6⟩
  have C : CkG K mg w (He.ga K "FEWEST") (He.ga K "MOST") (He.ga K "DONE") (He.ga K "InvalidText") (He.ma K (He.ga K "InvalidText") "__init__") (He.ga K "InvalidPlan") (He.ma K (He.ga K "InvalidPlan") "__init__") (He.ga K "check_plan") (He.ga K "_is_right_alone") (He.ga K "is_word") (He.ga K "is_word_of_plans") (He.ga K "has_right_number") fd7 fd8 fd9 fd0 fd1 := ⟨T, ⟨(He.free_ok X G (d.fact 48 (f := .free "all") rfl)), (He.free_ok X G (d.fact 49 (f := .free "tuple") rfl))⟩, ETP, F7, F8, F9, F0, F1, g7, g8, g9, g0, g1⟩
  have TB : TxtB mg := ⟨(He.free_ok X G (d.fact 55 (f := .free "int") rfl)), (He.free_ok X G (d.fact 56 (f := .free "bool") rfl)), (He.free_ok X G (d.fact 52 (f := .free "list") rfl)), (He.free_ok X G (d.fact 54 (f := .free "sorted") rfl)), (He.free_ok X G (d.fact 53 (f := .free "set") rfl)), (He.free_ok X G (d.fact 57 (f := .free "dict") rfl)), (He.free_ok X G (d.fact 58 (f := .free "max") rfl)), (He.free_ok X G (d.fact 59 (f := .free "sum") rfl)), (He.int_ok X G (d.fact 73 (f := .int "MANY" 3) rfl)), (He.int_ok X G (d.fact 74 (f := .int "KINDS" 3) rfl)), (He.int_ok X G (d.fact 75 (f := .int "ROLES" 4) rfl)), (He.int_ok X G (d.fact 76 (f := .int "TASKS" 8) rfl)), (He.int_ok X G (d.fact 77 (f := .int "REMEMBERED" 3) rfl)), (He.int_ok X G (d.fact 78 (f := .int "WIDTH" 5) rfl)), (He.int_ok X G (d.fact 79 (f := .int "NAMES" 16) rfl)), (He.int_ok X G (d.fact 80 (f := .int "LEVELS" 5) rfl))⟩
  have OT : OwnC K mg "Task" (He.ga K "Task") := ownB_ok (He.glo_ok X G (d.fact 81 (f := .glo "Task") rfl)) (He.cls_ok (d.fact 82 (f := .cls "Task") rfl)) bO
  have OB : OwnC K mg "Book" (He.ga K "Book") := ownB_ok (He.glo_ok X G (d.fact 91 (f := .glo "Book") rfl)) (He.cls_ok (d.fact 92 (f := .cls "Book") rfl)) bB
  obtain ⟨fdB0, FB0⟩ := funM d 49 (cn := "Task") (m := "__eq__") (q := "Task.__eq__") (st := sEq) rfl
  obtain ⟨fdB1, FB1⟩ := funM d 50 (cn := "Book") (m := "__init__") (q := "Book.__init__") (st := sBkI) rfl
  obtain ⟨fdB2, FB2⟩ := funM d 51 (cn := "Book") (m := "copied") (q := "Book.copied") (st := sBcp) rfl
  obtain ⟨fdB3, FB3⟩ := funM d 52 (cn := "Book") (m := "__len__") (q := "Book.__len__") (st := sBln) rfl
  obtain ⟨fdB4, FB4⟩ := funM d 53 (cn := "Book") (m := "__contains__") (q := "Book.__contains__") (st := sBco) rfl
  obtain ⟨fdB5, FB5⟩ := funM d 54 (cn := "Book") (m := "__getitem__") (q := "Book.__getitem__") (st := sBgi) rfl
  obtain ⟨fdB6, FB6⟩ := funM d 55 (cn := "Book") (m := "__eq__") (q := "Book.__eq__") (st := sBq) rfl
  obtain ⟨fdT, FT⟩ := d.def_ 56 (d := dTk) rfl
  obtain ⟨fe0, E0⟩ := funG cy 0 (cn := "Task") (m := "role") (q := "Task.role") (T := "property") (st := sG1) rfl
  obtain ⟨fe1, E1⟩ := funG cy 1 (cn := "Task") (m := "many") (q := "Task.many") (T := "property") (st := sG2) rfl
  obtain ⟨fe2, E2⟩ := funG cy 2 (cn := "Task") (m := "other") (q := "Task.other") (T := "property") (st := sG3) rfl
  obtain ⟨fe3, E3⟩ := funG cy 3 (cn := "Task") (m := "same") (q := "Task.same") (T := "property") (st := sG4) rfl
  obtain ⟨fe4, E4⟩ := funG cy 4 (cn := "Task") (m := "takes") (q := "Task.takes") (T := "property") (st := sG5) rfl
  obtain ⟨fe5, E5⟩ := funG cy 5 (cn := "Task") (m := "forgets") (q := "Task.forgets") (T := "property") (st := sG6) rfl
  obtain ⟨ge0, EB0⟩ := funG cy 6 (cn := "Book") (m := "kinds") (q := "Book.kinds") (T := "property") (st := sBks) rfl
  obtain ⟨ge1, EB1⟩ := funG cy 7 (cn := "Book") (m := "names") (q := "Book.names") (T := "property") (st := sBnm) rfl
  obtain ⟨ge2, EB2⟩ := funG cy 8 (cn := "Book") (m := "remembered") (q := "Book.remembered") (T := "property") (st := sBrm) rfl
  obtain ⟨ge3, EB3⟩ := funG cy 9 (cn := "Book") (m := "width") (q := "Book.width") (T := "property") (st := sBwd) rfl
  obtain ⟨ge4, EB4⟩ := funG cy 10 (cn := "Book") (m := "plan") (q := "Book.plan") (T := "property") (st := sBp) rfl
  have mM0 := (He.meth_ok (d.fact 99 (f := .meth "Book" "copied") rfl))
  have mM1 := (He.meth_ok (d.fact 100 (f := .meth "Book" "__len__") rfl))
  have mM2 := (He.meth_ok (d.fact 101 (f := .meth "Book" "__contains__") rfl))
  have mM3 := (He.meth_ok (d.fact 102 (f := .meth "Book" "__getitem__") rfl))
  have mM4 := (He.meth_ok (d.fact 103 (f := .meth "Book" "__eq__") rfl))
  have emp : ∀ q ∈ (kwT K).drop 1, ∃ b, q.2 = .ref b ∧ ∀ H : Hp, SqT K H b [] := by
    intro q hq
    simp only [kwT, List.drop_succ_cons, List.drop_zero, List.mem_cons, List.not_mem_nil, or_false] at hq
    rcases hq with z | z | z | z <;> rw [z]
    · exact ⟨_, rfl, empB_ok be0⟩
    · exact ⟨_, rfl, empB_ok be1⟩
    · exact ⟨_, rfl, empB_ok be2⟩
    · exact ⟨_, rfl, empB_ok be3⟩
  have ME := (He.meth_ok (d.fact 90 (f := .meth "Task" "__eq__") rfl))
  have GK : Pkg K mg w (He.ga K "FEWEST") (He.ga K "MOST") (He.ga K "DONE") (He.ga K "InvalidText") (He.ma K (He.ga K "InvalidText") "__init__") (He.ga K "Task") (He.ga K "is_word") (He.ga K "are_words") (He.ga K "is_whole") (He.ga K "_ascending") (He.ma K (He.ga K "Task") "__init__") fd9 fd14 fd15 fd16 fdT := ⟨T, ⟨(He.free_ok X G (d.fact 48 (f := .free "all") rfl)), (He.free_ok X G (d.fact 49 (f := .free "tuple") rfl))⟩, TB, OT, (He.mkr_ok (d.fact 89 (f := .mkr "Task") rfl)), FT, (He.noat_ok (d.fact 83 (f := .noat "Task" "_role") rfl)), (He.noat_ok (d.fact 84 (f := .noat "Task" "_many") rfl)), (He.noat_ok (d.fact 85 (f := .noat "Task" "_other") rfl)), (He.noat_ok (d.fact 86 (f := .noat "Task" "_same") rfl)), (He.noat_ok (d.fact 87 (f := .noat "Task" "_takes") rfl)), (He.noat_ok (d.fact 88 (f := .noat "Task" "_forgets") rfl)), emp, F9, F14, F15, F16, g9, g14, g15, g16⟩
  have M : Mets K (He.ga K "Task") (He.ma K (He.ga K "Task") "__eq__") (getA K "property" (He.ma K (He.ga K "Task") "role")) (getA K "property" (He.ma K (He.ga K "Task") "many")) (getA K "property" (He.ma K (He.ga K "Task") "other")) (getA K "property" (He.ma K (He.ga K "Task") "same")) (getA K "property" (He.ma K (He.ga K "Task") "takes")) (getA K "property" (He.ma K (He.ga K "Task") "forgets")) (He.ma K (He.ga K "Task") "role") (He.ma K (He.ga K "Task") "many") (He.ma K (He.ga K "Task") "other") (He.ma K (He.ga K "Task") "same") (He.ma K (He.ga K "Task") "takes") (He.ma K (He.ga K "Task") "forgets") fdB0 fe0 fe1 fe2 fe3 fe4 fe5 := ⟨propB_ok bp0, E0, propB_ok bp1, E1, propB_ok bp2, E2, propB_ok bp3, E3, propB_ok bp4, E4, propB_ok bp5, E5, ME.at_, ME.fn, FB0, He.eqO_ok bne, of_decide_eq_true bsu, bf0, bf1, bf2, of_decide_eq_true bk0, of_decide_eq_true bk1, of_decide_eq_true bk2⟩
  have CG : CpG K mg w (He.ga K "FEWEST") (He.ga K "MOST") (He.ga K "DONE") (He.ga K "InvalidText") (He.ma K (He.ga K "InvalidText") "__init__") (He.ga K "InvalidPlan") (He.ma K (He.ga K "InvalidPlan") "__init__") (He.ga K "check_plan") (He.ga K "_is_right_alone") (He.ga K "is_word") (He.ga K "is_word_of_plans") (He.ga K "has_right_number") (He.ga K "normal_form") (He.ga K "in_turn") (He.ga K "side_by_side") (He.ga K "names_inside") (He.ga K "levels") fd7 fd8 fd9 fd0 fd1 fd10 fd11 fd12 fd13 fd23 := ⟨C, F10, F11, F12, F13, F23, g10, g11, g12, g13, g23⟩
  have BB : BkG K mg (He.ga K "Book") (He.ga K "checked_kinds") (He.ga K "_are_kinds") (He.ga K "are_roles") (He.ga K "checked_plan") (He.ga K "checked_tasks") (He.ga K "are_tasks") (He.ga K "check_memory") (He.ga K "remembered_names") (He.ga K "width_of") (He.ga K "_most_doers") fd19 fd18 fd17 fd22 fd21 fd20 fd26 fd24 fd25 fd27 := ⟨OB, (He.noat_ok (d.fact 93 (f := .noat "Book" "_kinds") rfl)), (He.noat_ok (d.fact 94 (f := .noat "Book" "_tasks") rfl)), (He.noat_ok (d.fact 95 (f := .noat "Book" "_plan") rfl)), (He.noat_ok (d.fact 96 (f := .noat "Book" "_steps") rfl)), (He.noat_ok (d.fact 97 (f := .noat "Book" "_survey") rfl)), F19, F18, F17, F22, F21, F20, F26, F24, F25, F27, g27, g19, g18, g17, g22, g21, g20, g26, g24, g25⟩
  have mkB : Mk K (He.ga K "Book") (He.ma K (He.ga K "Book") "__init__") := (He.mkr_ok (d.fact 98 (f := .mkr "Book") rfl))
  have Z : Defs K mg (He.ga K "_law_pen") (He.ga K "_law_draw") (He.ga K "_law_pick") (He.ga K "_law_shuffled") (He.ga K "_law_words") (He.ga K "_law_any_value") (He.ga K "_law_task") (He.ga K "_law_made_task") (He.ga K "_law_shown") (He.ga K "_law_remembered") (He.ga K "_law_width") (He.ga K "_law_plan") (He.ga K "_law_normal") (He.ga K "_law_count") (He.ga K "_law_book") (He.ga K "_law_item") fd28 fd29 fd30 fd31 fd32 fd33 fd34 fd35 fd36 fd37 fd38 fd39 fd40 fd41 fd42 fd43 := ⟨F28, F29, F30, F31, F32, F33, F34, F35, F36, F37, F38, F39, F40, F41, F42, F43, g28, g29, g30, g31, g32, g33, g34, g35, g36, g37, g38, g39, g40, g41, g42, g43⟩
  have TP : TxtP mg := ⟨(He.free_ok X G (d.fact 52 (f := .free "list") rfl)), (He.free_ok X G (d.fact 55 (f := .free "int") rfl)), (He.free_ok X G (d.fact 47 (f := .free "len") rfl))⟩
  have TQ : TxtQ mg := ⟨(He.free_ok X G (d.fact 60 (f := .free "range") rfl)), (He.free_ok X G (d.fact 61 (f := .free "min") rfl)), (He.free_ok X G (d.fact 62 (f := .free "repr") rfl)), (He.free_ok X G (d.fact 63 (f := .free "LookupError") rfl))⟩
  have TL : TxtL mg := ⟨(He.free_ok X G (d.fact 45 (f := .free "isinstance") rfl)), (He.free_ok X G (d.fact 46 (f := .free "str") rfl)), (He.free_ok X G (d.fact 47 (f := .free "len") rfl)), (He.free_ok X G (d.fact 52 (f := .free "list") rfl)), (He.free_ok X G (d.fact 49 (f := .free "tuple") rfl)), (He.free_ok X G (d.fact 59 (f := .free "sum") rfl))⟩
  have E3 : Err3 K mg (He.ga K "InvalidPlan") (He.ma K (He.ga K "InvalidPlan") "__init__") (He.ga K "TooMany") (He.ma K (He.ga K "TooMany") "__init__") (He.ga K "UnknownTask") (He.ma K (He.ga K "UnknownTask") "__init__") := ⟨ETP, ETM, ETU, errC_ofM eiM, errC_ofL eiU, ETP.te, of_decide_eq_true x1, of_decide_eq_true x2, of_decide_eq_true x3, errB_ofM eiM, errB_ofU eiU⟩
  have e := hfa.symm.trans g44
  cases e
  have b : ∀ (s : Shared) (v : Value), BindsTo s fd44 ⟨[v], []⟩ [("_law_script", v)] := by
    obtain ⟨oc, od, kV, doc, pm, an, cdv, ct, osl, e, _, _⟩ := F44.ex
    intro s v
    rw [e]
    exact .of_eq rfl
  exact ⟨fd44, b, fun base _ _ => ok_law F44 ⟨CG, GK, M, BB, ⟨mkB, FB1, mM0, FB2, mM1, FB3, mM2, FB4, mM3, bfn, FB5, mM4, FB6, He.eqO_ok bbn, of_decide_eq_true bbs, propB_ok bbp0, EB0, propB_ok bbp1, EB1, propB_ok bbp2, EB2, propB_ok bbp3, EB3, propB_ok bbp4, EB4⟩, E3⟩ Z TP TQ TL bS bnl (of_decide_eq_true bkl)⟩
end
end Fp1
set_option Elab.async false
set_option linter.all false
set_option maxRecDepth 100000
set_option maxHeartbeats 0
open PySem PySem.W PySem.Calls PyProof.Rows
def PySem.W.Fast.tw14323647667202157591 : Unit := ()
def PySem.W.Fast.tw14744649243689242723 : Unit := ()
def PySem.W.Fast.tw9801461743135241775 : Unit := ()
def PySem.W.Fast.tw8225883133056639055 : Unit := ()
def PySem.W.Fast.tw9291368754904992802 : Unit := ()
def PySem.W.Fast.tw17466715486600694081 : Unit := ()
def PySem.W.Fast.tw6440057290924808850 : Unit := ()
def PySem.W.Fast.tw7041577467859668727 : Unit := ()
def PySem.W.Fast.tw11778650173629637379 : Unit := ()
def PySem.W.Fast.tw7899593236458430248 : Unit := ()
def PySem.W.Fast.tw12425085012125870911 : Unit := ()
theorem PySem.Challenge.cw_fewhands_k07_books_made_holds : PySem.Challenge.rw_fewhands_k07_books_made.Holds := by
  w_on; o_law
  o_head Fp1.hk
  case hw => w_witness2
  case hc =>
    refine Fh.walk_ofGE (l := PySem.Challenge.rw_fewhands_k07_books_made) (n := 63) (k := 20) (x := "_law_script") (CX := L2.CX0) rfl (by decide) (by kernel_rfl) ⟨rfl, by decide, by decide⟩ ?F (fun _ _ _ _ z => z)
    intro w mg fa h Y G hmg0
    obtain ⟨K, KX, c⟩ := Y
    have hmg : mg ("law" : PySem.Str) = some (.ref fa) := by
      have e : (HandSHeadRun.topDef (OpenLaw.row PySem.Challenge.rw_fewhands_k07_books_made).prog 96).name = ("law" : PySem.Str) := by kernel_rfl
      rw [← e]
      exact hmg0
    obtain ⟨fd, hb, hF⟩ := Fp1.facts (P := (PySem.Challenge.rw_fewhands_k07_books_made).prog) (w := w) KX G hmg c
    exact ⟨K, fd, Fp1.spLaw K, KX, hb, fun H a ns hl _ _ hS => ⟨a, ns, rfl, hS, hl, fun _ => rfl⟩, hF⟩
