import PyProof.Rows.All
import Wide.All
import OpenK.AllK
import Wide.FinOn
import PyProof.ReprRoads
import HandS.ForMost
import HandS.EndBits
import KE.KExcInit
import HandS.Exc
import HandS.ExcInit
import HandS.ExcOwn
import HandS.IsInst
import HandS.ExcIs
import HandS.Defaults
import KE.KExcIs
import HandS.ExcValue
import HandS.DeepEq
import HandS.DictComp
import HandS.Star
import HandS.MakeKw
import HandS.MakeKwOnly
import HandS.ClsMeth
import HandS.Property
import HandS.CallLocal
import KE.KParD
import PyProof.InstNe
import OpenK.KMeth
import KE.KOpsOwn
import HandS.SlotsOwn
import HandS.Set
import HandS.SetFor
import HandS.Strs
import HandS.SetKeys
import HandS.Conv
import HandS.ListItems
import KE.KDictSum
import HandS.Walk
import KE.KEqDict
import HandS.Text
import PyProof.ReprLen
import PyProof.TupleOfSeq
import HandS.ForExc
import HandS.More
import HandS.Dict
import PyProof.EqAt
import PyProof.NeKinds
import HandS.RaiseMore
import KE.KStateDown
import HandS.Head0
import HandS.Head1
import HandS.Head2
import HandS.HeadEnd
import HandS.HeadHook1
import HandS.HeadHook2
import HandS.HeadHook3
import HandS.HeadHook4
import HandS.NoneIn
import PyProof.TupleKey
import PyProof.DictFindH
import HandS.Small
import PyProof.DictRoadsH
import HandS.Iter
import HandS.Nested
import KE.KSuper
import HandS.Lambda
import HandS.EndTab
import HandS.List
import PySem.Challenge.RW_fewhands_k26_plans_that_books_refuse
import HandS.TupAny
import HandS.TryOnly
import HandS.Codes
import HandS.FStr
import PyProof.AutoSeq1
import HandS.Comp
import HandS.TupLe
import HandS.SortKw
import HandS.WordsDict
import HandS.TryMany
import HandS.Deep
import HandS.TupMul
set_option Elab.async false
set_option linter.all false
set_option maxRecDepth 100000
set_option maxHeartbeats 4000000
/-! FhA: a def's promise where no repr is under way (FnG), data in the abstract heap (DA), repr of it -/
namespace Fh
open PySem PySem.Spec PyProof.Rows L2
/-! ### 1. promises that hold where the stack shows no repr -/
structure FnG (P : Program) (w : World) (K : PySem.W.Frag) (mg : Str → Option Value) (base : Heap) (CX : CXT) (k : Nat) (f : Addr) (fd : FuncData) (ps : List Str) (sp : Sp) : Prop where
  len : ∀ vs H Q E, sp vs H Q E → vs.length = ps.length
  run : ∀ (A : Around) (outer : List Env) (s : Shared) (H : Hp) (args : Args) (us : List Value) (vs : List V) (Q : VK) (E : XK), A.guards = some [] → Room k A → Env0 P w K mg base A outer s H →
    BindsTo s fd args (ps.zip us) → Vals vs us → sp vs H Q E → codeAny (model P w) A (.call (.ref f) args) (CR CX outer P w H s Q E) s
theorem guards_deeper (A : Around) (env : Env) : (A.deeper env).guards = A.guards := by
  first
    | rfl
    | simp [Around.deeper]
/-! ### 2. the end of a law whose def is promised under no repr -/
/-! ### 3. data in the abstract heap -/
def kP : Key → PyData
  | .inl i => .int i
  | .inr x => .str x
mutual
/-- v is the data d -/
inductive DA (N : Addr → Prop) (H : Hp) : V → PyData → Prop where
  | non : DA N H .non .none
  | bl (b : Bool) : DA N H (.bl b) (.bool b)
  | int (i : Int) : DA N H (.int i) (.int i)
  | str (x : Str) : DA N H (.str x) (.str x)
  | lst {a : Addr} {xs : List V} {ds : List PyData} : H a = some (.lst xs) → a ≠ sysModules → ¬ N a → DAs N H xs ds → DA N H (.ref a) (.list ds)
  | tup {a : Addr} {xs : List V} {ds : List PyData} : H a = some (.tup xs) → ¬ N a → DAs N H xs ds → DA N H (.ref a) (.tuple ds)
  | dK {a : Addr} {es : List (Key × V)} {kvs : List (PyData × PyData)} : H a = some (.dK es) → ¬ N a → DKs N H es kvs → DA N H (.ref a) (.dict kvs)
inductive DAs (N : Addr → Prop) (H : Hp) : List V → List PyData → Prop where
  | nil : DAs N H [] []
  | cons {x : V} {d : PyData} {xs : List V} {ds : List PyData} : DA N H x d → DAs N H xs ds → DAs N H (x :: xs) (d :: ds)
inductive DKs (N : Addr → Prop) (H : Hp) : List (Key × V) → List (PyData × PyData) → Prop where
  | nil : DKs N H [] []
  | cons {k : Key} {v : V} {d : PyData} {es : List (Key × V)} {kvs : List (PyData × PyData)} : DA N H v d → DKs N H es kvs → DKs N H ((k, v) :: es) ((kP k, d) :: kvs)
end
mutual
theorem DA.same {N : Addr → Prop} {H H' : Hp} (s : Same H H') : ∀ {v : V} {d : PyData}, DA N H v d → DA N H' v d
  | _, _, .non => .non
  | _, _, .bl b => .bl b
  | _, _, .int i => .int i
  | _, _, .str x => .str x
  | _, _, .lst h n m r => .lst (s _ _ h) n m (DAs.same s r)
  | _, _, .tup h m r => .tup (s _ _ h) m (DAs.same s r)
  | _, _, .dK h m r => .dK (s _ _ h) m (DKs.same s r)
theorem DAs.same {N : Addr → Prop} {H H' : Hp} (s : Same H H') : ∀ {v : List V} {d : List PyData}, DAs N H v d → DAs N H' v d
  | _, _, .nil => .nil
  | _, _, .cons h r => .cons (DA.same s h) (DAs.same s r)
theorem DKs.same {N : Addr → Prop} {H H' : Hp} (s : Same H H') : ∀ {v : List (Key × V)} {d : List (PyData × PyData)}, DKs N H v d → DKs N H' v d
  | _, _, .nil => .nil
  | _, _, .cons h r => .cons (DA.same s h) (DKs.same s r)
end
theorem key_reads {h : Heap} {k : Key} {u : Value} (z : keyIs k u = true) : Reads h u (kP k) [] := by
  cases k with
  | inl i =>
    obtain ⟨t, e⟩ := Value.isInt_shape (show Value.isInt i u = true from z)
    rw [e]
    exact .int i t
  | inr x =>
    obtain ⟨t, e⟩ := Value.isStrOf_shape (show Value.isStrOf x u = true from z)
    rw [e]
    exact .str x t
section
variable {P : Program} {w : World} {N : Addr → Prop} {H : Hp} {h : Heap}
mutual
theorem DA.reads (ok : HOk P w H h) : ∀ {v : V} {d : PyData} {u : Value}, DA N H v d → RelV v u → ∃ as, Reads h u d as ∧ sysModules ∉ as
  | _, _, u, .non, r => by
    have e : u = Value.none := r
    rw [e]
    exact ⟨[], .none, List.not_mem_nil⟩
  | _, _, u, .bl b, r => by
    have e : u = Value.bool b := r
    rw [e]
    exact ⟨[], .bool b, List.not_mem_nil⟩
  | _, _, u, .int i, r => by
    obtain ⟨t, e⟩ := (show ∃ t, u = Value.int i t from r)
    rw [e]
    exact ⟨[], .int i t, List.not_mem_nil⟩
  | _, _, u, .str x, r => by
    obtain ⟨t, e⟩ := (show ∃ t, u = Value.str x t from r)
    rw [e]
    exact ⟨[], .str x t, List.not_mem_nil⟩
  | _, _, u, .lst (a := a) (xs := xs) hA n _ rs, r => by
    have e : u = Value.ref a := r
    rw [e]
    obtain ⟨_, its, m, rv, ho⟩ := (show ObjOk P w H h a (.lst xs) from ok a _ hA)
    obtain ⟨as, ra, ns⟩ := DAs.reads ok rs rv
    exact ⟨a :: as, .list ho rfl rfl (by simpa using ra), fun z => (List.mem_cons.mp z).elim (fun y => n y.symm) ns⟩
  | _, _, u, .tup (a := a) (xs := xs) hA _ rs, r => by
    have e : u = Value.ref a := r
    rw [e]
    obtain ⟨_, its, rv, o, ho, hc, m, hd⟩ := (show ObjOk P w H h a (.tup xs) from ok a _ hA)
    obtain ⟨as, ra, ns⟩ := DAs.reads ok rs rv
    exact ⟨as, .tuple ho hc hd (by simpa using ra), ns⟩
  | _, _, u, .dK (a := a) (es := es) hA _ rs, r => by
    have e : u = Value.ref a := r
    rw [e]
    obtain ⟨_, hs, vs, rv, o, ds, ep, ho, hx, hd, _, hp, _⟩ := (show ObjOk P w H h a (.dK es) from ok a _ hA)
    obtain ⟨as, bs, r1, r2, n1, n2⟩ := DKs.reads ok rs rv hp
    refine ⟨a :: as ++ bs, .dict ho hx.1 hd r1 r2, fun z => ?_⟩
    rcases List.mem_append.mp z with y | y
    · rcases List.mem_cons.mp y with x | x
      · exact absurd x.symm (beq_eq_false_iff_ne.mp hs)
      · exact n1 x
    · exact n2 y
theorem DAs.reads (ok : HOk P w H h) : ∀ {vs : List V} {ds : List PyData} {us : List Value}, DAs N H vs ds → Vals vs us → ∃ as, ReadsAll h us ds as ∧ sysModules ∉ as
  | _, _, _, .nil, .nil => ⟨[], .nil, List.not_mem_nil⟩
  | _, _, _, .cons hd rs, .cons r1 r2 => by
    obtain ⟨as, a1, a2⟩ := DA.reads ok hd r1
    obtain ⟨bs, b1, b2⟩ := DAs.reads ok rs r2
    exact ⟨as ++ bs, .cons a1 b1, fun z => (List.mem_append.mp z).elim a2 b2⟩
theorem DKs.reads (ok : HOk P w H h) : ∀ {es : List (Key × V)} {kvs : List (PyData × PyData)} {vs : List (Key × Value)} {ds : List DictEntry}, DKs N H es kvs → KV es vs → Pairs (mixKind P w) ds vs →
    ∃ as bs, ReadsAll h (ds.map (·.key)) (kvs.map (·.1)) as ∧ ReadsAll h (ds.map (·.val)) (kvs.map (·.2)) bs ∧ sysModules ∉ as ∧ sysModules ∉ bs
  | _, _, _, _, .nil, .nil, .nil => ⟨[], [], .nil, .nil, List.not_mem_nil, List.not_mem_nil⟩
  | _, _, _, _, .cons hd rs, .cons r1 r2, .cons p1 p2 p3 => by
    obtain ⟨as, bs, a1, b1, a2, b2⟩ := DKs.reads ok rs r2 p3
    obtain ⟨cs, c1, c2⟩ := DA.reads ok hd (show RelV _ _ from p2 ▸ r1.2)
    have k1 := key_reads (h := h) p1
    rw [← r1.1] at k1
    exact ⟨[] ++ as, cs ++ bs, .cons k1 a1, .cons c1 b1, a2, fun z => (List.mem_append.mp z).elim c2 b2⟩
end
end
/-! ### 4. repr of data -/
def rRepr : List V → Hp → VK → Prop := fun xs H Q => ∃ (N : Addr → Prop) (v : V) (d : PyData), xs = [v] ∧ DA N H v d ∧ d.showable = true ∧ d.depth ≤ 60 ∧ d.shown.length ≤ sizeLine ∧ Q (.str d.shown) H
end Fh
set_option Elab.async false
set_option linter.all false
set_option maxRecDepth 100000
set_option maxHeartbeats 4000000
namespace PySem
end PySem
set_option Elab.async false
set_option linter.all false
set_option maxRecDepth 100000
set_option maxHeartbeats 4000000
namespace Fh
open PySem PySem.Spec PyProof.Rows L2
open PySem.W (Frag)
/-- what the written part says of an own error class at C, straight below the built-in class with mro bmB -/
structure EI (K : Frag) (C : Addr) (bmB : List Value) (newId : String) : Prop where
  q : PySem.W.excInitIn K C bmB newId = true
  mro : (PySem.W.clsIn K C).map (·.mro) = some (.ref C :: bmB)
  hd : PySem.W.hasDictIn K C = true
  ty : PySem.W.typeIn K (.ref C) = some (.type "type")
  sa : PySem.W.findIn K (.ref C) "__setattr__" = some (some (.builtin "object.__setattr__"))
  ga : PySem.W.findIn K (.ref C) "__getattribute__" = some (some (.builtin "BaseException.__getattribute__"))
  gg : PySem.W.findIn K (.ref C) "__getattr__" = some none
  cl : PySem.W.findIn K (.ref C) "__class__" = some (some (.builtin "object.__class__"))
  kC : PySem.W.keepIn K (.ref C) = true
  hn : PySem.W.specialIn K (.builtin "object.__class__") "__get__" = some (some (.builtin "getset_descriptor.__get__"))
  ht : PySem.W.takesIn K (.builtin "object.__class__") = some true
section
variable {K : Frag} {C : Addr} {bmB : List Value} {newId : String}
theorem EI.cls (T : EI K C bmB newId) : ∃ cd, PySem.W.clsIn K C = some cd ∧ cd.mro = .ref C :: bmB := Option.map_eq_some_iff.mp T.mro
theorem EI.sub (T : EI K C bmB newId) {b : Value} : PySem.W.subIn K (.ref C) b = some (List.contains (.ref C :: bmB) b) := by
  obtain ⟨cd, h1, h2⟩ := T.cls
  show PySem.W.mroIn K C b = _
  unfold PySem.W.mroIn
  rw [h1, Option.bind_some, h2, if_neg (by simp)]
theorem EI.mroI (T : EI K C bmB newId) {b : Value} : PySem.W.mroIn K C b = some (List.contains (.ref C :: bmB) b) := T.sub
theorem EI.tail (T : EI K C bmB newId) : PySem.W.excTail bmB bmB = true := by
  have q := T.q
  obtain ⟨cd, h1, h2⟩ := T.cls
  unfold PySem.W.clsIn at h1
  unfold PySem.W.excInitIn at q
  split at h1
  · rename_i c d cd' sl ho
    have e := Option.some.inj h1
    subst e
    rw [ho] at q
    split at q
    · rename_i dd cd2 sl2 ho2
      have e2 := Option.some.inj ho2
      injection e2 with e3 e4 e5 e6
      injection e5 with e5
      subst e5
      rw [h2] at q
      split at q
      · rename_i C' bm _ _ _ _ _ _ hm _
        injection hm with hm1 hm2
        subst hm2
        simp only [Bool.and_eq_true] at q
        exact q.2
      · exact nomatch q
    · exact nomatch q
  · exact nomatch h1
theorem EI.over (T : EI K C bmB newId) : PySem.W.excOver K C bmB = true := by
  obtain ⟨cd, h1, h2⟩ := T.cls
  unfold PySem.W.excOver
  rw [h1]
  show (match cd.mro with | .ref C' :: bm => C' == C && PySem.W.excTail bmB bm | _ => false) = true
  rw [h2]
  show (C == C && PySem.W.excTail bmB bmB) = true
  rw [T.tail]
  simp
end
/-! ### self.f = v in such a class's __init__ -/
section
variable {prog : Program} {w : World} {A : Around} {R : Result → Shared → Prop} {hp : Heap} {g : Array GenState} {d : Drawn} {t : Nat} {os : OsState} {K : Frag} {C : Addr} {bmB : List Value} {newId B : String} {name : Str} {tk : Tok} {v : Value} {x : Addr} {fv : Array Value}
open Builtin Builtin.ObjectAttr in
theorem osaG_new (T : EI K C bmB newId) (SF : StoreFacts B bmB "object.__setattr__" "object") (X : K.In hp) (hx : hp.get? x = some { cls := .ref C, data := .fields fv }) (no : PySem.W.findIn K (.ref C) name = some none)
    (hq : ∀ h' tk' dx, (∀ b o, b ≠ x → hp.get? b = some o → h'.get? b = some o) → hp.objs.size ≤ dx → dx ≠ x → h'.get? x = some { cls := .ref C, dict := some dx, data := .fields fv } →
      h'.Ns1 dx (fun y => if y = name then some v else none) → R (.ok (.ret .none)) ⟨h', g, d, tk', os⟩) :
    codeAny (model prog w) A (.call (.builtin "object.__setattr__") ⟨[.ref x, .str name tk, v], []⟩) R ⟨hp, g, d, t, os⟩ := by
  obtain ⟨cd, hcd, hdict⟩ := PySem.W.any_some T.hd
  have apart : x ≠ hp.objs.size := Nat.ne_of_lt (Heap.lt_size hx)
  have hcls : PySem.W.Looks (model prog w) hp (classData C) cd := PySem.W.looks_clsIn X hcd
  refine PySem.W.osa_openX (od := none) (r := none) SF X ⟨hx, rfl, rfl, trivial⟩ T.over ?_ fun b => ?_
  · unfold PySem.W.takerIn
    rw [no]
    rfl
  · show wpAny _ _ (storeInOwnDict (.ref x) (.ref C) (.str name tk) name v b) _ _ _
    obtain ⟨n1, n2, n3, n4, n5, n6, n7, n8, n9, n10, n11⟩ := cd
    have e6 : n6 = true := hdict
    subst e6
    unfold storeInOwnDict ownDictForStores
    repeat (first
      | with_reducible refine HandSPX.store_in_new ?_ ?_
      | with_reducible refine wpAny_loadPart_at hx ?_
      | with_reducible refine hcls.at ?_
      | wp_step)
    · exact ⟨_, #[], _, (Heap.get?_update_ne _ _ _ _ apart.symm).trans (Heap.get?_push_at rfl rfl), rfl, fun e he => absurd he (by simp), fun _ => rfl⟩
    · intro h' tk' ns same
      have hx1 : (hp.push { cls := .type "dict", data := .dict #[] }).get? x = some { cls := .ref C, data := .fields fv } := Heap.get?_push_of_some _ hx
      refine hq h' tk' hp.objs.size (fun b o hb ho => ?_) (Nat.le_refl _) apart.symm ?_ ns
      · exact (same.2 b (Nat.ne_of_lt (Heap.lt_size ho))).trans ((Heap.get?_update_ne _ _ _ _ hb).trans (Heap.get?_push_of_some _ ho))
      · exact (same.2 x apart).trans (Heap.get?_update_self _ hx1 rfl)
end
/-! ### C(..): made, by positions, by keywords -/
end Fh
set_option Elab.async false
set_option linter.all false
set_option maxRecDepth 100000
set_option maxHeartbeats 4000000
namespace Fh
open PySem PySem.Spec PyProof.Rows L2
open PySem.W (Frag)
/-- an error of the class at C stands at a, with the fields fs -/
def ErrAt (H : Hp) (a C : Addr) (fs : List (Str × V)) : Prop := (fs = [] ∧ H a = some (exo a C none)) ∨ ∃ d, H a = some (exo a C (some d)) ∧ H d = some (exd d fs)
theorem ErrAt.same {H H' : Hp} {a C : Addr} {fs : List (Str × V)} (s : Same H H') (h : ErrAt H a C fs) : ErrAt H' a C fs := by
  rcases h with ⟨e, h⟩ | ⟨d, h1, h2⟩
  · exact Or.inl ⟨e, s _ _ h⟩
  · exact Or.inr ⟨d, s _ _ h1, s _ _ h2⟩
section
variable {K : Frag} {C D : Addr} {bmB bmD : List Value} {newId newD : String}
theorem EI.kitT (T : EI K C bmB newId) {t : String} (hm : PySem.W.kitMeta t = true) : PySem.W.kitOne K (.ref C) (.type t) = some (bmB.contains (.type t)) := by
  unfold PySem.W.kitOne
  rw [if_neg (by simp)]
  show (if PySem.W.kitMeta t = true then PySem.W.subIn K (.ref C) (.type t) else none) = _
  rw [if_pos hm, T.sub, List.contains_cons]
  rfl
end
/-! ### a list display whose address is not that of sys.modules -/
/-! ### a value and itself -/
end Fh
set_option Elab.async false
set_option linter.all false
set_option maxRecDepth 100000
set_option maxHeartbeats 4000000
namespace Fh
open PySem PySem.Spec PyProof.Rows L2
open PySem.W (Frag)
theorem PE.imp {X : Cx} {e : Expr} {t t' : TE} (h : PE X e t) (i : ∀ σ H Q, t' σ H Q → t σ H Q) : PE X e t' := ⟨fun pins s σ H Q I q => h.run pins s σ H Q I (i σ H Q q)⟩
theorem PA.imp {X : Cx} {e : List Expr} {t t' : TA} (h : PA X e t) (i : ∀ σ H Q, t' σ H Q → t σ H Q) : PA X e t' := ⟨fun pos pins s σ H Q I q => h.run pos pins s σ H Q I (i σ H Q q)⟩
theorem PS.imp {X : Cx} {e : Stmt} {t t' : TS} (h : PS X e t) (i : ∀ D σ H, t' D σ H → t D σ H) : PS X e t' := ⟨fun pins s σ H D I q => h.run pins s σ H D I (i D σ H q)⟩
theorem Same.upd {H H' : Hp} {p : Addr} {o : HO} (s : Same H H') (n : H' p = none) : Same H (upd H' p o) := fun b u e => by
  rw [upd_ne (ne_of_none (s b u e) n)]
  exact s b u e
theorem Same.new {H : Hp} {p : Addr} {o : HO} (n : H p = none) : Same H (L2.upd H p o) := Same.upd (Same.refl H) n
/-! ### written data -/
/-- N: addresses that stand already and are kept apart -/
def Kept (N : Addr → Prop) (H : Hp) : Prop := ∀ a, N a → H a ≠ none
theorem Kept.same {N : Addr → Prop} {H H' : Hp} (k : Kept N H) (s : Same H H') : Kept N H' := fun a n z => by
  cases e : H a with
  | none => exact k a n e
  | some o =>
    rw [s a o e] at z
    exact nomatch z
def tD (N : Addr → Prop) (d : PyData) : TE := fun _ H Q => Kept N H ∧ ∀ x H', Same H H' → DA N H' x d → Q x H'
theorem DAs.length {N : Addr → Prop} {H : Hp} : ∀ {xs : List V} {ds : List PyData}, DAs N H xs ds → xs.length = ds.length
  | _, _, .nil => rfl
  | _, _, .cons _ r => congrArg Nat.succ (DAs.length r)
theorem DAs.append {N : Addr → Prop} {H : Hp} : ∀ {xs ys : List V} {ds es : List PyData}, DAs N H xs ds → DAs N H ys es → DAs N H (xs ++ ys) (ds ++ es)
  | _, _, _, _, .nil, h => h
  | _, _, _, _, .cons a r, h => .cons a (DAs.append r h)
theorem DAs.get {N : Addr → Prop} {H : Hp} : ∀ {xs : List V} {ds : List PyData}, DAs N H xs ds → ∀ {i : Nat} {x : V}, xs[i]? = some x → ∃ d, ds[i]? = some d ∧ DA N H x d
  | _, _, .nil, _, _, e => by simp at e
  | _, _, .cons a r, 0, x, e => by
    simp at e
    subst e
    exact ⟨_, rfl, a⟩
  | _, _, .cons a r, i + 1, x, e => by
    obtain ⟨d, h1, h2⟩ := DAs.get r (i := i) (x := x) (by simpa using e)
    exact ⟨d, by simpa using h1, h2⟩
/-! ### the pen of a law: its ints, its place, its rest -/
/-- a pen at p, its list at c; its place is at most n -/
structure PenAt (H : Hp) (p c : Addr) (n : Nat) : Prop where
  pc : p ≠ c
  ex : ∃ (cs : List Int) (spot rest : Int), H p = some (.dK [(Sum.inr "cells", .ref c), (Sum.inr "spot", .int spot), (Sum.inr "rest", .int rest)]) ∧ H c = some (.lst (cs.map V.int)) ∧ cs.length ≤ 1000 ∧ 0 ≤ spot ∧ spot ≤ n
/-- all but p stays -/
def But (p : Addr) (H H' : Hp) : Prop := ∀ b o, b ≠ p → H b = some o → H' b = some o
theorem But.refl (p : Addr) (H : Hp) : But p H H := fun _ _ _ h => h
theorem But.trans {p : Addr} {H H1 H2 : Hp} (a : But p H H1) (b : But p H1 H2) : But p H H2 := fun x o n h => b x o n (a x o n h)
theorem But.of {p : Addr} {H H1 : Hp} (a : Same H H1) : But p H H1 := fun x o _ h => a x o h
theorem But.upd {p : Addr} {H H1 : Hp} {u : HO} (a : But p H H1) : But p H (L2.upd H1 p u) := fun x o n h => by
  rw [upd_ne n]
  exact a x o n h
theorem PenAt.same {H H' : Hp} {p c : Addr} {n m : Nat} (s : Same H H') (h : PenAt H p c n) (hm : n ≤ m) : PenAt H' p c m := by
  obtain ⟨a, cs, spot, rest, h1, h2, h3, h4, h5⟩ := h
  exact ⟨a, cs, spot, rest, s _ _ h1, s _ _ h2, h3, h4, by omega⟩
mutual
theorem DA.but {N : Addr → Prop} {p : Addr} {H H' : Hp} (s : But p H H') (hp : N p) : ∀ {v : V} {d : PyData}, DA N H v d → DA N H' v d
  | _, _, .non => .non
  | _, _, .bl b => .bl b
  | _, _, .int i => .int i
  | _, _, .str x => .str x
  | _, _, .lst h n m r => .lst (s _ _ (fun z => m (z ▸ hp)) h) n m (DAs.but s hp r)
  | _, _, .tup h m r => .tup (s _ _ (fun z => m (z ▸ hp)) h) m (DAs.but s hp r)
  | _, _, .dK h m r => .dK (s _ _ (fun z => m (z ▸ hp)) h) m (DKs.but s hp r)
theorem DAs.but {N : Addr → Prop} {p : Addr} {H H' : Hp} (s : But p H H') (hp : N p) : ∀ {v : List V} {d : List PyData}, DAs N H v d → DAs N H' v d
  | _, _, .nil => .nil
  | _, _, .cons h r => .cons (DA.but s hp h) (DAs.but s hp r)
theorem DKs.but {N : Addr → Prop} {p : Addr} {H H' : Hp} (s : But p H H') (hp : N p) : ∀ {v : List (Key × V)} {d : List (PyData × PyData)}, DKs N H v d → DKs N H' v d
  | _, _, .nil => .nil
  | _, _, .cons h r => .cons (DA.but s hp h) (DKs.but s hp r)
end
end Fh
set_option Elab.async false
set_option linter.all false
set_option maxRecDepth 100000
set_option maxHeartbeats 4000000
namespace Fh
open PySem PySem.Spec PyProof.Rows L2
open PySem.W (Frag)
/-! ### a pen's pairs -/
def penKV (c : Addr) (s r : Int) : List (Key × V) := [(Sum.inr "cells", .ref c), (Sum.inr "spot", .int s), (Sum.inr "rest", .int r)]
theorem pen_cells {c : Addr} {s r : Int} : valV (penKV c s r) (Sum.inr "cells" : Key) = some (.ref c) := by
  first
    | rfl
    | simp [penKV, valV]
theorem pen_spot {c : Addr} {s r : Int} : valV (penKV c s r) (Sum.inr "spot" : Key) = some (.int s) := by
  first
    | rfl
    | simp [penKV, valV]
theorem pen_rest {c : Addr} {s r : Int} : valV (penKV c s r) (Sum.inr "rest" : Key) = some (.int r) := by
  first
    | rfl
    | simp [penKV, valV]
theorem put_spot {c : Addr} {s r z : Int} : putK (penKV c s r) (Sum.inr "spot" : Key) (.int z) = penKV c z r := by
  first
    | rfl
    | simp [penKV, putK]
theorem put_rest {c : Addr} {s r z : Int} : putK (penKV c s r) (Sum.inr "rest" : Key) (.int z) = penKV c s z := by
  first
    | rfl
    | simp [penKV, putK]
/-- a pen stands at p, its list at c; its place is s, its rest r -/
structure PenS (H : Hp) (p c : Addr) (cs : List Int) (s r : Int) : Prop where
  pc : p ≠ c
  hp : H p = some (.dK (penKV c s r))
  hc : H c = some (.lst (cs.map V.int))
  hl : cs.length ≤ 1000
theorem PenAt.open {H : Hp} {p c : Addr} {n : Nat} (h : PenAt H p c n) : ∃ cs s r, PenS H p c cs s r ∧ 0 ≤ s ∧ s ≤ n := by
  obtain ⟨a, cs, s, r, h1, h2, h3, h4, h5⟩ := h
  exact ⟨cs, s, r, ⟨a, h1, h2, h3⟩, h4, h5⟩
theorem PenS.at_ {H : Hp} {p c : Addr} {cs : List Int} {s r : Int} {n : Nat} (h : PenS H p c cs s r) (h0 : 0 ≤ s) (h1 : s ≤ n) : PenAt H p c n := ⟨h.pc, cs, s, r, h.hp, h.hc, h.hl, h0, h1⟩
theorem PenS.put {H : Hp} {p c : Addr} {cs : List Int} {s r s' r' : Int} (h : PenS H p c cs s r) : PenS (upd H p (.dK (penKV c s' r'))) p c cs s' r' :=
  ⟨h.pc, upd_same, by rw [upd_ne (Ne.symm h.pc)]; exact h.hc, h.hl⟩
theorem PenS.same {H H' : Hp} {p c : Addr} {cs : List Int} {s r : Int} (h : PenS H p c cs s r) (z : Same H H') : PenS H' p c cs s r := ⟨h.pc, z _ _ h.hp, z _ _ h.hc, h.hl⟩
section
variable {X : Cx} {o i : Expr} {x : Str} {p1 p2 p3 : Pos} {a k : Nat}
/-- pen['rest'], pen['spot'], pen['cells']: the pen's name stands in the slot k -/
def tPenV (g : Addr → Int → Int → V) (k : Nat) : TE := fun σ H Q => ∃ p c cs s r, σ[k]? = some (some (V.ref p)) ∧ PenS H p c cs s r ∧ Q (g c s r) H
theorem pe_rest (hu : X.A.units + 1 < cLine) (ho : PE X o (tVar k)) : PE X (.Subscript o (.Constant (.str "rest") a p2) p3) (tPenV (fun _ _ r => .int r) k) :=
  PE.imp (pe_dget hu ho pe_str (fun _ _ => rfl)) fun σ H Q ⟨p, c, cs, s, r, h1, h2, q⟩ => ⟨_, h1, p, _, rfl, by rw [← pen_rest (c := c) (s := s) (r := r)]; exact DGet.k (k := Sum.inr "rest") h2.hp, q⟩
theorem pe_spot (hu : X.A.units + 1 < cLine) (ho : PE X o (tVar k)) : PE X (.Subscript o (.Constant (.str "spot") a p2) p3) (tPenV (fun _ s _ => .int s) k) :=
  PE.imp (pe_dget hu ho pe_str (fun _ _ => rfl)) fun σ H Q ⟨p, c, cs, s, r, h1, h2, q⟩ => ⟨_, h1, p, _, rfl, by rw [← pen_spot (c := c) (s := s) (r := r)]; exact DGet.k (k := Sum.inr "spot") h2.hp, q⟩
theorem pe_cells (hu : X.A.units + 1 < cLine) (ho : PE X o (tVar k)) : PE X (.Subscript o (.Constant (.str "cells") a p2) p3) (tPenV (fun c _ _ => .ref c) k) :=
  PE.imp (pe_dget hu ho pe_str (fun _ _ => rfl)) fun σ H Q ⟨p, c, cs, s, r, h1, h2, q⟩ => ⟨_, h1, p, _, rfl, by rw [← pen_cells (c := c) (s := s) (r := r)]; exact DGet.k (k := Sum.inr "cells") h2.hp, q⟩
end
theorem fm_lo (z b : Int) (h0 : 0 < b) (h1 : b < 2 ^ 64) : -(2 ^ 64) < z.fmod b ∧ z.fmod b < 2 ^ 64 := by
  have l := Int.fmod_nonneg_of_pos z h0
  have u := Int.fmod_lt_of_pos z h0
  omega
/-- the statement that takes a cell of the script, if there is one -/
def tCellIf : TS := fun D σ H => ∃ (p c : Addr) (cs : List Int) (z y re sz : Int) (m : V) (dg mx : Option V), σ = [some (.ref p), some m, dg, some (.int z), some (.int y), mx] ∧ PenS H p c cs sz re ∧ 0 ≤ z ∧
  ∀ (cell : Int) (H' : Hp), Same H H' → D.nx [some (.ref p), some m, dg, some (.int z), some (.int cell), mx] H'
/-! ### what a draw promises -/
def spDraw : Sp := fun vs H Q _ => ∃ (p c : Addr) (n : Nat) (m : Int), vs = [.ref p, .int m] ∧ PenAt H p c n ∧ n ≤ 1000000 ∧ 1 ≤ m ∧ m ≤ 1000000 ∧
  ∀ (k : Int) (H' : Hp), 0 ≤ k → k < m → PenAt H' p c (n + 1) → But p H H' → Q (.int k) H'
/-- items[draw]: an item of a list -/
def spPick (K : Frag) : Sp := fun vs H Q _ => ∃ (p c : Addr) (n : Nat) (l : Addr) (xs : List V), vs = [.ref p, .ref l] ∧ PenAt H p c n ∧ n ≤ 1000000 ∧ H l = some (.lst xs) ∧ 1 ≤ xs.length ∧ xs.length ≤ 1000 ∧
  ∀ (i : Nat) (x : V) (H' : Hp), xs[i]? = some x → PenAt H' p c (n + 1) → But p H H' → Q x H'
/-- the script's pen -/
def spPen (K : Frag) : Sp := fun vs H Q _ => ∃ (a : Addr) (ns : List Int), vs = [.ref a] ∧ SqL K H a (ns.map V.int) ∧ ns.length ≤ 63 ∧
  ∀ (p c : Addr) (H' : Hp), Same H H' → H p = none → PenAt H' p c 0 → Q (.ref p) H'
theorem dp_ints {K : Frag} {H : Hp} : ∀ cs : List Int, DpAll K H (cs.map V.int) (cs.map PyData.int)
  | [] => .nil
  | z :: cs => .cons (.int z) (dp_ints cs)
theorem lay_ints : ∀ cs : List Int, PyData.canLayAll0 (cs.map PyData.int) = true
  | [] => rfl
  | z :: cs => by
    show (PyData.canLay0 (.int z) && PyData.canLayAll0 (cs.map PyData.int)) = true
    rw [lay_ints cs]
    rfl
theorem depth_ints : ∀ cs : List Int, PyData.depthAll (cs.map PyData.int) ≤ 1
  | [] => by
    show PyData.depthAll [] ≤ 1
    simp [PyData.depthAll]
  | z :: cs => by
    have h := depth_ints cs
    simp only [List.map_cons, PyData.depthAll, PyData.depth]
    omega
theorem shaped_ints (cs : List Int) : SeqAt.shaped (.list (cs.map PyData.int)) = true := by
  have h1 := lay_ints cs
  have h2 := depth_ints cs
  have h3 : PyData.depth (.list (cs.map PyData.int)) ≤ 64 := by
    simp only [PyData.depth]
    omega
  unfold SeqAt.shaped
  rw [decide_eq_true h3, Bool.and_true]
  simpa [PyData.canLay0] using h1
theorem int_map_get {cs : List Int} {i : Nat} (h : i < cs.length) : (cs.map V.int)[i]? = some (.int cs[i]) := by
  rw [List.getElem?_map, List.getElem?_eq_getElem h]
  rfl
/-- slices at a start of 0 keep ints -/
theorem cut_ints (ns : List Int) (lo hi : Option Int) : ∃ ms : List Int, cutV (ns.map V.int) lo hi = ms.map V.int ∧ ms.length ≤ ns.length := by
  unfold cutV
  refine ⟨(ns.drop (HT.sIx (ns.map V.int).length 0 lo)).take (HT.sIx (ns.map V.int).length (ns.map V.int).length hi - HT.sIx (ns.map V.int).length 0 lo), ?_, ?_⟩
  · rw [List.map_take, List.map_drop]
  · rw [List.length_take, List.length_drop]
    omega
end Fh
set_option Elab.async false
set_option linter.all false
set_option maxRecDepth 100000
set_option maxHeartbeats 4000000
namespace Fh
open PySem PySem.Spec PyProof.Rows L2
open PySem.W (Frag)
/-! ### the four built-in classes below which a package's errors stand -/
inductive BK where
  | ve | le | oe | re
  deriving DecidableEq
def BK.nm : BK → String
  | .ve => "ValueError"
  | .le => "LookupError"
  | .oe => "OverflowError"
  | .re => "RuntimeError"
def BK.nw : BK → String
  | .ve => "ValueError.__new__"
  | .le => "LookupError.__new__"
  | .oe => "OverflowError.__new__"
  | .re => "RuntimeError.__new__"
def BK.ni : BK → String
  | .ve => "ValueError.__init__"
  | .le => "LookupError.__init__"
  | .oe => "OverflowError.__init__"
  | .re => "RuntimeError.__init__"
def BK.bm : BK → List Value
  | .oe => [.type "OverflowError", .type "ArithmeticError", .type "Exception", .type "BaseException", .type "object"]
  | b => [.type b.nm, .type "Exception", .type "BaseException", .type "object"]
def BK.no : BK → Int
  | .ve => 0
  | .le => 1
  | .oe => 2
  | .re => 3
theorem BK.fb : ∀ b : BK, ExcBaseFacts b.nm b.nw b.ni b.bm
  | .ve => PySem.F.excBase_ValueError
  | .le => PySem.F.excBase_LookupError
  | .oe => PySem.F.excBase_OverflowError
  | .re => PySem.F.excBase_RuntimeError
theorem BK.sf : ∀ b : BK, StoreFacts b.nm b.bm "object.__setattr__" "object"
  | .ve => PySem.F.store_ValueError
  | .le => PySem.F.store_LookupError
  | .oe => PySem.F.store_OverflowError
  | .re => PySem.F.store_RuntimeError
abbrev EK (K : Frag) (C : Addr) (b : BK) : Prop := EI K C b.bm b.nw
/-! ### a class of one field -/
/-! ### a new error and its dict in the heap -/
/-! ### (C(v), C(f=v)) -/
/-! ### isinstance(e, C) by the classes' places -/
end Fh
set_option Elab.async false
set_option linter.all false
set_option maxRecDepth 100000
set_option maxHeartbeats 4000000
namespace Fh
open PySem PySem.Spec PyProof.Rows L2
open PySem.W (Frag)
/-! ### found = found + [..] -/
/-! ### values that a law may ask anything of -/
end Fh
set_option Elab.async false
set_option linter.all false
set_option maxRecDepth 100000
set_option maxHeartbeats 4000000
/-! FsA: a def of **names called with keywords, a class made so -/
namespace Fs
open PySem PySem.Spec PyProof.Rows L2
open PySem.W (Frag)
/-! ### the dict of the keywords -/
/-! ### a def of **nm -/
/-! ### a class whose __init__ is such a def -/
end Fs
set_option Elab.async false
set_option linter.all false
set_option maxRecDepth 100000
set_option maxHeartbeats 4000000
/-! FsB: own ==, !=, [], operators of instances -/
namespace PySem
end PySem
set_option Elab.async false
set_option linter.all false
set_option maxRecDepth 100000
set_option maxHeartbeats 4000000
/-! FsC: own ==, !=, [], operators of instances, over the layer -/
namespace Fs
open PySem PySem.Spec PyProof.Rows L2
open PySem.W (Frag)
/-! ### calls: a local name that holds a class, a classmethod by keywords -/
end Fs
set_option Elab.async false
set_option linter.all false
set_option maxRecDepth 100000
set_option maxHeartbeats 4000000
/-! FsD: set(d) of a dict of texts, sorted of it; tuple(d), list(d.values()) -/
namespace Fs
open PySem PySem.Spec PyProof.Rows L2
open PySem.W (Frag)
/-! ### a set by its elements in some order -/
def SR {K : Type} [DecidableEq K] {P : Program} {w : World} (knd : PySem.KeyKind P w K) (h : Heap) (a : Addr) (l : List (Int × Value)) : Prop :=
  ∃ o ep t es, h.get? a = some o ∧ o.ExactSet ∧ o.data = .set es ep t ∧ es.toList.Perm l ∧ ElemsOf knd l ∧ l.length < scanBound ∧ t.fits es.size = true ∧ Ris t.place.toList ∧ (w.params.followText "set-order" = true ∨ t.led = true)
theorem SR.move {K : Type} [DecidableEq K] {P : Program} {w : World} {knd : PySem.KeyKind P w K} {h h' : Heap} {a : Addr} {l : List (Int × Value)} (R : SR knd h a l) (k : ∀ o, h.get? a = some o → h'.get? a = some o) : SR knd h' a l :=
  let ⟨o, ep, t, es, ho, r⟩ := R
  ⟨o, ep, t, es, k o ho, r⟩
section
variable {K : Type} [DecidableEq K] {P : Program} {w : World} {knd : PySem.KeyKind P w K} {A : Around} {E : Value → Shared → Prop} {s : Shared} {a : Addr} {l : List (Int × Value)}
/-- the elements are stored, the table is laid anew where it is too full -/
theorem sr_tail {g : Bool → Sem Unit} (hg : ∀ (b : Bool) (s1 : Shared) (Q' : Unit → Shared → Prop), Q' () s1 → wpAny (model P w) A (g b) Q' E s1) {o : Obj} {es : Array (Int × Value)} {ep : Nat} {t : SetTable} (ho : s.heap.get? a = some o) (hx : o.ExactSet) (hd : o.data = .set es ep t)
    {es1 : Array (Int × Value)} {t2 : SetTable} {l' : List (Int × Value)} (pm : es1.toList.Perm l') (el : ElemsOf knd l') (hb : l'.length < scanBound) (hf : t2.fits es1.size = true) (hr : Ris t2.place.toList) (hl : w.params.followText "set-order" = true ∨ t2.led = true) {dm : Bool}
    {R : Option Bool → Shared → Prop} (hR : ∀ h', Heap.SameBut a s.heap h' → SR knd h' a l' → R (some true) { s with heap := h' }) :
    wpAny (model P w) A (storeSet a es1 t2 >>= fun _ => if (!dm && t2.tooFull) = true then (g (relayAll t2 es1 (SetTable.grown es1.size)).2.2 >>= fun _ => storeSet a (relayAll t2 es1 (SetTable.grown es1.size)).1 (relayAll t2 es1 (SetTable.grown es1.size)).2.1 >>= fun _ => pure (some true)) else pure (some true)) R E s := by
  have size1 : es1.size = l'.length := by rw [← Array.length_toList, pm.length_eq]
  have room1 : es1.size < scanBound := size1 ▸ hb
  refine wpAny_bind (wpAny_storeSet_of ho hd ?_ (fits_of_scanBound room1))
  have stored := store_at (es' := es1) (t' := t2) ho hd
  have other := Heap.SameBut.update s.heap a (Obj.putSet es1 t2)
  split
  · have w1 := relayAll_perm t2 es1 (SetTable.grown es1.size)
    have w2 := relayAll_fits t2 es1 (SetTable.grown es1.size)
    have w3 := relayAll_ris t2 es1 (SetTable.grown es1.size)
    have w4 := relayAll_led t2 es1 (SetTable.grown es1.size)
    generalize relayAll t2 es1 (SetTable.grown es1.size) = Z at w1 w2 w3 w4 ⊢
    obtain ⟨es2, t3, gv⟩ := Z
    dsimp only at w1 w2 w3 w4 ⊢
    have size2 : es2.size = l'.length := by rw [← Array.length_toList, (w1.trans pm).length_eq]
    have room2 : es2.size < scanBound := size2 ▸ hb
    refine wpAny_bind (hg _ _ _ (wpAny_bind (wpAny_storeSet_of stored rfl (wpAny_pure (hR _ (other.trans (Heap.SameBut.update _ a _)) ?_)) (fits_of_scanBound room2))))
    exact ⟨_, _, t3, es2, store_at (es' := es2) (t' := t3) stored rfl, hx, rfl, w1.trans pm, el, hb, w2, w3, hl.imp id fun z => by rw [w4]; exact z⟩
  · exact wpAny_pure (hR _ other ⟨_, _, t2, es1, stored, hx, rfl, pm, el, hb, hf, hr, hl⟩)
/-- an element that isn't there is added -/
theorem sr_add {k : K} {x : Value} {Q : Bool → Shared → Prop} (R : SR knd s.heap a l) (hkey : knd.is k x = true) (hsc : x.scannable = true) (no : ∀ e ∈ l, knd.is k e.2 = false) (room : l.length + 1 < scanBound)
    (hQ : ∀ h', Heap.SameBut a s.heap h' → SR knd h' a (l ++ [(knd.hash k, x)]) → Q true { s with heap := h' }) : wpAny (model P w) A (setAddHashed a x (knd.hash k)) Q E s := by
  obtain ⟨o, ep, t, es, ho, hx, hd, pm, el, hb, hf, hr, hl⟩ := R
  have el0 : ElemsOf knd es.toList := fun e he => el e (pm.mem_iff.mp he)
  have size0 : es.size < scanBound := by rw [← Array.length_toList, pm.length_eq]; exact hb
  have nf : List.findIdx? (fun e => knd.is k e.2) es.toList = none := List.findIdx?_eq_none_iff.mpr fun e he => no e (pm.mem_iff.mp he)
  have gw : ∀ (b : Bool) (s1 : Shared) (Q' : Unit → Shared → Prop), Q' () s1 → wpAny (model P w) A (match b with | true => rule "set.scan.the-table-gave-way" | false => pure ()) Q' E s1 := fun b s1 Q' q => by
    cases b
    · exact wpAny_pure q
    · exact wpAny_rule q
  unfold setAddHashed setAddHashedIn
  refine wpAny_holding (wpAny_bind (wpAny_setState_of ho hd hf ?_))
  dsimp only
  rw [byScan_of hsc size0 el0]
  simp only [↓reduceIte]
  unfold setAddByScan
  refine wpAny_bind (wpAny_bind (wpAny_rule (wpAny_bind (wpAny_setScan_of hkey ho hd hf el0 ?_))))
  rw [nf]
  dsimp only
  have w1 := layNew_perm t es (knd.hash k) x
  have w2 := layNew_fits t es (knd.hash k) x
  have w3 := layNew_ris t es (knd.hash k) x hr
  have w4 := layNew_led t es (knd.hash k) x
  generalize layNew t es (knd.hash k) x = Z at w1 w2 w3 w4 ⊢
  obtain ⟨es1, t1, dm, gv⟩ := Z
  dsimp only at w1 w2 w3 w4 ⊢
  rw [Array.toList_push] at w1
  have pm1 : es1.toList.Perm (l ++ [(knd.hash k, x)]) := w1.trans (pm.append_right _)
  have el1 : ElemsOf knd (l ++ [(knd.hash k, x)]) := fun e he => by
    rcases List.mem_append.mp he with q | q
    · exact el e q
    · rw [List.mem_singleton.mp q]
      exact ⟨⟨k, hkey, rfl⟩, hsc⟩
  have hb1 : (l ++ [(knd.hash k, x)]).length < scanBound := by rw [List.length_append]; exact room
  have led1 : w.params.followText "set-order" = true ∨ t1.led = true := hl.imp id fun z => by rw [w4]; exact z
  refine wpAny_bind (gw _ _ _ ?_)
  split
  · refine wpAny_bind ?_
    rw [hashByValue_scannable 8 hsc]
    refine wpAny_pure (sr_tail (knd := knd) gw ho hx hd pm1 el1 hb1 ?_ ?_ ?_ fun h' sb r => ?_)
    · split
      · exact w2
      · exact SetTable.fits_plain_off w2
    · split <;> exact w3
    · split <;> exact led1
    · dsimp only
      exact wpAny_pure (hQ h' sb r)
  · refine wpAny_bind (wpAny_pure ?_)
    simp only [↓reduceIte]
    refine sr_tail (knd := knd) gw ho hx hd pm1 el1 hb1 w2 w3 led1 fun h' sb r => ?_
    dsimp only
    exact wpAny_pure (hQ h' sb r)
end
section
variable {K : Type} [DecidableEq K] {P : Program} {w : World} {knd : PySem.KeyKind P w K} {A : Around} {E : Value → Shared → Prop} {s : Shared} {a d : Addr}
/-- a set without elements -/
def noSet (w : World) : Obj := { cls := .type "set", dict := none, data := .set #[] 0 (.fresh 0 0 (!w.params.followText "set-order")) }
theorem led_new (w : World) : w.params.followText "set-order" = true ∨ (SetTable.fresh 0 0 (!w.params.followText "set-order")).led = true := by
  show _ ∨ (!w.params.followText "set-order") = true
  cases w.params.followText "set-order"
  · exact .inr rfl
  · exact .inl rfl
theorem sr_new {h : Heap} (ho : h.get? a = some (noSet w)) : SR knd h a [] :=
  ⟨_, 0, _, #[], ho, ⟨rfl, rfl, rfl⟩, rfl, List.Perm.refl _, (fun e he => nomatch he), by decide, rfl, List.Pairwise.nil, led_new w⟩
end
/-! ### set(d) -/
/-! ### the calls -/
/-! ### sorted of such a set -/
def strOf (v : Value) : Str := match v with
  | .str x _ => x
  | _ => Str.empty
theorem strs_all : ∀ {us : List Value}, (∀ u ∈ us, ∃ x t, u = Value.str x t) → StrsAre us (us.map strOf)
  | [], _ => .nil
  | u :: us, h => by
    obtain ⟨x, t, rfl⟩ := h u List.mem_cons_self
    exact .cons x t (strs_all fun v hv => h v (List.mem_cons_of_mem _ hv))
section
variable {P : Program} {w : World} {A : Around} {E : Value → Shared → Prop} {s : Shared} {a : Addr} {l : List (Int × Value)}
theorem sorted_sr {Q : Value → Shared → Prop} (R : SR (mixKind P w) s.heap a l) (hh : A.handled = none) (few : l.length < 64) (hs : ∀ e ∈ l, ∃ x t, e.2 = Value.str x t)
    (hQ : ∀ s' p (out : Array Value) (c : Nat) (ys : List Str), (∀ b o, s.heap.get? b = some o → s'.heap.get? b = some o) → s'.gens = s.gens → s'.os = s.os → s.heap.objs.size ≤ p → s'.heap.get? p = some (seqObj "list" out c) → StrsAre out.toList ys →
      ys.Perm (l.map fun e => strOf e.2) → sortedS ys = true → Q (.ref p) s') : wpAny (model P w) A (call (.builtin "sorted") [.ref a]) Q E s := by
  obtain ⟨o, ep, t, es, ho, hx, hd, pm, el, hb, hf, hr, hl⟩ := R
  have size1 : es.size < scanBound := by rw [← Array.length_toList, pm.length_eq]; exact hb
  refine Calls.call_function_entry PyProof.Rows.kind_sorted PyProof.Rows.plain_sorted PyProof.Rows.entry_sorted (PyProof.Rows.args_sorted1 _) ?_
  unfold Builtin.«sorted»
  refine wpAny_bind (m := checkCount "sorted" 1 1 _) (wpAny_pure (wpAny_bind (collect_set (A := A.in1) hh ⟨o, ho, hx.1, hd⟩ hf size1 hr hl fun s1 vs k1 hz g1 o1 pv => ?_)))
  have pl : vs.Perm (l.map (·.2)) := pv.trans (pm.map _)
  have lv : vs.length = l.length := by rw [pl.length_eq, List.length_map]
  have hI : StrsAre vs (vs.map strOf) := strs_all fun v hv => by
    obtain ⟨e, he, q⟩ := List.mem_map.mp (pl.mem_iff.mp hv)
    obtain ⟨x, t, h1⟩ := hs e he
    exact ⟨x, t, by rw [← q, h1]⟩
  have pk : (vs.map strOf).Perm (l.map fun e => strOf e.2) := by
    have q := pl.map strOf
    rw [List.map_map] at q
    exact q
  refine wpAny_bind (wpAny_newList ?_ (by rw [lv, sizeLine_eq]; omega))
  have hoL : (s1.heap.push (seqObj "list" vs.toArray 0)).get? s1.heap.objs.size = some (seqObj "list" vs.toArray 0) := Heap.get?_push_size _ rfl
  refine wpAny_bind (wpAny_holding (wpAny_call_entry PyProof.Rows.slot_list_sort ⟨_, hoL, rfl⟩ PyProof.Rows.entry_list_sort
    (list_sort_treeK PyProof.Rows.strKind_oneLt (s := { s1 with heap := s1.heap.push (seqObj "list" vs.toArray 0) }) hoL hI.keysOf (fun v1 v2 rest e => keyKind_strs (by rw [← e]; exact hI)) (by rw [lv]; exact few) fun st' hp hs2 => ⟨_, rfl, ?_⟩)
    (PyProof.Rows.args_list_sort _)))
  obtain ⟨ys, q1, q2, q3⟩ := sorted_out_str hI hp hs2
  obtain ⟨c, hc⟩ := PyProof.Rows.sortedHeap_at (vs := vs) (out := (arrOf st').map (·.2)) hoL
  refine wpAny_pure ⟨_, rfl, hQ _ s1.heap.objs.size _ c ys (fun b u e => ?_) g1 o1 hz hc q1 (q2.trans pk) q3⟩
  have q := k1 b u e
  have hlt := Heap.lt_size q
  show (PyProof.Rows.sortedHeap (s1.heap.push (seqObj "list" vs.toArray 0)) s1.heap.objs.size vs _).get? b = some u
  rw [PyProof.Rows.sortedHeap_old (Nat.ne_of_lt hlt) (by rw [size_push']; exact Nat.lt_succ_of_lt hlt)]
  exact Heap.get?_push_of_some _ q
end
/-! ### over the layer -/
/-- the set of the texts ks -/
def SetS (P : Program) (w : World) (a : Addr) (ks : List Str) : HO := .ext fun h => ∃ l, SR (mixKind P w) h a l ∧ (∀ e ∈ l, ∃ x t, e.2 = Value.str x t) ∧ (l.map fun e => strOf e.2) = ks
section
variable {X : Cx}
/-- sorted of it -/
theorem cr_sortedTx (hc : X.calm = true) : CallR X (.builtin "sorted") (fun xs H Q => ∃ (a : Addr) (ks : List Str), xs = [.ref a] ∧ H a = some (SetS X.prog X.w a ks) ∧ ks.length < 64 ∧ ∀ ys p, ys.Perm ks → sortedS ys = true → H p = none → Q (.ref p) (upd H p (.lst (ys.map V.str)))) := by
  intro pins s σ H xs us Q I r h
  obtain ⟨a, ks, rfl, ha, few, q⟩ := h
  obtain ⟨⟨l, R, st, rfl⟩, _⟩ := I.hok a _ ha
  rw [Vals.ref1 r]
  rw [List.length_map] at few
  refine sorted_sr R (I.ok.hd hc) few st fun s' p out c ys k g o hp hg hi pm so => ?_
  have hlen : (ys.map V.str).length ≤ sizeLine := by rw [List.length_map, pm.length_eq, List.length_map, sizeLine_eq]; omega
  have hn : H p = none := I.hok.fresh hp
  have J : Inv X pins σ (upd H p (.lst (ys.map V.str))) { s with heap := s'.heap, gens := s'.gens, drawn := s'.drawn, toks := s'.toks } :=
    I.call (ch := []) (Un.laid k hp hn) (I.hok.laid k hp ⟨hlen, out.toList, c, vals_of_strs hi, hg⟩) (by rw [g]; exact I.bare) (fun _ z => nomatch z)
  have e : s' = { s with heap := s'.heap, gens := s'.gens, drawn := s'.drawn, toks := s'.toks } := by
    cases s'
    cases s
    cases o
    rfl
  rw [e]
  exact ⟨.ref p, _, J, rfl, q ys p pm so hn⟩
end
end Fs
set_option Elab.async false
set_option linter.all false
set_option maxRecDepth 100000
set_option maxHeartbeats 4000000
/-! FsE: tuple(d), list(d.values()) -/
namespace Fs
open PySem PySem.Spec PyProof.Rows L2
open PySem.W (Frag)
/-- a turn of a comprehension without a test -/
theorem yes_of {σ : L2.St} {H : Hp} {A B : Hp → Prop} (h : A H) : tYes σ H (fun b H3 => if b = true then A H3 else B H3) := by
  show if true = true then A H else B H
  rw [if_pos rfl]
  exact h
/-- what can't be reached -/
theorem pss_no {X : Cx} {ss : List Stmt} : PSs X ss (fun _ _ _ => False) := ⟨fun _ _ _ _ _ _ h => h.elim⟩
end Fs
set_option Elab.async false
set_option linter.all false
set_option maxRecDepth 100000
set_option maxHeartbeats 4000000
/-! FsF: dict comprehensions by turns; numbers by names -/
namespace Fs
open PySem PySem.Spec PyProof.Rows L2 Fh
open PySem.W (Frag)
section
variable {J : It} {n : Nat} {G : Hp → Prop} {Y : Nat → Hp → V → Hp → Prop}
/-- a dict comprehension over a walk: Pv by the turn and the heap -/
theorem dc_it (w : Walk J n G Y) {g : TG} {tt : TT} {tk tv : TE} {vs : List Nat} {σ : L2.St} {H1 : Hp} {D : Addr} {Qd : Hp → Prop} (Pv : Nat → Hp → Prop) (h0 : Pv 0 (upd H1 D (.dK []))) (hG : ∀ i H, i ≤ n → Pv i H → G H)
    (hs : ∀ i x H H', i < n → Pv i H → Y i H x H' → g x (wipe σ vs) H' fun σ2 H2 => wipe σ2 vs = wipe σ vs ∧ tt σ2 H2 fun b H3 =>
      if b = true then tk σ2 H3 fun y H4 => tv σ2 H4 fun z H5 => ∃ kvs k, y = kV k ∧ H5 D = some (.dK kvs) ∧ kvs.length < sizeLine ∧ Pv (i + 1) (upd H5 D (.dK (putK kvs k z))) else Pv (i + 1) H3) (hd : ∀ H, Pv n H → Qd H) :
    ∃ W : Nat → Nat → Hp → Prop, (∃ m, W 0 m (upd H1 D (.dK []))) ∧ ∀ i m H, W i m H →
      (J.stop i H ∧ Qd H) ∨ (J.go i H ∧ ∃ Nx : Hp → Prop, (∀ H', Nx H' → ∃ m', m' < m ∧ W (i + 1) m' H') ∧ ∀ x H', J.yld i H x H' → g x (wipe σ vs) H' fun σ2 H2 => wipe σ2 vs = wipe σ vs ∧ tt σ2 H2 fun b H3 =>
        if b = true then tk σ2 H3 fun y H4 => tv σ2 H4 fun z H5 => ∃ kvs k, y = kV k ∧ H5 D = some (.dK kvs) ∧ kvs.length < sizeLine ∧ Nx (upd H5 D (.dK (putK kvs k z))) else Nx H3) := by
  refine ⟨fun i m H => m + i = n ∧ Pv i H, ⟨n, rfl, h0⟩, fun i m H ⟨e, p⟩ => ?_⟩
  cases m with
  | zero =>
    rw [Nat.zero_add] at e
    subst e
    exact .inl ⟨w.stops H (hG _ H (Nat.le_refl _) p), hd H p⟩
  | succ m =>
    have hlt : i < n := by omega
    have q := hG i H (Nat.le_of_lt hlt) p
    exact .inr ⟨w.goes i H hlt q, Pv (i + 1), fun H' p' => ⟨m, Nat.lt_succ_self m, by omega, p'⟩, fun x H' y => hs i x H H' hlt p (w.yields i H x H' hlt q y)⟩
end
/-! ### numbers by names -/
abbrev Num : Type := List (Str × Int)
def cD (m : Num) : List (Key × V) := m.map fun q => (.inr q.1, .int q.2)
def names (m : Num) : List Str := m.map (·.1)
theorem cD_len (m : Num) : (cD m).length = m.length := List.length_map _
theorem cD_snoc (m : Num) (y : Str) (n : Int) : cD (m ++ [(y, n)]) = cD m ++ [(.inr y, .int n)] := by
  unfold cD
  rw [List.map_append]
  rfl
theorem at_str {ys : List Str} {i : Nat} {x : V} (h : (ys.map V.str)[i]? = some x) : ∃ y, ys[i]? = some y ∧ x = .str y ∧ y ∈ ys := by
  rw [List.getElem?_map] at h
  cases e : ys[i]? with
  | none => rw [e] at h; cases h
  | some y =>
    rw [e] at h
    exact ⟨y, rfl, (Option.some.inj h).symm, List.mem_of_getElem? e⟩
theorem take_snoc {ys : List Str} {i : Nat} {y : Str} (h : ys[i]? = some y) : ys.take (i + 1) = ys.take i ++ [y] := by
  rw [List.take_add_one, h]
  rfl
theorem not_before {ys : List Str} {i : Nat} {y : Str} (nd : ys.Nodup) (h : ys[i]? = some y) : y ∉ ys.take i := by
  intro z
  obtain ⟨j, hj, e⟩ := List.mem_iff_getElem.mp z
  have hl : j < i ∧ j < ys.length := by
    rw [List.length_take] at hj
    omega
  have li : i < ys.length := (List.getElem?_eq_some_iff.mp h).1
  have ne := List.pairwise_iff_getElem.mp nd j i hl.2 li hl.1
  rw [List.getElem_take] at e
  rw [List.getElem?_eq_getElem li] at h
  exact ne (e.trans (Option.some.inj h).symm)
end Fs
set_option Elab.async false
set_option linter.all false
set_option maxRecDepth 100000
set_option maxHeartbeats 4000000
/-! FsG: == of two dicts of numbers, both answers -/
namespace Fs
open PySem PySem.Spec PyProof.Rows L2 Fh
open PySem.W (Frag)
end Fs
set_option Elab.async false
set_option linter.all false
set_option maxRecDepth 100000
set_option maxHeartbeats 4000000
/-! FsH: words -/
namespace Fs
open PySem PySem.Spec PyProof.Rows L2 Fh
open PySem.W (Frag)
def abc : List Nat := (Str.ofString "abcdefghijklmnopqrstuvwxyz").cps.toList
def Low (x : Str) : Prop := ∀ c ∈ x.cps.toList, c ∈ abc
theorem app_tl (x y : Str) : (x ++ y).cps.toList = x.cps.toList ++ y.cps.toList := by
  show (x.cps ++ y.cps).toList = _
  exact Array.toList_append
theorem Low.app {x y : Str} (a : Low x) (b : Low y) : Low (x ++ y) := fun c hc => by
  rw [app_tl] at hc
  rcases List.mem_append.mp hc with z | z
  · exact a c z
  · exact b c z
theorem Low.one {c : Nat} (h : c ∈ abc) : Low ⟨#[c]⟩ := fun d hd => by
  rcases List.mem_cons.mp (show d ∈ [c] from hd) with z | z
  · rw [z]; exact h
  · cases z
def zs : Str := Str.ofString "zzzzzzzz"
theorem pen_off {H : Hp} {p c D : Addr} {n : Nat} {o : HO} (h : PenAt H p c n) (h1 : D ≠ p) (h2 : D ≠ c) : PenAt (upd H D o) p c n := by
  obtain ⟨cs, s, r, S, s0, s1⟩ := h.open
  exact PenS.at_ ⟨S.pc, by rw [upd_ne (Ne.symm h1)]; exact S.hp, by rw [upd_ne (Ne.symm h2)]; exact S.hc, S.hl⟩ s0 s1
theorem pen_apart {H H' : Hp} {p c D : Addr} {n : Nat} (h : PenAt H p c n) (sm : Same H H') (hD : H' D = none) : D ≠ p ∧ D ≠ c := by
  obtain ⟨cs, s, r, S, _, _⟩ := h.open
  constructor
  · intro e
    rw [e, sm _ _ S.hp] at hD
    cases hD
  · intro e
    rw [e, sm _ _ S.hc] at hD
    cases hD
end Fs
set_option Elab.async false
set_option linter.all false
set_option maxRecDepth 100000
set_option maxHeartbeats 4000000
/-! FsI: two sorted rearrangements of the same texts are the same -/
namespace Fs
open PySem PySem.Spec PyProof.Rows L2 Fh
theorem rising_pairs : ∀ (l : List Str) (p : Str), risingS p l = true → (p :: l).Pairwise fun a b => a.cps.toList ≤ b.cps.toList
  | [], p, _ => List.pairwise_singleton _ _
  | x :: r, p, h => by
    obtain ⟨h1, h2⟩ := Bool.and_eq_true_iff.mp (show (!ltCps x.cps.toList p.cps.toList && risingS x r) = true from h)
    have ih := rising_pairs r x h2
    have px : p.cps.toList ≤ x.cps.toList := by
      rw [ltCps_eq] at h1
      have : ¬ x.cps.toList < p.cps.toList := by simpa using h1
      exact List.not_lt.mp this
    refine List.pairwise_cons.mpr ⟨fun y hy => ?_, ih⟩
    rcases List.mem_cons.mp hy with e | e
    · rw [e]; exact px
    · exact List.le_trans px ((List.pairwise_cons.mp ih).1 y e)
theorem sorted_same {xs ys : List Str} (p : xs.Perm ys) (h1 : sortedS xs = true) (h2 : sortedS ys = true) : xs = ys := by
  have pw : ∀ l : List Str, sortedS l = true → l.Pairwise fun a b => a.cps.toList ≤ b.cps.toList := fun l h => by
    cases l with
    | nil => exact List.Pairwise.nil
    | cons x r => exact rising_pairs r x h
  refine List.Perm.eq_of_pairwise (fun a b _ _ u v => ?_) (pw _ h1) (pw _ h2) p
  have e := List.le_antisymm u v
  have e2 : a.cps = b.cps := Array.toList_inj.mp e
  cases a
  cases b
  cases e2
  rfl
end Fs
set_option Elab.async false
set_option linter.all false
set_option maxRecDepth 100000
set_option maxHeartbeats 4000000
/-! FsJ: numbers by names as data; pairs laid one by one; those above 0 once more -/
namespace Fs
open PySem PySem.Spec PyProof.Rows L2 Fh
open PySem.W (Frag)
/-! ### as data -/
/-- few of them, with short names and numbers -/
structure Lite (m : Num) : Prop where
  few : m.length ≤ 64
  each : ∀ q ∈ m, q.1.length ≤ 8 ∧ (∀ c ∈ q.1.cps.toList, c < 16 ^ 8) ∧ q.2.natAbs < 10 ^ 33
theorem Lite.tail {q : Str × Int} {m : Num} (h : Lite (q :: m)) : Lite m := ⟨by have := h.few; rw [List.length_cons] at this; omega, fun p hp => h.each p (List.mem_cons_of_mem _ hp)⟩
/-- may be shown -/
def Rp (d : PyData) : Prop := d.showable = true ∧ d.depth ≤ 60 ∧ d.shown.length ≤ sizeLine
/-! ### pairs laid one by one -/
/-! ### those above 0 -/
end Fs
set_option Elab.async false
set_option linter.all false
set_option maxRecDepth 100000
set_option maxHeartbeats 4000000
/-! FsK: slices of texts, pairs laid by a comprehension -/
namespace Fs
open PySem PySem.Spec PyProof.Rows L2 Fh
open PySem.W (Frag)
/-- tuples of a key and its value, none of them at p or at E -/
def Prs (H : Hp) (p E : Addr) (ps : List Addr) (l : Num) : Prop := Paired (fun q (kv : Key × V) => H q = some (.tup [kV kv.1, kv.2]) ∧ q ≠ p ∧ q ≠ E) ps (cD l)
theorem Prs.nil {H : Hp} {p E : Addr} : Prs H p E [] [] := Paired.nil
theorem Prs.but {H H' : Hp} {p E : Addr} {ps : List Addr} {l : Num} (h : Prs H p E ps l) (b : But p H H') : Prs H' p E ps l := Paired.mono (fun q kv z => ⟨b _ _ z.2.1 z.1, z.2⟩) h
theorem Prs.snoc {H : Hp} {p E T : Addr} {ps : List Addr} {l : Num} {y : Str} {n : Int} {o : HO} (h : Prs H p E ps l) (nT : H T = none) (Tp : T ≠ p) (TE : T ≠ E) :
    Prs (upd (upd H T (.tup [.str y, .int n])) E o) p E (ps ++ [T]) (l ++ [(y, n)]) := by
  unfold Prs
  rw [cD_snoc]
  have h2 : Paired (fun q (kv : Key × V) => (upd (upd H T (.tup [.str y, .int n])) E o) q = some (.tup [kV kv.1, kv.2]) ∧ q ≠ p ∧ q ≠ E) ps (cD l) := Paired.mono (fun q kv z => ⟨by
    rw [upd_ne z.2.2, upd_ne (ne_of_none z.1 nT)]
    exact z.1, z.2⟩) h
  refine Paired.snoc h2 ⟨?_, Tp, TE⟩
  rw [upd_ne TE, upd_same]
  rfl
theorem Prs.len {H : Hp} {p E : Addr} {ps : List Addr} {l : Num} (h : Prs H p E ps l) : ps.length = l.length := by
  have e := Paired.length h
  rw [cD_len] at e
  exact e
theorem none_back {Ha Hb : Hp} {b : Addr} (sm : Same Ha Hb) (hb : Hb b = none) : Ha b = none := by
  cases q : Ha b with
  | none => rfl
  | some o => rw [sm b o q] at hb; cases hb
theorem str_map_get {ys : List Str} {i : Nat} {x : V} (h : (ys.map V.str)[i]? = some x) : ∃ y, x = .str y ∧ ys[i]? = some y ∧ y ∈ ys := by
  obtain ⟨y, h1, h2, h3⟩ := at_str h
  exact ⟨y, h2, h1, h3⟩
end Fs
set_option Elab.async false
set_option linter.all false
set_option maxRecDepth 100000
set_option maxHeartbeats 8000000
/-! FtA: sets of texts from lists and tuples, their len -/
namespace Fs
open PySem PySem.Spec PyProof.Rows L2 Fh
open PySem.W (Frag)
section
variable {K : Type} [DecidableEq K] {P : Program} {w : World} {knd : PySem.KeyKind P w K} {A : Around} {E : Value → Shared → Prop} {s : Shared} {a : Addr} {l : List (Int × Value)}
/-- an element that is there already -/
theorem sr_have {k : K} {x : Value} {Q : Bool → Shared → Prop} (R : SR knd s.heap a l) (hkey : knd.is k x = true) (hsc : x.scannable = true) (yes : ∃ e ∈ l, knd.is k e.2 = true)
    (hQ : Q false s) : wpAny (model P w) A (setAddHashed a x (knd.hash k)) Q E s := by
  obtain ⟨o, ep, t, es, ho, hx, hd, pm, el, hb, hf, hr, hl⟩ := R
  have el0 : ElemsOf knd es.toList := fun e he => el e (pm.mem_iff.mp he)
  have size0 : es.size < scanBound := by rw [← Array.length_toList, pm.length_eq]; exact hb
  unfold setAddHashed setAddHashedIn
  refine wpAny_holding (wpAny_bind (wpAny_setState_of ho hd hf ?_))
  dsimp only
  rw [byScan_of hsc size0 el0]
  simp only [↓reduceIte]
  unfold setAddByScan
  refine wpAny_bind (wpAny_bind (wpAny_rule (wpAny_bind (wpAny_setScan_of hkey ho hd hf el0 ?_))))
  cases nf : List.findIdx? (fun e => knd.is k e.2) es.toList with
  | none =>
    obtain ⟨e, he, z⟩ := yes
    have := List.findIdx?_eq_none_iff.mp nf e (pm.mem_iff.mpr he)
    rw [z] at this
    cases this
  | some i =>
    dsimp only
    refine wpAny_pure ?_
    exact wpAny_pure hQ
end
/-- the elements in the order in which they are met -/
def addT (ks : List Str) (x : Str) : List Str := if x ∈ ks then ks else ks ++ [x]
def ded (xs : List Str) : List Str := xs.foldl addT []
theorem ded_snoc (xs : List Str) (x : Str) : ded (xs ++ [x]) = addT (ded xs) x := by unfold ded; rw [List.foldl_append]; rfl
theorem foldl_addT : ∀ (xs ks : List Str), ks.Nodup → (xs.foldl addT ks).Nodup ∧ (∀ y, y ∈ xs.foldl addT ks ↔ y ∈ ks ∨ y ∈ xs) ∧ (xs.foldl addT ks).length ≤ ks.length + xs.length
  | [], ks, nd => ⟨nd, fun y => by simp, Nat.le_refl _⟩
  | x :: xs, ks, nd => by
    have n1 : (addT ks x).Nodup := by
      unfold addT
      split
      · exact nd
      · rename_i h
        refine List.nodup_append.mpr ⟨nd, List.pairwise_singleton _ _, fun a ha b hb => ?_⟩
        rw [List.mem_singleton.mp hb]
        exact fun z => h (z ▸ ha)
    have m1 : ∀ y, y ∈ addT ks x ↔ y ∈ ks ∨ y = x := fun y => by
      unfold addT
      split
      · rename_i h
        exact ⟨.inl, fun z => z.elim id fun e => by rw [e]; exact h⟩
      · rw [List.mem_append, List.mem_singleton]
    have l1 : (addT ks x).length ≤ ks.length + 1 := by
      unfold addT
      split
      · omega
      · rw [List.length_append]; exact Nat.le_refl _
    obtain ⟨a1, a2, a3⟩ := foldl_addT xs (addT ks x) n1
    refine ⟨a1, fun y => ?_, ?_⟩
    · show y ∈ xs.foldl addT (addT ks x) ↔ _
      rw [a2, m1, List.mem_cons, or_assoc]
    · show (xs.foldl addT (addT ks x)).length ≤ _
      rw [List.length_cons]
      omega
theorem ded_mem {xs : List Str} {y : Str} : y ∈ ded xs ↔ y ∈ xs := by
  have e := (foldl_addT xs [] List.nodup_nil).2.1 y
  show y ∈ xs.foldl addT [] ↔ y ∈ xs
  simpa using e
theorem ded_len (xs : List Str) : (ded xs).length ≤ xs.length := by
  have e := (foldl_addT xs [] List.nodup_nil).2.2
  show (xs.foldl addT []).length ≤ _
  simpa using e
theorem ded_self {xs : List Str} (nd : xs.Nodup) : ded xs = xs := by
  have go : ∀ (xs ks : List Str), (ks ++ xs).Nodup → xs.foldl addT ks = ks ++ xs := by
    intro xs
    induction xs with
    | nil => intro ks _; simp
    | cons x xs ih =>
      intro ks h
      have nx : x ∉ ks := fun z => (List.nodup_append.mp h).2.2 _ z _ List.mem_cons_self rfl
      show xs.foldl addT (addT ks x) = _
      have e : addT ks x = ks ++ [x] := by unfold addT; rw [if_neg nx]
      rw [e, ih _ (by simpa using h)]
      simp
  exact go xs [] (by simpa using nd)
/-- what stands at a: the texts ks, in some order -/
def SRt (P : Program) (w : World) (h : Heap) (a : Addr) (ks : List Str) : Prop := ∃ l, SR (mixKind P w) h a l ∧ (∀ e ∈ l, ∃ x t, e.2 = Value.str x t) ∧ (l.map fun e => strOf e.2) = ks
theorem SRt.move {P : Program} {w : World} {h h' : Heap} {a : Addr} {ks : List Str} (R : SRt P w h a ks) (k : ∀ o, h.get? a = some o → h'.get? a = some o) : SRt P w h' a ks :=
  let ⟨l, r, p, q⟩ := R
  ⟨l, r.move k, p, q⟩
section
variable {prog : Program} {w : World} {A : Around} {R : Result → Shared → Prop} {I : Addr} {fp wr : List Addr} {G : Array GenState → Array GenState → Prop} {n : Nat} {Pv : Nat → Value → Prop} {St : Nat → Shared → Prop}
theorem addTx {E : Value → Shared → Prop} {s : Shared} {S : Addr} {ks : List Str} {x : Str} {t : Tok} {Q : Bool → Shared → Prop} (R : SRt prog w s.heap S ks) (few : ks.length < 100)
    (hQ : ∀ b h' tk, s.toks ≤ tk → Heap.SameBut S s.heap h' → SRt prog w h' S (addT ks x) → Q b { s with heap := h', toks := tk }) : wpAny (model prog w) A (setAdd S (.str x t)) Q E s := by
  obtain ⟨l, r, pt, rfl⟩ := R
  rw [List.length_map] at few
  have hk : (mixKind prog w).is (Sum.inr x) (.str x t) = true := keyIs_str x t
  unfold setAdd
  refine wpAny_holding (wpAny_bind ((mixKind prog w).pyHash (k := Sum.inr x) hk ?_))
  by_cases hx : x ∈ l.map fun e => strOf e.2
  · obtain ⟨e, he, ee⟩ := List.mem_map.mp hx
    obtain ⟨y, u, ey⟩ := pt e he
    have exy : y = x := by rw [← ee, ey]; rfl
    refine sr_have (knd := mixKind prog w) (s := { s with toks := s.toks + 1 }) r hk rfl ⟨e, he, by rw [ey, exy]; exact keyIs_str x u⟩ ?_
    refine hQ false s.heap (s.toks + 1) (Nat.le_succ _) (Heap.SameBut.refl S s.heap) ⟨l, r, pt, ?_⟩
    unfold addT
    rw [if_pos hx]
  · refine sr_add (knd := mixKind prog w) (s := { s with toks := s.toks + 1 }) r hk rfl (fun e he => ?_) (by show l.length + 1 < 4096; omega) fun h' sb r2 => ?_
    · cases c : (mixKind prog w).is (Sum.inr x) e.2 with
      | false => rfl
      | true =>
        obtain ⟨u, ev⟩ := Value.isStrOf_shape (x := x) (v := e.2) c
        exact absurd (List.mem_map.mpr ⟨e, he, by rw [ev]; rfl⟩) hx
    · refine hQ true h' (s.toks + 1) (Nat.le_succ _) sb ⟨_, r2, fun e he => ?_, ?_⟩
      · rcases List.mem_append.mp he with z | z
        · exact pt e z
        · rw [List.mem_singleton.mp z]
          exact ⟨x, t, rfl⟩
      · rw [List.map_append]
        unfold addT
        rw [if_neg hx]
        rfl
theorem loopTx (Wk : WalksS prog w A.in1 I fp wr G n Pv St) (S : Addr) (far : S ∉ fp) (xs : List Str) (size : xs.length = n) (few : n < 64)
    (vals : ∀ i v, Pv i v → ∃ t, v = .str (xs.getD i Str.empty) t) :
    ∀ (k i : Nat) (s : Shared), n - i = k → i ≤ n → St i s → SRt prog w s.heap S (ded (xs.take i)) →
      (∀ s', Moved (S :: wr) G s s' → SRt prog w s'.heap S (ded xs) → R (.ok (.ret .none)) s') →
      codeAny (model prog w) A (.builtin "set.update.loop" ⟨[.ref S, .ref I], []⟩) R s := by
  have offw : S ∉ wr := fun h => far (Wk.sub _ h)
  have more : ∀ b ∈ wr, b ∈ S :: wr := fun b hb => List.mem_cons_of_mem _ hb
  intro k
  induction k with
  | zero =>
    intro i s hk hi st0 was fin
    have hin : i = n := by omega
    subst hin
    rw [List.take_of_length_le (by omega)] at was
    refine codeAny_builtin PyProof.Rows.F.entry_set_update_loop ?_
    rw [Around.under_plainId PyProof.Rows.F.plain_set_update_loop _]
    show wpAny _ A.in1 (pyNext (.ref I) >>= _) _ _ s
    refine wpAny_bind (Wk.done s _ _ st0 fun s' mv => ?_)
    show wpAny _ A.in1 (ret Value.none) _ _ s'
    exact wpAny_pure (fin s' (mv.mono more) (was.move fun o ho => mv.heap S _ offw ho))
  | succ k ih =>
    intro i s hk hi st0 was fin
    have below : i < n := by omega
    refine codeAny_builtin PyProof.Rows.F.entry_set_update_loop ?_
    rw [Around.under_plainId PyProof.Rows.F.plain_set_update_loop _]
    show wpAny _ A.in1 (pyNext (.ref I) >>= _) _ _ s
    refine wpAny_bind (Wk.item i s _ _ below st0 fun v s' isat st1 mv => ?_)
    obtain ⟨t, rfl⟩ := vals i v isat
    have was1 : SRt prog w s'.heap S (ded (xs.take i)) := was.move fun o ho => mv.heap S _ offw ho
    show wpAny _ A.in1 (holding [Value.str (xs.getD i Str.empty) t] (setAdd S (.str (xs.getD i Str.empty) t)) >>= _) _ _ s'
    have f1 := ded_len (xs.take i)
    rw [List.length_take] at f1
    have gx : xs[i]? = some (xs.getD i Str.empty) := by
      rw [List.getD_eq_getElem?_getD, List.getElem?_eq_getElem (by omega)]
      rfl
    refine wpAny_bind (wpAny_holding (addTx was1 (by omega) fun b h' tk htk hsb hS2 => ?_))
    have nowi : SRt prog w h' S (ded (xs.take (i + 1))) := by
      rw [take_snoc gx, ded_snoc]
      exact hS2
    refine wpAny_pure ⟨plainId_quiet PyProof.Rows.F.plain_set_update_loop _, ih (i + 1) _ (by omega) below (Wk.frame _ s' _ _ st1 htk fun b hb o e => ?_) nowi fun s'' mv2 hS'' => ?_⟩
    · rw [hsb.2 b (fun h : b = S => far (by rw [← h]; exact hb))]; exact e
    · refine fin s'' (Moved.trans Wk.gtrans ((mv.mono more).then_heap htk fun b o hb e => ?_) mv2) hS''
      rw [hsb.2 b (fun h : b = S => hb (by rw [h]; exact List.mem_cons_self))]; exact e
end
section
variable {prog : Program} {w : World} {A : Around} {E : Value → Shared → Prop} {s : Shared}
set_option maxHeartbeats 8000000 in
/-- set(a list of texts) -/
theorem set_list {d : Addr} {arr : Array Value} {ys : List Str} {Q : Value → Shared → Prop} (calm : A.handled = none) (src : s.heap.IsList d arr) (tx : PyProof.Rows.StrsAre arr.toList ys) (few : ys.length < 64)
    (hQ : ∀ (h2 : Heap) (tk : Nat), (∀ b u, s.heap.get? b = some u → h2.get? b = some u) → SRt prog w h2 s.heap.objs.size (ded ys) → Q (.ref s.heap.objs.size) { s with heap := h2, toks := tk }) :
    wpAny (model prog w) A (call (.type "set") [.ref d]) Q E s := by
  obtain ⟨c0, c1, c2⟩ := F.called_set.mro
  have c3 := F.called_set.made
  have c4 := F.called_set.sub
  have c5 := F.called_set.notType
  have c6 := F.called_set.canCreate
  have c7 := F.typeCall_set_1 (.ref d)
  have c8 := F.called_set.init.lookup
  have c9 := F.called_set.init.bind (.ref s.heap.objs.size)
  have new0 : (s.heap.push (noSet w)).get? s.heap.objs.size = some (noSet w) := Heap.get?_push_size _ rfl
  have ty0 : Shared.TypeIs { s with heap := s.heap.push (noSet w) } (.ref s.heap.objs.size) "set" := ⟨_, new0, rfl⟩
  refine wpAny_call (codeAny_of_tree ?_)
  show wpAny _ _ (callAny (.type "set") _) _ _ _
  refine wpAny_pure ⟨Code.quiet_builtin _ (by decide +kernel), codeAny_builtin F.entry_type_call ?_⟩
  rw [Around.under_plain (weight_type_call_type "set" [.ref d] []) rfl]
  repeat (any_goals (first | assumption | wp_step))
  refine codeAny_mono (code_set_led1 (.ref d) (E := E) (Q₁ := fun ob s1 => ob = .ref s.heap.objs.size ∧ s1 = { s with heap := s.heap.push (noSet w) }) ⟨rfl, rfl⟩) fun r s1 hr => ?_
  match r, hr with
  | .error e, hr => exact hr
  | .ok .next, hr => exact hr.elim
  | .ok .brk, hr => exact hr.elim
  | .ok .cont, hr => exact hr.elim
  | .ok (.ret ob), hr =>
    obtain ⟨rfl, rfl⟩ := hr
    repeat (any_goals (first | assumption | wp_step))
    refine codeAny_mono (codeAny_call_builtin (R := wants (fun r s2 => r = .none ∧ Q (.ref s.heap.objs.size) s2) E) F.called_set.init.plain F.entry_set_init (check_set_init_1 ty0 ?_)) fun r2 s2 hr2 => ?_
    · obtain ⟨ob, hob, cl, nl, dt⟩ := src
      obtain ⟨k1, k2, k3, k4⟩ := ob
      simp only at cl dt
      subst cl; subst dt
      have old0 : (s.heap.push (noSet w)).get? d = some { cls := .type "list", dict := k2, data := .seq arr nl, slots := k4 } := Heap.get?_push_of_some _ hob
      have u1 := F.sub_list_set
      have u2 := F.sub_list_frozenset
      have u3 : (Value.type "list" == Value.type "dict") = false := by decide
      have src1 : (s.heap.push (noSet w)).IsList d arr := ⟨_, old0, rfl, nl, rfl⟩
      unfold Builtin.«set.__init__» noKeywords Builtin.Frozenset.updateFrom
      generalize eP : pyIter = PI
      wp_walk
      subst eP
      refine wpAny_pyIter_list src1 ?_
      refine wpAny_bind (wpAny_runValue ?_)
      have dS : d < s.heap.objs.size := Heap.lt_size hob
      have calm3 : A.in1.in1.in1.handled = none := by simp [calm]
      have dne : d ≠ (s.heap.push (noSet w)).objs.size := by
        rw [Heap.size_push]; exact Nat.ne_of_lt (Nat.lt_succ_of_lt dS)
      have off0 : s.heap.objs.size ∉ [(s.heap.push (noSet w)).objs.size, d] := by
        rw [Heap.size_push]
        intro z
        rcases List.mem_cons.mp z with y | y
        · exact absurd y (Nat.ne_of_lt (Nat.lt_succ_self _))
        · exact absurd (List.mem_singleton.mp y) (Nat.ne_of_gt dS)
      have len0 : ys.length = arr.size := by rw [← StrsAre.len_eq tx, Array.length_toList]
      refine loopTx ((Walks.list calm3 _ d dne arr).toS) s.heap.objs.size off0 ys len0 (by rw [← len0]; exact few) (fun j v hv => SS.strs_at tx j v (by rw [Array.getElem?_toList]; exact hv)) (arr.size - 0) 0 _ (by omega) (Nat.zero_le _)
        ⟨⟨_, Heap.get?_push_size _ rfl, rfl, rfl⟩, (src1.push _)⟩ ⟨[], sr_new (Heap.get?_push_of_some _ new0), (fun _ z => nomatch z), rfl⟩ ?_
      intro s3 mv rr
      obtain ⟨h3, g3, d3, t3, o3⟩ := s3
      have e1 : g3 = s.gens := mv.gens
      have e2 : d3 = s.drawn := mv.drawn
      have e3 : o3 = s.os := mv.os
      subst e1; subst e2; subst e3
      show wpAny _ _ _ _ _ _
      refine wpAny_pure ?_
      show wpAny _ _ (ret Value.none) _ _ _
      refine wpAny_pure ⟨rfl, hQ h3 t3 (fun b u e => ?_) rr⟩
      have lb : b < s.heap.objs.size := Heap.lt_size e
      refine mv.heap b u (fun z => ?_) (Heap.get?_push_of_some _ (Heap.get?_push_of_some _ e))
      rcases List.mem_cons.mp z with y | y
      · exact absurd y (Nat.ne_of_lt lb)
      · rw [Heap.size_push] at y
        exact absurd (List.mem_singleton.mp y) (Nat.ne_of_lt (Nat.lt_succ_of_lt lb))
    · match r2, hr2 with
      | .error e, hr2 => exact hr2
      | .ok .next, hr2 => exact hr2.elim
      | .ok .brk, hr2 => exact hr2.elim
      | .ok .cont, hr2 => exact hr2.elim
      | .ok (.ret v), hr2 =>
        obtain ⟨rfl, hq⟩ := hr2
        repeat (any_goals (first | assumption | wp_step))
end
section
variable {prog : Program} {w : World} {A : Around} {E : Value → Shared → Prop} {s : Shared}
set_option maxHeartbeats 8000000 in
/-- set(a tuple of texts) -/
theorem set_tuple {d : Addr} {arr : Array Value} {ys : List Str} {Q : Value → Shared → Prop} (calm : A.handled = none) (src : s.heap.IsTuple d arr) (tx : PyProof.Rows.StrsAre arr.toList ys) (few : ys.length < 64)
    (hQ : ∀ (h2 : Heap) (tk : Nat), (∀ b u, s.heap.get? b = some u → h2.get? b = some u) → SRt prog w h2 s.heap.objs.size (ded ys) → Q (.ref s.heap.objs.size) { s with heap := h2, toks := tk }) :
    wpAny (model prog w) A (call (.type "set") [.ref d]) Q E s := by
  obtain ⟨c0, c1, c2⟩ := F.called_set.mro
  have c3 := F.called_set.made
  have c4 := F.called_set.sub
  have c5 := F.called_set.notType
  have c6 := F.called_set.canCreate
  have c7 := F.typeCall_set_1 (.ref d)
  have c8 := F.called_set.init.lookup
  have c9 := F.called_set.init.bind (.ref s.heap.objs.size)
  have new0 : (s.heap.push (noSet w)).get? s.heap.objs.size = some (noSet w) := Heap.get?_push_size _ rfl
  have ty0 : Shared.TypeIs { s with heap := s.heap.push (noSet w) } (.ref s.heap.objs.size) "set" := ⟨_, new0, rfl⟩
  refine wpAny_call (codeAny_of_tree ?_)
  show wpAny _ _ (callAny (.type "set") _) _ _ _
  refine wpAny_pure ⟨Code.quiet_builtin _ (by decide +kernel), codeAny_builtin F.entry_type_call ?_⟩
  rw [Around.under_plain (weight_type_call_type "set" [.ref d] []) rfl]
  repeat (any_goals (first | assumption | wp_step))
  refine codeAny_mono (code_set_led1 (.ref d) (E := E) (Q₁ := fun ob s1 => ob = .ref s.heap.objs.size ∧ s1 = { s with heap := s.heap.push (noSet w) }) ⟨rfl, rfl⟩) fun r s1 hr => ?_
  match r, hr with
  | .error e, hr => exact hr
  | .ok .next, hr => exact hr.elim
  | .ok .brk, hr => exact hr.elim
  | .ok .cont, hr => exact hr.elim
  | .ok (.ret ob), hr =>
    obtain ⟨rfl, rfl⟩ := hr
    repeat (any_goals (first | assumption | wp_step))
    refine codeAny_mono (codeAny_call_builtin (R := wants (fun r s2 => r = .none ∧ Q (.ref s.heap.objs.size) s2) E) F.called_set.init.plain F.entry_set_init (check_set_init_1 ty0 ?_)) fun r2 s2 hr2 => ?_
    · obtain ⟨ob, hob, cl, nl, dt⟩ := src
      obtain ⟨k1, k2, k3, k4⟩ := ob
      simp only at cl dt
      subst cl; subst dt
      have old0 : (s.heap.push (noSet w)).get? d = some { cls := .type "tuple", dict := k2, data := .seq arr nl, slots := k4 } := Heap.get?_push_of_some _ hob
      have u1 := F.sub_tuple_set
      have u2 := F.sub_tuple_frozenset
      have u3 : (Value.type "tuple" == Value.type "dict") = false := by decide
      have src1 : (s.heap.push (noSet w)).IsTuple d arr := ⟨_, old0, rfl, nl, rfl⟩
      unfold Builtin.«set.__init__» noKeywords Builtin.Frozenset.updateFrom
      generalize eP : pyIter = PI
      wp_walk
      subst eP
      refine wpAny_pyIter_tuple src1 ?_
      refine wpAny_bind (wpAny_runValue ?_)
      have dS : d < s.heap.objs.size := Heap.lt_size hob
      have calm3 : A.in1.in1.in1.handled = none := by simp [calm]
      have dne : d ≠ (s.heap.push (noSet w)).objs.size := by
        rw [Heap.size_push]; exact Nat.ne_of_lt (Nat.lt_succ_of_lt dS)
      have off0 : s.heap.objs.size ∉ [(s.heap.push (noSet w)).objs.size, d] := by
        rw [Heap.size_push]
        intro z
        rcases List.mem_cons.mp z with y | y
        · exact absurd y (Nat.ne_of_lt (Nat.lt_succ_self _))
        · exact absurd (List.mem_singleton.mp y) (Nat.ne_of_gt dS)
      have len0 : ys.length = arr.size := by rw [← StrsAre.len_eq tx, Array.length_toList]
      refine loopTx ((Walks.tuple calm3 _ d dne arr).toS) s.heap.objs.size off0 ys len0 (by rw [← len0]; exact few) (fun j v hv => SS.strs_at tx j v (by rw [Array.getElem?_toList]; exact hv)) (arr.size - 0) 0 _ (by omega) (Nat.zero_le _)
        ⟨⟨_, Heap.get?_push_size _ rfl, rfl, rfl⟩, (src1.push _)⟩ ⟨[], sr_new (Heap.get?_push_of_some _ new0), (fun _ z => nomatch z), rfl⟩ ?_
      intro s3 mv rr
      obtain ⟨h3, g3, d3, t3, o3⟩ := s3
      have e1 : g3 = s.gens := mv.gens
      have e2 : d3 = s.drawn := mv.drawn
      have e3 : o3 = s.os := mv.os
      subst e1; subst e2; subst e3
      show wpAny _ _ _ _ _ _
      refine wpAny_pure ?_
      show wpAny _ _ (ret Value.none) _ _ _
      refine wpAny_pure ⟨rfl, hQ h3 t3 (fun b u e => ?_) rr⟩
      have lb : b < s.heap.objs.size := Heap.lt_size e
      refine mv.heap b u (fun z => ?_) (Heap.get?_push_of_some _ (Heap.get?_push_of_some _ e))
      rcases List.mem_cons.mp z with y | y
      · exact absurd y (Nat.ne_of_lt lb)
      · rw [Heap.size_push] at y
        exact absurd (List.mem_singleton.mp y) (Nat.ne_of_lt (Nat.lt_succ_of_lt lb))
    · match r2, hr2 with
      | .error e, hr2 => exact hr2
      | .ok .next, hr2 => exact hr2.elim
      | .ok .brk, hr2 => exact hr2.elim
      | .ok .cont, hr2 => exact hr2.elim
      | .ok (.ret v), hr2 =>
        obtain ⟨rfl, hq⟩ := hr2
        repeat (any_goals (first | assumption | wp_step))
end
section
variable {X : Cx}
/-- set(xs), xs a list or tuple of texts -/
theorem cr_setL (hc : X.calm = true) : CallR X (.type "set") (fun xs H Q => ∃ (a : Addr) (ys : List Str), xs = [.ref a] ∧ (SqL X.K H a (ys.map V.str) ∨ SqT X.K H a (ys.map V.str)) ∧ ys.length < 64 ∧ ∀ p, H p = none → Q (.ref p) (upd H p (SetS X.prog X.w p (ded ys)))) := by
  intro pins s σ H xs us Q I r h
  obtain ⟨a, ys, rfl, hq, few, q⟩ := h
  rw [Vals.ref1 r]
  have fin : ∀ (h2 : Heap) (tk : Nat), (∀ b u, s.heap.get? b = some u → h2.get? b = some u) → SRt X.prog X.w h2 s.heap.objs.size (ded ys) → EP X pins σ Q (.ref s.heap.objs.size) { s with heap := h2, toks := tk } := fun h2 tk kp ⟨l, R, st, es⟩ =>
    ⟨.ref s.heap.objs.size, upd H s.heap.objs.size (SetS X.prog X.w s.heap.objs.size (ded ys)), I.laid (t' := tk) kp (Nat.le_refl _) ⟨⟨l, R, st, es⟩, let ⟨o, _, _, _, e, _⟩ := R; ⟨o, e⟩, fun h1 h2 ⟨l, r1, r2, r3⟩ k => ⟨l, r1.move k, r2, r3⟩⟩, rfl, q _ (I.hok.fresh (Nat.le_refl _))⟩
  rcases hq with hq | hq
  · obtain ⟨its, rv, pl, hz⟩ := I.list hq
    exact set_list (I.ok.hd hc) pl.isList (by simpa using strsAre_of rv) few fin
  · obtain ⟨its, rv, pl, hz⟩ := I.tuple hq
    exact set_tuple (I.ok.hd hc) pl (by simpa using strsAre_of rv) few fin
/-- len(s) -/
theorem cr_lenS : CallR X (.builtin "len") (fun xs H Q => ∃ (a : Addr) (ks : List Str), xs = [.ref a] ∧ H a = some (SetS X.prog X.w a ks) ∧ ks.length < 1000 ∧ Q (.int ks.length) H) := by
  intro pins s σ H xs us Q I r h
  obtain ⟨a, ks, rfl, ha, few, q⟩ := h
  obtain ⟨⟨l, R, st, rfl⟩, _⟩ := I.hok a _ ha
  rw [Vals.ref1 r]
  rw [List.length_map] at few q
  obtain ⟨o, ep, t, es, ho, hx, hd, pm, el, hb, hf, hr, hl⟩ := R
  have sz : es.size = l.length := by rw [← Array.length_toList, pm.length_eq]
  refine call_len_set ho hx hd hf (by rw [sz]; omega) ⟨.int l.length, H, I.tok _, ⟨_, by rw [sz]⟩, q⟩
end
end Fs
set_option Elab.async false
set_option linter.all false
set_option maxRecDepth 100000
set_option maxHeartbeats 8000000
/-! FtB: sorted of lists and tuples of texts, a walk over either, names = a list -/
namespace Fs
open PySem PySem.Spec PyProof.Rows L2 Fh
open PySem.W (Frag)
section
variable {P : Program} {w : World} {A : Around} {E : Value → Shared → Prop} {s : Shared} {d : Addr}
theorem sorted_seq {o : Obj} {T : String} {arr : Array Value} {nl : Nat} {ys : List Str} {Q : Value → Shared → Prop} (hT : T = "list" ∨ T = "tuple") (ho : s.heap.get? d = some o) (hc : o.cls = .type T) (hd : o.data = .seq arr nl) (tx : StrsAre arr.toList ys) (few : ys.length < 64)
    (hQ : ∀ (s' : Shared) (h1 : Heap) (out : Array Value) (c : Nat) (zs : List Str), (∀ b o, s.heap.get? b = some o → h1.get? b = some o) → (∀ b o, h1.get? b = some o → s'.heap.get? b = some o) → s'.gens = s.gens → s'.os = s.os → s'.heap.get? h1.objs.size = some (seqObj "list" out c) → StrsAre out.toList zs →
      zs.Perm ys → sortedS zs = true → Q (.ref h1.objs.size) s') : wpAny (model P w) A (call (.builtin "sorted") [.ref d]) Q E s := by
  have len0 : ys.length = arr.size := by rw [← StrsAre.len_eq tx, Array.length_toList]
  refine Calls.call_function_entry PyProof.Rows.kind_sorted PyProof.Rows.plain_sorted PyProof.Rows.entry_sorted (PyProof.Rows.args_sorted1 _) ?_
  unfold Builtin.«sorted»
  refine wpAny_bind (m := checkCount "sorted" 1 1 _) (wpAny_pure (wpAny_bind (wpAny_collect_seq d hT ho hc hd (fun h1 k1 => ?_) (by rw [sizeLine_eq]; omega))))
  have lv : arr.toList.length = ys.length := by rw [Array.length_toList, len0]
  refine wpAny_bind (wpAny_newList ?_ (by rw [lv, sizeLine_eq]; omega))
  have hoL : (h1.push (seqObj "list" arr.toList.toArray 0)).get? h1.objs.size = some (seqObj "list" arr.toList.toArray 0) := Heap.get?_push_size _ rfl
  refine wpAny_bind (wpAny_holding (wpAny_call_entry PyProof.Rows.slot_list_sort ⟨_, hoL, rfl⟩ PyProof.Rows.entry_list_sort
    (list_sort_treeK PyProof.Rows.strKind_oneLt (s := { s with heap := h1.push (seqObj "list" arr.toList.toArray 0) }) hoL tx.keysOf (fun v1 v2 rest e => keyKind_strs (by rw [← e]; exact tx)) (by rw [lv]; exact few) fun st' hp hs2 => ⟨_, rfl, ?_⟩)
    (PyProof.Rows.args_list_sort _)))
  obtain ⟨zs, q1, q2, q3⟩ := sorted_out_str tx hp hs2
  obtain ⟨c, hc2⟩ := PyProof.Rows.sortedHeap_at (vs := arr.toList) (out := (arrOf st').map (·.2)) hoL
  refine wpAny_pure ⟨_, rfl, hQ _ h1 _ c zs k1 (fun b u q => ?_) rfl rfl hc2 q1 q2 q3⟩
  have hlt := Heap.lt_size q
  show (PyProof.Rows.sortedHeap (h1.push (seqObj "list" arr.toList.toArray 0)) h1.objs.size arr.toList _).get? b = some u
  rw [PyProof.Rows.sortedHeap_old (Nat.ne_of_lt hlt) (by rw [size_push']; exact Nat.lt_succ_of_lt hlt)]
  exact Heap.get?_push_of_some _ q
end
section
variable {X : Cx}
/-- sorted(xs), xs a list or tuple of texts -/
theorem cr_sortedSeq : CallR X (.builtin "sorted") (fun xs H Q => ∃ (a : Addr) (ys : List Str), xs = [.ref a] ∧ (SqL X.K H a (ys.map V.str) ∨ SqT X.K H a (ys.map V.str)) ∧ ys.length < 64 ∧ ∀ zs p, zs.Perm ys → sortedS zs = true → H p = none → Q (.ref p) (upd H p (.lst (zs.map V.str)))) := by
  intro pins s σ H xs us Q I r h
  obtain ⟨a, ys, rfl, hq, few, q⟩ := h
  rw [Vals.ref1 r]
  have fin : ∀ (s' : Shared) (h1 : Heap) (out : Array Value) (c : Nat) (zs : List Str), (∀ b o, s.heap.get? b = some o → h1.get? b = some o) → (∀ b o, h1.get? b = some o → s'.heap.get? b = some o) → s'.gens = s.gens → s'.os = s.os → s'.heap.get? h1.objs.size = some (seqObj "list" out c) → StrsAre out.toList zs →
      zs.Perm ys → sortedS zs = true → EP X pins σ Q (.ref h1.objs.size) s' := fun s' h1 out c zs k1 k g o hg hi pm so => by
    have hlen : (zs.map V.str).length ≤ sizeLine := by rw [List.length_map, pm.length_eq, sizeLine_eq]; omega
    have I1 : Inv X pins σ H { s with heap := h1 } := I.kept (t' := s.toks) k1
    have hn : H h1.objs.size = none := I1.hok.fresh (Nat.le_refl _)
    have J : Inv X pins σ (upd H h1.objs.size (.lst (zs.map V.str))) s' :=
      I1.call' (ch := []) o (Un.laid (h := h1) k (Nat.le_refl _) hn) (I1.hok.laid (h := h1) k (Nat.le_refl _) ⟨hlen, out.toList, c, vals_of_strs hi, hg⟩) (by rw [g]; exact I.bare) (fun _ z => nomatch z)
    exact ⟨.ref h1.objs.size, _, J, rfl, q zs _ pm so hn⟩
  rcases hq with hq | hq
  · obtain ⟨its, rv, ⟨o, n, ho, hc, _, hd⟩, hz⟩ := I.list hq
    exact sorted_seq (.inl rfl) ho hc hd (by simpa using strsAre_of rv) few fin
  · obtain ⟨its, rv, ⟨o, ho, hc, n, hd⟩, hz⟩ := I.tuple hq
    exact sorted_seq (.inr rfl) ho hc hd (by simpa using strsAre_of rv) few fin
/-- over a list or a tuple -/
def iSeq (K : Frag) (tl : TE) : TI := fun σ H R => tl σ H fun x H1 => ∃ a, x = .ref a ∧ (((∃ xs, SqL K H1 a xs) ∧ R (Itl K a) H1) ∨ ((∃ xs, SqT K H1 a xs) ∧ R (Itt K a) H1))
theorem ty_l {K : Frag} {H : Hp} {a : Addr} {xs : List V} (h : SqL K H a xs) : TyX K H (.ref a) (.type "list") := by
  rcases h with (h | ⟨o, h⟩) | ⟨o, its, n, hk, hc, _⟩
  · exact .base (.lst h)
  · exact .base (.frz h)
  · exact .kList hk hc
theorem ty_t {K : Frag} {H : Hp} {a : Addr} {xs : List V} (h : SqT K H a xs) : TyX K H (.ref a) (.type "tuple") := by
  rcases h with (h | ⟨o, h⟩) | ⟨o, its, n, hk, hc, _⟩
  · exact .base (.tup h)
  · exact .fTuple h
  · exact .kTuple hk hc
end
section
variable {X : Cx} {tg e : Expr} {tl : TE}
theorem pi_seq (he : PE X e tl) : PI X tg e (iSeq X.K tl) := by
  refine ⟨fun pins s σ H R I h => thn (he.run pins s σ H _ I h) fun u s2 ⟨x, H2, I2, rx, d, ex, q⟩ => ?_⟩
  subst ex
  obtain rfl : u = Value.ref d := rx
  have it0 := I2.hok.fresh (Nat.le_refl s2.heap.objs.size)
  have one : ∀ c ∈ [s2.heap.objs.size], c = s2.heap.objs.size := fun c hc => List.mem_singleton.mp hc
  rcases q with ⟨⟨xs, hq⟩, q⟩ | ⟨⟨xs, hq⟩, q⟩
  · obtain ⟨us, ru, pu, _⟩ := I2.list hq
    exact wpAny_pyIter_list pu.isList ⟨_, [s2.heap.objs.size], _, _, H2, rfl, I2.kept (t' := s2.toks) (fun c o z => Heap.get?_push_of_some _ z), turn_list d _, ⟨_, Heap.get?_push_size _ rfl, rfl, rfl⟩, fun c hc => by rw [one c hc]; exact I2.fpOk (Nat.le_refl _) it0, q⟩
  · obtain ⟨us, ru, pu, _⟩ := I2.tuple hq
    exact wpAny_pyIter_tuple (show s2.heap.IsTuple d us.toArray from pu) ⟨_, [s2.heap.objs.size], _, _, H2, rfl, I2.kept (t' := s2.toks) (fun c o z => Heap.get?_push_of_some _ z), turn_tuple d _, ⟨_, Heap.get?_push_size _ rfl, rfl, rfl⟩, fun c hc => by rw [one c hc]; exact I2.fpOk (Nat.le_refl _) it0, q⟩
theorem sqT_same {K : Frag} {H H' : Hp} {a : Addr} {xs : List V} (s : Same H H') (h : SqT K H a xs) : SqT K H' a xs := by
  rcases h with (h | ⟨o, h⟩) | h
  · exact .inl (.inl (s _ _ h))
  · exact .inl (.inr ⟨o, s _ _ h⟩)
  · exact .inr h
theorem mpP {R G : Prop} (h : R → G) (r : R) : G := h r
end
/-! ### names = a list -/
end Fs
set_option Elab.async false
set_option linter.all false
set_option maxRecDepth 100000
set_option maxHeartbeats 4000000
/-! FyA: the error InvalidText(field) over the layer: made and raised, read and asked for its class where it is caught -/
namespace PySem
namespace ErrN
open PySem.W PySem.Calls PyProof.Rows PySem.HandSPX
/-! ### the text of __init__ -/
def iA (p1 p2 : Pos) : Arguments := { posonlyargs := [], args := [{ arg := "self", annotation := none, pos := p1 }, { arg := "index", annotation := none, pos := p2 }], vararg := none, kwonlyargs := [], kw_defaults := [], kwarg := none, defaults := [] }
def iB (q1 q2 q3 q4 : Pos) : List Stmt := [.Assign [.Attribute (.Name "self" q1) "index" q2] (.Name "index" q3) q4]
def iS : Scope := { kind := .function, names := [(PySem.Str.ofString "self", .local), (PySem.Str.ofString "index", .local)], isGenerator := false, isCoroutine := false, more := [] }
/-- what the written part says of Low, at C, and of its __init__, at fI -/
structure ErrNxt (K : Frag) (mg : Str → Option Value) (C fI : Addr) : Prop where
  gC : mg "InvalidText" = some (.ref C)
  cls : ∃ nm q N bs bm sn sub ab col dd k0 k1 k2 k3 k5, K.lookup C = some (excClassObj nm q C N bs bm true sn sub ab col dd k0 k1 k2 k3 k5 "ValueError.__new__") ∧ refsVE bm = true
  sa : findIn K (.ref C) "__setattr__" = some (some (.builtin "object.__setattr__"))
  ga : findIn K (.ref C) "__getattribute__" = some (some (.builtin "BaseException.__getattribute__"))
  gg : findIn K (.ref C) "__getattr__" = some none
  noN : findIn K (.ref C) "index" = some none
  iC : findIn K (.ref C) "__init__" = some (some (.ref fI))
  tC : typeIn K (.ref fI) = some (.type "function")
  kC : keepIn K (.ref C) = true
  exC : subIn K (.ref C) (.type "BaseException") = some true
  tyC : typeIn K (.ref C) = some (.type "type")
  hdC : hasDictIn K C = true
  te : exmOne K (.ref C) (.ref C) = some true
  fn : ∃ (oc : Value) (od : Option Addr) (kV doc pm : Value) (an : Option Addr) (cdv ct : Value) (osl : Array (Option Value)) (p1 p2 q1 q2 q3 q4 : Pos),
    K.lookup fI = some ⟨oc, od, .func (fnOf "__init__" "InvalidText.__init__" (iA p1 p2) (iB q1 q2 q3 q4) iS .none kV doc pm an cdv ct), osl⟩ ∧ codeIn K cdv "InvalidText.__init__" = true
end ErrN
end PySem
namespace L2
open PySem PySem.Spec PyProof.Rows
end L2
set_option Elab.async false
set_option linter.all false
set_option maxRecDepth 100000
set_option maxHeartbeats 4000000
/-! FyB: d.get(k, x) of a dict of the written part -/
namespace Fs
open PySem PySem.Spec PyProof.Rows L2 Fh
open PySem.W (Frag)
def tKGet (K : Frag) (w : World) (td ty tx : TE) : TE := fun σ H Q => td σ H fun x H1 => ∃ (d : Addr) (es : Array DictEntry) (n : Nat), x = .ref d ∧ KDict K w d es n ∧ ty σ H1 fun y H2 => tx σ H2 fun z H3 =>
  ∃ (q : Str) (r : Option Value) (v : V), y = .str q ∧ PySem.W.nsIn K d q = some r ∧ (match r with | none => v = z | some u => RelV v u) ∧ Q v H3
section
variable {X : Cx} {o e f : Expr} {apos cpos : Pos} {td ty tx : TE}
theorem pe_kget (ho : PE X o td) (he : PE X e ty) (hf : PE X f tx) (m : M2 X o "get" apos e f cpos) : PE X (.Call (.Attribute o "get" apos) [e, f] [] cpos) (tKGet X.K X.w td ty tx) := by
  refine ⟨fun pins s σ H Q I h => ?_⟩
  refine wpAny_Call_method m.base m.few m.line PySem.F.plainAttrs_dict PySem.F.slot_dict_get PySem.F.type_dict_get (thn (ho.run pins s σ H _ I h) fun u s1 ⟨x, H1, I1, rx, d, es, n, ex, D, q1⟩ => ?_)
  subst ex
  obtain rfl : u = Value.ref d := rx
  refine ⟨kd_type D I1, fun b q => ?_, ?_⟩
  · cases q
    exact ⟨_, I1.kIn _ _ D.at_, rfl⟩
  rw [m.trees]
  refine Calls.callWith_builtin rfl (Calls.evalArgs_plain (Calls.spliced_cons (thn (he.run pins s1 σ H1 _ I1 q1) fun iv s2 ⟨y, H2, I2, ry, q2⟩ =>
    Calls.spliced_cons (thn (hf.run pins s2 σ H2 _ I2 q2) fun fv s3 ⟨z, H3, I3, rz, q, r, v, ey, hr, hv, q3⟩ => Calls.spliced_nil ?_))))
  subst ey
  obtain ⟨t, rfl⟩ := (show ∃ t, iv = Value.str q t from ry)
  refine call_meetsIn PySem.F.slot_dict_get (kd_type D I3) PySem.F.entry_dict_get (PySem.F.args_dict_get_3 _ _ _) (meets_dict_get_default (strKind X.prog X.w) d (strKind_is X.prog X.w q t) D.low fv) ⟨_, PySem.W.mapOf_K (prog := X.prog) I3.kIn D.at_ D.lit, ?_⟩
  rw [PySem.W.find_K D.at_ hr]
  refine ⟨v, H3, I3.tok _, ?_, q3⟩
  cases r with
  | none => rw [hv]; exact rz
  | some u => exact hv
end
end Fs
set_option Elab.async false
set_option linter.all false
set_option maxRecDepth 100000
set_option maxHeartbeats 4000000
/-! FtD: the error InvalidTask(field) over the layer: made and raised, read and asked for its class where it is caught -/
namespace PySem
end PySem
namespace L2
open PySem PySem.Spec PyProof.Rows
end L2
set_option Elab.async false
set_option linter.all false
set_option maxRecDepth 100000
set_option maxHeartbeats 4000000
/-! FtC: own == of an instance beside a tuple, a text, None -/
namespace Fs
open PySem PySem.Spec PyProof.Rows L2 Fh
open PySem.W (Frag)
end Fs
set_option Elab.async false
set_option linter.all false
set_option maxRecDepth 100000
set_option maxHeartbeats 4000000
/-! FtE: values of any kind, as data, at the top loosely held; what isinstance tells of them -/
namespace Fs
open PySem PySem.Spec PyProof.Rows L2 Fh
open PySem.W (Frag)
/-! ### isinstance of the error that a suite holds -/
structure ErrC (K : Frag) (C : Addr) : Prop where
  is : (PySem.W.clsIn K C).isSome = true
  cl : PySem.W.findIn K (.ref C) "__class__" = some (some (.builtin "object.__class__"))
  hn : PySem.W.specialIn K (.builtin "object.__class__") "__get__" = some (some (.builtin "getset_descriptor.__get__"))
  ht : PySem.W.takesIn K (.builtin "object.__class__") = some true
  hm : PySem.W.mroIn K C (.type "object") = some true
def rIsED (K : Frag) (C a : Addr) (cls : Value) (d : Option Addr) : List V → Hp → VK → Prop := fun xs H Q => ∃ (dd : Addr) (fs : List (Str × V)) (c : V) (cv : Value) (b : Bool), xs = [.ref a, c] ∧ cls = .ref C ∧ d = some dd ∧ H dd = some (.xd fs) ∧ ClsV c cv ∧ PySem.W.kitOne K (.ref C) cv = some b ∧ Q (.bl b) H
/-! ### values of any kind -/
def IsD (N : Addr → Prop) (H : Hp) (v : V) : PyData → Prop
  | .none => v = .non
  | .bool b => v = .bl b
  | .int i => v = .int i
  | .str x => v = .str x
  | .list ds => ∃ a xs, v = .ref a ∧ ¬ N a ∧ H a = some (.lst xs) ∧ DAs N H xs ds
  | .tuple ds => ∃ a xs, v = .ref a ∧ ¬ N a ∧ H a = some (.tup xs) ∧ DAs N H xs ds
  | .dict _ => ∃ a es, v = .ref a ∧ ¬ N a ∧ H a = some (.dK es)
theorem IsD.of {N : Addr → Prop} {H : Hp} {v : V} {d : PyData} (h : DA N H v d) : IsD N H v d := by
  cases h with
  | non => exact rfl
  | bl b => exact rfl
  | int i => exact rfl
  | str x => exact rfl
  | lst h1 h2 h3 h4 => exact ⟨_, _, rfl, h3, h1, h4⟩
  | tup h1 h3 h4 => exact ⟨_, _, rfl, h3, h1, h4⟩
  | dK h1 h3 _ => exact ⟨_, _, rfl, h3, h1⟩
theorem IsD.same {N : Addr → Prop} {H H' : Hp} {v : V} {d : PyData} (s : Same H H') (h : IsD N H v d) : IsD N H' v d := by
  cases d with
  | none => exact h
  | bool b => exact h
  | int i => exact h
  | str x => exact h
  | list ds => obtain ⟨a, xs, e, n, z, r⟩ := h; exact ⟨a, xs, e, n, s _ _ z, DAs.same s r⟩
  | tuple ds => obtain ⟨a, xs, e, n, z, r⟩ := h; exact ⟨a, xs, e, n, s _ _ z, DAs.same s r⟩
  | dict kvs => obtain ⟨a, es, e, n, z⟩ := h; exact ⟨a, es, e, n, s _ _ z⟩
theorem IsD.but {N : Addr → Prop} {p : Addr} {H H' : Hp} {v : V} {d : PyData} (s : But p H H') (hp : N p) (h : IsD N H v d) : IsD N H' v d := by
  have ne : ∀ {a : Addr}, ¬ N a → a ≠ p := fun n e => n (e ▸ hp)
  cases d with
  | none => exact h
  | bool b => exact h
  | int i => exact h
  | str x => exact h
  | list ds => obtain ⟨a, xs, e, n, z, r⟩ := h; exact ⟨a, xs, e, n, s _ _ (ne n) z, DAs.but s hp r⟩
  | tuple ds => obtain ⟨a, xs, e, n, z, r⟩ := h; exact ⟨a, xs, e, n, s _ _ (ne n) z, DAs.but s hp r⟩
  | dict kvs => obtain ⟨a, es, e, n, z⟩ := h; exact ⟨a, es, e, n, s _ _ (ne n) z⟩
def tyn : PyData → String
  | .none => "NoneType"
  | .bool _ => "bool"
  | .int _ => "int"
  | .str _ => "str"
  | .list _ => "list"
  | .tuple _ => "tuple"
  | .dict _ => "dict"
theorem IsD.ty {K : Frag} {N : Addr → Prop} {H : Hp} {v : V} {d : PyData} (h : IsD N H v d) : TyX K H v (.type (tyn d)) := by
  cases d with
  | none => rw [show v = .non from h]; exact .base .non
  | bool b => rw [show v = .bl b from h]; exact .base (.bl b)
  | int i => rw [show v = .int i from h]; exact .base (.int i)
  | str x => rw [show v = .str x from h]; exact .base (.str x)
  | list ds => obtain ⟨a, xs, e, n, z, r⟩ := h; rw [e]; exact ty_l (SqL.of z)
  | tuple ds => obtain ⟨a, xs, e, n, z, r⟩ := h; rw [e]; exact ty_t (SqT.of z)
  | dict kvs => obtain ⟨a, es, e, n, z⟩ := h; rw [e]; exact .base (.dK z)
def isStr : PyData → Bool
  | .str _ => true
  | _ => false
def isInt : PyData → Bool
  | .int _ => true
  | .bool _ => true
  | _ => false
theorem kit_str (K : Frag) (d : PyData) : PySem.W.kitOne K (.type (tyn d)) (.type "str") = some (isStr d) := by cases d <;> rfl
/-! ### words, names, whole numbers -/
def abcN : List Nat := (Str.ofString "abcdefghijklmnopqrstuvwxyz").cps.toList
def sgB (x : Str) : List Bool := x.cps.toList.map fun c => decide (c ∈ abcN)
def wordB (x : Str) : Bool := decide (1 ≤ x.length) && (decide (x.length ≤ 8) && (sgB x).all id)
def wordD : PyData → Bool
  | .str x => wordB x
  | _ => false
def smS (d : PyData) : Prop := ∀ x, d = .str x → x.length ≤ 1000
def Sm : PyData → Prop
  | .str x => x.length ≤ 1000
  | .list ds => ds.length ≤ 50 ∧ ∀ d ∈ ds, smS d
  | .tuple ds => ds.length ≤ 50 ∧ ∀ d ∈ ds, smS d
  | _ => True
theorem Sm.str {d : PyData} (h : Sm d) : smS d := fun x e => by rw [e] at h; exact h
end Fs
namespace Fs
open PySem PySem.Spec PyProof.Rows L2 Fh
open PySem.W (Frag)
/-! ### what stays when one instance is filled -/
def KeepD (H H' : Hp) : Prop := ∀ b o, H b = some o → (∀ C dx fs, o ≠ .ins C dx fs) → H' b = some o
mutual
theorem DA.keep {N : Addr → Prop} {H H' : Hp} (s : KeepD H H') : ∀ {v : V} {d : PyData}, DA N H v d → DA N H' v d
  | _, _, .non => .non
  | _, _, .bl b => .bl b
  | _, _, .int i => .int i
  | _, _, .str x => .str x
  | _, _, .lst h n m r => .lst (s _ _ h (fun _ _ _ z => nomatch z)) n m (DAs.keep s r)
  | _, _, .tup h m r => .tup (s _ _ h (fun _ _ _ z => nomatch z)) m (DAs.keep s r)
  | _, _, .dK h m r => .dK (s _ _ h (fun _ _ _ z => nomatch z)) m (DKs.keep s r)
theorem DAs.keep {N : Addr → Prop} {H H' : Hp} (s : KeepD H H') : ∀ {v : List V} {d : List PyData}, DAs N H v d → DAs N H' v d
  | _, _, .nil => .nil
  | _, _, .cons h r => .cons (DA.keep s h) (DAs.keep s r)
theorem DKs.keep {N : Addr → Prop} {H H' : Hp} (s : KeepD H H') : ∀ {v : List (Key × V)} {d : List (PyData × PyData)}, DKs N H v d → DKs N H' v d
  | _, _, .nil => .nil
  | _, _, .cons h r => .cons (DA.keep s h) (DKs.keep s r)
end
theorem IsD.keep {N : Addr → Prop} {H H' : Hp} {v : V} {d : PyData} (s : KeepD H H') (h : IsD N H v d) : IsD N H' v d := by
  cases d with
  | none => exact h
  | bool b => exact h
  | int i => exact h
  | str x => exact h
  | list ds => obtain ⟨a, xs, e, n, z, r⟩ := h; exact ⟨a, xs, e, n, s _ _ z (fun _ _ _ z => nomatch z), DAs.keep s r⟩
  | tuple ds => obtain ⟨a, xs, e, n, z, r⟩ := h; exact ⟨a, xs, e, n, s _ _ z (fun _ _ _ z => nomatch z), DAs.keep s r⟩
  | dict kvs => obtain ⟨a, es, e, n, z⟩ := h; exact ⟨a, es, e, n, s _ _ z (fun _ _ _ z => nomatch z)⟩
end Fs
set_option Elab.async false
set_option linter.all false
set_option maxRecDepth 100000
set_option maxHeartbeats 4000000
/-! FtF: a list beside [] -/
namespace Fs
open PySem PySem.Spec PyProof.Rows L2 Fh
open PySem.W (Frag)
section
variable {X : Cx}
def rNeE (K : Frag) : R2 := fun x y H Q => ∃ (a b : Addr) (xs : List V), x = .ref a ∧ y = .ref b ∧ SqL K H a xs ∧ SqL K H b [] ∧ Q (.bl (!xs.isEmpty)) H
theorem op_neE (hu : X.A.units < cLine) : OpR X (compareOp .NotEq) (rNeE X.K) := by
  intro pins s σ H x y v u Q I rx ry h
  obtain ⟨a, b, xs, rfl, rfl, ha, hb, q⟩ := h
  cases (show v = Value.ref a from rx)
  cases (show u = Value.ref b from ry)
  obtain ⟨i1, r1, p1, _⟩ := I.list ha
  obtain ⟨i2, r2, p2, _⟩ := I.list hb
  have l2 : i2 = [] := by cases r2; rfl
  subst l2
  cases xs with
  | nil =>
    have l1 : i1 = [] := by cases r1; rfl
    subst l1
    exact SeqAt.RcNeAt.lists (e := fun _ => true) p1.isList p2.isList rfl hu (fun j h1 _ => absurd h1 (Nat.not_lt_zero _)) _ _ _ _ ⟨.bl false, H, I, rfl, q⟩
  | cons z zs =>
    cases r1 with
    | cons rz rr => exact SeqAt.RcNeAt.lists_lengths p1.isList p2.isList (by simp) hu _ _ _ _ ⟨.bl true, H, I, rfl, q⟩
end
end Fs
namespace Fs
open PySem PySem.Spec PyProof.Rows L2 Fh
open PySem.W (Frag)
def IsDs (N : Addr → Prop) (H : Hp) : List V → List PyData → Prop
  | [], [] => True
  | v :: vs, d :: ds => (IsD N H v d ∧ Sm d) ∧ IsDs N H vs ds
  | _, _ => False
theorem IsDs.keep {N : Addr → Prop} {H H' : Hp} (k : ∀ v d, IsD N H v d → IsD N H' v d) : ∀ {vs : List V} {ds : List PyData}, IsDs N H vs ds → IsDs N H' vs ds
  | [], [], _ => trivial
  | v :: vs, d :: ds, h => ⟨⟨k _ _ h.1.1, h.1.2⟩, IsDs.keep k h.2⟩
  | [], _ :: _, h => h.elim
  | _ :: _, [], h => h.elim
theorem IsDs.snoc {N : Addr → Prop} {H : Hp} {v : V} {d : PyData} (e : IsD N H v d) (m : Sm d) : ∀ {vs : List V} {ds : List PyData}, IsDs N H vs ds → IsDs N H (vs ++ [v]) (ds ++ [d])
  | [], [], _ => ⟨⟨e, m⟩, trivial⟩
  | v :: vs, d :: ds, h => ⟨h.1, IsDs.snoc e m h.2⟩
  | [], _ :: _, h => h.elim
  | _ :: _, [], h => h.elim
theorem IsDs.len {N : Addr → Prop} {H : Hp} : ∀ {vs : List V} {ds : List PyData}, IsDs N H vs ds → vs.length = ds.length
  | [], [], _ => rfl
  | v :: vs, d :: ds, h => congrArg (· + 1) h.2.len
  | [], _ :: _, h => h.elim
  | _ :: _, [], h => h.elim
end Fs
set_option Elab.async false
set_option linter.all false
set_option maxRecDepth 100000
set_option maxHeartbeats 4000000
/-! FhY: a head by facts with getters and classmethods, the statics among what is looked at -/
namespace FhY
open PySem PySem.Spec PyProof.Rows L2 Fh
open PySem.W (Frag)
/-- the def in a property's, a classmethod's record -/
def getA (K : Frag) (T : String) (p : Addr) : Addr := match PySem.W.recIn K p T with
  | some (.ref g :: _) => g
  | _ => 0
def recB (K : Frag) (T : String) (p : Addr) : Bool := match PySem.W.recIn K p T with
  | some (.ref _ :: _) => true
  | _ => false
theorem recB_ok {K : Frag} {T : String} {p : Addr} (h : recB K T p = true) : ∃ rest, PySem.W.recIn K p T = some (.ref (getA K T p) :: rest) := by
  unfold recB at h
  unfold getA
  split at h
  · rename_i g r e
    exact ⟨r, by rw [e]⟩
  · cases h
def propB (K : Frag) (C : Addr) (f : Str) : Bool := He.eqO (PySem.W.findIn K (.ref C) f) (some (some (.ref (He.ma K C f)))) && (He.eqO (PySem.W.specialIn K (.ref (He.ma K C f)) "__get__") (some (some (.builtin "property.__get__"))) &&
  (decide (PySem.W.takesIn K (.ref (He.ma K C f)) = some true) && recB K "property" (He.ma K C f)))
theorem propB_ok {K : Frag} {C : Addr} {f : Str} (h : propB K C f = true) : PropOf K C f (He.ma K C f) (getA K "property" (He.ma K C f)) := by
  obtain ⟨h1, h⟩ := He.ba h
  obtain ⟨h2, h⟩ := He.ba h
  obtain ⟨h3, h4⟩ := He.ba h
  exact ⟨He.eqO_ok h1, He.eqO_ok h2, of_decide_eq_true h3, recB_ok h4⟩
/-! ### a def that stands in such a record -/
structure GDef where
  at_ : Frag → Addr
  name : Str
  qual : Str
  params : Arguments
  body : List Stmt
  scope : Scope
def gW (K : Frag) (a : Addr) : He.FnW := match K.lookup a with
  | some ⟨_, _, .func fd, _⟩ => some (fd.name, fd.qualname, fd.params, fd.body, fd.scope, fd.globals, fd.closure, fd.builtins)
  | _ => none
def GDef.val (d : GDef) : He.FnW := some (d.name, d.qual, d.params, .stmts d.body, d.scope, mainGlobals, [], builtinsNs)
def GDef.ok (K : Frag) (d : GDef) : Bool := PySem.W.keepIn K (.ref (d.at_ K)) && (match K.lookup (d.at_ K) with
  | some ⟨_, _, .func fd, _⟩ => PySem.W.codeIn K fd.code d.qual && (He.dflB K fd.defaults [] && He.kwdB K fd.kwdefaults [])
  | _ => false)
theorem GDef.funD {K : Frag} {d : GDef} (e : gW K (d.at_ K) = d.val) (c : d.ok K = true) : ∃ fd, FunD K d.name d.qual d.params d.body d.scope [] [] (d.at_ K) fd := by
  obtain ⟨kp, c2⟩ := He.ba c
  unfold gW at e
  cases q : K.lookup (d.at_ K) with
  | none =>
    rw [q] at c2
    cases c2
  | some o =>
    obtain ⟨oc, od, dt, osl⟩ := o
    rw [q] at c2 e
    cases dt with
    | func fd =>
      obtain ⟨n1, n2, n3, n4, n5, n6, n7, n8, n9, n10, n11, n12, n13, n14, n15⟩ := fd
      have e2 : (some (n1, n2, n3, n4, n5, n6, n7, n15) : He.FnW) = some (d.name, d.qual, d.params, .stmts d.body, d.scope, mainGlobals, [], builtinsNs) := e
      simp only [Option.some.injEq, Prod.mk.injEq] at e2
      obtain ⟨h1, h2, h3, h4, h5, h6, h7, h8⟩ := e2
      subst h1 h2 h3 h4 h5 h6 h7 h8
      have c3 : (PySem.W.codeIn K n13 d.qual && (He.dflB K n8 [] && He.kwdB K n9 [])) = true := c2
      obtain ⟨k1, k2⟩ := He.ba c3
      obtain ⟨k3, k4⟩ := He.ba k2
      exact ⟨_, ⟨oc, od, n8, n9, n10, n11, n12, n13, n14, osl, rfl, q, k1, He.dflB_ok k3, He.kwdB_ok k4⟩, kp⟩
    | _ => cases c2
/-! ### the Hook -/
abbrev AlY : Type := (He.AlD × List He.FnW) × Bool
def obsK (fa : List He.Fa) (fn : List He.DefD) (gs : List GDef) (ex : Frag → Bool) (K : Frag) : AlY := ((He.obsD fa fn K, gs.map fun d => gW K (d.at_ K)), ex K && gs.all fun d => d.ok K)
def valY (fn : List He.DefD) (gs : List GDef) : AlY := ((He.valD fn, gs.map GDef.val), true)
section
variable {fa : List He.Fa} {fn : List He.DefD} {gs : List GDef} {ex : Frag → Bool} {K : Frag}
theorem says_d (c : obsK fa fn gs ex K = valY fn gs) : He.SaysD fa fn K := congrArg (fun z : AlY => z.1.1) c
theorem says_more (c : obsK fa fn gs ex K = valY fn gs) : ex K = true := (He.ba (show (ex K && gs.all fun d => d.ok K) = true from congrArg (fun z : AlY => z.2) c)).1
theorem says_get (c : obsK fa fn gs ex K = valY fn gs) (i : Nat) {d : GDef} (h : gs[i]? = some d := by rfl) : ∃ fd, FunD K d.name d.qual d.params d.body d.scope [] [] (d.at_ K) fd := by
  have c2 := (He.ba (show (ex K && gs.all fun d => d.ok K) = true from congrArg (fun z : AlY => z.2) c)).2
  have e : gs.map (fun d => gW K (d.at_ K)) = gs.map GDef.val := congrArg (fun z : AlY => z.1.2) c
  have e2 : (gs.map fun d => gW K (d.at_ K))[i]? = (gs.map GDef.val)[i]? := by rw [e]
  rw [List.getElem?_map, List.getElem?_map, h] at e2
  exact GDef.funD (Option.some.inj e2) (List.all_eq_true.mp c2 d (List.mem_of_getElem? h))
end
end FhY
set_option Elab.async false
set_option linter.all false
set_option maxRecDepth 100000
set_option maxHeartbeats 4000000
/-! FhZ: errors' classes by the head's facts, a law's end -/
namespace Fh
open PySem PySem.Spec PyProof.Rows L2
open PySem.W (Frag)
/-! ### a def by the head's facts -/
theorem funD {K : Frag} {x qual : Str} {st : Stmt} {f : Addr} {fd : FuncData} (F : FunD K x qual (defArgs st) (defBody st) (defScope st) [] [] f fd) : Fun K x qual st f fd := by
  obtain ⟨oc, od, dV, kV, doc, pm, an, cdv, ct, osl, rfl, lk, hcd, hd, _⟩ := F.ex
  rcases hd with ⟨_, rfl⟩ | ⟨h, _⟩
  · exact ⟨⟨oc, od, kV, doc, pm, an, cdv, ct, osl, rfl, lk, hcd⟩, F.kp⟩
  · exact absurd rfl h
def dDef (x : Str) (st : Stmt) : He.DefD := ⟨(x, none), x, x, defArgs st, defBody st, defScope st, [], []⟩
def dMeth (c m q : Str) (st : Stmt) : He.DefD := ⟨(c, some m), m, q, defArgs st, defBody st, defScope st, [], []⟩
/-! ### an error's class by the head's facts -/
def eqT (a b : Option Value) : Bool := decide (a = b)
def eiB (K : Frag) (C : Addr) (b : BK) : Bool := PySem.W.excInitIn K C b.bm b.nw && (decide ((PySem.W.clsIn K C).map (·.mro) = some (.ref C :: b.bm)) && (PySem.W.hasDictIn K C && (eqT (PySem.W.typeIn K (.ref C)) (some (.type "type")) &&
  (He.eqO (PySem.W.findIn K (.ref C) "__setattr__") (some (some (.builtin "object.__setattr__"))) && (He.eqO (PySem.W.findIn K (.ref C) "__getattribute__") (some (some (.builtin "BaseException.__getattribute__"))) &&
  (He.eqO (PySem.W.findIn K (.ref C) "__getattr__") (some none) && (He.eqO (PySem.W.findIn K (.ref C) "__class__") (some (some (.builtin "object.__class__"))) && (PySem.W.keepIn K (.ref C) &&
  (He.eqO (PySem.W.specialIn K (.builtin "object.__class__") "__get__") (some (some (.builtin "getset_descriptor.__get__"))) && decide (PySem.W.takesIn K (.builtin "object.__class__") = some true))))))))))
theorem eiB_ok {K : Frag} {C : Addr} {b : BK} (h : eiB K C b = true) : EK K C b := by
  obtain ⟨h1, h⟩ := He.ba h
  obtain ⟨h2, h⟩ := He.ba h
  obtain ⟨h3, h⟩ := He.ba h
  obtain ⟨h4, h⟩ := He.ba h
  obtain ⟨h5, h⟩ := He.ba h
  obtain ⟨h6, h⟩ := He.ba h
  obtain ⟨h7, h⟩ := He.ba h
  obtain ⟨h8, h⟩ := He.ba h
  obtain ⟨h9, h⟩ := He.ba h
  obtain ⟨h10, h11⟩ := He.ba h
  exact ⟨h1, of_decide_eq_true h2, h3, of_decide_eq_true h4, He.eqO_ok h5, He.eqO_ok h6, He.eqO_ok h7, He.eqO_ok h8, h9, He.eqO_ok h10, of_decide_eq_true h11⟩
abbrev ClR : Type := Str × BK × List Str
def clB (K : Frag) (r : ClR) : Bool := eiB K (He.ga K r.1) r.2.1 && (match r.2.2 with
  | [] => PySem.W.excIn K (He.ga K r.1) r.2.1.bm r.2.1.nw
  | fs => He.eqO (PySem.W.findIn K (.ref (He.ga K r.1)) "__init__") (some (some (.ref (He.ma K (He.ga K r.1) "__init__")))) && (eqT (PySem.W.typeIn K (.ref (He.ma K (He.ga K r.1) "__init__"))) (some (.type "function")) &&
    fs.all fun f => He.eqO (PySem.W.findIn K (.ref (He.ga K r.1)) f) (some none)))
structure ClI (K : Frag) (r : ClR) : Prop where
  ei : EK K (He.ga K r.1) r.2.1
  iC : PySem.W.findIn K (.ref (He.ga K r.1)) "__init__" = some (some (.ref (He.ma K (He.ga K r.1) "__init__")))
  tI : PySem.W.typeIn K (.ref (He.ma K (He.ga K r.1) "__init__")) = some (.type "function")
  no : ∀ f ∈ r.2.2, PySem.W.findIn K (.ref (He.ga K r.1)) f = some none
theorem clB_one {K : Frag} {n : Str} {b : BK} {f : Str} {fs : List Str} (h : clB K (n, b, f :: fs) = true) : ClI K (n, b, f :: fs) := by
  obtain ⟨h1, h⟩ := He.ba h
  obtain ⟨h2, h⟩ := He.ba h
  obtain ⟨h3, h4⟩ := He.ba h
  exact ⟨eiB_ok h1, He.eqO_ok h2, of_decide_eq_true h3, fun g hg => He.eqO_ok (List.all_eq_true.mp h4 g hg)⟩
end Fh
namespace FhY
open PySem PySem.Spec PyProof.Rows L2 Fh
open PySem.W (Frag)
theorem funM {fa : List He.Fa} {fn : List He.DefD} {K : Frag} (c : He.SaysD fa fn K) (i : Nat) {cn m q : Str} {st : Stmt} (h : fn[i]? = some (dMeth cn m q st)) : ∃ fd, Fun K m q st (He.ma K (He.ga K cn) m) fd := by
  obtain ⟨fd, F⟩ := c.def_ i h
  exact ⟨fd, funD F⟩
theorem funT {fa : List He.Fa} {fn : List He.DefD} {K : Frag} (c : He.SaysD fa fn K) (i : Nat) {x : Str} {st : Stmt} (h : fn[i]? = some (dDef x st)) : ∃ fd, Fun K x x st (He.ga K x) fd := by
  obtain ⟨fd, F⟩ := c.def_ i h
  exact ⟨fd, funD F⟩
/-- a getter, a classmethod's def -/
def gDef (c m q : Str) (T : String) (st : Stmt) : GDef := ⟨fun K => getA K T (He.ma K (He.ga K c) m), m, q, defArgs st, defBody st, defScope st⟩
theorem funG {fa : List He.Fa} {fn : List He.DefD} {gs : List GDef} {ex : Frag → Bool} {K : Frag} (c : obsK fa fn gs ex K = valY fn gs) (i : Nat) {cn m q : Str} {T : String} {st : Stmt} (h : gs[i]? = some (gDef cn m q T st)) :
    ∃ fd, Fun K m q st (getA K T (He.ma K (He.ga K cn) m)) fd := by
  obtain ⟨fd, F⟩ := says_get c i h
  exact ⟨fd, funD F⟩
end FhY
set_option Elab.async false
set_option linter.all false
set_option maxRecDepth 100000
set_option maxHeartbeats 4000000
/-! FtG: the error's row of facts by the head's Bools -/
namespace Fs
open PySem PySem.Spec PyProof.Rows L2 Fh
open PySem.W (Frag)
theorem ei_obj {K : Frag} {C : Addr} {bmB : List Value} {nw : String} (T : EI K C bmB nw) : ∃ nm q N bs sn sub ab col dd k0 k1 k2 k3 k5, K.lookup C = some (excClassObj nm q C N bs bmB true sn sub ab col dd k0 k1 k2 k3 k5 nw) := by
  have q := T.q
  have m := T.mro
  have hd := T.hd
  unfold PySem.W.hasDictIn at hd
  unfold PySem.W.clsIn at m hd
  unfold PySem.W.excInitIn at q
  split at q
  · rename_i dd cd sl ho
    rw [ho] at m hd
    split at q
    · rename_i C' bm k0 k1 k2 k3 n k5 hm hs
      simp only [Bool.and_eq_true, beq_iff_eq, Bool.not_eq_true'] at q
      obtain ⟨⟨⟨rfl, rfl⟩, hdel⟩, ht⟩ := q
      obtain ⟨nm, bs, mro, ns, qn, hdc, sn, sub, ab, col, del⟩ := cd
      dsimp only at hm hdel
      subst hm hdel
      have m2 : some (Value.ref C' :: bm) = some (Value.ref C' :: bmB) := m
      injection m2 with m3
      injection m3 with _ m4
      subst m4
      have hd2 : hdc = true := hd
      subst hd2
      have hsl : sl = #[k0, k1, k2, k3, some (.builtin n), k5] := by
        obtain ⟨l⟩ := sl
        simp only at hs
        rw [hs]
      subst hsl
      exact ⟨nm, qn, ns, bs, sn, sub, ab, col, dd, k0, k1, k2, k3, k5, ho⟩
    · cases q
  · cases q
theorem errC_of {K : Frag} {C : Addr} (T : EK K C .ve) : ErrC K C := by
  obtain ⟨cd, h1, _⟩ := T.cls
  exact ⟨by rw [h1]; rfl, T.cl, T.hn, T.ht, by rw [T.mroI]; rfl⟩
end Fs
set_option Elab.async false
set_option linter.all false
set_option maxRecDepth 100000
set_option maxHeartbeats 4000000
/-! FxF: the error InvalidStaff(value) over the layer: made and raised, read and asked for its class where it is caught -/
namespace PySem
end PySem
namespace L2
open PySem PySem.Spec PyProof.Rows
end L2
set_option Elab.async false
set_option linter.all false
set_option maxRecDepth 100000
set_option maxHeartbeats 4000000
/-! FtH: the error TooFew(kind), over OverflowError, over the layer -/
namespace PySem
end PySem
namespace L2
open PySem PySem.Spec PyProof.Rows
end L2
set_option Elab.async false
set_option linter.all false
set_option maxRecDepth 100000
set_option maxHeartbeats 4000000
/-! FxA: dicts whose keys are None, ints, texts and tuples of these, mixed: a key sought, an item stored -/
namespace Fs
open PySem PySem.Spec PyProof.Rows L2 Fh
open PySem.W (Frag)
inductive MK where
  | non | key (k : Key) | tup (ks : List Key)
  deriving DecidableEq
section
variable (P : Program) (w : World)
def mHash : MK → Int
  | .non => reduceHash 0xFCA86420
  | .key k => keyH w k
  | .tup ks => tupleKeyHash (mixKind P w) ks
def mEnt (x : MK × Value × Value) : DictEntry := ⟨mHash P w x.1, x.2.1, x.2.2⟩
end
end Fs
set_option Elab.async false
set_option linter.all false
set_option maxRecDepth 100000
set_option maxHeartbeats 4000000
/-! FxB: a key sought in a mixed dict -/
namespace Fs
open PySem PySem.Spec PyProof.Rows L2 Fh
open PySem.W (Frag)
def DictM (P : Program) (w : World) (h : Heap) (d : Addr) (xs : List (MK × Value × Value)) : Prop :=
  ∃ o es ep, h.get? d = some o ∧ o.ExactDict ∧ o.data = .dict es ep ∧ es.toList = xs.map (mEnt P w) ∧ (xs.map (·.1)).Nodup
/-- what is left to look at, and what has been found of the key k -/
structure Left (xs : List (MK × Value × Value)) (k : MK) (rest : List Nat) (hit : Option Nat) : Prop where
  all : ∀ j p, xs[j]? = some (k, p) → j ∈ rest ∨ hit = some j
  got : ∀ j, hit = some j → j ∉ rest ∧ ∃ p, xs[j]? = some (k, p)
  nd : rest.Nodup
  there : ∀ j ∈ rest, ∃ y, xs[j]? = some y
section
variable {xs : List (MK × Value × Value)} {k : MK} {rest : List Nat} {hit : Option Nat} {x : Nat}
theorem Left.take (L : Left xs k (x :: rest) none) {p : Value × Value} (h : xs[x]? = some (k, p)) : Left xs k rest (some x) := by
  obtain ⟨a, b⟩ := List.nodup_cons.mp L.nd
  refine ⟨fun j q e => ?_, fun j e => ?_, b, fun j m => L.there j (List.mem_cons_of_mem _ m)⟩
  · rcases L.all j q e with z | z
    · rcases List.mem_cons.mp z with y | y
      · exact .inr (congrArg some y.symm)
      · exact .inl y
    · cases z
  · cases e
    exact ⟨a, p, h⟩
end
end Fs
set_option Elab.async false
set_option linter.all false
set_option maxRecDepth 100000
set_option maxHeartbeats 4000000
/-! FxC: d[k] = v of a mixed dict; as an own object of the abstract heap -/
namespace Fs
open PySem PySem.Spec PyProof.Rows L2 Fh
open PySem.W (Frag)
end Fs
set_option Elab.async false
set_option linter.all false
set_option maxRecDepth 100000
set_option maxHeartbeats 4000000
/-! FxD: a mixed dict as an own object: an item stored, its keys walked, its repr, its class -/
namespace Fs
open PySem PySem.Spec PyProof.Rows L2 Fh
open PySem.W (Frag)
abbrev ME : Type := MK × V × V
def OD (P : Program) (w : World) (a : Addr) (xs : List ME) : HO := .ext fun h => xs.length ≤ sizeLine ∧ (a == sysModules) = false ∧ ∃ ys : List (MK × Value × Value), Paired (fun x y => x.1 = y.1 ∧ RelV x.2.1 y.2.1 ∧ RelV x.2.2 y.2.2) xs ys ∧ DictM P w h a ys
/-- the key's value is the key -/
def KOk (H : Hp) (x : ME) : Prop := match x.1 with
  | .non => x.2.1 = .non
  | .key k => x.2.1 = kV k
  | .tup ks => ∃ q, x.2.1 = .ref q ∧ H q = some (.tup (ks.map kV))
abbrev RelM (x : ME) (y : MK × Value × Value) : Prop := x.1 = y.1 ∧ RelV x.2.1 y.2.1 ∧ RelV x.2.2 y.2.2
end Fs
set_option Elab.async false
set_option linter.all false
set_option maxRecDepth 100000
set_option maxHeartbeats 4000000
/-! FxE: a mixed dict: its keys walked, its class, its repr -/
namespace Fs
open PySem PySem.Spec PyProof.Rows L2 Fh
open PySem.W (Frag)
/-! ### isinstance -/
/-! ### repr -/
def mP : MK → PyData
  | .non => .none
  | .key k => kP k
  | .tup ks => .tuple (ks.map kP)
/-- the entries are data -/
inductive MDs (N : Addr → Prop) (H : Hp) : List ME → List (PyData × PyData) → Prop where
  | nil : MDs N H [] []
  | cons {x : ME} {d : PyData} {xs : List ME} {ds : List (PyData × PyData)} : KOk H x → DA N H x.2.2 d → MDs N H xs ds → MDs N H (x :: xs) ((mP x.1, d) :: ds)
section
variable {P : Program} {w : World} {N : Addr → Prop} {H H' : Hp} {h : Heap}
theorem KOk.same (s : Same H H') {x : ME} (k : KOk H x) : KOk H' x := by
  obtain ⟨m, u, v⟩ := x
  cases m with
  | non => exact k
  | key k => assumption
  | tup ks =>
    obtain ⟨q, e, hq⟩ := (show ∃ q, u = .ref q ∧ H q = some (.tup (ks.map kV)) from k)
    exact ⟨q, e, s _ _ hq⟩
theorem MDs.same (s : Same H H') {xs : List ME} {ds : List (PyData × PyData)} (m : MDs N H xs ds) : MDs N H' xs ds := by
  induction m with
  | nil => exact .nil
  | cons k d _ ih => exact .cons (k.same s) (DA.same s d) ih
theorem tup_reads (P : Program) (w : World) {ks : List Key} {vs : List Value} (r : Vals (ks.map kV) vs) : ReadsAll h vs (ks.map kP) [] := by
  induction ks generalizing vs with
  | nil => cases r; exact .nil
  | cons k ks ih =>
    cases r with
    | cons r1 r2 =>
      have z := key_reads (h := h) (kV_is (P := P) (w := w) r1)
      exact .cons z (ih r2)
theorem mk_reads (ok : HOk P w H h) {x : ME} {u : Value} (hk : KOk H x) (r : RelV x.2.1 u) : Reads h u (mP x.1) [] := by
  obtain ⟨k, v, y⟩ := x
  cases k with
  | non =>
    have e : v = .non := hk
    rw [e] at r
    rw [show u = Value.none from r]
    exact .none
  | key k =>
    have e : v = kV k := hk
    rw [e] at r
    exact key_reads (kV_is (P := P) (w := w) r)
  | tup ks =>
    obtain ⟨q, e, hq⟩ := (show ∃ q, v = .ref q ∧ H q = some (.tup (ks.map kV)) from hk)
    rw [e] at r
    rw [show u = Value.ref q from r]
    obtain ⟨_, its, rv, o, ho, hc, m, hd⟩ := (show ObjOk P w H h q (.tup (ks.map kV)) from ok q _ hq)
    exact .tuple ho hc hd (by simpa using tup_reads P w rv)
theorem MDs.reads (ok : HOk P w H h) {xs : List ME} {ds : List (PyData × PyData)} (m : MDs N H xs ds) : ∀ {ys : List (MK × Value × Value)}, Paired RelM xs ys →
    ∃ bs, ReadsAll h ((ys.map (mEnt P w)).map (·.key)) (ds.map (·.1)) [] ∧ ReadsAll h ((ys.map (mEnt P w)).map (·.val)) (ds.map (·.2)) bs ∧ sysModules ∉ bs := by
  induction m with
  | nil => intro ys r; cases r; exact ⟨[], .nil, .nil, List.not_mem_nil⟩
  | @cons x d xs ds k da _ ih =>
    intro ys r
    cases r with
    | @cons _ y _ ys r1 r2 =>
      obtain ⟨bs, a1, b1, n1⟩ := ih r2
      obtain ⟨cs, c1, c2⟩ := DA.reads ok da r1.2.2
      exact ⟨cs ++ bs, .cons (mk_reads ok k r1.2.1) a1, .cons c1 b1, fun z => (List.mem_append.mp z).elim c2 n1⟩
end
def rReprO (P : Program) (w : World) : List V → Hp → VK → Prop := fun xs H Q => rRepr xs H Q ∨ ∃ (N : Addr → Prop) (a : Addr) (ms : List ME) (ds : List (PyData × PyData)), xs = [.ref a] ∧ H a = some (OD P w a ms) ∧ MDs N H ms ds ∧
  (PyData.dict ds).showable = true ∧ (PyData.dict ds).depth ≤ 60 ∧ (PyData.dict ds).shown.length ≤ sizeLine ∧ Q (.str (PyData.dict ds).shown) H
end Fs
set_option Elab.async false
set_option linter.all false
set_option maxRecDepth 100000
set_option maxHeartbeats 4000000
/-! FvA: a method whose last row is super().__init__(e, .., k = v, ..) -/
namespace SuX
open PySem PySem.Spec PyProof.Rows L2 Fh NdefX
open PySem.W (Frag)
/-- what of the text such a method must have: it stands at f, closes over the cell at cc, which holds its class C; f2 is the __init__ above C -/
structure Sup (P : Program) (K : Frag) (F : NF) (f C f2 cc : Addr) (ar : Arg) : Prop where
  fn : ∃ (oc : Value) (od : Option Addr) (fd : FuncData) (osl : Array (Option Value)), K.lookup f = some ⟨oc, od, .func fd, osl⟩ ∧ (fd.params.posonlyargs ++ fd.params.args).head? = some ar
  code : ∃ (ccl : Value) (cdd : Option Addr) (vs : Array Value) (ccs : Array (Option Value)) (file : Str) (tf : Tok), K.lookup F.c = some ⟨ccl, cdd, .fields vs, ccs⟩ ∧ vs[2]? = some (.str file tf) ∧ ((P.main.file : Str) == file) = true
  cl : F.cl = [(("__class__" : Str), cc)]
  cell : ∃ (cl : Value) (cld : Option Addr) (csl : Array (Option Value)), K.lookup cc = some ⟨cl, cld, .cell (some (.ref C)), csl⟩
  cls : ∃ cd, PySem.W.clsIn K C = some cd
  sub : PySem.W.mroIn K C (.ref C) = some true
  stat : PySem.W.nsIn K cStatics "thirdparty.any" = some none
  up : PySem.W.ks_superIn K C C "__init__" = some (some (.ref f2))
  ty : PySem.W.typeIn K (.ref f2) = some (.type "function")
  fi : PySem.W.fnIn K f2 = true
  sups : F.scope.names.lookup ("super" : Str) = some .globalImplicit
  clss : F.scope.names.lookup ("__class__" : Str) = some .free
  slf : F.scope.names.lookup ar.arg = some .local
  top : (P.main.scope.names.lookup ("super" : Str)).isSome = false
end SuX
set_option Elab.async false
set_option linter.all false
set_option maxRecDepth 100000
set_option maxHeartbeats 4000000
/-! FvB: such methods as promises: plain ones, ones of *names and a keyword; defaults; the class made by positions and a keyword -/
namespace SuX
open PySem PySem.Spec PyProof.Rows L2 Fh Fs NdefX
open PySem.W (Frag)
/-- a def as it stands behind the top that closes over cells: dvs its defaults, kws its keyword-only defaults -/
structure FunC (K : Frag) (F : NF) (dvs : List V) (kws : List (Str × V)) (f : Addr) (fd : FuncData) : Prop where
  ex : ∃ (oc : Value) (od : Option Addr) (dV kV doc pm : Value) (an : Option Addr) (ct : Value) (osl : Array (Option Value)),
    fd = PySem.W.fnX F.name F.qual F.params F.body F.scope F.cl dV kV doc pm an (.ref F.c) ct ∧ K.lookup f = some ⟨oc, od, .func fd, osl⟩ ∧ PySem.W.codeIn K (.ref F.c) F.qual = true ∧ DflV K dV dvs ∧ KwdV K kV kws
/-! ### C(e, .., k = v, ..), C's __init__ of *names -/
end SuX
set_option Elab.async false
set_option linter.all false
set_option maxRecDepth 100000
set_option maxHeartbeats 4000000
/-! FvC: own == and != between instances of several classes, a class below the left one's first -/
namespace PySem
end PySem
namespace Fs
open PySem PySem.Spec PyProof.Rows L2
open PySem.W (Frag)
end Fs
set_option Elab.async false
set_option linter.all false
set_option maxRecDepth 100000
set_option maxHeartbeats 4000000
/-! FvD: a lambda without parameters handed to a def that tells the field of InvalidTask; a law's end with tables -/
namespace LamY
open PySem PySem.Spec PyProof.Rows L2 LamX
theorem takes_len {X : Cx} {W : WX} (tk : Takes X W) : Takes X (fun cls d σ H => σ.length = X.N.length → W cls d σ H) := fun u s' ⟨a, B, sI, pins, σ, H, cls, d, e, I, nb, up, sky, na, os, ag, w⟩ =>
  tk u s' ⟨a, B, sI, pins, σ, H, cls, d, e, I, nb, up, sky, na, os, ag, w I.len⟩
end LamY
set_option Elab.async false
set_option linter.all false
set_option maxRecDepth 100000
set_option maxHeartbeats 4000000
/-! FvE: a head by facts with getters, methods that close over their class, and tables of code objects -/
namespace FhV
open PySem PySem.Spec PyProof.Rows L2 Fh Fs NdefX SuX FhY
open PySem.W (Frag)
/-- an __init__ that closes over its class -/
structure CDef where
  cls : Str
  qual : Str
  params : Arguments
  body : List Stmt
  scope : Scope
  dfl : List He.Dv
  kwd : List (Str × He.Dv)
  ar : Arg
abbrev CW : Type := Option (Str × Str × Arguments × FuncBody × Scope × Addr × Addr)
def cW (K : Frag) (a : Addr) : CW := match K.lookup a with
  | some ⟨_, _, .func fd, _⟩ => some (fd.name, fd.qualname, fd.params, fd.body, fd.scope, fd.globals, fd.builtins)
  | _ => none
def CDef.at_ (K : Frag) (d : CDef) : Addr := He.ma K (He.ga K d.cls) "__init__"
def CDef.val (d : CDef) : CW := some ("__init__", d.qual, d.params, .stmts d.body, d.scope, mainGlobals, builtinsNs)
def CDef.dvs (K : Frag) (d : CDef) : List V := d.dfl.map (He.Dv.v K)
def CDef.kws (K : Frag) (d : CDef) : List (Str × V) := d.kwd.map fun q => (q.1, q.2.v K)
def cellOf : List (Str × Addr) → Addr
  | [(_, cc)] => cc
  | _ => 0
def codeA : Value → Addr
  | .ref c => c
  | _ => 0
def fileB (K : Frag) (c : Addr) (fl : Str) : Bool := match K.lookup c with
  | some ⟨_, _, .fields vs, _⟩ => (match (vs[2]? : Option Value) with
    | some (Value.str f _) => fl == f
    | _ => false)
  | _ => false
def cellB (K : Frag) (cc C : Addr) : Bool := match K.lookup cc with
  | some ⟨_, _, .cell (some v), _⟩ => decide (v = .ref C)
  | _ => false
/-- f2: the __init__ above -/
def supB (K : Frag) (C f2 : Addr) : Bool := (PySem.W.clsIn K C).isSome && (decide (PySem.W.mroIn K C (.ref C) = some true) && (He.eqO (PySem.W.nsIn K cStatics "thirdparty.any") (some none) && (He.eqO (PySem.W.ks_superIn K C C "__init__") (some (some (.ref f2))) && (Fh.eqT (PySem.W.typeIn K (.ref f2)) (some (.type "function")) && PySem.W.fnIn K f2))))
def CDef.ok (fl : Str) (up : Str) (K : Frag) (d : CDef) : Bool := (match K.lookup (d.at_ K) with
  | some ⟨_, _, .func fd, _⟩ => PySem.W.codeIn K fd.code d.qual && (He.dflB K fd.defaults (d.dvs K) && (He.kwdB K fd.kwdefaults (d.kws K) && (decide (fd.closure = [(("__class__" : Str), cellOf fd.closure)]) && (fileB K (codeA fd.code) fl && cellB K (cellOf fd.closure) (He.ga K d.cls)))))
  | _ => false) && supB K (He.ga K d.cls) (He.ma K (He.ga K up) "__init__")
theorem CDef.get {P : Program} {K : Frag} {d : CDef} {fl up : Str} (e : cW K (d.at_ K) = d.val) (c : d.ok fl up K = true) (hfl : P.main.file = fl) (har : (d.params.posonlyargs ++ d.params.args).head? = some d.ar)
    (h1 : d.scope.names.lookup ("super" : Str) = some .globalImplicit) (h2 : d.scope.names.lookup ("__class__" : Str) = some .free) (h3 : d.scope.names.lookup d.ar.arg = some .local) (h4 : (P.main.scope.names.lookup ("super" : Str)).isSome = false) :
    ∃ (fd : FuncData) (cd cc : Addr), FunC K ⟨"__init__", d.qual, d.params, d.body, d.scope, [(("__class__" : Str), cc)], cd⟩ (d.dvs K) (d.kws K) (d.at_ K) fd ∧ Sup P K ⟨"__init__", d.qual, d.params, d.body, d.scope, [(("__class__" : Str), cc)], cd⟩ (d.at_ K) (He.ga K d.cls) (He.ma K (He.ga K up) "__init__") cc d.ar := by
  obtain ⟨ca, cb⟩ := He.ba c
  unfold supB at cb
  obtain ⟨u1, cb⟩ := He.ba cb
  obtain ⟨u2, cb⟩ := He.ba cb
  obtain ⟨u3, cb⟩ := He.ba cb
  obtain ⟨u4, cb⟩ := He.ba cb
  obtain ⟨u5, u6⟩ := He.ba cb
  unfold cW at e
  cases q : K.lookup (d.at_ K) with
  | none =>
    rw [q] at ca
    cases ca
  | some o =>
    obtain ⟨oc, od, dt, osl⟩ := o
    rw [q] at ca e
    cases dt with
    | func fd =>
      obtain ⟨n1, n2, n3, n4, n5, n6, n7, n8, n9, n10, n11, n12, n13, n14, n15⟩ := fd
      have e2 : (some (n1, n2, n3, n4, n5, n6, n15) : CW) = (some ((Str.ofString "__init__"), d.qual, d.params, FuncBody.stmts d.body, d.scope, mainGlobals, builtinsNs) : CW) := e
      simp only [Option.some.injEq, Prod.mk.injEq] at e2
      obtain ⟨x1, x2, x3, x4, x5, x6, x8⟩ := e2
      subst x1 x2 x3 x4 x5 x6 x8
      obtain ⟨k1, c3⟩ := He.ba (show (PySem.W.codeIn K n13 d.qual && (He.dflB K n8 (d.dvs K) && (He.kwdB K n9 (d.kws K) && (decide (n7 = [(("__class__" : Str), cellOf n7)]) && (fileB K (codeA n13) fl && cellB K (cellOf n7) (He.ga K d.cls)))))) = true from ca)
      obtain ⟨k2, c3⟩ := He.ba c3
      obtain ⟨k3, c3⟩ := He.ba c3
      obtain ⟨k4, c3⟩ := He.ba c3
      obtain ⟨k5, k6⟩ := He.ba c3
      obtain ⟨cd, rfl⟩ := He.codeIn_ref k1
      have k4 := of_decide_eq_true k4
      generalize cellOf n7 = cc at k4 k6
      subst k4
      refine ⟨_, cd, cc, ⟨oc, od, n8, n9, n10, n11, n12, n14, osl, rfl, q, k1, He.dflB_ok k2, He.kwdB_ok k3⟩, ⟨⟨oc, od, _, osl, q, har⟩, ?_, rfl, ?_, ?_, of_decide_eq_true u2, He.eqO_ok u3, He.eqO_ok u4, of_decide_eq_true u5, u6, h1, h2, h3, h4⟩⟩
      · unfold fileB at k5
        show ∃ (ccl : Value) (cdd : Option Addr) (vs : Array Value) (ccs : Array (Option Value)) (file : Str) (tf : Tok), K.lookup cd = some ⟨ccl, cdd, .fields vs, ccs⟩ ∧ vs[2]? = some (.str file tf) ∧ ((P.main.file : Str) == file) = true
        cases q2 : K.lookup (codeA (.ref cd)) with
        | none => rw [q2] at k5; cases k5
        | some o =>
          obtain ⟨o1, o2, o3, o4⟩ := o
          rw [q2] at k5
          cases o3 with
          | fields vs =>
            have k5 : (match (vs[2]? : Option Value) with | some (Value.str f _) => fl == f | _ => false) = true := k5
            split at k5
            · rename_i f t e3
              exact ⟨_, _, vs, _, f, t, q2, e3, by rw [hfl]; exact k5⟩
            · cases k5
          | _ => cases k5
      · unfold cellB at k6
        show ∃ (cl : Value) (cld : Option Addr) (csl : Array (Option Value)), K.lookup cc = some ⟨cl, cld, .cell (some (.ref (He.ga K d.cls))), csl⟩
        cases q2 : K.lookup cc with
        | none => rw [q2] at k6; cases k6
        | some o =>
          obtain ⟨o1, o2, o3, o4⟩ := o
          rw [q2] at k6
          cases o3 with
          | cell v =>
            cases v with
            | none => cases k6
            | some v =>
              have k6 := of_decide_eq_true (show decide (v = Value.ref (He.ga K d.cls)) = true from k6)
              subst k6
              exact ⟨_, _, _, rfl⟩
          | _ => cases k6
      · cases q2 : PySem.W.clsIn K (He.ga K d.cls) with
        | none => rw [q2] at u1; cases u1
        | some cd => exact ⟨cd, rfl⟩
    | _ => cases ca
/-! ### the Hook -/
end FhV
set_option Elab.async false
set_option linter.all false
set_option maxRecDepth 100000
set_option maxHeartbeats 4000000
/-! FxG: a law's end with tables of code objects and a promise under no repr -/
namespace FhG
open PySem PySem.Spec PyProof.Rows L2 Fh
open PySem.W (Frag)
/-- the abstract heap at a law's start: the tables, and the script where the written part does not know it -/
def startH (a : Addr) (u : Option HO) (ts : List Addr) : Hp := fun b => if b ∈ ts then some (.tbl #[]) else if b = a then u else none
theorem startH_tab {a : Addr} {u : Option HO} {ts : List Addr} {b : Addr} (h : b ∈ ts) : startH a u ts b = some (.tbl #[]) := if_pos h
theorem startH_scr {a : Addr} {u : Option HO} {ts : List Addr} (h : a ∉ ts) : startH a u ts a = u := (if_neg h).trans (if_pos rfl)
theorem startH_no {a : Addr} {u : Option HO} {ts : List Addr} {b : Addr} (h : b ∉ ts) (n : b ≠ a) : startH a u ts b = none := (if_neg h).trans (if_neg n)
theorem startH_free {a : Addr} {u : Option HO} {ts : List Addr} {b : Addr} (h : b ∉ ts) (n : b = a → u = none) : startH a u ts b = none := by
  by_cases e : b = a
  · rw [e, startH_scr (e ▸ h)]
    exact n e
  · exact startH_no h e
section
variable {P : Program} {w : World} {K : Frag} {mg mb : Str → Option Value} {CX : CXT} {k : Nat} {fa a : Addr} {cs : List (Addr × Addr)} {fd : FuncData} {x : Str} {sp : Sp} {s1 : Shared} {vs : List Value} {ns : List Int}
theorem law_from (KX : K.In s1.heap) (hns : s1.heap.Ns mainGlobals mg) (hb : s1.heap.Ns builtinsNs mb) (hbb : ∀ x : Str, x ≠ "__name__" → mb x = bootBuiltins x) (hlim : s1.heap.NoLimit) (hg : s1.gens = #[])
    (hT : ∀ p ∈ cs, s1.heap.get? p.2 = some { cls := .none, data := .fields #[] }) (nT : ∀ p ∈ cs, K.lookup p.2 = none) (C : ∀ p ∈ cs, PySem.W.CodeHd s1.heap p.1 p.2)
    (hbm : ∃ (bm : Addr) (ob : Obj), mg "__builtins__" = some (.ref bm) ∧ bm ≠ builtinsNs ∧ s1.heap.get? bm = some ob ∧ ob.cls = .type "module" ∧ ob.dict = some builtinsNs ∧ ob.data = .plain)
    (ha : s1.heap.get? a = some { cls := .type "list", data := .seq vs.toArray }) (hr : Room k callerA)
    (F : ∀ base : Heap, K.In base → base.Ns mainGlobals mg → (∀ p ∈ cs, LamX.TabB base mg p.1 p.2) → FnG P w K mg base CX k fa fd [x] sp) (hbind : ∀ (s : Shared) (u : Value), BindsTo s fd ⟨[u], []⟩ [(x, u)])
    (hCX : ∀ H e s', CX [] H s1 (fun _ _ _ => False) e s' → False)
    {u : Option HO} (hu : u = none ∨ (u = some (.frz { cls := .type "list", data := .seq vs.toArray } (.lst (ns.map V.int))) ∧ K.lookup a = none)) (at_ : a ∉ cs.map (·.2)) (ok : HOk P w (startH a u (cs.map (·.2))) s1.heap)
    (hsp : sp [.ref a] (startH a u (cs.map (·.2))) (fun v _ => v = .bl true) fun _ _ _ => False) :
    codeAny (model P w) callerA (.call (.ref fa) ⟨[.ref a], []⟩) (fun r s' => r = .ok (.ret (.bool true)) ∧ OldK s1.heap s'.heap ∧ s'.os = s1.os ∧ AllBare s'.gens) s1 := by
  have tab : ∀ {b : Addr}, b ∈ cs.map (·.2) → s1.heap.get? b = some { cls := .none, data := .fields #[] } := fun {b} hb => by
    obtain ⟨p, hp, e⟩ := List.mem_map.mp hb
    exact e ▸ hT p hp
  have mem : ∀ {p : Addr × Addr}, p ∈ cs → p.2 ∈ cs.map (·.2) := fun hp => List.mem_map.mpr ⟨_, hp, rfl⟩
  -- what is no table and no list stays visible
  have seen : ∀ {b : Addr} {o : Obj}, s1.heap.get? b = some o → o.data ≠ .fields #[] → (∀ ys n, o.data ≠ .seq ys n) → (hidT s1.heap (startH a u (cs.map (·.2)))).get? b = some o := fun {b o} e h1 h2 => by
    refine hidT_get e (startH_free (fun z => ?_) fun z => ?_)
    · rw [tab z] at e
      cases e
      exact h1 rfl
    · rw [z, ha] at e
      cases e
      exact absurd rfl (h2 _ _)
  have seenD : ∀ {b : Addr} {o : Obj} {es : Array DictEntry} {ep : Nat}, s1.heap.get? b = some o → o.data = .dict es ep → (hidT s1.heap (startH a u (cs.map (·.2)))).get? b = some o := fun e d => seen e (by rw [d]; exact fun z => nomatch z) (by rw [d]; exact fun _ _ z => nomatch z)
  have nsU : ∀ {b : Addr} {m : Str → Option Value}, s1.heap.Ns b m → (hidT s1.heap (startH a u (cs.map (·.2)))).Ns b m := fun {b m} ⟨o, es, ep, e, d, r⟩ => ⟨o, es, ep, seenD e d, d, r⟩
  have kU : K.In (hidT s1.heap (startH a u (cs.map (·.2)))) := fun b o e => by
    refine hidT_get (KX b o e) (startH_free (fun z => ?_) fun z => ?_)
    · obtain ⟨p, hp, q⟩ := List.mem_map.mp z
      rw [← q, nT p hp] at e
      cases e
    · rcases hu with h | ⟨_, h⟩
      · exact h
      · rw [z, h] at e
        cases e
  have mU : L2.Mod K mg (hidT s1.heap (startH a u (cs.map (·.2)))) := ⟨kU, nsU hns, ⟨mb, nsU hb, hbb⟩, let ⟨mc, h1, h2⟩ := hlim; ⟨mc, nsU h1, h2⟩⟩
  have tU : ∀ p ∈ cs, LamX.TabB (hidT s1.heap (startH a u (cs.map (·.2)))) mg p.1 p.2 := fun p hp => by
    refine ⟨?_, ?_, fun z => ?_⟩
    · obtain ⟨o, us, file, tf, flags, tg, inF, text, tt, e1, r1, r2, r3, rr⟩ := C p hp
      refine ⟨o, us, file, tf, flags, tg, inF, text, tt, seen e1 (fun z => ?_) (fun ys n z => ?_), r1, r2, r3, rr⟩
      · rw [r2] at z
        cases z
        simp at r3
      · rw [r2] at z
        cases z
    · obtain ⟨bm, ob, b1, b2, b3, b4, b5, b6⟩ := hbm
      refine ⟨bm, ob, b1, b2, fun q => ?_, fun q => ?_, seen b3 (by rw [b6]; exact fun z => nomatch z) (by rw [b6]; exact fun _ _ z => nomatch z), b4, b5, b6⟩
      · obtain ⟨o, es, ep, e, hd, _⟩ := hns
        rw [q, e] at b3
        cases b3
        rw [hd] at b6
        cases b6
      · rw [q, hT p hp] at b3
        cases b3
        cases b6
    · obtain ⟨o, es, ep, e, hd, _⟩ := hns
      rw [z, hT p hp] at e
      cases e
      cases hd
  have e0 : Env0 P w K mg (hidT s1.heap (startH a u (cs.map (·.2)))) callerA [] s1 (startH a u (cs.map (·.2))) := ⟨rfl, mU, fun b o z => of_hidT z, Nat.le_of_eq (hidT_size _ _), trivial, fun b q => (nomatch (show b ∈ ([] : List Addr) from q)), ok, .of_eq hg⟩
  refine codeAny_mono ((F _ kU (nsU hns) tU).run callerA [] s1 _ ⟨[.ref a], []⟩ [.ref a] [.ref a] _ _ rfl hr e0 (hbind s1 (.ref a)) (.cons rfl .nil) hsp) ?_
  intro r s' q
  match r, q with
  | .error e, q => exact (hCX _ e s' q).elim
  | .ok (.ret y), q =>
    obtain ⟨v, H', os, bare, un, ok', ry, qv⟩ := q
    have qv : v = .bl true := qv
    rw [qv] at ry
    cases (show y = Value.bool true from ry)
    have more : ∀ p ∈ cs, ∃ more : Array Value, s'.heap.get? p.2 = some { cls := .none, data := .fields more } := fun p hp => by
      obtain ⟨m, z⟩ := un.tbls p.2 #[] (startH_tab (mem hp))
      exact ⟨_, ok' p.2 _ z⟩
    have kept : ∀ b o, b ∉ cs.map (·.2) → s1.heap.get? b = some o → s'.heap.get? b = some o := fun b o nb e => by
      by_cases hba : b = a ∧ u ≠ none
      · rcases hu with h | ⟨h, _⟩
        · exact absurd h hba.2
        · have z := un.frzs a _ _ ((startH_scr (u := u) at_).trans h)
          have z2 := (ok' a _ z).1
          rw [hba.1] at e ⊢
          rw [ha] at e
          cases e
          exact z2
      · have n : startH a u (cs.map (·.2)) b = none := startH_free nb fun z => Classical.byContradiction fun y => hba ⟨z, y⟩
        exact un.keep b o e n (fun z => (nomatch (show b ∈ ([] : List Addr) from z))) (fun z => (nomatch z))
    refine ⟨rfl, ⟨fun b o e => ?_, fun b o e => ?_⟩, os, bare⟩
    · by_cases hb : b ∈ cs.map (·.2)
      · obtain ⟨p, hp, rfl⟩ := List.mem_map.mp hb
        obtain ⟨m, hm⟩ := more p hp
        rw [hT p hp] at e
        cases e
        exact .inr (.inl ⟨((C p hp).tab (hT p hp)).isCodeTable, rfl, #[], m, rfl, by rw [Array.empty_append]; exact hm⟩)
      · exact .inl (kept b o hb e)
    · by_cases hb : b ∈ cs.map (·.2)
      · obtain ⟨p, hp, rfl⟩ := List.mem_map.mp hb
        obtain ⟨m, hm⟩ := more p hp
        exact ⟨_, hm⟩
      · exact ⟨o, kept b o hb e⟩
theorem law_callTG (KX : K.In s1.heap) (hns : s1.heap.Ns mainGlobals mg) (hb : s1.heap.Ns builtinsNs mb) (hbb : ∀ x : Str, x ≠ "__name__" → mb x = bootBuiltins x) (hlim : s1.heap.NoLimit) (hg : s1.gens = #[])
    (hT : ∀ p ∈ cs, s1.heap.get? p.2 = some { cls := .none, data := .fields #[] }) (nT : ∀ p ∈ cs, K.lookup p.2 = none) (C : ∀ p ∈ cs, PySem.W.CodeHd s1.heap p.1 p.2)
    (hbm : ∃ (bm : Addr) (ob : Obj), mg "__builtins__" = some (.ref bm) ∧ bm ≠ builtinsNs ∧ s1.heap.get? bm = some ob ∧ ob.cls = .type "module" ∧ ob.dict = some builtinsNs ∧ ob.data = .plain)
    (ha : s1.heap.get? a = some { cls := .type "list", data := .seq vs.toArray }) (hi : IntsAre vs ns) (hl : ns.length ≤ sizeLine) (hr : Room k callerA)
    (F : ∀ base : Heap, K.In base → base.Ns mainGlobals mg → (∀ p ∈ cs, LamX.TabB base mg p.1 p.2) → FnG P w K mg base CX k fa fd [x] sp) (hbind : ∀ (s : Shared) (u : Value), BindsTo s fd ⟨[u], []⟩ [(x, u)])
    (hsp : ∀ H : Hp, (∀ p ∈ cs, H p.2 = some (.tbl #[])) → SqL K H a (ns.map V.int) → sp [.ref a] H (fun v _ => v = .bl true) fun _ _ _ => False)
    (hCX : ∀ H e s', CX [] H s1 (fun _ _ _ => False) e s' → False) :
    codeAny (model P w) callerA (.call (.ref fa) ⟨[.ref a], []⟩) (fun r s' => r = .ok (.ret (.bool true)) ∧ OldK s1.heap s'.heap ∧ s'.os = s1.os ∧ AllBare s'.gens) s1 := by
  have rv := vals_ints hi
  have len := hi.length
  have at_ : a ∉ cs.map (·.2) := fun z => by
    obtain ⟨p, hp, e⟩ := List.mem_map.mp z
    have q := hT p hp
    rw [e, ha] at q
    injection q with q
    injection q with _ _ q _
    cases q
  have tabs : ∀ {u : Option HO}, ∀ p ∈ cs, startH a u (cs.map (·.2)) p.2 = some (.tbl #[]) := fun p hp => startH_tab (List.mem_map.mpr ⟨_, hp, rfl⟩)
  have okT : ∀ {u : Option HO} {b : Addr} {o : HO}, startH a u (cs.map (·.2)) b = some o → (o = .tbl #[] ∧ b ∈ cs.map (·.2)) ∨ (b = a ∧ u = some o) := fun {u b o} z => by
    by_cases hb : b ∈ cs.map (·.2)
    · rw [startH_tab hb] at z
      cases z
      exact .inl ⟨rfl, hb⟩
    · by_cases e : b = a
      · rw [e, startH_scr at_] at z
        exact .inr ⟨e, z⟩
      · rw [startH_no hb e] at z
        cases z
  have tb : ∀ b, b ∈ cs.map (·.2) → ∀ H, ObjOk P w H s1.heap b (.tbl #[]) := fun b hb H => by
    obtain ⟨p, hp, e⟩ := List.mem_map.mp hb
    exact e ▸ hT p hp
  cases hk : K.lookup a with
  | some o =>
    have e := KX a o hk
    rw [ha] at e
    cases e
    refine law_from (ns := ns) KX hns hb hbb hlim hg hT nT C hbm ha hr F hbind hCX (u := none) (.inl rfl) at_ (fun b o z => ?_) (hsp _ tabs (.inr ⟨_, vs.toArray, _, hk, rfl, rfl, rfl, by rw [List.size_toArray, len]; exact hl, by simpa using rv⟩))
    rcases okT z with ⟨rfl, hb⟩ | ⟨_, z⟩
    · exact tb b hb _
    · cases z
  | none =>
    have here := startH_scr (u := some (.frz { cls := .type "list", data := .seq vs.toArray } (.lst (ns.map V.int)))) at_
    refine law_from (ns := ns) KX hns hb hbb hlim hg hT nT C hbm ha hr F hbind hCX (u := some (.frz { cls := .type "list", data := .seq vs.toArray } (.lst (ns.map V.int)))) (.inr ⟨rfl, hk⟩) at_ (fun b o z => ?_) (hsp _ tabs (.inl (.inr ⟨_, here⟩)))
    rcases okT z with ⟨rfl, hb⟩ | ⟨e, y⟩
    · exact tb b hb _
    · clear z
      subst e
      cases y
      exact ⟨ha, by rw [List.length_map]; exact hl, vs, _, rv, ha⟩
end
/-- what is known of the law's promise at the head's heap, under no repr -/
def LawAtG (l : PySem.W.OpenLaw) (w : World) (K : Frag) (CX : CXT) (k n : Nat) (x : Str) (mg : Str → Option Value) (fa : Addr) (h : Heap) : Prop :=
  ∃ (fd : FuncData) (cs : List (Addr × Addr)) (sp : Sp), (∀ p ∈ cs, h.get? p.2 = some { cls := .none, data := .fields #[] }) ∧ (∀ p ∈ cs, K.lookup p.2 = none) ∧ (∀ p ∈ cs, PySem.W.CodeHd h p.1 p.2) ∧ (∀ (s : Shared) (u : Value), BindsTo s fd ⟨[u], []⟩ [(x, u)]) ∧
    (∀ (H : Hp) (a : Addr) (ns : List Int), ns.length ≤ n → (∀ p ∈ cs, H p.2 = some (.tbl #[])) → SqL K H a (ns.map V.int) → sp [.ref a] H (fun v _ => v = .bl true) fun _ _ _ => False) ∧
    ∀ base : Heap, K.In base → base.Ns mainGlobals mg → (∀ p ∈ cs, LamX.TabB base mg p.1 p.2) → FnG l.prog w K mg base CX k fa fd [x] sp
theorem walk_ofTG {l : PySem.W.OpenLaw} {n k : Nat} {q : Program} {loose : List Str} {XP : (Str → Option Value) → Heap → Prop} {YP : World → Heap → Prop} {d : DefRec} {CX : CXT} {x : Str}
    (hn : l.most = some n) (hn2 : n ≤ sizeLine) (hdf : d.params.defaults = []) (hr : Room k callerA)
    (F : ∀ (w : World) (mg : Str → Option Value) (fa : Addr) (h : Heap), YP w h → h.Ns mainGlobals mg → mg d.name = some (.ref fa) → ∃ K : Frag, K.In h ∧ LawAtG l w K CX k n x mg fa h)
    (hCX : ∀ (H : Hp) (s : Shared) (e : Value) (s' : Shared), CX [] H s (fun _ _ _ => False) e s' → False) :
    PySem.W.WalkO q loose XP YP l.row.toRowW d [] (fun f vs => PySem.call f vs) := by
  refine Att.attach_callB hn hdf fun w s0 s1 mg mb fa o pm cd doc a vs ns G Y ho hd hcd hmg hobj hints hlen hbits hg => ?_
  obtain ⟨K, KX, fd, cs, sp, hT, nT, C, hb, hsp, hF⟩ := F w mg fa _ Y G.T.g hmg
  exact law_callTG KX G.T.g G.T.b G.T.builtins G.T.nolimit hg hT nT C G.T.bmain hobj hints (Nat.le_trans hlen hn2) hr hF hb (fun H hH hS => hsp H a ns hlen hH hS) fun H e s' => hCX H s1 e s'
end FhG
set_option Elab.async false
set_option linter.all false
set_option maxRecDepth 100000
set_option maxHeartbeats 4000000
/-! FxH: what told tells of InvalidStaff: its value's repr, and whether it is a ValueError -/
namespace Fs
open PySem PySem.Spec PyProof.Rows L2 Fh LamX
open PySem.W (Frag)
/-- repr(v) is x -/
def RepIs (P : Program) (w : World) (H : Hp) (v : V) (x : Str) : Prop :=
  (∃ (N : Addr → Prop) (d : PyData), DA N H v d ∧ d.showable = true ∧ d.depth ≤ 60 ∧ d.shown.length ≤ sizeLine ∧ x = d.shown) ∨
  ∃ (N : Addr → Prop) (a : Addr) (ms : List ME) (ds : List (PyData × PyData)), v = .ref a ∧ H a = some (OD P w a ms) ∧ MDs N H ms ds ∧ (PyData.dict ds).showable = true ∧ (PyData.dict ds).depth ≤ 60 ∧ (PyData.dict ds).shown.length ≤ sizeLine ∧ x = (PyData.dict ds).shown
theorem RepIs.go {P : Program} {w : World} {H : Hp} {v : V} {x : Str} {Q : VK} (h : RepIs P w H v x) (q : Q (.str x) H) : rReprO P w [v] H Q := by
  rcases h with ⟨N, d, h1, h2, h3, h4, rfl⟩ | ⟨N, a, ms, ds, rfl, h1, h2, h3, h4, h5, rfl⟩
  · exact .inl ⟨N, v, d, rfl, h1, h2, h3, h4, q⟩
  · exact .inr ⟨N, a, ms, ds, rfl, h1, h2, h3, h4, h5, q⟩
theorem RepIs.same {P : Program} {w : World} {H H' : Hp} {v : V} {x : Str} (s : Same H H') (h : RepIs P w H v x) : RepIs P w H' v x := by
  rcases h with ⟨N, d, h1, h⟩ | ⟨N, a, ms, ds, e, h1, h2, h⟩
  · exact .inl ⟨N, d, DA.same s h1, h⟩
  · exact .inr ⟨N, a, ms, ds, e, s _ _ h1, h2.same s, h⟩
theorem boot_repr : bootBuiltins "repr" = some (.builtin "repr") := by decide +kernel
theorem boot_isinst : bootBuiltins "isinstance" = some (.builtin "isinstance") := by decide +kernel
end Fs
set_option Elab.async false
set_option linter.all false
set_option maxRecDepth 100000
set_option maxHeartbeats 4000000
/-! FyC: InvalidText where it is caught, and from the head's facts -/
namespace Fs
open PySem PySem.Spec PyProof.Rows L2 Fh LamX
open PySem.W (Frag)
theorem errN_of {K : Frag} {mg : Str → Option Value} {C : Addr} (gC : mg "InvalidText" = some (.ref C)) (T : EK K C .ve) {fI : Addr} (no : PySem.W.findIn K (.ref C) "index" = some none) (iC : PySem.W.findIn K (.ref C) "__init__" = some (some (.ref fI))) (tI : PySem.W.typeIn K (.ref fI) = some (.type "function"))
    (fn : ∃ (oc : Value) (od : Option Addr) (kV doc pm : Value) (an : Option Addr) (cdv ct : Value) (osl : Array (Option Value)) (p1 p2 q1 q2 q3 q4 : Pos),
      K.lookup fI = some ⟨oc, od, .func (PySem.W.fnOf "__init__" "InvalidText.__init__" (PySem.ErrN.iA p1 p2) (PySem.ErrN.iB q1 q2 q3 q4) PySem.ErrN.iS .none kV doc pm an cdv ct), osl⟩ ∧ PySem.W.codeIn K cdv "InvalidText.__init__" = true) : PySem.ErrN.ErrNxt K mg C fI := by
  obtain ⟨nm, q, N, bs, sn, sub, ab, col, dd, k0, k1, k2, k3, k5, ho⟩ := ei_obj T
  have sB : PySem.W.subIn K (.ref C) (.type "BaseException") = some true := by rw [T.sub]; rfl
  have sC : PySem.W.subIn K (.ref C) (.ref C) = some true := by rw [T.sub, List.contains_cons]; simp
  exact { gC := gC, cls := ⟨nm, q, N, bs, _, sn, sub, ab, col, dd, k0, k1, k2, k3, k5, ho, by decide +kernel⟩, sa := T.sa, ga := T.ga, gg := T.gg, noN := no, iC := iC, tC := tI, kC := T.kC, exC := sB, tyC := T.ty, hdC := T.hd, te := PySem.W.exm_ref sB T.hd T.ty sC, fn := fn }
end Fs
set_option Elab.async false
set_option linter.all false
set_option maxRecDepth 100000
set_option maxHeartbeats 4000000
/-! FzA: plans as data: texts and tuples, also of the written part; what stays where tuples stay; repr of them in a list -/
namespace Fs
open PySem PySem.Spec PyProof.Rows L2 Fh
open PySem.W (Frag)
mutual
/-- v is the plan d: a text, or a tuple of these -/
inductive Pl (K : Frag) (H : Hp) : V → PyData → Prop where
  | str (x : Str) : Pl K H (.str x) (.str x)
  | tup {a : Addr} {xs : List V} {ds : List PyData} : SqT K H a xs → Pls K H xs ds → Pl K H (.ref a) (.tuple ds)
inductive Pls (K : Frag) (H : Hp) : List V → List PyData → Prop where
  | nil : Pls K H [] []
  | cons {x : V} {d : PyData} {xs : List V} {ds : List PyData} : Pl K H x d → Pls K H xs ds → Pls K H (x :: xs) (d :: ds)
end
/-- what is a tuple stays it -/
def KeepT (H H' : Hp) : Prop := ∀ a xs, Rd H a (.tup xs) → Rd H' a (.tup xs)
theorem KeepT.refl (H : Hp) : KeepT H H := fun _ _ h => h
theorem KeepT.trans {H H1 H2 : Hp} (a : KeepT H H1) (b : KeepT H1 H2) : KeepT H H2 := fun x o h => b x o (a x o h)
theorem KeepT.of {H H' : Hp} (s : Same H H') : KeepT H H' := fun a xs h => h.elim (fun z => .inl (s _ _ z)) fun ⟨o, z⟩ => .inr ⟨o, s _ _ z⟩
theorem KeepT.upd {H : Hp} {p : Addr} {o : HO} (n : ∀ xs, ¬ Rd H p (.tup xs)) : KeepT H (L2.upd H p o) := fun a xs h => by
  have ne : a ≠ p := fun e => n xs (e ▸ h)
  rcases h with h | ⟨ob, h⟩
  · exact .inl (by rw [upd_ne ne]; exact h)
  · exact .inr ⟨ob, by rw [upd_ne ne]; exact h⟩
theorem no_tup {H : Hp} {p : Addr} {u : HO} (e : H p = some u) (h1 : ∀ xs, u ≠ .tup xs) (h2 : ∀ o xs, u ≠ .frz o (.tup xs)) : ∀ xs, ¬ Rd H p (.tup xs) := fun xs h => by
  rcases h with h | ⟨o, h⟩
  · rw [e] at h
    exact h1 xs (Option.some.inj h)
  · rw [e] at h
    exact h2 o xs (Option.some.inj h)
theorem KeepT.but {H H' : Hp} {p : Addr} (n : ∀ xs, ¬ Rd H p (.tup xs)) (b : But p H H') : KeepT H H' := fun a xs h => by
  have ne : a ≠ p := fun e => n xs (e ▸ h)
  rcases h with h | ⟨ob, h⟩
  · exact .inl (b _ _ ne h)
  · exact .inr ⟨ob, b _ _ ne h⟩
theorem KeepT.lst {H : Hp} {p : Addr} {xs : List V} {o : HO} (e : H p = some (.lst xs)) : KeepT H (L2.upd H p o) := KeepT.upd (no_tup e (fun _ z => nomatch z) fun _ _ z => nomatch z)
theorem KeepT.new {H : Hp} {p : Addr} {o : HO} (e : H p = none) : KeepT H (L2.upd H p o) := .of (Same.new e)
theorem KeepT.sqT {K : Frag} {H H' : Hp} (k : KeepT H H') {a : Addr} {xs : List V} (h : SqT K H a xs) : SqT K H' a xs := h.imp (k _ _) id
mutual
theorem Pl.keep {K : Frag} {H H' : Hp} (k : KeepT H H') : ∀ {v : V} {d : PyData}, Pl K H v d → Pl K H' v d
  | _, _, .str x => .str x
  | _, _, .tup h r => .tup (k.sqT h) (Pls.keep k r)
theorem Pls.keep {K : Frag} {H H' : Hp} (k : KeepT H H') : ∀ {v : List V} {d : List PyData}, Pls K H v d → Pls K H' v d
  | _, _, .nil => .nil
  | _, _, .cons h r => .cons (Pl.keep k h) (Pls.keep k r)
end
theorem Pl.same {K : Frag} {H H' : Hp} (s : Same H H') {v : V} {d : PyData} (h : Pl K H v d) : Pl K H' v d := h.keep (.of s)
theorem Pls.same {K : Frag} {H H' : Hp} (s : Same H H') {v : List V} {d : List PyData} (h : Pls K H v d) : Pls K H' v d := h.keep (.of s)
theorem Pls.len {K : Frag} {H : Hp} : ∀ {v : List V} {d : List PyData}, Pls K H v d → v.length = d.length
  | _, _, .nil => rfl
  | _, _, .cons _ r => congrArg (· + 1) (Pls.len r)
theorem Pls.append {K : Frag} {H : Hp} : ∀ {v v2 : List V} {d d2 : List PyData}, Pls K H v d → Pls K H v2 d2 → Pls K H (v ++ v2) (d ++ d2)
  | _, _, _, _, .nil, r => r
  | _, _, _, _, .cons h r, r2 => .cons h (Pls.append r r2)
theorem Pls.snoc {K : Frag} {H : Hp} {v : List V} {d : List PyData} {x : V} {e : PyData} (r : Pls K H v d) (h : Pl K H x e) : Pls K H (v ++ [x]) (d ++ [e]) := r.append (.cons h .nil)
theorem Pls.get {K : Frag} {H : Hp} : ∀ {v : List V} {d : List PyData}, Pls K H v d → ∀ {i : Nat} {x : V} {e : PyData}, v[i]? = some x → d[i]? = some e → Pl K H x e
  | _, _, .nil, i, _, _, h, _ => by cases i <;> cases h
  | _, _, .cons h r, 0, _, _, e1, e2 => by cases e1; cases e2; exact h
  | _, _, .cons h r, i + 1, _, _, e1, e2 => r.get (i := i) e1 e2
theorem Pls.at {K : Frag} {H : Hp} {v : List V} {d : List PyData} (r : Pls K H v d) {i : Nat} {x : V} (h : v[i]? = some x) : ∃ e, d[i]? = some e ∧ Pl K H x e := by
  have hi : i < v.length := by
    rcases Nat.lt_or_ge i v.length with z | z
    · exact z
    · rw [List.getElem?_eq_none z] at h; cases h
  have e2 : d[i]? = some (d[i]'(r.len ▸ hi)) := List.getElem?_eq_getElem _
  exact ⟨_, e2, r.get h e2⟩
theorem Pls.drop {K : Frag} {H : Hp} : ∀ (n : Nat) {v : List V} {d : List PyData}, Pls K H v d → Pls K H (v.drop n) (d.drop n)
  | 0, _, _, r => r
  | n + 1, _, _, .nil => .nil
  | n + 1, _, _, .cons _ r => Pls.drop n r
mutual
theorem Pl.dp {K : Frag} {H : Hp} : ∀ {v : V} {d : PyData}, Pl K H v d → Dp K H v d
  | _, _, .str x => .str x
  | _, _, .tup h r => .tup h (Pls.dp r)
theorem Pls.dp {K : Frag} {H : Hp} : ∀ {v : List V} {d : List PyData}, Pls K H v d → DpAll K H v d
  | _, _, .nil => .nil
  | _, _, .cons h r => .cons (Pl.dp h) (Pls.dp r)
end
section
variable {X : Cx} {pins : List (Addr × Obj)} {σ : L2.St} {H : Hp} {s : Shared}
mutual
theorem Pl.reads (I : Inv X pins σ H s) : ∀ {d : PyData} {v : V} {u : Value}, Pl X.K H v d → RelV v u → Reads s.heap u d []
  | _, _, u, .str x, r => by
    obtain ⟨t, e⟩ := (show ∃ t, u = Value.str x t from r)
    rw [e]
    exact .str x t
  | _, _, u, .tup h rs, r => by
    obtain ⟨its, rv, ⟨o, ho, hc, n, hd⟩, _⟩ := I.tuple h
    have e : u = Value.ref _ := r
    rw [e]
    exact .tuple ho hc hd (by simpa using Pls.reads I rs rv)
theorem Pls.reads (I : Inv X pins σ H s) : ∀ {ds : List PyData} {vs : List V} {us : List Value}, Pls X.K H vs ds → Vals vs us → ReadsAll s.heap us ds []
  | _, _, _, .nil, .nil => .nil
  | _, _, _, .cons h rs, .cons r1 r2 => .cons (as := []) (Pl.reads I h r1) (Pls.reads I rs r2)
end
end
/-! ### values of any kind, as parts of what may be a plan -/
mutual
inductive Gd (K : Frag) (H : Hp) : V → PyData → Prop where
  | non : Gd K H .non .none
  | bl (b : Bool) : Gd K H (.bl b) (.bool b)
  | int (i : Int) : Gd K H (.int i) (.int i)
  | str (x : Str) (h : x.length ≤ 1000) : Gd K H (.str x) (.str x)
  | lst {a : Addr} {xs : List V} {ds : List PyData} : H a = some (.lst xs) → Gds K H xs ds → Gd K H (.ref a) (.list ds)
  | tup {a : Addr} {xs : List V} {ds : List PyData} : SqT K H a xs → Gds K H xs ds → Gd K H (.ref a) (.tuple ds)
  | dct {a : Addr} : H a = some (.dK []) → Gd K H (.ref a) (.dict [])
  | dctN {a : Addr} {es : List (Key × V)} {kvs : List (PyData × PyData)} : H a = some (.dK es) → kvs ≠ [] → Gd K H (.ref a) (.dict kvs)
inductive Gds (K : Frag) (H : Hp) : List V → List PyData → Prop where
  | nil : Gds K H [] []
  | cons {x : V} {d : PyData} {xs : List V} {ds : List PyData} : Gd K H x d → Gds K H xs ds → Gds K H (x :: xs) (d :: ds)
end
theorem sqL_same {K : Frag} {H H' : Hp} (s : Same H H') {a : Addr} {xs : List V} (h : SqL K H a xs) : SqL K H' a xs := h.imp (fun z => z.elim (fun z => .inl (s _ _ z)) fun ⟨o, z⟩ => .inr ⟨o, s _ _ z⟩) id
mutual
theorem Gd.same {K : Frag} {H H' : Hp} (s : Same H H') : ∀ {v : V} {d : PyData}, Gd K H v d → Gd K H' v d
  | _, _, .non => .non
  | _, _, .bl b => .bl b
  | _, _, .int i => .int i
  | _, _, .str x h => .str x h
  | _, _, .lst h r => .lst (s _ _ h) (Gds.same s r)
  | _, _, .tup h r => .tup ((KeepT.of s).sqT h) (Gds.same s r)
  | _, _, .dct h => .dct (s _ _ h)
  | _, _, .dctN h n => .dctN (s _ _ h) n
theorem Gds.same {K : Frag} {H H' : Hp} (s : Same H H') : ∀ {v : List V} {d : List PyData}, Gds K H v d → Gds K H' v d
  | _, _, .nil => .nil
  | _, _, .cons h r => .cons (Gd.same s h) (Gds.same s r)
end
theorem Gds.len {K : Frag} {H : Hp} : ∀ {v : List V} {d : List PyData}, Gds K H v d → v.length = d.length
  | _, _, .nil => rfl
  | _, _, .cons _ r => congrArg (· + 1) (Gds.len r)
theorem Gds.get {K : Frag} {H : Hp} : ∀ {v : List V} {d : List PyData}, Gds K H v d → ∀ {i : Nat} {x : V} {e : PyData}, v[i]? = some x → d[i]? = some e → Gd K H x e
  | _, _, .nil, i, _, _, h, _ => by cases i <;> cases h
  | _, _, .cons h r, 0, _, _, e1, e2 => by cases e1; cases e2; exact h
  | _, _, .cons h r, i + 1, _, _, e1, e2 => r.get (i := i) e1 e2
theorem Gds.drop {K : Frag} {H : Hp} : ∀ (n : Nat) {v : List V} {d : List PyData}, Gds K H v d → Gds K H (v.drop n) (d.drop n)
  | 0, _, _, r => r
  | n + 1, _, _, .nil => .nil
  | n + 1, _, _, .cons _ r => Gds.drop n r
theorem Gd.ty {K : Frag} {H : Hp} {v : V} {d : PyData} (h : Gd K H v d) : TyX K H v (.type (tyn d)) := by
  cases h with
  | non => exact .base .non
  | bl b => exact .base (.bl b)
  | int i => exact .base (.int i)
  | str x _ => exact .base (.str x)
  | lst h _ => exact ty_l (SqL.of h)
  | tup h _ => exact ty_t h
  | dct h => exact .base (.dK h)
  | dctN h _ => exact .base (.dK h)
def isTup : PyData → Bool
  | .tuple _ => true
  | _ => false
theorem kit_tup (K : Frag) (d : PyData) : PySem.W.kitOne K (.type (tyn d)) (.type "tuple") = some (isTup d) := by cases d <;> rfl
mutual
def strsShort : PyData → Prop
  | .str x => x.length ≤ 1000
  | .tuple ds => strsShorts ds
  | _ => True
def strsShorts : List PyData → Prop
  | [] => True
  | d :: ds => strsShort d ∧ strsShorts ds
end
mutual
theorem Pl.gd {K : Frag} {H : Hp} : ∀ {v : V} {d : PyData}, Pl K H v d → strsShort d → Gd K H v d
  | _, _, .str x, h => .str x h
  | _, _, .tup h r, g => .tup h (Pls.gd r g)
theorem Pls.gd {K : Frag} {H : Hp} : ∀ {v : List V} {d : List PyData}, Pls K H v d → strsShorts d → Gds K H v d
  | _, _, .nil, _ => .nil
  | _, _, .cons h r, g => .cons (Pl.gd h g.1) (Pls.gd r g.2)
end
end Fs
set_option Elab.async false
set_option linter.all false
set_option maxRecDepth 100000
set_option maxHeartbeats 4000000
/-! FxI: two that were told alike are compared; d[i] = v of a dict of either kind; dicts of small data are shown -/
namespace Fs
open PySem PySem.Spec PyProof.Rows L2 Fh
open PySem.W (Frag)
/-! ### small data -/
/-- small enough to be shown, among others -/
def smD (d : PyData) : Bool := d.showable && decide (d.depth ≤ 5) && PyData.leavesShort 70 d && decide (d.weight ≤ 400)
/-- entries of small data -/
def Ent1 (N : Addr → Prop) (H : Hp) (q : Key × V) : Prop := smD (kP q.1) = true ∧ ∃ d, DA N H q.2 d ∧ smD d = true
def Ent2 (N : Addr → Prop) (H : Hp) (x : ME) : Prop := KOk H x ∧ smD (mP x.1) = true ∧ ∃ d, DA N H x.2.2 d ∧ smD d = true
theorem Ent1.same {N : Addr → Prop} {H H' : Hp} {q : Key × V} (s : Same H H') (h : Ent1 N H q) : Ent1 N H' q := ⟨h.1, h.2.imp fun d z => ⟨DA.same s z.1, z.2⟩⟩
theorem Ent2.same {N : Addr → Prop} {H H' : Hp} {q : ME} (s : Same H H') (h : Ent2 N H q) : Ent2 N H' q := ⟨h.1.same s, h.2.1, h.2.2.imp fun d z => ⟨DA.same s z.1, z.2⟩⟩
end Fs
set_option Elab.async false
set_option linter.all false
set_option maxRecDepth 100000
set_option maxHeartbeats 4000000
/-! FxJ: a promise under no repr of a def found in the written part; rows cut; what stays while tables grow -/
namespace Fs
open PySem PySem.Spec PyProof.Rows L2 Fh
open PySem.W (Frag)
theorem seq_cutS {t u : TS} {D : _} {σ : L2.St} {H : Hp} (inv : L2.St → Hp → Prop) (key : ∀ NX : L2.St → Hp → Prop, (∀ σ' Hc, inv σ' Hc → NX σ' Hc) → t { D with nx := NX } σ H) (rest : ∀ σ' Hc, inv σ' Hc → u D σ' Hc) : tSeq t u D σ H := key (u D) rest
theorem gName_go {i : Nat} {v : V} {σ : L2.St} {H : Hp} {Q : L2.St → Hp → Prop} (h : Q (σ.set i (some v)) H) : gName i v σ H Q := h
theorem tabs_but {T : List (Addr × Str)} {H H' : Hp} {p : Addr} {u : HO} (t : LamX.Tabs T H) (hp : H p = some u) (n1 : ∀ ps, u ≠ .tbl ps) (n2 : ∀ c q, u ≠ LamX.CodeO c q) (b : But p H H') : LamX.Tabs T H' := fun x hx => by
  obtain ⟨ps, h1, h2, h3⟩ := t x hx
  refine ⟨ps, b _ _ (fun e => ?_) h1, h2, fun pos cv hc => ?_⟩
  · rw [e, hp] at h1
    exact n1 _ (Option.some.inj h1)
  · obtain ⟨c, e1, e2⟩ := h3 pos cv hc
    refine ⟨c, e1, b _ _ (fun e => ?_) e2⟩
    rw [e, hp] at e2
    exact n2 _ _ (Option.some.inj e2)
theorem tabs_pen {T : List (Addr × Str)} {H H' : Hp} {p c : Addr} {n : Nat} (t : LamX.Tabs T H) (P : PenAt H p c n) (b : But p H H') : LamX.Tabs T H' := by
  obtain ⟨cs, s, r, S, _⟩ := P.open
  exact tabs_but t S.hp (fun _ z => nomatch z) (fun _ _ z => by unfold LamX.CodeO at z; cases z) b
/-- a def's promise under no repr, its code in hand -/
theorem fnG_of {CX : CXT} {P : Program} {w : World} {K : Frag} {mg : Str → Option Value} {base : Heap} {k : Nat} {f : Addr} {name qual : Str} {params : Arguments} {body : List Stmt} {scope : Scope} {dV kV doc pm cdv ct oc : Value} {an od : Option Addr}
    {osl : Array (Option Value)} {N ps : List Str} {sp : Sp} (lk : K.lookup f = some ⟨oc, od, .func (PySem.W.fnOf name qual params body scope dV kV doc pm an cdv ct), osl⟩) (hcd : PySem.W.codeIn K cdv qual = true) (S : FnScope N ps scope)
    (len : ∀ vs H Q E, sp vs H Q E → vs.length = ps.length)
    (hbody : ∀ (A : Around) (outer : List Env) (s : Shared) (H : Hp) (vs : List V) (Q : VK) (E : XK), A.guards = some [] → Room k (A.deeper (envOfC qual scope s.heap.objs.size f cdv)) → sp vs H Q E →
      ∃ t, PSs (cxOf CX P w K mg base N qual scope f cdv A outer s H E) body t ∧ t { nx := fun _ H' => Q .non H', rt := Q } (L2.start N vs) H) :
    FnG P w K mg base CX (k + 1) f (PySem.W.fnOf name qual params body scope dV kV doc pm an cdv ct) ps sp := by
  refine ⟨len, fun A outer s H args us vs Q E hg hr e0 hb rv hsp => ?_⟩
  have nvs := len vs H Q E hsp
  have inK : K.In s.heap := e0.mod.kin.keeps (fun b o z => (e0.bs b o z).1)
  have nolim : s.heap.NoLimit := e0.mod.nolimit.keeps (fun b o z => (e0.bs b o z).1)
  have kinds : ∀ y ∈ ps.zip us, scope.names.lookup y.1 = some .local ∨ (scope.names.lookup y.1 = some .cell ∧ ((cellsFrom (s.heap.objs.size + 1) scope.names []).lookup y.1).isSome = true) := by
    rintro ⟨n, v⟩ hy
    cases S.par n (List.of_mem_zip hy).1 with
    | inl q => exact Or.inl q
    | inr q => exact Or.inr ⟨q, PySem.W.cellsFrom_some _ _ _ (Or.inl q)⟩
  refine codeAny_call_function hr.depth (inK _ _ lk) rfl S.co S.gen rfl (PySem.W.codeRec_of inK hcd) (hb _ _ _ _ ?_)
  refine wpAny_newFunctionEnv_cells S.kind kinds fun env henv s1 ic => ?_
  subst henv
  refine ⟨nolim.keeps ic.toInCall.keep, codeAny_func ?_⟩
  obtain ⟨t, ht, hq⟩ := hbody A outer s H vs Q E hg (hr.deeper _) hsp
  have J0 : Inv (cxOf CX P w K mg base N qual scope f cdv A outer s H E) [] (start N vs) H s1 := inv_start S hr.hd e0 nvs rv ic
  refine wpAny_mono (ht.run [] s1 (start N vs) H _ J0 hq) ?_ (fun e s' z => z)
  intro fl s' hs
  match fl, hs with
  | .ret u, hs =>
    obtain ⟨v, σ', H', J, ru, q⟩ := hs
    exact ⟨v, H', J.os, J.bare, J.base, J.hok, ru, q⟩
  | .next, hs =>
    obtain ⟨σ', H', J, q⟩ := hs
    exact ⟨V.non, H', J.os, J.bare, J.base, J.hok, rfl, q⟩
  | .brk, hs =>
    obtain ⟨_, _, _, q⟩ := hs
    exact q.elim
  | .cont, hs =>
    obtain ⟨_, _, _, q⟩ := hs
    exact q.elim
end Fs
set_option Elab.async false
set_option linter.all false
set_option maxRecDepth 100000
set_option maxHeartbeats 8000000
namespace Fp6
open PySem PySem.Spec PyProof.Rows L2 Fh Fs
open PySem.W (Frag)
def top (i : Nat) : Stmt := PySem.Challenge.pw_fewhands_k26_plans_that_books_refuse.main.body.getD i (.Pass ⟨0, 0, 0, 0⟩)
abbrev sIwp : Stmt := top 21
abbrev sHrn : Stmt := top 22
abbrev sWe : Stmt := top 55
abbrev sNp : Stmt := top 56
abbrev sRps : Stmt := top 57
abbrev sRp : Stmt := top 58
abbrev sRd : Stmt := top 70
/-! ### an own reader: what a text is up to where it goes wrong -/
def fewest (z : Str) : Option Int := if z = "then" then some 0 else if z = "either" then some 1 else if z = "any" then some 1 else if z = "again" then some 1 else if z = "beside" then some 2 else none
def most (z : Str) : Option Int := if z = "again" then some 1 else if z = "beside" then some 2 else none
def rightNo (z : Str) (m : Int) : Bool := match fewest z with
  | some f => decide (f ≤ m) && decide (m ≤ (most z).getD m)
  | none => false
/-! ### what the written part says -/
def relI : Option Int → Option Value → Prop
  | none, r => r = none
  | some i, r => ∃ t, r = some (.int i t)
structure TxtR (K : Frag) (mg : Str → Option Value) (w : World) (aF aM aD CE aE : Addr) : Prop where
  isinstance : mg "isinstance" = none
  str : mg "str" = none
  len : mg "len" = none
  LETTERS : ∃ u, mg "LETTERS" = some (.str "abcdefghijklmnopqrstuvwxyz" u)
  LONGEST : ∃ u, mg "LONGEST" = some (.int 8 u)
  gF : mg "FEWEST" = some (.ref aF)
  gM : mg "MOST" = some (.ref aM)
  gD : mg "DONE" = some (.ref aD)
  sD : ∀ H, SqT K H aD [.str "then"]
  dF : ∃ es n, KDict K w aF es n
  dM : ∃ es n, KDict K w aM es n
  fF : ∀ z, ∃ r, PySem.W.nsIn K aF z = some r ∧ relI (fewest z) r
  fM : ∀ z, ∃ r, PySem.W.nsIn K aM z = some r ∧ relI (most z) r
  ET : PySem.ErrN.ErrNxt K mg CE aE
section
variable {P : Program} {w : World} {K : Frag} {mg : Str → Option Value} {base : Heap} {aF aM aD CE aE : Addr}
theorem relI_some {o : Option Int} {r : Option Value} (h : relI o r) : r.isSome = o.isSome := by
  cases o with
  | none => rw [show r = none from h]; rfl
  | some i =>
    obtain ⟨t, rfl⟩ := h
    rfl
/-! ### the functions -/
theorem scIwp : FnScope ["value"] ["value"] (defScope sIwp) := ⟨rfl, rfl, rfl, by decide +kernel, rfl, by decide +kernel, by decide +kernel⟩
def spHrn : Sp := fun vs H Q _ => ∃ (z : Str) (m : Int), vs = [.str z, .int m] ∧ (fewest z).isSome = true ∧ Q (.bl (rightNo z m)) H
theorem scHrn : FnScope ["word", "many"] ["word", "many"] (defScope sHrn) := ⟨rfl, rfl, rfl, by decide +kernel, rfl, by decide +kernel, by decide +kernel⟩
theorem ok_hrn {f : Addr} {fd : FuncData} (F : Fun K "has_right_number" "has_right_number" sHrn f fd) (T : TxtR K mg w aF aM aD CE aE) : FnOk P w K mg base CX0 1 f fd ["word", "many"] spHrn := by
  refine F.ok scHrn (fun vs H Q E h => ?_) (fun cdv A outer s H vs Q E hr h => ?_)
  · obtain ⟨z, m, rfl, _⟩ := h
    rfl
  · obtain ⟨z, m, rfl, hs, k⟩ := h
    obtain ⟨es, n, D⟩ := T.dF
    obtain ⟨es2, n2, D2⟩ := T.dM
    refine ⟨_, pss_one (ps_ret (pe_chain op_le op_le (pe_ix ix_kdict (pe_glob (v := .ref aF) (by rfl) T.gF rfl) (pv 0) (fun _ _ => rfl)) (pv 1) (pe_kget (pe_glob (v := .ref aM) (by rfl) T.gM rfl) (pv 0) (pv 1) ⟨by rfl, by rfl, by rfl, by rfl⟩))), ?_⟩
    obtain ⟨r, hr1, rl⟩ := T.fF z
    obtain ⟨r2, hr2, rl2⟩ := T.fM z
    cases ef : fewest z with
    | none => rw [ef] at hs; cases hs
    | some i =>
      rw [ef] at rl
      obtain ⟨t, rfl⟩ := rl
      have er : rightNo z m = (decide (i ≤ m) && decide (m ≤ (most z).getD m)) := by unfold rightNo; rw [ef]
      rw [er] at k
      refine ⟨_, rfl, aF, z, .int i, rfl, rfl, ⟨es, n, _, D.at_, D.lit, hr1, ⟨t, rfl⟩⟩, _, rfl, i, m, rfl, rfl, decide (i ≤ m), rfl, ?_⟩
      by_cases h1 : i ≤ m
      · rw [decide_eq_true h1] at k ⊢
        refine iteT ⟨aM, es2, n2, rfl, D2, _, rfl, _, rfl, z, r2, .int ((most z).getD m), rfl, hr2, ?_, m, _, rfl, rfl, k⟩
        cases em : most z with
        | none => rw [em] at rl2; rw [show r2 = none from rl2]; rfl
        | some j =>
          rw [em] at rl2
          obtain ⟨t2, rfl⟩ := rl2
          exact ⟨t2, rfl⟩
      · rw [decide_eq_false h1] at k ⊢
        exact iteF k
end
end Fp6
set_option Elab.async false
set_option linter.all false
set_option maxRecDepth 100000
set_option maxHeartbeats 8000000
namespace Fp6
open PySem PySem.Spec PyProof.Rows L2 Fh Fs
open PySem.W (Frag)
section
variable {P : Program} {w : World} {K : Frag} {mg : Str → Option Value} {base : Heap} {aF aM aD CE aE : Addr}
theorem same_off {H H' : Hp} {l : Addr} {o : HO} (s : Same H H') (n : H l = none) : Same H (upd H' l o) := fun b u z => by
  rw [upd_ne (fun e => by rw [e, n] at z; cases z)]
  exact s _ _ z
end
end Fp6
set_option Elab.async false
set_option linter.all false
set_option maxRecDepth 100000
set_option maxHeartbeats 8000000
namespace Fp6
open PySem PySem.Spec PyProof.Rows L2 Fh Fs
open PySem.W (Frag)
/-- the reader's functions -/
structure Rdr (K : Frag) (mg : Str → Option Value) (w : World) (aF aM aD CE aX aI aH aE aN aS aR aP : Addr) (fI fH fE fN fS fR fP : FuncData) : Prop where
  T : TxtR K mg w aF aM aD CE aX
  EC : ErrC K CE
  FI : Fun K "is_word_of_plans" "is_word_of_plans" sIwp aI fI
  FH : Fun K "has_right_number" "has_right_number" sHrn aH fH
  FE : Fun K "_word_end" "_word_end" sWe aE fE
  FN : Fun K "_next_part" "_next_part" sNp aN fN
  FS : Fun K "_read_parts" "_read_parts" sRps aS fS
  FR : Fun K "read_part" "read_part" sRp aR fR
  FP : Fun K "read_plan" "read_plan" sRd aP fP
  gI : mg "is_word_of_plans" = some (.ref aI)
  gH : mg "has_right_number" = some (.ref aH)
  gE : mg "_word_end" = some (.ref aE)
  gN : mg "_next_part" = some (.ref aN)
  gS : mg "_read_parts" = some (.ref aS)
  gR : mg "read_part" = some (.ref aR)
  gP : mg "read_plan" = some (.ref aP)
end Fp6
set_option Elab.async false
set_option linter.all false
set_option maxRecDepth 100000
set_option maxHeartbeats 4000000
/-! FzB: the error InvalidPlan(value) over the layer: made and raised, read and asked for its class where it is caught -/
namespace PySem
namespace ErrP
open PySem.W PySem.Calls PyProof.Rows PySem.HandSPX
/-! ### the text of __init__ -/
def iA (p1 p2 : Pos) : Arguments := { posonlyargs := [], args := [{ arg := "self", annotation := none, pos := p1 }, { arg := "value", annotation := none, pos := p2 }], vararg := none, kwonlyargs := [], kw_defaults := [], kwarg := none, defaults := [] }
def iB (q1 q2 q3 q4 : Pos) : List Stmt := [.Assign [.Attribute (.Name "self" q1) "value" q2] (.Name "value" q3) q4]
def iS : Scope := { kind := .function, names := [(PySem.Str.ofString "self", .local), (PySem.Str.ofString "value", .local)], isGenerator := false, isCoroutine := false, more := [] }
/-- what the written part says of Low, at C, and of its __init__, at fI -/
structure ErrPxt (K : Frag) (mg : Str → Option Value) (C fI : Addr) : Prop where
  gC : mg "InvalidPlan" = some (.ref C)
  cls : ∃ nm q N bs bm sn sub ab col dd k0 k1 k2 k3 k5, K.lookup C = some (excClassObj nm q C N bs bm true sn sub ab col dd k0 k1 k2 k3 k5 "ValueError.__new__") ∧ refsVE bm = true
  sa : findIn K (.ref C) "__setattr__" = some (some (.builtin "object.__setattr__"))
  ga : findIn K (.ref C) "__getattribute__" = some (some (.builtin "BaseException.__getattribute__"))
  gg : findIn K (.ref C) "__getattr__" = some none
  noN : findIn K (.ref C) "value" = some none
  iC : findIn K (.ref C) "__init__" = some (some (.ref fI))
  tC : typeIn K (.ref fI) = some (.type "function")
  kC : keepIn K (.ref C) = true
  exC : subIn K (.ref C) (.type "BaseException") = some true
  tyC : typeIn K (.ref C) = some (.type "type")
  hdC : hasDictIn K C = true
  te : exmOne K (.ref C) (.ref C) = some true
  fn : ∃ (oc : Value) (od : Option Addr) (kV doc pm : Value) (an : Option Addr) (cdv ct : Value) (osl : Array (Option Value)) (p1 p2 q1 q2 q3 q4 : Pos),
    K.lookup fI = some ⟨oc, od, .func (fnOf "__init__" "InvalidPlan.__init__" (iA p1 p2) (iB q1 q2 q3 q4) iS .none kV doc pm an cdv ct), osl⟩ ∧ codeIn K cdv "InvalidPlan.__init__" = true
theorem one_size (v : Value) : [v].length ≤ sizeLine := by
  rw [sizeLine_eq]
  exact (by decide : 1 ≤ 16777216)
theorem ldC {M : Model} {s : Shared} {name : Str} {scope : Scope} {L a : Addr} {cd : Value} {m : Str → Option Value} {x : Str} {pos : Pos} {v : Value} {Q : Value → Shared → Prop} {A : Around} {E : Value → Shared → Prop} (hn : s.heap.Ns L m) (hv : m x = some v) (h : Q v s)
    (hk : scope.kind = .function := by rfl) (hl : (envOfC name scope L a cd).kindOf x = some .local := by rfl) (hd : (x == ("__debug__" : Str)) = false := by decide) :
    wpAny M A (eval (.Name x pos) (envOfC name scope L a cd)) Q E s := wpAny_Name (wpAny_loadName_local hk hl hn hv h) hd
/-- what __init__ leaves of a fresh exception at x -/
structure InitEnd (h h' : Heap) (x C dx t1 : Addr) (v : Value) : Prop where
  keep : ∀ b o, b ≠ x → h.get? b = some o → h'.get? b = some o
  obj : h'.get? x = some { cls := .ref C, dict := some dx, data := .fields #[.ref t1, .none, .none, .none, .bool false, .none] }
  dbig : h.objs.size ≤ dx
  dne : dx ≠ x
  ns : h'.Ns1 dx (fun y => if y = "value" then some v else none)
/-- a made Low -/
structure OwnMade (h h' : Heap) (e C d : Addr) (v : Value) : Prop where
  keep : ∀ b o, h.get? b = some o → h'.get? b = some o
  new : h.objs.size ≤ e
  obj : ∃ oe vs, h'.get? e = some oe ∧ oe.cls = .ref C ∧ oe.dict = some d ∧ oe.data = .fields vs ∧ vs[1]? = some .none
  dbig : h.objs.size ≤ d
  dne : d ≠ e
  ns : h'.Ns1 d (fun y => if y = "value" then some v else none)
section
variable {prog : Program} {w : World} {A : Around} {E : Value → Shared → Prop} {R : Result → Shared → Prop} {s : Shared} {K : Frag} {mg : Str → Option Value} {C fI : Addr}
theorem errP_init (T : ErrPxt K mg C fI) {x t0 : Addr} {v : Value} (X : K.In s.heap) (hlim : s.heap.NoLimit) (hx : s.heap.get? x = some (excO C t0)) (hnx : K.lookup x = none) (hroom : A.depth < recursionLimit)
    (hq : ∀ h' tk dx, InitEnd s.heap h' x C dx t0 v → R (.ok (.ret .none)) { s with heap := h', toks := tk }) :
    codeAny (model prog w) A (.call (.ref fI) ⟨[.ref x, v], []⟩) R s := by
  obtain ⟨oc, od, kV, doc, pm, an, cdv, ct, osl, p1, p2, q1, q2, q3, q4, ho, hcd⟩ := T.fn
  obtain ⟨nm, q, N, bs, bm, sn, sub, ab, col, dd, k0, k1, k2, k3, k5, hC, hbm⟩ := T.cls
  have hcl : clsIn K C = some { name := nm, bases := bs, mro := .ref C :: bm, ns := N, qualname := q, hasDict := true, slotNames := sn, subclasses := sub, abstract := ab, collection := col, hasDel := false } := by unfold clsIn; rw [hC] <;> rfl
  refine Att.call_fn (binds := [("self", .ref x), ("value", v)]) X hlim ho hcd hroom (BindsTo.of_eq (by first | rfl | with_unfolding_all rfl)) (by first | rfl | decide | with_unfolding_all rfl) (fun s₁ IC => ?_) rfl rfl rfl
  obtain ⟨h₁, tk₁, rfl⟩ := IC.toInCall.same
  have k : ∀ b o, s.heap.get? b = some o → h₁.get? b = some o := IC.toInCall.keep
  have hn := IC.toInCall.ns
  have hxL : s.heap.objs.size ≠ x := Nat.ne_of_gt (Heap.lt_size hx)
  have X₁ : K.In h₁ := X.keeps k
  have hx₁ := k _ _ hx
  -- self.by = by
  show wpAny _ _ (execs _ _) _ _ _
  refine wpAny_execs_cons (plainObj_wpAny_Assign_Attribute ?_)
  refine ldC (v := v) hn (by first | rfl | with_unfolding_all rfl | kernel_rfl) (ldC (v := .ref x) hn (by first | rfl | with_unfolding_all rfl | kernel_rfl) ?_)
  refine set_plain X₁ (ox := excO C t0) (od := none) ⟨hx₁, rfl, rfl, trivial⟩ T.sa ?_
  refine exc_osa X₁ hx₁ hcl (show refsVE (.ref C :: bm) = true from hbm) rfl T.noN (fun h₃ tk₃ dx k₃ dn dne hx₃ hn₃ => ?_)
  show wpAny _ _ (execs _ _) _ _ _
  have z : s.heap.objs.size < h₁.objs.size := hn.lt
  exact wpAny_execs_nil (hq h₃ tk₃ dx ⟨fun b o hb e => k₃ b o hb (k b o e), hx₃, Nat.le_of_lt (Nat.lt_of_lt_of_le z dn), dne, hn₃⟩)
theorem errP_made (T : ErrPxt K mg C fI) {v : Value} (X : K.In s.heap) (hlim : s.heap.NoLimit) (hroom : A.depth + 1 < recursionLimit)
    (hq : ∀ h' tk e d, OwnMade s.heap h' e C d v → R (.ok (.ret (.ref e))) { s with heap := h', toks := tk }) :
    codeAny (model prog w) A (.call (.ref C) ⟨[v], []⟩) R s := by
  obtain ⟨nm, q, N, bs, bm, sn, sub, ab, col, dd, k0, k1, k2, k3, k5, hC, hbm⟩ := T.cls
  obtain ⟨hp, g, dr, tk, os⟩ := s
  have k : ∀ b o, hp.get? b = some o → ((hp.push (kdv_tup [v])).push (excO C hp.objs.size)).get? b = some o := fun b o e => Heap.get?_push_of_some _ (Heap.get?_push_of_some _ e)
  have hget : ((hp.push (kdv_tup [v])).push (excO C hp.objs.size)).get? (hp.objs.size + 1) = some (excO C hp.objs.size) := by heap_get
  have hnx : K.lookup (hp.objs.size + 1) = none := by
    cases e : K.lookup (hp.objs.size + 1) with
    | none => rfl
    | some o =>
      have z : hp.get? (hp.objs.size + 1) = some o := X _ _ e
      exact absurd (Nat.lt_of_succ_lt (Heap.lt_size z)) (Nat.lt_irrefl _)
  refine call_own F.excBase_ValueError (fun X => refsVE_contains X bm hbm) (X _ _ hC) (looks_findIn X T.iC) (fun self => bind_fn X self T.tC) (one_size v) ?_
  refine errP_init (s := ⟨(hp.push (kdv_tup [v])).push (excO C hp.objs.size), g, dr, tk, os⟩) T (X.keeps k) (hlim.keeps k) hget hnx ?_ fun h' tk' dx ⟨k', hx, dn, dne, hns⟩ => ?_
  · show A.depth + 1 < recursionLimit
    exact hroom
  · have old : ∀ b o, hp.get? b = some o → h'.get? b = some o := fun b o e => k' b o (Nat.ne_of_lt (Nat.lt_succ_of_lt (Heap.lt_size e))) (k b o e)
    have z : hp.objs.size + 1 + 1 ≤ dx := by
      first
        | (simpa only [Heap.size_push] using dn)
        | exact dn
        | (have q := dn; rw [Heap.size_push, Heap.size_push] at q; exact q)
    exact ⟨rfl, hq h' tk' (hp.objs.size + 1) dx ⟨old, Nat.le_succ _, ⟨_, _, hx, rfl, rfl, rfl, rfl⟩, Nat.le_trans (Nat.le_trans (Nat.le_succ _) (Nat.le_succ _)) z, dne, hns⟩⟩
end
end ErrP
end PySem
namespace L2
open PySem PySem.Spec PyProof.Rows
theorem relO_errP {v : V} {v' : Value} (r : RelV v v') (f : Str) : RelO (List.lookup f [(("value" : Str), v)]) (if f = "value" then some v' else none) := by
  by_cases hw : f = "value"
  · subst hw
    rw [if_pos rfl]
    have q : List.lookup ("value" : Str) [(("value" : Str), v)] = some v := by simp [List.lookup]
    rw [q]
    exact r
  · rw [if_neg hw]
    have qw : (f == ("value" : Str)) = false := by simpa using hw
    have q2 : List.lookup f [(("value" : Str), v)] = none := by simp [List.lookup, qw]
    rw [q2]
    trivial
section
variable {X : Cx} {C fI : Addr}
/-- Low(e) -/
def tMkErrP (C : Addr) (ta : TA) : St → Hp → XK → Prop := fun σ H Q => ta σ H fun vs H1 => ∃ v, vs = [v] ∧ ∀ d, H1 d = none → Q (.ref C) (some d) (upd H1 d (.xd [(("value" : Str), v)]))
theorem pmk_errP {a : Expr} {ta : TA} {p pos : Pos} {k : Nat} (T : PySem.ErrP.ErrPxt X.K X.mg C fI) (hr : Room k X.A) (ha : PA X [a] ta) (hg : Gl X "InvalidPlan" := by rfl)
    (he : starEach (a :: []) X.env = (false, eval a X.env) :: starEach [] X.env := by rfl) (hpl : (backTo pos (starEach [] X.env)).any (·.1) = false := by rfl) :
    PMk X (.Call (.Name "InvalidPlan" p) [a] [] pos) (tMkErrP C ta) := by
  intro pins s σ H Q I h
  refine wpAny_Call_Name_kw (ld_glob I hg T.gC ?_)
  refine PySem.W.callWith_K (h₀ := X.base) I.ok.mod.kin T.kC (thn (ha.run pos pins s σ H _ I h) fun us s1 hh => ?_) he hpl
  obtain ⟨vs, H1, I1, r1, v, ev, q1⟩ := hh
  subst ev
  refine ⟨I1.kIn, ?_⟩
  cases r1 with
  | cons rv rn =>
    rename_i v' us'
    cases rn
    show wpAny _ _ (call (.ref C) [v']) _ _ _
    have hlim := I1.nolimit
    obtain ⟨hp, g, dr, tk, os⟩ := s1
    refine wpAny_call (PySem.ErrP.errP_made T I1.kIn hlim (by have := hr.dp; omega) fun h' tk' e d M => ?_)
    show MkP X pins σ Q (.ref e) ⟨h', g, dr, tk', os⟩
    obtain ⟨oe, fv, hoe, hc, hd, hdat, h1⟩ := M.obj
    have hns := M.ns
    obtain ⟨G', g1, g2⟩ := restrict h' fun b => decide (b ≠ e)
    have gk : ∀ b, b ≠ e → G'.get? b = h'.get? b := fun b hb => g1 b (decide_eq_true hb)
    have ge : G'.get? e = none := g2 e (by simp)
    have old : ∀ b o, hp.get? b = some o → G'.get? b = some o := fun b o q => (gk b (Nat.ne_of_lt (Nat.lt_of_lt_of_le (Heap.lt_size q) M.new))).trans (M.keep b o q)
    have ob : ObjOk X.prog X.w (upd H1 d (.xd [(("value" : Str), v)])) G' d (.xd [(("value" : Str), v)]) :=
      ⟨_, hns.at (fun o q => (gk d M.dne).trans q), fun f => relO_errP rv f⟩
    have J : Inv X pins σ (upd H1 d (.xd [(("value" : Str), v)])) ⟨G', g, dr, tk', os⟩ := I1.laid (t' := tk') old M.dbig ob
    refine ⟨e, oe, fv, ⟨G', g, dr, tk', os⟩, _, .ref C, some d, rfl, J, fun b o q => ?_, ge, hoe, ⟨hc, hd⟩, hdat, h1, ?_, rfl, I1.bare, raises_own T.exC T.tyC, q1 d (I1.hok.fresh M.dbig)⟩
    · by_cases hb : b = e
      · have q' : G'.get? b = some o := q
        rw [hb, ge] at q'; cases q'
      · exact (gk b hb).symm.trans q
    · rw [upd_ne (Ne.symm M.dne)]
      exact I1.hok.fresh M.new
/-- raise Low(e) -/
def tRaiseErrP (C : Addr) (W : WX) (ta : TA) : TS := fun _ σ H => tMkErrP C ta σ H fun cls d H' => W cls d σ H'
theorem ps_raiseErrP {a : Expr} {ta : TA} {W : WX} {p pos pos2 : Pos} {k : Nat} (hc : X.calm = true) (T : PySem.ErrP.ErrPxt X.K X.mg C fI) (hr : Room k X.A) (tk : Takes X W) (ha : PA X [a] ta) (hg : Gl X "InvalidPlan" := by rfl)
    (he : starEach (a :: []) X.env = (false, eval a X.env) :: starEach [] X.env := by rfl) (hpl : (backTo pos (starEach [] X.env)).any (·.1) = false := by rfl) :
    PS X (.Raise (some (.Call (.Name "InvalidPlan" p) [a] [] pos)) none pos2) (tRaiseErrP C W ta) := ps_raise hc tk (pmk_errP T hr ha hg he hpl)
/-- low.by, low the exception that the suite holds (at a; its class cls, its dict d) -/
def tErrPField (C : Addr) (a : Addr) (cls : Value) (d : Option Addr) (te : TE) : TE := fun σ H Q => te σ H fun x H1 => x = .ref a ∧ cls = .ref C ∧ ∃ (dd : Addr) (v : V), d = some dd ∧ H1 dd = some (.xd [(("value" : Str), v)]) ∧ Q v H1
theorem pe_errPField {a : Addr} {oe : Obj} {cls : Value} {d : Option Addr} {pn : List (Addr × Obj)} {e : Expr} {te : TE} {pos : Pos} (T : PySem.ErrP.ErrPxt X.K X.mg C fI) (hz : Zc cls d oe) (hf : ∃ vs, oe.data = .fields vs) (he : PE (X.suite a ((a, oe) :: pn)) e te)
    (hb : attributeBase e "value" X.env (eval e X.env) = eval e X.env := by rfl) :
    PE (X.suite a ((a, oe) :: pn)) (.Attribute e "value" pos) (tErrPField C a cls d te) := by
  refine ⟨fun pins s σ H Q I h => ?_⟩
  refine attr_of hb (thn (he.run pins s σ H _ I h) fun u s1 hh => ?_)
  obtain ⟨x, H1, I1, rx, ex, ec, dd, v, ed, ea, q⟩ := hh
  subst ex
  obtain rfl : u = Value.ref a := rx
  subst ec
  subst ed
  obtain ⟨ha, _⟩ := I1.pin (a, oe) (List.mem_append_left _ List.mem_cons_self)
  obtain ⟨vs, hd⟩ := hf
  have hx : ObjOk X.prog X.w H1 s1.heap dd (.xd [(("value" : Str), v)]) := I1.hok dd _ ea
  obtain ⟨mA, hns, hr⟩ := hx
  obtain ⟨od, ho, hl⟩ := lookIn_ns hns
  have l : List.lookup ("value" : Str) [(("value" : Str), v)] = some v := by simp [List.lookup]
  obtain ⟨u, hu, ru⟩ := RelO.some_of (v := v) (o := mA "value") (by rw [← l]; exact hr "value")
  have J : PySem.W.InstAt s1.heap a oe C (some od) := ⟨ha, hz.1, by unfold PySem.W.notCls; rw [hd] <;> rfl, by rw [hz.2]; exact ho⟩
  exact HandSPX.exc_get I1.kIn J T.ga T.gg T.exC (PySem.W.findObj_own T.hdC T.noN rfl (by rw [hl, hu])) (handed_of ru) ⟨v, H1, I1.tok _, ru, q⟩
end
end L2
set_option Elab.async false
set_option linter.all false
set_option maxRecDepth 100000
set_option maxHeartbeats 4000000
/-! FzC: InvalidPlan where it is caught, and from the head's facts -/
namespace Fs
open PySem PySem.Spec PyProof.Rows L2 Fh LamX
open PySem.W (Frag)
theorem errP_of {K : Frag} {mg : Str → Option Value} {C : Addr} (gC : mg "InvalidPlan" = some (.ref C)) (T : EK K C .ve) {fI : Addr} (no : PySem.W.findIn K (.ref C) "value" = some none) (iC : PySem.W.findIn K (.ref C) "__init__" = some (some (.ref fI))) (tI : PySem.W.typeIn K (.ref fI) = some (.type "function"))
    (fn : ∃ (oc : Value) (od : Option Addr) (kV doc pm : Value) (an : Option Addr) (cdv ct : Value) (osl : Array (Option Value)) (p1 p2 q1 q2 q3 q4 : Pos),
      K.lookup fI = some ⟨oc, od, .func (PySem.W.fnOf "__init__" "InvalidPlan.__init__" (PySem.ErrP.iA p1 p2) (PySem.ErrP.iB q1 q2 q3 q4) PySem.ErrP.iS .none kV doc pm an cdv ct), osl⟩ ∧ PySem.W.codeIn K cdv "InvalidPlan.__init__" = true) : PySem.ErrP.ErrPxt K mg C fI := by
  obtain ⟨nm, q, N, bs, sn, sub, ab, col, dd, k0, k1, k2, k3, k5, ho⟩ := ei_obj T
  have sB : PySem.W.subIn K (.ref C) (.type "BaseException") = some true := by rw [T.sub]; rfl
  have sC : PySem.W.subIn K (.ref C) (.ref C) = some true := by rw [T.sub, List.contains_cons]; simp
  exact { gC := gC, cls := ⟨nm, q, N, bs, _, sn, sub, ab, col, dd, k0, k1, k2, k3, k5, ho, by decide +kernel⟩, sa := T.sa, ga := T.ga, gg := T.gg, noN := no, iC := iC, tC := tI, kC := T.kC, exC := sB, tyC := T.ty, hdC := T.hd, te := PySem.W.exm_ref sB T.hd T.ty sC, fn := fn }
end Fs
set_option Elab.async false
set_option linter.all false
set_option maxRecDepth 100000
set_option maxHeartbeats 8000000
/-! what is a plan: is_word, _is_right_alone, check_plan, is_plan -/
namespace Fp6
open PySem PySem.Spec PyProof.Rows L2 Fh Fs
open PySem.W (Frag)
abbrev sWord : Stmt := top 4
abbrev sAl : Stmt := top 23
abbrev sCk : Stmt := top 24
structure TxtK (mg : Str → Option Value) : Prop where
  all : mg "all" = none
  tuple : mg "tuple" = none
/-! ### what is right, as data -/
def wopD : PyData → Bool
  | .str y => (fewest y).isSome
  | _ => false
def aloneD (b : Bool) : PyData → Bool
  | .tuple [] => false
  | .tuple (d :: ds) => match d with
    | .str y => (fewest y).isSome && (!(b && decide (y = "beside")) && rightNo y ds.length)
    | _ => false
  | d => wordD d
def chks (rec : PyData → Option (Option PyData)) : List PyData → Option (Option PyData)
  | [] => some none
  | d :: ds => match rec d with
    | some none => chks rec ds
    | r => r
def chkP (rec : Bool → PyData → Option (Option PyData)) (b : Bool) : PyData → Option (Option PyData)
  | .tuple (.str y :: ds) => chks (rec (b || decide (y = "beside"))) ds
  | _ => some none
/-- the first wrong part, if there is one -/
def chk : Nat → Bool → PyData → Option (Option PyData)
  | 0, _, _ => none
  | n + 1, b, d => if aloneD b d = false then some (some d) else chkP (chk n) b d
theorem str_cases (d : PyData) : (∃ x, d = .str x) ∨ isStr d = false := by
  cases d with
  | str x => exact .inl ⟨x, rfl⟩
  | _ => exact .inr rfl
theorem tup_cases (d : PyData) : (∃ ds, d = .tuple ds) ∨ isTup d = false := by
  cases d with
  | tuple ds => exact .inl ⟨ds, rfl⟩
  | _ => exact .inr rfl
theorem wordD_no {d : PyData} (h : isStr d = false) : wordD d = false := by
  cases d with
  | str x => cases h
  | _ => rfl
theorem wopD_no {d : PyData} (h : isStr d = false) : wopD d = false := by
  cases d with
  | str x => cases h
  | _ => rfl
theorem alone_no {b : Bool} {d : PyData} (h : isTup d = false) : aloneD b d = wordD d := by
  cases d with
  | tuple x => cases h
  | _ => rfl
section
variable {P : Program} {w : World} {K : Frag} {mg : Str → Option Value} {base : Heap} {aF aM aD CE aE CP fP : Addr}
def spWord (K : Frag) : Sp := fun vs H Q _ => ∃ v d, vs = [v] ∧ Gd K H v d ∧ ∀ H', Same H H' → Q (.bl (wordD d)) H'
theorem scWord : FnScope ["value", "letter"] ["value"] (defScope sWord) := ⟨rfl, rfl, rfl, by decide +kernel, rfl, by decide +kernel, by decide +kernel⟩
theorem ok_word {f : Addr} {fd : FuncData} (F : Fun K "is_word" "is_word" sWord f fd) (T : TxtR K mg w aF aM aD CE aE) (TK : TxtK mg) : FnOk P w K mg base CX0 1 f fd ["value"] (spWord K) := by
  refine F.ok scWord (fun vs H Q E h => ?_) (fun cdv A outer s H vs Q E hr h => ?_)
  · obtain ⟨v, d, rfl, _⟩ := h
    rfl
  · obtain ⟨v, d, rfl, hv, k⟩ := h
    obtain ⟨u1, gL⟩ := T.LETTERS
    obtain ⟨u2, gM⟩ := T.LONGEST
    refine ⟨_, pss_cons (ps_if (PW.pt (pw_or (pt_not (pt_val (pe_callB call_isi (by rfl) T.isinstance (by decide +kernel) (pa_cons (pv 0) (pa_cons (pe_bltn (v := .ty "str") (by rfl) T.str (by decide +kernel) rfl (by decide) (by decide)) pa_nil)))))
      (pw_or1 (pt_not (pt_chain op_le op_le pe_int (pe_callB call_len_str (by rfl) T.len PySem.boot_len (pa_cons (pv 0) pa_nil)) (pe_glob (v := .int 8) (by rfl) gM ⟨_, rfl⟩)))))) (pss_one (ps_ret pe_bl)) pss_nil)
      (pss_one (ps_ret (pe_callB (cr_all rfl) (by rfl) TK.all (by decide +kernel) (pa_cons
        (pe_lc (own := [("letter", 1)]) (g := gName 1) (tt := tYes) rfl scWord.nd (pi_str (pv 0)) (blkOk_by (N := ["value", "letter"]) (sc := defScope sWord) (by decide +kernel)) (fun _ _ _ _ _ => pg_name (i := 1) scWord.nd rfl (Or.inl rfl)) (fun _ _ _ _ _ => pts_nil)
          (fun _ _ _ _ _ => pe_cmpR op_in_sign (pv 1) (pe_glob (v := .str "abcdefghijklmnopqrstuvwxyz") (by rfl) gL ⟨_, rfl⟩) (by rfl))) pa_nil)))), ?_⟩
    rcases str_cases d with ⟨x, rfl⟩ | no
    · have lx : x.length ≤ 1000 := by
        cases hv with
        | str _ h => exact h
      obtain rfl : v = .str x := by
        cases hv with
        | str _ h => rfl
      have lz : x.length ≤ sizeLine := by rw [sizeLine_eq]; omega
      refine ⟨_, rfl, _, _, _, _, true, rfl, .ty _, .base (.str x), (by rfl), true, rfl, ?_⟩
      by_cases h1 : 1 ≤ x.length
      · by_cases h2 : x.length ≤ 8
        · refine ⟨_, rfl, x, rfl, lz, _, _, rfl, rfl, true, congrArg V.bl (decide_eq_true (by omega)), iteT ⟨_, _, rfl, rfl, true, congrArg V.bl (decide_eq_true (by omega)), iteF ?_⟩⟩
          refine ⟨_, rfl, x, rfl, fun D hD => ?_⟩
          refine lc_it walk_str (fun i H1 => Same H H1 ∧ H1 D = some (.lst (((sgB x).take i).map V.bl))) ⟨Same.new hD, upd_same⟩ (fun _ _ _ _ => trivial) ?_ ?_
          · rintro i y H1 H2 hi ⟨s1, d1⟩ ⟨rfl, c, hc, rfl⟩
            have gc : x.cps.toList[i]? = some c := by rw [Array.getElem?_toList]; exact hc
            have gs : (sgB x)[i]? = some (decide (c ∈ abcN)) := by unfold sgB; rw [List.getElem?_map, gc]; rfl
            refine ⟨rfl, ?_⟩
            refine yes_of ?_
            refine ⟨_, rfl, c, _, rfl, rfl, _, d1, ?_, ?_⟩
            · rw [List.length_map, List.length_take, sizeLine_eq]
              have : (sgB x).length = x.cps.toList.length := List.length_map ..
              have e2 : x.cps.toList.length = x.length := Array.length_toList
              omega
            · refine ⟨fun b o z => by rw [upd_ne (ne_of_none z hD)]; exact s1 b o z, ?_⟩
              rw [upd_same, List.take_add_one, gs, List.map_append]
              rfl
          · rintro H1 ⟨s1, d1⟩
            have e3 : (sgB x).length = x.cps.size := by unfold sgB; rw [List.length_map]; exact Array.length_toList
            rw [← e3, List.take_length] at d1
            refine ⟨D, sgB x, rfl, SqL.of d1, ?_⟩
            have e : wordD (.str x) = (sgB x).all id := by
              show (decide (1 ≤ x.length) && (decide (x.length ≤ 8) && (sgB x).all id)) = _
              rw [decide_eq_true h1, decide_eq_true h2, Bool.true_and, Bool.true_and]
            rw [← e]
            exact k _ s1
        · have e : wordD (.str x) = false := by
            show (decide (1 ≤ x.length) && (decide (x.length ≤ 8) && (sgB x).all id)) = false
            rw [decide_eq_false h2, Bool.false_and, Bool.and_false]
          refine ⟨_, rfl, x, rfl, lz, _, _, rfl, rfl, true, congrArg V.bl (decide_eq_true (by omega)), iteT ⟨_, _, rfl, rfl, false, congrArg V.bl (decide_eq_false (by omega)), iteT ?_⟩⟩
          rw [← e]
          exact k _ (Same.refl _)
      · have e : wordD (.str x) = false := by
          show (decide (1 ≤ x.length) && (decide (x.length ≤ 8) && (sgB x).all id)) = false
          rw [decide_eq_false h1, Bool.false_and]
        refine ⟨_, rfl, x, rfl, lz, _, _, rfl, rfl, false, congrArg V.bl (decide_eq_false (by omega)), iteF ⟨false, rfl, iteT ?_⟩⟩
        rw [← e]
        exact k _ (Same.refl _)
    · refine ⟨_, rfl, _, _, _, _, false, rfl, .ty _, hv.ty, ?_, false, rfl, iteT ?_⟩
      · rw [← no]
        exact kit_str K d
      · rw [← wordD_no no]
        exact k _ (Same.refl _)
def spWop (K : Frag) : Sp := fun vs H Q _ => ∃ v d, vs = [v] ∧ Gd K H v d ∧ Q (.bl (wopD d)) H
theorem ok_wop {f : Addr} {fd : FuncData} (F : Fun K "is_word_of_plans" "is_word_of_plans" sIwp f fd) (T : TxtR K mg w aF aM aD CE aE) : FnOk P w K mg base CX0 1 f fd ["value"] (spWop K) := by
  refine F.ok scIwp (fun vs H Q E h => ?_) (fun cdv A outer s H vs Q E hr h => ?_)
  · obtain ⟨z, d, rfl, _⟩ := h
    rfl
  · obtain ⟨v, d, rfl, hv, k⟩ := h
    obtain ⟨es, n, D⟩ := T.dF
    refine ⟨_, pss_one (ps_ret (pe_and (pe_callB call_isi (by rfl) T.isinstance (by decide +kernel) (pa_cons (pv 0) (pa_cons (pe_bltn (v := .ty "str") (by rfl) T.str (by decide +kernel) rfl (by decide) (by decide)) pa_nil)))
      (pe_one (pe_cmpR (op_in_kd D) (pv 0) (pe_glob (v := .ref aF) (by rfl) T.gF rfl) (by rfl))))), ?_⟩
    rcases str_cases d with ⟨z, rfl⟩ | no
    · obtain rfl : v = .str z := by
        cases hv with
        | str _ h => rfl
      obtain ⟨r, hr, rl⟩ := T.fF z
      refine ⟨_, rfl, _, _, _, _, true, rfl, .ty _, .base (.str z), (by rfl), true, rfl, iteT ⟨_, rfl, z, r, rfl, rfl, hr, ?_⟩⟩
      rw [relI_some rl]
      exact k
    · refine ⟨_, rfl, _, _, _, _, false, rfl, .ty _, hv.ty, by rw [← no]; exact kit_str K d, false, rfl, iteF ?_⟩
      rw [← wopD_no no]
      exact k
def spAl (K : Frag) : Sp := fun vs H Q _ => ∃ v d b, vs = [v, .bl b] ∧ Gd K H v d ∧ ∀ H', Same H H' → Q (.bl (aloneD b d)) H'
theorem scAl : FnScope ["value", "is_within"] ["value", "is_within"] (defScope sAl) := ⟨rfl, rfl, rfl, by decide +kernel, rfl, by decide +kernel, by decide +kernel⟩
theorem ok_al {f aW aI aH : Addr} {fd fW fI fH : FuncData} (F : Fun K "_is_right_alone" "_is_right_alone" sAl f fd) (FW : Fun K "is_word" "is_word" sWord aW fW) (FI : Fun K "is_word_of_plans" "is_word_of_plans" sIwp aI fI) (FH : Fun K "has_right_number" "has_right_number" sHrn aH fH)
    (gW : mg "is_word" = some (.ref aW)) (gI : mg "is_word_of_plans" = some (.ref aI)) (gH : mg "has_right_number" = some (.ref aH)) (T : TxtR K mg w aF aM aD CE aE) (TK : TxtK mg) : FnOk P w K mg base CX0 2 f fd ["value", "is_within"] (spAl K) := by
  have GW : FnOk P w K mg base CX0 1 aW fW ["value"] (spWord K) := ok_word FW T TK
  have GI : FnOk P w K mg base CX0 1 aI fI ["value"] (spWop K) := ok_wop FI T
  have GH : FnOk P w K mg base CX0 1 aH fH ["word", "many"] spHrn := ok_hrn FH T
  have bW : Binds K fW ["value"] [] := FW.binds (ps := ["value"]) fun _ _ _ _ _ _ us hl => match us, hl with | [_], _ => rfl
  have bI : Binds K fI ["value"] [] := FI.binds (ps := ["value"]) fun _ _ _ _ _ _ us hl => match us, hl with | [_], _ => rfl
  have bH : Binds K fH ["word", "many"] [] := FH.binds (ps := ["word", "many"]) fun _ _ _ _ _ _ us hl => match us, hl with | [_, _], _ => rfl
  refine F.ok scAl (fun vs H Q E h => ?_) (fun cdv A outer s H vs Q E hr h => ?_)
  · obtain ⟨v, d, b, rfl, _⟩ := h
    rfl
  · obtain ⟨v, d, b, rfl, hv, k⟩ := h
    refine' ⟨_, pss_cons ?s1 (pss_cons ?s2 (pss_cons ?s3 (pss_one ?s4))), ?q⟩
    case s1 =>
      refine' ps_if (pt_not (pt_val ?a)) (pss_one (ps_ret ?r)) pss_nil
      case a => exact pe_callB call_isi (by rfl) T.isinstance (by decide +kernel) (pa_cons (pv 0) (pa_cons (pe_bltn (v := .ty "tuple") (by rfl) TK.tuple (by decide +kernel) rfl (by decide) (by decide)) pa_nil))
      case r => exact pe_call GW hr rfl gW FW.kp bW .nil pass0 (pa_cons (pv 0) pa_nil)
    case s2 =>
      refine' ps_if (PW.pt (pw_or (pt_not (pt_truth (pv 0) (fun _ => rfl))) (pw_or1 (pt_not (pt_val ?b))))) (pss_one (ps_ret pe_bl)) pss_nil
      case b => exact pe_call GI hr rfl gI FI.kp bI .nil pass0 (pa_cons (pe_ix ix_tup (pv 0) pe_int (fun _ _ => rfl)) pa_nil)
    case s3 =>
      refine' ps_if (PW.pt (pw_and (pt_val (pv 1)) (pw_and1 ?c))) (pss_one (ps_ret pe_bl)) pss_nil
      case c => exact pt_cmpR op_eq (pe_ix ix_tup (pv 0) pe_int (fun _ _ => rfl)) pe_str (nomark _)
    case s4 =>
      refine' ps_ret ?d
      case d => exact pe_call GH hr rfl gH FH.kp bH .nil pass0 (pa_cons (pe_ix ix_tup (pv 0) pe_int (fun _ _ => rfl)) (pa_cons (pe_op op_sub (pe_callB call_len_seq (by rfl) T.len PySem.boot_len (pa_cons (pv 0) pa_nil)) pe_int) pa_nil))
    case q =>
      have ty := hv.ty
      have kt := kit_tup K d
      rcases tup_cases d with ⟨ds, rfl⟩ | no
      · refine ⟨_, rfl, _, _, _, _, true, rfl, .ty _, ty, kt, true, rfl, iteF ?_⟩
        cases hv with
        | @tup a xs _ hs hp =>
          have lx := hp.len
          cases hp with
          | nil => exact ⟨_, rfl, false, .inr (.inl ⟨_, hs, rfl⟩), iteT (iteT (k H (Same.refl _)))⟩
          | @cons x d0 xs ds0 h0 hp =>
            have hx : atI (x :: xs) ((0 : Nat) : Int) = some x := atI_nat rfl
            refine ⟨_, rfl, true, .inr (.inl ⟨_, hs, rfl⟩), iteF ⟨_, rfl, a, _, 0, x, rfl, rfl, hs, hx, x, d0, rfl, h0, ?_⟩⟩
            rcases str_cases d0 with ⟨y, rfl⟩ | no
            · obtain rfl : x = .str y := by
                cases h0 with
                | str _ h => rfl
              have eq : aloneD b (.tuple (.str y :: ds0)) = ((fewest y).isSome && (!(b && decide (y = "beside")) && rightNo y ds0.length)) := rfl
              rw [eq] at k
              cases hf : (fewest y).isSome with
              | false =>
                rw [hf] at k
                exact ⟨false, congrArg V.bl hf, iteT (k H (Same.refl _))⟩
              | true =>
                rw [hf] at k
                refine ⟨true, congrArg V.bl hf, iteF ⟨_, rfl, b, rfl, ?_⟩⟩
                have eb : decide (V.str y = V.str (Str.ofString "beside")) = decide (y = "beside") := by
                  by_cases h : y = "beside"
                  · rw [decide_eq_true h, decide_eq_true (by rw [h])]
                  · rw [decide_eq_false h, decide_eq_false (fun e => h (by injection e))]
                have num : (((V.str y :: xs).length : Nat) : Int) - 1 = (ds0.length : Nat) := by
                  have : (V.str y :: xs).length = ds0.length + 1 := lx
                  omega
                cases b with
                | false =>
                  refine iteF (iteF ⟨_, rfl, a, _, 0, _, rfl, rfl, hs, hx, _, rfl, a, _, rfl, .inr hs, _, _, rfl, rfl, y, _, rfl, hf, ?_⟩)
                  rw [num]
                  exact k H (Same.refl _)
                | true =>
                  refine iteT ⟨_, rfl, a, _, 0, _, rfl, rfl, hs, hx, rfl, decide (y = "beside"), congrArg V.bl eb, ?_⟩
                  cases hb : decide (y = "beside") with
                  | true =>
                    rw [hb] at k
                    exact iteT (k H (Same.refl _))
                  | false =>
                    rw [hb] at k
                    refine iteF ⟨_, rfl, a, _, 0, _, rfl, rfl, hs, hx, _, rfl, a, _, rfl, .inr hs, _, _, rfl, rfl, y, _, rfl, hf, ?_⟩
                    rw [num]
                    exact k H (Same.refl _)
            · have e0 : aloneD b (.tuple (d0 :: ds0)) = false := by
                cases d0 with
                | str x => cases no
                | _ => rfl
              rw [e0] at k
              exact ⟨false, congrArg V.bl (wopD_no no), iteT (k H (Same.refl _))⟩
      · rw [alone_no no] at k
        exact ⟨_, rfl, _, _, _, _, false, rfl, .ty _, ty, by rw [← no]; exact kt, false, rfl, iteT ⟨_, rfl, v, d, rfl, hv, fun H' s' => k H' s'⟩⟩
end
end Fp6
set_option Elab.async false
set_option linter.all false
set_option maxRecDepth 100000
set_option maxHeartbeats 8000000
/-! check_plan, is_plan -/
namespace Fp6
open PySem PySem.Spec PyProof.Rows L2 Fh Fs
open PySem.W (Frag)
abbrev FunCk (K : Frag) (f : Addr) (fd : FuncData) : Prop := FunD K "check_plan" "check_plan" (defArgs sCk) (defBody sCk) (defScope sCk) [.bl false] [] f fd
section
variable {P : Program} {w : World} {K : Frag} {mg : Str → Option Value} {base : Heap} {aF aM aD CE aE CP fP : Addr}
theorem ck_two {f : Addr} {fd : FuncData} (F : FunCk K f fd) : Binds K fd ["plan", "is_within"] [] := by
  obtain ⟨ds, hv, hb⟩ := FunD.binds1 (ps := ["plan", "is_within"]) F 2 1 (by simp) rfl (fun T kV doc pm an cdv ct us its hu hi => match us, its, hu, hi with | [_, _], [_], _, _ => ⟨_, rfl, rfl⟩)
  cases hv
  exact hb
theorem ck_one {f : Addr} {fd : FuncData} (F : FunCk K f fd) : ∃ ds, Vals [V.bl false] ds ∧ Binds K fd ["plan", "is_within"] ds :=
  FunD.binds1 (ps := ["plan", "is_within"]) F 1 0 (by simp) rfl (fun T kV doc pm an cdv ct us its hu hi => match us, its, hu, hi with | [_], [_], _, _ => ⟨_, rfl, rfl⟩)
/-- InvalidPlan of a value, or the end -/
def spCk (K : Frag) (CP : Addr) (n : Nat) : Sp := fun vs H Q E => ∃ v d b r, vs = [v, .bl b] ∧ Gd K H v d ∧ chk n b d = some r ∧ (r = none → ∀ H', Same H H' → Q .non H') ∧
  ∀ e, r = some e → ∀ v' dd H', Same H H' → Gd K H' v' e → H' dd = some (.xd [("value", v')]) → E (.ref CP) (some dd) H'
theorem scCk : FnScope ["plan", "is_within", "part"] ["plan", "is_within"] (defScope sCk) := ⟨rfl, rfl, rfl, by decide +kernel, rfl, by decide +kernel, by decide +kernel⟩
theorem step_ck {n kk : Nat} {sp' : Sp} {f aA aW aI aH : Addr} {fd fA fW fI fH : FuncData} (hk : 2 ≤ kk) (F : FunCk K f fd) (FA : Fun K "_is_right_alone" "_is_right_alone" sAl aA fA) (FW : Fun K "is_word" "is_word" sWord aW fW) (FI : Fun K "is_word_of_plans" "is_word_of_plans" sIwp aI fI) (FH : Fun K "has_right_number" "has_right_number" sHrn aH fH)
    (gF : mg "check_plan" = some (.ref f)) (gA : mg "_is_right_alone" = some (.ref aA)) (gW : mg "is_word" = some (.ref aW)) (gI : mg "is_word_of_plans" = some (.ref aI)) (gH : mg "has_right_number" = some (.ref aH)) (T : TxtR K mg w aF aM aD CE aE) (TK : TxtK mg) (TE : PySem.ErrP.ErrPxt K mg CP fP)
    (GC : FnOk P w K mg base (L2.CX P w) kk f fd ["plan", "is_within"] sp') (hs : ∀ j, n = j + 1 → sp' = spCk K CP j) : FnOk P w K mg base (L2.CX P w) (kk + 1) f fd ["plan", "is_within"] (spCk K CP n) := by
  have GA : FnOk P w K mg base CX0 2 aA fA ["value", "is_within"] (spAl K) := ok_al FA FW FI FH gW gI gH T TK
  have bA : Binds K fA ["value", "is_within"] [] := FA.binds (ps := ["value", "is_within"]) fun _ _ _ _ _ _ us hl => match us, hl with | [_, _], _ => rfl
  have bC : Binds K fd ["plan", "is_within"] [] := ck_two F
  refine FunD.ok F scCk (fun vs H Q E h => ?_) (fun cdv A outer s H vs Q E hr h => ?_)
  · obtain ⟨v, d, b, r, rfl, _⟩ := h
    rfl
  · obtain ⟨v, d, b, r, rfl, hv, er, k1, k2⟩ := h
    have hr2 : Room 2 _ := hr.mono hk
    have hr1 : Room 1 _ := hr.mono (by omega)
    refine' ⟨_, pss_cons ?s1 (pss_one ?s2), ?q⟩
    case s1 =>
      refine' ps_if (pt_not (pt_val ?a)) (pss_one (ps_raiseErrP rfl TE hr1 (takes_of rfl rfl rfl rfl) ?d)) pss_nil
      case a => exact pe_call GA hr2 rfl gA FA.kp bA .nil pass0 (pa_cons (pv 0) (pa_cons (pv 1) pa_nil))
      case d => exact pa_cons (pv 0) pa_nil
    case s2 =>
      refine' ps_if (pt_val ?a) (pss_one ?f) pss_nil
      case a => exact pe_callB call_isi (by rfl) T.isinstance (by decide +kernel) (pa_cons (pv 0) (pa_cons (pe_bltn (v := .ty "tuple") (by rfl) TK.tuple (by decide +kernel) rfl (by decide) (by decide)) pa_nil))
      case f =>
        refine' ps_for (passes_of rfl) rfl (pi_tup (pe_slice sl_tupA (pv 0) (po_some pe_int) po_none)) (pg_name (i := 2) scCk.nd rfl (Or.inl rfl)) (pss_one (ps_expr ?c))
        case c =>
          refine' pe_call GC hr rfl gF F.kp bC .nil (passes_call (takes_of rfl rfl rfl rfl) fun _ _ _ _ h => h) (pa_cons (pv 2) (pa_cons (pe_or (pv 1) (pe_one ?o)) pa_nil))
          case o => exact pe_cmpR op_eq (pe_ix ix_tup (pv 0) pe_int (fun _ _ => rfl)) pe_str (nomark _)
    case q =>
      cases n with
      | zero => cases er
      | succ n =>
      obtain rfl := hs n rfl
      have er2 : (if aloneD b d = false then some (some d) else chkP (chk n) b d) = some r := er
      clear er
      refine ⟨_, rfl, _, rfl, v, d, b, rfl, hv, fun H1 s1 => ?_⟩
      cases ea : aloneD b d with
      | false =>
        rw [if_pos ea] at er2
        exact ⟨_, rfl, iteT ⟨_, rfl, _, rfl, fun dd ndd => k2 d (Option.some.inj er2).symm v dd _ (s1.trans (Same.new ndd)) (hv.same (s1.trans (Same.new ndd))) upd_same⟩⟩
      | true =>
        rw [if_neg (by rw [ea]; exact fun z => nomatch z)] at er2
        have hv1 := hv.same s1
        have ty := hv1.ty
        have kt := kit_tup K d
        refine ⟨_, rfl, iteF ⟨_, rfl, _, _, _, _, isTup d, rfl, .ty _, ty, kt, _, rfl, ?_⟩⟩
        rcases tup_cases d with ⟨ds, rfl⟩ | no
        · refine iteT ?_
          cases hv1 with
          | @tup a xs _ hs hp =>
          cases hp with
          | nil => cases ea
          | @cons x d0 xs ds0 h0 hp =>
          rcases str_cases d0 with ⟨y, rfl⟩ | no
          · obtain rfl : x = .str y := by
              cases h0 with
              | str _ h => rfl
            have er3 : chks (chk n (b || decide (y = "beside"))) ds0 = some r := er2
            clear er2
            refine ⟨_, rfl, 1, rfl, a, _, rfl, hs, ?_, fun _ q nq => ?_⟩
            · rintro ⟨z, _⟩
              have z : min 1 (xs.length + 1) = 0 := z
              omega
            have cv : cutV (V.str y :: xs) (some 1) none = xs := by
              show ((V.str y :: xs).drop (min 1 (xs.length + 1))).take (xs.length + 1 - min 1 (xs.length + 1)) = xs
              rw [show min 1 (xs.length + 1) = 1 by omega, List.drop_one, List.tail_cons, List.take_of_length_le (by omega)]
            rw [cv]
            have sq : Same H1 (upd H1 q (.tup xs)) := Same.new nq
            have gq : (upd H1 q (.tup xs)) q = some (.tup xs) := upd_same
            generalize upd H1 q (.tup xs) = H2 at sq gq ⊢
            have eb : decide (V.str y = V.str (Str.ofString "beside")) = decide (y = "beside") := by
              by_cases h : y = "beside"
              · rw [decide_eq_true h, decide_eq_true (by rw [h])]
              · rw [decide_eq_false h, decide_eq_false (fun e => h (by injection e))]
            have hs2 := (KeepT.of sq).sqT hs
            have hp2 := hp.same sq
            have s2 := s1.trans sq
            have lx := hp.len
            clear sq hs hp s1 nq
            refine ⟨q, rfl, ⟨_, SqT.of gq⟩, ?_⟩
            refine for_it (walk_tup (K := K) (a := q) (xs := xs)) (fun i σ Hh => ∃ o, σ = [some (.ref a), some (.bl b), o] ∧ Same H2 Hh ∧ chks (chk n (b || decide (y = "beside"))) (ds0.drop i) = some r) ⟨none, rfl, Same.refl _, er3⟩ (fun i σ Hh _ ⟨_, _, z, _⟩ => SqT.of (z _ _ gq)) ?_ ?_
            · rintro i x σ Ha Hb hi ⟨o, rfl, sa, ec⟩ ⟨rfl, gx⟩
              have di : i < ds0.length := by omega
              have gd : ds0[i]? = some ds0[i] := List.getElem?_eq_getElem di
              have hx := (hp2.get gx gd).same sa
              rw [List.drop_eq_getElem_cons di] at ec
              generalize ds0[i] = di' at hx ec gd
              have ec2 : (match chk n (b || decide (y = "beside")) di' with | some none => chks (chk n (b || decide (y = "beside"))) (ds0.drop (i + 1)) | r => r) = some r := ec
              clear ec
              have arg : spCk K CP n [x, .bl (b || decide (y = "beside"))] Hb (fun _ H1 => ∃ o, [some (V.ref a), some (V.bl b), some x] = [some (V.ref a), some (V.bl b), o] ∧ Same H2 H1 ∧ chks (chk n (b || decide (y = "beside"))) (ds0.drop (i + 1)) = some r) E := by
                cases e1 : chk n (b || decide (y = "beside")) di' with
                | none => rw [e1] at ec2; cases ec2
                | some r' =>
                  rw [e1] at ec2
                  refine ⟨x, di', _, r', rfl, hx, e1, fun e H' s' => ?_, fun e ee v' dd H' s' gv hdd => ?_⟩
                  · subst e
                    exact ⟨_, rfl, sa.trans s', ec2⟩
                  · subst ee
                    exact k2 e (Option.some.inj ec2).symm v' dd H' (s2.trans (sa.trans s')) gv hdd
              refine ⟨_, rfl, _, rfl, b, rfl, ?_⟩
              cases b with
              | true => exact iteT arg
              | false =>
                refine iteF ⟨_, rfl, a, _, 0, _, rfl, rfl, (KeepT.of sa).sqT hs2, atI_nat rfl, rfl, ?_⟩
                rw [eb]
                exact arg
            · rintro σ Ha ⟨o, rfl, sa, ec⟩
              rw [lx, List.drop_length] at ec
              exact k1 (Option.some.inj ec).symm Ha (s2.trans sa)
          · exfalso
            cases d0 with
            | str x => cases no
            | _ => cases ea
        · rw [no]
          refine iteF (k1 ?_ H1 s1)
          cases d with
          | tuple _ => cases no
          | _ => exact (Option.some.inj er2).symm
/-- all that check_plan leans on -/
structure CkG (K : Frag) (mg : Str → Option Value) (w : World) (aF aM aD CE aE CP fP aC aA aW aI aH : Addr) (fC fA fW fI fH : FuncData) : Prop where
  T : TxtR K mg w aF aM aD CE aE
  TK : TxtK mg
  TE : PySem.ErrP.ErrPxt K mg CP fP
  FC : FunCk K aC fC
  FA : Fun K "_is_right_alone" "_is_right_alone" sAl aA fA
  FW : Fun K "is_word" "is_word" sWord aW fW
  FI : Fun K "is_word_of_plans" "is_word_of_plans" sIwp aI fI
  FH : Fun K "has_right_number" "has_right_number" sHrn aH fH
  gC : mg "check_plan" = some (.ref aC)
  gA : mg "_is_right_alone" = some (.ref aA)
  gW : mg "is_word" = some (.ref aW)
  gI : mg "is_word_of_plans" = some (.ref aI)
  gH : mg "has_right_number" = some (.ref aH)
variable {aC aA aW aI aH : Addr} {fC fA fW fI fH : FuncData}
theorem ok_ck (G : CkG K mg w aF aM aD CE aE CP fP aC aA aW aI aH fC fA fW fI fH) : ∀ n, FnOk P w K mg base (L2.CX P w) (n + 3) aC fC ["plan", "is_within"] (spCk K CP n)
  | 0 => by
    refine FunD.ok G.FC scCk (fun vs H Q E h => ?_) (fun cdv A outer s H vs Q E hr h => ?_)
    · obtain ⟨v, d, b, r, rfl, _⟩ := h
      rfl
    · obtain ⟨v, d, b, r, rfl, _, er, _⟩ := h
      cases er
  | n + 1 => step_ck (by omega) G.FC G.FA G.FW G.FI G.FH G.gC G.gA G.gW G.gI G.gH G.T G.TK G.TE (ok_ck G n) (fun j e => by cases e; rfl)
end
end Fp6
set_option Elab.async false
set_option linter.all false
set_option maxRecDepth 100000
set_option maxHeartbeats 4000000
/-! Y5d: the pen of k25, whose place stands under "place" (mkY5d.py) -/
namespace Fp6
open PySem PySem.Spec PyProof.Rows L2 Fh Fs
open PySem.W (Frag)
abbrev sPen : Stmt := top 89
abbrev sDraw : Stmt := top 90
abbrev sPick : Stmt := top 91
/-- a pen at p, its list at c; its place is at most n -/
structure PenAt (H : Hp) (p c : Addr) (n : Nat) : Prop where
  pc : p ≠ c
  ex : ∃ (cs : List Int) (spot rest : Int), H p = some (.dK [(Sum.inr "cells", .ref c), (Sum.inr "place", .int spot), (Sum.inr "rest", .int rest)]) ∧ H c = some (.lst (cs.map V.int)) ∧ cs.length ≤ 1000 ∧ 0 ≤ spot ∧ spot ≤ n
theorem PenAt.same {H H' : Hp} {p c : Addr} {n m : Nat} (s : Same H H') (h : PenAt H p c n) (hm : n ≤ m) : PenAt H' p c m := by
  obtain ⟨a, cs, spot, rest, h1, h2, h3, h4, h5⟩ := h
  exact ⟨a, cs, spot, rest, s _ _ h1, s _ _ h2, h3, h4, by omega⟩
def penKV (c : Addr) (s r : Int) : List (Key × V) := [(Sum.inr "cells", .ref c), (Sum.inr "place", .int s), (Sum.inr "rest", .int r)]
theorem pen_cells {c : Addr} {s r : Int} : valV (penKV c s r) (Sum.inr "cells" : Key) = some (.ref c) := by
  first
    | rfl
    | simp [penKV, valV]
theorem pen_spot {c : Addr} {s r : Int} : valV (penKV c s r) (Sum.inr "place" : Key) = some (.int s) := by
  first
    | rfl
    | simp [penKV, valV]
theorem pen_rest {c : Addr} {s r : Int} : valV (penKV c s r) (Sum.inr "rest" : Key) = some (.int r) := by
  first
    | rfl
    | simp [penKV, valV]
theorem put_spot {c : Addr} {s r z : Int} : putK (penKV c s r) (Sum.inr "place" : Key) (.int z) = penKV c z r := by
  first
    | rfl
    | simp [penKV, putK]
theorem put_rest {c : Addr} {s r z : Int} : putK (penKV c s r) (Sum.inr "rest" : Key) (.int z) = penKV c s z := by
  first
    | rfl
    | simp [penKV, putK]
/-- a pen stands at p, its list at c; its place is s, its rest r -/
structure PenS (H : Hp) (p c : Addr) (cs : List Int) (s r : Int) : Prop where
  pc : p ≠ c
  hp : H p = some (.dK (penKV c s r))
  hc : H c = some (.lst (cs.map V.int))
  hl : cs.length ≤ 1000
theorem PenAt.open {H : Hp} {p c : Addr} {n : Nat} (h : PenAt H p c n) : ∃ cs s r, PenS H p c cs s r ∧ 0 ≤ s ∧ s ≤ n := by
  obtain ⟨a, cs, s, r, h1, h2, h3, h4, h5⟩ := h
  exact ⟨cs, s, r, ⟨a, h1, h2, h3⟩, h4, h5⟩
theorem PenS.at_ {H : Hp} {p c : Addr} {cs : List Int} {s r : Int} {n : Nat} (h : PenS H p c cs s r) (h0 : 0 ≤ s) (h1 : s ≤ n) : PenAt H p c n := ⟨h.pc, cs, s, r, h.hp, h.hc, h.hl, h0, h1⟩
theorem PenS.put {H : Hp} {p c : Addr} {cs : List Int} {s r s' r' : Int} (h : PenS H p c cs s r) : PenS (upd H p (.dK (penKV c s' r'))) p c cs s' r' :=
  ⟨h.pc, upd_same, by rw [upd_ne (Ne.symm h.pc)]; exact h.hc, h.hl⟩
theorem PenS.same {H H' : Hp} {p c : Addr} {cs : List Int} {s r : Int} (h : PenS H p c cs s r) (z : Same H H') : PenS H' p c cs s r := ⟨h.pc, z _ _ h.hp, z _ _ h.hc, h.hl⟩
section
variable {X : Cx} {o i : Expr} {x : Str} {p1 p2 p3 : Pos} {a k : Nat}
/-- pen['rest'], pen['spot'], pen['cells']: the pen's name stands in the slot k -/
def tPenV (g : Addr → Int → Int → V) (k : Nat) : TE := fun σ H Q => ∃ p c cs s r, σ[k]? = some (some (V.ref p)) ∧ PenS H p c cs s r ∧ Q (g c s r) H
theorem pe_rest (hu : X.A.units + 1 < cLine) (ho : PE X o (tVar k)) : PE X (.Subscript o (.Constant (.str "rest") a p2) p3) (tPenV (fun _ _ r => .int r) k) :=
  PE.imp (pe_dget hu ho pe_str (fun _ _ => rfl)) fun σ H Q ⟨p, c, cs, s, r, h1, h2, q⟩ => ⟨_, h1, p, _, rfl, by rw [← pen_rest (c := c) (s := s) (r := r)]; exact DGet.k (k := Sum.inr "rest") h2.hp, q⟩
theorem pe_spot (hu : X.A.units + 1 < cLine) (ho : PE X o (tVar k)) : PE X (.Subscript o (.Constant (.str "place") a p2) p3) (tPenV (fun _ s _ => .int s) k) :=
  PE.imp (pe_dget hu ho pe_str (fun _ _ => rfl)) fun σ H Q ⟨p, c, cs, s, r, h1, h2, q⟩ => ⟨_, h1, p, _, rfl, by rw [← pen_spot (c := c) (s := s) (r := r)]; exact DGet.k (k := Sum.inr "place") h2.hp, q⟩
theorem pe_cells (hu : X.A.units + 1 < cLine) (ho : PE X o (tVar k)) : PE X (.Subscript o (.Constant (.str "cells") a p2) p3) (tPenV (fun c _ _ => .ref c) k) :=
  PE.imp (pe_dget hu ho pe_str (fun _ _ => rfl)) fun σ H Q ⟨p, c, cs, s, r, h1, h2, q⟩ => ⟨_, h1, p, _, rfl, by rw [← pen_cells (c := c) (s := s) (r := r)]; exact DGet.k (k := Sum.inr "cells") h2.hp, q⟩
end
def tCellIf : TS := fun D σ H => ∃ (p c : Addr) (cs : List Int) (z y re sz : Int) (m : V) (dg mx : Option V), σ = [some (.ref p), some m, dg, some (.int z), some (.int y), mx] ∧ PenS H p c cs sz re ∧ 0 ≤ z ∧
  ∀ (cell : Int) (H' : Hp), Same H H' → D.nx [some (.ref p), some m, dg, some (.int z), some (.int cell), mx] H'
/-! ### what a draw promises -/
def spDraw : Sp := fun vs H Q _ => ∃ (p c : Addr) (n : Nat) (m : Int), vs = [.ref p, .int m] ∧ PenAt H p c n ∧ n ≤ 1000000 ∧ 1 ≤ m ∧ m ≤ 1000000 ∧
  ∀ (k : Int) (H' : Hp), 0 ≤ k → k < m → PenAt H' p c (n + 1) → But p H H' → Q (.int k) H'
/-- items[draw]: an item of a list -/
def spPick (K : Frag) : Sp := fun vs H Q _ => ∃ (p c : Addr) (n : Nat) (l : Addr) (xs : List V), vs = [.ref p, .ref l] ∧ PenAt H p c n ∧ n ≤ 1000000 ∧ H l = some (.lst xs) ∧ 1 ≤ xs.length ∧ xs.length ≤ 1000 ∧
  ∀ (i : Nat) (x : V) (H' : Hp), xs[i]? = some x → PenAt H' p c (n + 1) → But p H H' → Q x H'
/-- the script's pen -/
def spPen (K : Frag) : Sp := fun vs H Q _ => ∃ (a : Addr) (ns : List Int), vs = [.ref a] ∧ SqL K H a (ns.map V.int) ∧ ns.length ≤ 63 ∧
  ∀ (p c : Addr) (H' : Hp), Same H H' → H p = none → PenAt H' p c 0 → Q (.ref p) H'
theorem pen_off {H : Hp} {p c D : Addr} {n : Nat} {o : HO} (h : PenAt H p c n) (h1 : D ≠ p) (h2 : D ≠ c) : PenAt (upd H D o) p c n := by
  obtain ⟨cs, s, r, S, s0, s1⟩ := h.open
  exact PenS.at_ ⟨S.pc, by rw [upd_ne (Ne.symm h1)]; exact S.hp, by rw [upd_ne (Ne.symm h2)]; exact S.hc, S.hl⟩ s0 s1
theorem pen_apart {H H' : Hp} {p c D : Addr} {n : Nat} (h : PenAt H p c n) (sm : Same H H') (hD : H' D = none) : D ≠ p ∧ D ≠ c := by
  obtain ⟨cs, s, r, S, _, _⟩ := h.open
  constructor
  · intro e
    rw [e, sm _ _ S.hp] at hD
    cases hD
  · intro e
    rw [e, sm _ _ S.hc] at hD
    cases hD
structure TxtP (mg : Str → Option Value) : Prop where
  list : mg "list" = none
  int : mg "int" = none
  len : mg "len" = none
section
variable {P : Program} {w : World} {K : Frag} {mg : Str → Option Value} {base : Heap}
theorem scPen : FnScope ["_law_script"] ["_law_script"] (defScope sPen) := ⟨rfl, rfl, rfl, by decide +kernel, rfl, by decide +kernel, by decide +kernel⟩
theorem ok_pen {f : Addr} {fd : FuncData} (F : Fun K "_law_pen" "_law_pen" sPen f fd) (T : TxtP mg) : FnOk P w K mg base CX0 1 f fd ["_law_script"] (spPen K) := by
  refine F.ok scPen (fun vs H Q E h => ?_) (fun cdv A outer s H vs Q E hr h => ?_)
  · obtain ⟨a, ns, rfl, _⟩ := h
    rfl
  · obtain ⟨a, ns, rfl, hS, hn, k⟩ := h
    refine ⟨_, pss_one (ps_ret (pe_disp (pps_cons pe_str (pe_callTy call_list_of (by rfl) T.list (by decide +kernel) (pa_cons (pe_slice sl_list (pv 0) po_none (po_some pe_int)) pa_nil))
      (pps_cons pe_str pe_int (pps_cons pe_str pe_int pps_nil))) (by rfl) (by rfl) (fun z => by cases z) (by decide))), ?_⟩
    intro p np
    obtain ⟨ms, em, lm⟩ := cut_ints ns none (some 63)
    refine ⟨.ref a, rfl, 63, rfl, a, ns.map V.int, rfl, (Same.new np).seq hS, fun q nq => ?_⟩
    have pq : p ≠ q := fun z => by
      rw [← z, upd_same] at nq
      exact nomatch nq
    have hq : H q = none := by
      rw [upd_ne (Ne.symm pq)] at nq
      exact nq
    refine ⟨q, _, rfl, Or.inl (SqL.of upd_same), fun c nc => ?_⟩
    have pc : p ≠ c := fun z => by
      rw [← z, upd_ne pq, upd_same] at nc
      exact nomatch nc
    have qc : q ≠ c := fun z => by
      rw [← z, upd_same] at nc
      exact nomatch nc
    have hc : H c = none := by
      rw [upd_ne (Ne.symm qc), upd_ne (Ne.symm pc)] at nc
      exact nc
    refine ⟨by rw [upd_ne pc, upd_ne pq, upd_same], penKV c 0 0, rfl, (show 3 ≤ 15 by decide), ?_⟩
    refine k p c _ (fun b u z => ?_) np ⟨pc, ms, 0, 0, upd_same, ?_, by omega, by omega, by omega⟩
    · rw [upd_ne (ne_of_none z np), upd_ne (ne_of_none z hc), upd_ne (ne_of_none z hq), upd_ne (ne_of_none z np)]
      exact z
    · rw [upd_ne (Ne.symm pc), upd_same, em]
theorem scDraw : FnScope ["_law_pen_here", "_law_number", "_law_digit", "_law_at", "_law_cell", "_law_mixed"] ["_law_pen_here", "_law_number"] (defScope sDraw) := ⟨rfl, rfl, rfl, by decide +kernel, rfl, by decide +kernel, by decide +kernel⟩
theorem ok_draw {f : Addr} {fd : FuncData} (F : Fun K "_law_draw" "_law_draw" sDraw f fd) (T : TxtP mg) : FnOk P w K mg base CX0 1 f fd ["_law_pen_here", "_law_number"] spDraw := by
  refine F.ok scDraw (fun vs H Q E h => ?_) (fun cdv A outer s H vs Q E hr h => ?_)
  · obtain ⟨p, c, n, m, rfl, _⟩ := h
    rfl
  · obtain ⟨p, c, n, m, rfl, hP, hn, hm, hM, k⟩ := h
    obtain ⟨cs, sp, re, S, s0, s1⟩ := hP.open
    have hu := hu_of hr
    have hu64 := hr.units
    have nc := S.pc
    refine ⟨_, pss_cons (ps_if (pt_cmpR op_ge (pe_rest hu (pv 0)) (pv 1) (nomark _))
        (pss_cons (ps_set (i := 2) scDraw.nd rfl (Or.inl rfl) (pe_op op_modN (pe_callTy call_int1 (by rfl) T.int (by decide +kernel) (pa_cons (pe_rest hu (pv 0)) pa_nil)) (pv 1)))
        (pss_cons (ps_dput hu (pv 0) pe_str (pe_op op_fdivN (pe_rest hu (pv 0)) (pv 1)) rfl)
        (pss_one (ps_ret (pv 2))))) pss_nil)
      (pss_cons (ps_set (i := 3) scDraw.nd rfl (Or.inl rfl) (pe_spot hu (pv 0)))
      (pss_cons (ps_dput hu (pv 0) pe_str (pe_op op_add (pv 3) pe_int) rfl)
      (pss_cons (ps_set (i := 4) scDraw.nd rfl (Or.inl rfl) (pe_op op_add (pe_op op_mul pe_int (pv 3)) pe_int))
      (pss_cons (PS.imp (t' := tCellIf) (ps_if (pt_cmpR (op_neD hu64) (pe_cells hu (pv 0)) (pe_lst pa_nil) (nomark _))
        (pss_one (ps_set (i := 4) scDraw.nd rfl (Or.inl rfl) (pe_ix ix_list (pe_cells hu (pv 0)) (pe_op op_modN (pe_callTy call_int1 (by rfl) T.int (by decide +kernel) (pa_cons (pv 3) pa_nil)) (pe_callB call_len_seq (by rfl) T.len PySem.boot_len (pa_cons (pe_cells hu (pv 0)) pa_nil))) (fun _ _ => rfl)))) pss_nil) (fun D σ H2 ⟨p, c, cs, z, y, re, sz, m, dg, mx, es, S, z0, q⟩ => by
          subst es
          refine ⟨p, c, cs, sz, re, rfl, S, (Nat.zero_le _), fun q1 n1 => ?_⟩
          have S1 := S.same (Same.new (o := .lst []) n1)
          refine ⟨_, _, Dp.lst (SqL.of S1.hc) (dp_ints cs), Dp.lst (SqL.of upd_same) .nil, shaped_ints cs, by decide +kernel, _, rfl, ?_⟩
          cases cs with
          | nil => exact iteF (q y _ (Same.new n1))
          | cons c0 cr =>
            refine iteT ?_
            have pos : (0 : Int) < ((c0 :: cr : List Int).length : Int) := by
              rw [List.length_cons]
              omega
            have i0 : 0 ≤ z.fmod ((c0 :: cr : List Int).length : Int) := Int.fmod_nonneg_of_pos z pos
            have i1 : z.fmod ((c0 :: cr : List Int).length : Int) < ((c0 :: cr : List Int).length : Int) := Int.fmod_lt_of_pos z pos
            obtain ⟨j, ej⟩ := Int.eq_ofNat_of_zero_le i0
            have hj : j < (c0 :: cr : List Int).length := by omega
            refine ⟨p, c, c0 :: cr, sz, re, rfl, S1, _, rfl, Or.inl ⟨_, rfl, p, c, c0 :: cr, sz, re, rfl, S1, c, _, rfl, Or.inl (SqL.of S1.hc), _, _, rfl, rfl, ?_, ?_⟩⟩
            · rw [List.length_map]
              omega
            · refine ⟨c, _, _, .int ((c0 :: cr : List Int)[j]'hj), rfl, rfl, SqL.of S1.hc, ?_, q _ _ (Same.new n1)⟩
              rw [List.length_map, ej]
              exact atI_nat (int_map_get hj)))
      (pss_cons (ps_if (PW.pt (pw_and (pt_cmpR op_lt (pv 3) (pe_callB call_len_seq (by rfl) T.len PySem.boot_len (pa_cons (pe_cells hu (pv 0)) pa_nil)) (nomark _)) (pw_and1 (pt_cmpR op_ge (pv 4) (pe_op op_pow pe_int pe_int) (nomark _)))))
        (pss_cons (ps_dput hu (pv 0) pe_str (pe_op op_fdivN (pe_op op_sub (pv 4) (pe_op op_pow pe_int pe_int)) (pv 1)) rfl)
        (pss_one (ps_ret (pe_op op_modN (pe_callTy call_int1 (by rfl) T.int (by decide +kernel) (pa_cons (pe_op op_sub (pv 4) (pe_op op_pow pe_int pe_int)) pa_nil)) (pv 1))))) pss_nil)
      (pss_cons (ps_set (i := 5) scDraw.nd rfl (Or.inl rfl) (pe_op op_modN (pe_callTy call_int1 (by rfl) T.int (by decide +kernel) (pa_cons (pe_op op_add (pe_op op_add (pe_op op_add (pe_op op_mul (pe_op op_modN (pe_callTy call_int1 (by rfl) T.int (by decide +kernel) (pa_cons (pv 4) pa_nil)) pe_int) pe_int) (pe_op op_mul (pe_op op_mul pe_int (pv 3)) (pv 3))) (pe_op op_mul pe_int (pv 3))) pe_int) pa_nil)) pe_int))
      (pss_cons (ps_set (i := 5) scDraw.nd rfl (Or.inl rfl) (pe_op op_modN (pe_callTy call_int1 (by rfl) T.int (by decide +kernel) (pa_cons (pe_op op_add (pe_op op_mul (pv 5) (pe_op op_add (pv 5) pe_int)) (pe_op op_mul pe_int (pv 3))) pa_nil)) pe_int))
      (pss_one (ps_ret (pe_op op_modN (pe_callTy call_int1 (by rfl) T.int (by decide +kernel) (pa_cons (pe_op op_fdivN (pe_op op_modN (pe_callTy call_int1 (by rfl) T.int (by decide +kernel) (pa_cons (pe_op op_add (pe_op op_mul (pv 5) (pv 5)) (pe_op op_mul pe_int (pv 5))) pa_nil)) pe_int) pe_int) pa_nil)) (pv 1))))))))))), ?_⟩
    have modLo : ∀ z : Int, 0 ≤ z.fmod m := fun z => Int.fmod_nonneg_of_pos z (by omega)
    have modHi : ∀ z : Int, z.fmod m < m := fun z => Int.fmod_lt_of_pos z (by omega)
    have mm : m ≠ 0 := by omega
    have mq : m ≠ 0 ∧ m.natAbs < 1073741824 := ⟨mm, by omega⟩
    -- if pen['rest'] >= size
    refine ⟨p, c, cs, sp, re, rfl, S, _, rfl, _, _, rfl, rfl, _, rfl, ?_⟩
    refine ite2 (fun _ => ?_) (fun _ => ?_)
    · refine ⟨p, c, cs, sp, re, rfl, S, Or.inl ⟨_, rfl, _, rfl, _, _, rfl, rfl, mm, ?_⟩⟩
      refine ⟨p, c, cs, sp, re, rfl, S, _, rfl, _, _, rfl, rfl, mq, _, rfl, p, _, rfl, DPut.k (k := Sum.inr "rest") S.hp (by show 3 < sizeLine; decide), ?_⟩
      rw [put_rest]
      refine ⟨_, rfl, k _ _ (modLo _) (modHi _) (S.put.at_ s0 (by omega)) (But.refl p H).upd⟩
    -- spot = pen['spot']; pen['spot'] = spot + 1; cell = 67 * spot + 41
    refine ⟨p, c, cs, sp, re, rfl, S, ?_⟩
    refine ⟨_, rfl, _, _, rfl, rfl, _, rfl, p, _, rfl, DPut.k (k := Sum.inr "place") S.hp (by show 3 < sizeLine; decide), ?_⟩
    rw [put_spot]
    have S1 : PenS (upd H p (.dK (penKV c (sp + 1) re))) p c cs (sp + 1) re := S.put
    have B1 : But p H (upd H p (.dK (penKV c (sp + 1) re))) := (But.refl p H).upd
    generalize upd H p (.dK (penKV c (sp + 1) re)) = H1 at S1 B1 ⊢
    refine ⟨_, rfl, _, _, rfl, rfl, Or.inl (by omega), _, _, rfl, rfl, ?_⟩
    refine ⟨p, c, cs, sp, _, re, sp + 1, _, _, _, rfl, S1, s0, fun cell H2 z2 => ?_⟩
    have S2 := S1.same z2
    have B2 : But p H H2 := B1.trans (But.of z2)
    -- if spot < len(cells) and cell >= 10 ** 18
    refine ⟨_, rfl, p, c, cs, sp + 1, re, rfl, S2, c, _, rfl, Or.inl (SqL.of S2.hc), _, _, rfl, rfl, _, rfl, ?_⟩
    refine ite2 (fun _ => ?_) (fun _ => ?_)
    · refine ⟨_, rfl, _, _, rfl, rfl, ⟨by decide, by decide, by decide⟩, _, _, rfl, rfl, _, rfl, ?_⟩
      refine ite2 (fun _ => ?_) (fun _ => ?_)
      · refine ⟨_, rfl, _, _, rfl, rfl, ⟨by decide, by decide, by decide⟩, _, _, rfl, rfl, _, rfl, _, _, rfl, rfl, mq, _, rfl, p, _, rfl, DPut.k (k := Sum.inr "rest") S2.hp (by show 3 < sizeLine; decide), ?_⟩
        rw [put_rest]
        refine ⟨_, rfl, _, _, rfl, rfl, ⟨by decide, by decide, by decide⟩, _, _, rfl, rfl, Or.inl ⟨_, rfl, _, rfl, _, _, rfl, rfl, mm, ?_⟩⟩
        exact k _ _ (modLo _) (modHi _) (S2.put.at_ (by omega) (by omega)) B2.upd
      · refine ⟨_, rfl, Or.inl ⟨_, rfl, _, _, rfl, rfl, (show (2147483543 : Int) ≠ 0 by decide), _, _, rfl, rfl, Or.inl ?_, _, rfl, _, _, rfl, rfl, Or.inl ⟨by decide, by decide⟩, _, rfl, _, _, rfl, rfl, Or.inl ?_, _, _, rfl, rfl, _, rfl, _, _, rfl, rfl, Or.inl ⟨by decide, by decide⟩, _, _, rfl, rfl, _, _, rfl, rfl, Or.inl ⟨_, rfl, _, _, rfl, rfl, (show (2147483477 : Int) ≠ 0 by decide), ?_⟩⟩⟩
        · exact fm_lo _ _ (by decide) (by decide)
        · omega
        refine ⟨_, rfl, _, rfl, _, _, rfl, rfl, _, _, rfl, rfl, Or.inl ?_, _, rfl, _, _, rfl, rfl, Or.inl ⟨by decide, by decide⟩, _, _, rfl, rfl, Or.inl ⟨_, rfl, _, _, rfl, rfl, (show (2147483423 : Int) ≠ 0 by decide), ?_⟩⟩
        · exact fm_lo _ _ (by decide) (by decide)
        refine ⟨_, rfl, _, rfl, _, _, rfl, rfl, Or.inl ?_, _, rfl, _, _, rfl, rfl, Or.inl ⟨by decide, by decide⟩, _, _, rfl, rfl, Or.inl ⟨_, rfl, _, _, rfl, rfl, (show (2147483399 : Int) ≠ 0 by decide), _, _, rfl, rfl, ⟨by decide, by decide⟩, Or.inl ⟨_, rfl, _, rfl, _, _, rfl, rfl, mm, ?_⟩⟩⟩
        · exact fm_lo _ _ (by decide) (by decide)
        exact k _ _ (modLo _) (modHi _) (S2.at_ (by omega) (by omega)) B2
    · refine iteF ?_
      refine ⟨_, rfl, Or.inl ⟨_, rfl, _, _, rfl, rfl, (show (2147483543 : Int) ≠ 0 by decide), _, _, rfl, rfl, Or.inl ?_, _, rfl, _, _, rfl, rfl, Or.inl ⟨by decide, by decide⟩, _, rfl, _, _, rfl, rfl, Or.inl ?_, _, _, rfl, rfl, _, rfl, _, _, rfl, rfl, Or.inl ⟨by decide, by decide⟩, _, _, rfl, rfl, _, _, rfl, rfl, Or.inl ⟨_, rfl, _, _, rfl, rfl, (show (2147483477 : Int) ≠ 0 by decide), ?_⟩⟩⟩
      · exact fm_lo _ _ (by decide) (by decide)
      · omega
      refine ⟨_, rfl, _, rfl, _, _, rfl, rfl, _, _, rfl, rfl, Or.inl ?_, _, rfl, _, _, rfl, rfl, Or.inl ⟨by decide, by decide⟩, _, _, rfl, rfl, Or.inl ⟨_, rfl, _, _, rfl, rfl, (show (2147483423 : Int) ≠ 0 by decide), ?_⟩⟩
      · exact fm_lo _ _ (by decide) (by decide)
      refine ⟨_, rfl, _, rfl, _, _, rfl, rfl, Or.inl ?_, _, rfl, _, _, rfl, rfl, Or.inl ⟨by decide, by decide⟩, _, _, rfl, rfl, Or.inl ⟨_, rfl, _, _, rfl, rfl, (show (2147483399 : Int) ≠ 0 by decide), _, _, rfl, rfl, ⟨by decide, by decide⟩, Or.inl ⟨_, rfl, _, rfl, _, _, rfl, rfl, mm, ?_⟩⟩⟩
      · exact fm_lo _ _ (by decide) (by decide)
      exact k _ _ (modLo _) (modHi _) (S2.at_ (by omega) (by omega)) B2
theorem scPick : FnScope ["_law_pen_here", "_law_items"] ["_law_pen_here", "_law_items"] (defScope sPick) := ⟨rfl, rfl, rfl, by decide +kernel, rfl, by decide +kernel, by decide +kernel⟩
theorem ok_pick {f fD : Addr} {fd fdD : FuncData} (F : Fun K "_law_pick" "_law_pick" sPick f fd) (FD : Fun K "_law_draw" "_law_draw" sDraw fD fdD) (T : TxtP mg) (gD : mg "_law_draw" = some (.ref fD)) : FnOk P w K mg base CX0 2 f fd ["_law_pen_here", "_law_items"] (spPick K) := by
  have GD : FnOk P w K mg base CX0 1 fD fdD ["_law_pen_here", "_law_number"] spDraw := ok_draw FD T
  have bD : Binds K fdD ["_law_pen_here", "_law_number"] [] := FD.binds (ps := ["_law_pen_here", "_law_number"]) fun _ _ _ _ _ _ us hl => match us, hl with | [_, _], _ => rfl
  refine F.ok scPick (fun vs H Q E h => ?_) (fun cdv A outer s H vs Q E hr h => ?_)
  · obtain ⟨p, c, n, l, xs, rfl, _⟩ := h
    rfl
  · obtain ⟨p, c, n, l, xs, rfl, hP, hn, hx, h1, h2, k⟩ := h
    refine ⟨_, pss_one (ps_ret (pe_ix ix_list (pv 1) (pe_call GD hr rfl gD FD.kp bD .nil pass0 (pa_cons (pv 0) (pa_cons (pe_callB call_len_seq (by rfl) T.len PySem.boot_len (pa_cons (pv 1) pa_nil)) pa_nil))) (fun _ _ => rfl))), ?_⟩
    refine ⟨_, rfl, _, rfl, _, rfl, l, xs, rfl, Or.inl (SqL.of hx), p, c, n, _, rfl, hP, hn, by omega, by omega, fun z H' z0 z1 P' B' => ?_⟩
    obtain ⟨j, ej⟩ := Int.eq_ofNat_of_zero_le z0
    have hj : j < xs.length := by omega
    have lp : l ≠ p := fun e => by
      obtain ⟨cs, sp, re, S, _⟩ := hP.open
      rw [e, S.hp] at hx
      exact nomatch hx
    have g : xs[j]? = some (xs[j]'hj) := List.getElem?_eq_getElem hj
    refine ⟨l, xs, _, _, rfl, rfl, SqL.of (B' l _ lp hx), (show atI xs z = some (xs[j]'hj) by rw [ej]; exact atI_nat g), k j _ H' g P' B'⟩
end
end Fp6
set_option Elab.async false
set_option linter.all false
set_option maxRecDepth 100000
set_option maxHeartbeats 4000000
set_option Elab.async false
set_option linter.all false
set_option maxRecDepth 100000
set_option maxHeartbeats 4000000
namespace Fp6
open PySem PySem.Spec PyProof.Rows L2 Fh Fs
open PySem.W (Frag)
/-! ### data that stay where all but some stays -/
def Off (N : Addr → Prop) (H H' : Hp) : Prop := ∀ b o, ¬ N b → H b = some o → H' b = some o
theorem Off.trans {N : Addr → Prop} {H H1 H2 : Hp} (a : Off N H H1) (b : Off N H1 H2) : Off N H H2 := fun x o n h => b x o n (a x o n h)
theorem Off.of {N : Addr → Prop} {H H1 : Hp} (a : Same H H1) : Off N H H1 := fun x o _ h => a x o h
theorem Off.but {N : Addr → Prop} {p : Addr} {H H1 : Hp} (hp : N p) (a : But p H H1) : Off N H H1 := fun x o n h => a x o (fun e => n (e ▸ hp)) h
/-- the names in a plan -/
def namesIn (rec : PyData → List Str) : PyData → List Str
  | .str y => [y]
  | .tuple (_ :: ds) => ds.flatMap rec
  | _ => []
def namesF : Nat → PyData → List Str
  | 0, .str y => [y]
  | 0, _ => []
  | n + 1, d => namesIn (namesF n) d
theorem names_str (n : Nat) (y : Str) : namesF n (.str y) = [y] := by cases n <;> rfl
theorem names_nd (n : Nat) (y : PyData) (ds : List PyData) : namesF (n + 1) (.tuple (y :: ds)) = ds.flatMap (namesF n) := rfl
/-- as many names as room was taken -/
def Took (n : Nat) (d : PyData) (m m' : Int) : Prop := ((namesF (n + 1) d).length : Int) = m - m' ∧ (0 ≤ m → 0 ≤ m')
def TookL (n : Nat) (ds : List PyData) (m m' : Int) : Prop := ((ds.flatMap (namesF n)).length : Int) = m - m' ∧ (0 ≤ m → 0 ≤ m')
theorem TookL.snoc {n : Nat} {ds : List PyData} {d : PyData} {m m1 m2 : Int} (a : TookL (n + 1) ds m m1) (b : Took n d m1 m2) : TookL (n + 1) (ds ++ [d]) m m2 := by
  refine ⟨?_, fun h => b.2 (a.2 h)⟩
  have e : (ds ++ [d]).flatMap (namesF (n + 1)) = ds.flatMap (namesF (n + 1)) ++ namesF (n + 1) d := by
    rw [List.flatMap_append]
    show _ ++ (namesF (n + 1) d ++ []) = _
    rw [List.append_nil]
  rw [e, List.length_append]
  have := a.1
  have := b.1
  omega
theorem TookL.nil {n : Nat} {m : Int} : TookL n [] m m := ⟨show (0 : Int) = m - m by omega, fun h => h⟩
theorem tNext_go {D : Ends} {σ : L2.St} {H : Hp} (h : D.nx σ H) : tNext D σ H := h
theorem or_b {b : Bool} {y : Str} (h : y ≠ "beside") : (b || decide (y = "beside")) = b := by rw [decide_eq_false h, Bool.or_false]
theorem and_b {b : Bool} {y : Str} (h : y ≠ "beside") : (b && decide (y = "beside")) = false := by rw [decide_eq_false h, Bool.and_false]
end Fp6
set_option Elab.async false
set_option linter.all false
set_option maxRecDepth 100000
set_option maxHeartbeats 4000000
namespace Fp6
open PySem PySem.Spec PyProof.Rows L2 Fh Fs
open PySem.W (Frag)
theorem word_six {y : Str} {m : Int} (h : rightNo y m = true) : y.length ≤ 6 := by
  unfold rightNo fewest at h
  by_cases h1 : y = "then"
  · rw [h1]; decide +kernel
  by_cases h2 : y = "either"
  · rw [h2]; decide +kernel
  by_cases h3 : y = "any"
  · rw [h3]; decide +kernel
  by_cases h4 : y = "again"
  · rw [h4]; decide +kernel
  by_cases h5 : y = "beside"
  · rw [h5]; decide +kernel
  rw [if_neg h1, if_neg h2, if_neg h3, if_neg h4, if_neg h5] at h
  cases h
end Fp6
set_option Elab.async false
set_option linter.all false
set_option maxRecDepth 100000
set_option maxHeartbeats 8000000
/-! text_of, plan_text; right plans -/
namespace Fp6
open PySem PySem.Spec PyProof.Rows L2 Fh Fs
open PySem.W (Frag)
/-- a right plan, n levels at most -/
inductive Rt : Nat → Bool → PyData → Prop where
  | nm {n : Nat} {b : Bool} {y : Str} : wordB y = true → Rt n b (.str y)
  | nd {n : Nat} {b : Bool} {y : Str} {ds : List PyData} : rightNo y ds.length = true → (b && decide (y = "beside")) = false → (∀ d ∈ ds, Rt n (b || decide (y = "beside")) d) → Rt (n + 1) b (.tuple (.str y :: ds))
theorem right_some {y : Str} {m : Int} (h : rightNo y m = true) : (fewest y).isSome = true := by
  unfold rightNo at h
  cases e : fewest y with
  | none => rw [e] at h; cases h
  | some i => rfl
theorem chks_right {rec : PyData → Option (Option PyData)} : ∀ {ds : List PyData}, (∀ d ∈ ds, rec d = some none) → chks rec ds = some none
  | [], _ => rfl
  | d :: ds, h => by
    show (match rec d with | some none => chks rec ds | r => r) = some none
    rw [h d List.mem_cons_self]
    exact chks_right fun e he => h e (List.mem_cons_of_mem _ he)
theorem rt_chk {n : Nat} {b : Bool} {d : PyData} (h : Rt n b d) : chk (n + 1) b d = some none := by
  induction h with
  | nm h =>
    show (if aloneD _ (.str _) = false then _ else some none) = some none
    rw [if_neg]
    rw [alone_no rfl]
    show ¬ wordB _ = false
    rw [h]
    exact fun z => nomatch z
  | @nd n b y ds h1 h2 h3 ih =>
    show (if aloneD b (.tuple (.str y :: ds)) = false then _ else chks (chk (n + 1) (b || decide (y = "beside"))) ds) = some none
    have e : aloneD b (.tuple (.str y :: ds)) = true := by
      show ((fewest y).isSome && (!(b && decide (y = "beside")) && rightNo y ds.length)) = true
      rw [right_some h1, h2, h1]
      rfl
    rw [if_neg (by rw [e]; exact fun z => nomatch z)]
    exact chks_right ih
theorem Rt.short {n : Nat} {b : Bool} {d : PyData} (h : Rt n b d) : strsShort d := by
  induction h with
  | @nm n b y h =>
    show y.length ≤ 1000
    unfold wordB at h
    rw [Bool.and_eq_true, Bool.and_eq_true, decide_eq_true_eq, decide_eq_true_eq] at h
    omega
  | @nd n b y ds h1 h2 h3 ih =>
    refine ⟨?_, ?_⟩
    · have := word_six h1
      show y.length ≤ 1000
      omega
    · clear h1 h3
      induction ds with
      | nil => exact True.intro
      | cons d ds ihd => exact ⟨ih d List.mem_cons_self, ihd fun e he => ih e (List.mem_cons_of_mem _ he)⟩
theorem Rt.up {n m : Nat} {b : Bool} {d : PyData} (h : Rt n b d) (le : n ≤ m) : Rt m b d := by
  induction h generalizing m with
  | nm h => exact .nm h
  | @nd n b y ds h1 h2 h3 ih =>
    obtain ⟨k, rfl⟩ : ∃ k, m = k + 1 := ⟨m - 1, by omega⟩
    exact .nd h1 h2 fun d hd => ih d hd (by omega)
/-! ### lengths -/
end Fp6
set_option Elab.async false
set_option linter.all false
set_option maxRecDepth 100000
set_option maxHeartbeats 4000000
/-! FzD: xs.extend(t) of a tuple t -/
namespace Fs
open PySem PySem.Spec PyProof.Rows L2 Fh
open PySem.W (Frag)
theorem ext_tup (L T : Addr) (xs ys : Array Value) (e1 e2 : Nat) (od : Option Addr) (sl : Array (Option Value)) (h0 : ¬ ((!xs.isEmpty) && Builtin.List.listTooLong (xs.size + ys.size)) = true) (h1 : xs.size ≤ sizeLine) (h2 : xs.size + ys.size ≤ sizeLine + 1) :
    Meets (Builtin.«list.extend» ⟨[.ref L, .ref T], []⟩) (fun _ R s => s.heap.get? L = some { cls := .type "list", dict := none, data := .seq xs e1, slots := #[] } ∧ s.heap.get? T = some { cls := .type "tuple", dict := od, data := .seq ys e2, slots := sl } ∧
      R (.ok (.ret Value.none)) { s with heap := s.heap.update L (Obj.mapSeq fun x => x ++ ys), toks := s.toks }) := .of_wp fun P w A R s h => by
  obtain ⟨hp, gs, dr, tk, os⟩ := s
  obtain ⟨hL, hT, h⟩ := h
  have q1 := AutoSeq1.idx_int
  have q2 := AutoSeq1.sub_tuple_tuple
  have q3 := AutoSeq1.sub_list_list
  have q4 := AutoSeq1.sub_tuple_list
  have q5 := AutoSeq1.sub_list_tuple
  have sz : (xs ++ ys).size ≤ sizeLine + 1 := by
    rw [Array.size_append]
    exact h2
  wp_walk using (wpAny_updateSeq hL rfl (hz := h1) (_hz' := sz)), AutoSeq1.wpAny_loadPart' hL, AutoSeq1.wpAny_loadPart' hT
  exact ⟨_, rfl, h⟩
def rExtT (K : Frag) : V → List V → Hp → VK → Prop := fun x vs H Q => ∃ l b xs zs, x = .ref l ∧ vs = [.ref b] ∧ H l = some (.lst xs) ∧ SqT K H b zs ∧ xs.length + zs.length ≤ sizeLine ∧ Q .non (upd H l (.lst (xs ++ zs)))
theorem mt_extT {X : Cx} : MtM X "list.extend" (rExtT X.K) := by
  intro pins s σ H x vs v us Q I rx rv h
  obtain ⟨l, b, xs, zs, rfl, rfl, hH, hB, hz, q⟩ := h
  cases rx
  obtain ⟨u, rfl, ru⟩ := rv.one
  cases ru
  obtain ⟨z, its, n, r, hl, e⟩ := I.lstM hH
  obtain ⟨its2, r2, ⟨o, ho, hc, n2, hd⟩, hl2⟩ := I.tuple hB
  obtain ⟨oc, od, dt, sl⟩ := o
  have hc : oc = .type "tuple" := hc
  have hd : dt = .seq its2.toArray n2 := hd
  subst hc hd
  have l1 := r.length
  have l2 := r2.length
  have hsz : its.toArray.size + its2.toArray.size ≤ sizeLine := by rw [List.size_toArray, List.size_toArray]; omega
  have hlong : ¬ ((!its.toArray.isEmpty) && Builtin.List.listTooLong (its.toArray.size + its2.toArray.size)) = true := by
    rw [notLongL hsz, Bool.and_false]
    exact Bool.false_ne_true
  refine call_meets F.slot_list_extend ⟨_, e, rfl⟩ F.entry_list_extend (F.args_list_extend_2 _ _) (ext_tup l b its.toArray its2.toArray n n2 od sl hlong (by rw [List.size_toArray]; omega) (by omega)) ⟨e, ho, ?_⟩
  refine ⟨.non, _, I.lset (its' := its ++ its2) hH e (by simp) (r.append r2) ?_, rfl, q⟩
  rw [List.length_append]
  omega
theorem Pls.uncons {K : Frag} {H : Hp} {v : List V} {a : PyData} {d : List PyData} (h : Pls K H v (a :: d)) : ∃ x xs, v = x :: xs ∧ Pl K H x a ∧ Pls K H xs d := by
  cases h with
  | cons h r => exact ⟨_, _, rfl, h, r⟩
theorem two_of {α : Type} {l : List α} (h : l.length = 2) : ∃ a b, l = [a, b] := match l, h with
  | [a, b], _ => ⟨a, b, rfl⟩
theorem one_of {α : Type} {l : List α} (h : l ≠ []) : ∃ a r, l = a :: r := match l, h with
  | [], h => absurd rfl h
  | a :: r, _ => ⟨a, r, rfl⟩
theorem Pl.ty {K : Frag} {H : Hp} {v : V} {d : PyData} (h : Pl K H v d) : TyX K H v (.type (tyn d)) := by
  cases h with
  | str x => exact .base (.str x)
  | tup h _ => exact ty_t h
end Fs
set_option Elab.async false
set_option linter.all false
set_option maxRecDepth 100000
set_option maxHeartbeats 8000000
/-! normal forms: in_turn, side_by_side, normal_form -/
namespace Fp6
open PySem PySem.Spec PyProof.Rows L2 Fh Fs
open PySem.W (Frag)
abbrev sTurn : Stmt := top 25
abbrev sSide : Stmt := top 26
abbrev sNf : Stmt := top 27
/-! ### shapes -/
/-- a plan's shape, n levels at most -/
inductive Sh : Nat → PyData → Prop where
  | nm {n : Nat} {y : Str} : wordB y = true → Sh n (.str y)
  | nd {n : Nat} {y : Str} {ds : List PyData} : rightNo y ds.length = true → (y = "then" ∨ ds.length ≤ 4) → (∀ d ∈ ds, Sh n d) → Sh (n + 1) (.tuple (.str y :: ds))
theorem Sh.up {n m : Nat} {d : PyData} (h : Sh n d) (le : n ≤ m) : Sh m d := by
  induction h generalizing m with
  | nm h => exact .nm h
  | @nd n y ds h1 h2 h3 ih =>
    obtain ⟨k, rfl⟩ : ∃ k, m = k + 1 := ⟨m - 1, by omega⟩
    exact .nd h1 h2 fun d hd => ih d hd (by omega)
theorem word_str {y : Str} (h : wordB y = true) : PyData.canLay0 (.str y) = true ∧ y.length ≤ 8 := by
  unfold wordB at h
  rw [Bool.and_eq_true, Bool.and_eq_true, decide_eq_true_eq, decide_eq_true_eq] at h
  obtain ⟨h1, h2, h3⟩ := h
  refine ⟨?_, h2⟩
  show y.cps.all (· < 0x110000) = true
  rw [← Array.all_toList, List.all_eq_true]
  intro c hc
  have h4 := List.all_eq_true.mp h3 (decide (c ∈ abcN)) (List.mem_map.mpr ⟨c, hc, rfl⟩)
  have h5 : c ∈ abcN := of_decide_eq_true h4
  have all : ∀ c ∈ abcN, c < 0x110000 := by decide +kernel
  exact decide_eq_true (all c h5)
theorem word_fine {y : Str} {m : Int} (h : rightNo y m = true) : wordB y = true ∧ y.length ≤ 6 := by
  refine ⟨?_, word_six h⟩
  have h2 : (fewest y).isSome = true := by
    unfold rightNo at h
    cases e : fewest y with
    | none => rw [e] at h; cases h
    | some i => rfl
  unfold fewest at h2
  by_cases h1 : y = "then"
  · rw [h1]; decide +kernel
  by_cases h2' : y = "either"
  · rw [h2']; decide +kernel
  by_cases h3 : y = "any"
  · rw [h3]; decide +kernel
  by_cases h4 : y = "again"
  · rw [h4]; decide +kernel
  by_cases h5 : y = "beside"
  · rw [h5]; decide +kernel
  rw [if_neg h1, if_neg h2', if_neg h3, if_neg h4, if_neg h5] at h2
  cases h2
theorem lay_all {ds : List PyData} (h : ∀ d ∈ ds, d.canLay0 = true) : PyData.canLayAll0 ds = true := by
  induction ds with
  | nil => rfl
  | cons d ds ih =>
    show (d.canLay0 && PyData.canLayAll0 ds) = true
    rw [h d List.mem_cons_self, ih fun e he => h e (List.mem_cons_of_mem _ he)]
    rfl
theorem depth_all {ds : List PyData} {n : Nat} (h : ∀ d ∈ ds, d.depth ≤ n) : PyData.depthAll ds ≤ n := by
  induction ds with
  | nil => exact Nat.zero_le _
  | cons d ds ih =>
    show max d.depth (PyData.depthAll ds) ≤ n
    have := h d List.mem_cons_self
    have := ih fun e he => h e (List.mem_cons_of_mem _ he)
    omega
theorem Sh.lay {n : Nat} {d : PyData} (h : Sh n d) : d.canLay0 = true ∧ d.depth ≤ n := by
  induction h with
  | nm h => exact ⟨(word_str h).1, Nat.zero_le _⟩
  | @nd n y ds h1 h2 h3 ih =>
    refine ⟨?_, ?_⟩
    · show PyData.canLayAll0 (.str y :: ds) = true
      exact lay_all fun d hd => by
        rcases List.mem_cons.mp hd with e | e
        · rw [e]; exact (word_str (word_fine h1).1).1
        · exact (ih d e).1
    · show PyData.depthAll (.str y :: ds) + 1 ≤ n + 1
      have := depth_all (ds := .str y :: ds) (n := n) fun d hd => by
        rcases List.mem_cons.mp hd with e | e
        · rw [e]; exact Nat.zero_le _
        · exact (ih d e).2
      omega
theorem Sh.shaped {n : Nat} {d : PyData} (h : Sh n d) (hn : n ≤ 60) : SeqAt.shaped d = true := by
  obtain ⟨h1, h2⟩ := h.lay
  unfold SeqAt.shaped
  rw [h1, decide_eq_true (by omega)]
  rfl
/-! ### the complete plan -/
abbrev doneD : PyData := .tuple [.str "then"]
theorem sh_done (n : Nat) : Sh (n + 1) doneD := .nd (by decide +kernel) (.inl rfl) (fun _ z => nomatch z)
theorem done_shaped : SeqAt.shaped doneD = true := (sh_done 0).shaped (by decide)
def isDone (d : PyData) : Bool := PyData.eqv d doneD
theorem isDone_str (y : Str) : isDone (.str y) = false := rfl
theorem isDone_nd (y : Str) (ds : List PyData) : isDone (.tuple (.str y :: ds)) = (decide (y = "then") && ds.isEmpty) := by
  show ((y == Str.ofString "then") && PyData.eqvAll ds []) = _
  have e : PyData.eqvAll ds [] = ds.isEmpty := by cases ds <;> rfl
  rw [e]
  by_cases h : y = "then"
  · rw [decide_eq_true h, beq_iff_eq.mpr h]
  · rw [decide_eq_false h, beq_eq_false_iff_ne.mpr h]
/-! ### parts in turn -/
def thenParts : PyData → Option (List PyData)
  | .tuple (.str y :: ds) => if y = "then" then some ds else none
  | _ => none
def flat1 (d : PyData) : List PyData := match thenParts d with
  | some es => es
  | none => [d]
def flatF (ds : List PyData) : List PyData := ds.flatMap flat1
def inTurn (ds : List PyData) : PyData := match flatF ds with
  | [d] => d
  | es => .tuple (.str "then" :: es)
def side (a b : PyData) : PyData := if isDone a = true then b else if isDone b = true then a else .tuple [.str "beside", a, b]
def twoOf : List PyData → PyData → PyData
  | a :: b :: _, _ => side a b
  | _, d => d
def nfIn (rec : PyData → PyData) : PyData → PyData
  | .tuple (.str y :: ds) => if y = "then" then inTurn (ds.map rec) else if y = "beside" then twoOf (ds.map rec) (.tuple (.str y :: ds)) else .tuple (.str y :: ds.map rec)
  | d => d
/-- the normal form -/
def nf : Nat → PyData → PyData
  | 0, d => d
  | n + 1, d => nfIn (nf n) d
theorem flat_snoc (ds : List PyData) (d : PyData) : flatF (ds ++ [d]) = flatF ds ++ flat1 d := by
  unfold flatF
  rw [List.flatMap_append]
  show _ ++ (flat1 d ++ []) = _
  rw [List.append_nil]
/-! ### weights -/
theorem w_cons (d : PyData) (ds : List PyData) : PyData.weightAll (d :: ds) = d.weight + 1 + PyData.weightAll ds := by simp only [PyData.weightAll]
theorem w_nil : PyData.weightAll [] = 0 := by simp only [PyData.weightAll]
theorem w_tup (ds : List PyData) : PyData.weight (.tuple ds) = PyData.weightAll ds := by simp only [PyData.weight]
theorem w_str (y : Str) : PyData.weight (.str y) = y.length := by simp only [PyData.weight]; rfl
theorem w_app (as bs : List PyData) : PyData.weightAll (as ++ bs) = PyData.weightAll as + PyData.weightAll bs := by
  induction as with
  | nil => rw [w_nil, Nat.zero_add]; rfl
  | cons a as ih => rw [List.cons_append, w_cons, w_cons, ih]; omega
theorem w_len (ds : List PyData) : ds.length ≤ PyData.weightAll ds := by
  induction ds with
  | nil => exact Nat.zero_le _
  | cons a as ih => rw [w_cons, List.length_cons]; omega
theorem w_mem {d : PyData} {ds : List PyData} (h : d ∈ ds) : d.weight + 1 ≤ PyData.weightAll ds := by
  induction ds with
  | nil => cases h
  | cons a as ih =>
    rw [w_cons]
    rcases List.mem_cons.mp h with e | e
    · rw [e]; omega
    · have := ih e; omega
theorem then_len : (Str.ofString "then").length = 4 := by decide +kernel
theorem w_flat1 (d : PyData) : PyData.weightAll (flat1 d) ≤ d.weight + 1 := by
  unfold flat1
  cases e : thenParts d with
  | none => rw [w_cons, w_nil]; omega
  | some es =>
    unfold thenParts at e
    split at e
    · rename_i y ds
      split at e
      · injection e with e
        subst e
        show PyData.weightAll ds ≤ _
        rw [w_tup, w_cons]
        omega
      · cases e
    · cases e
theorem w_flat (ds : List PyData) : PyData.weightAll (flatF ds) ≤ PyData.weightAll ds := by
  induction ds with
  | nil => exact Nat.le_refl _
  | cons d ds ih =>
    have e : flatF (d :: ds) = flat1 d ++ flatF ds := rfl
    have := w_flat1 d
    rw [e, w_app, w_cons]
    omega
theorem w_turn (ds : List PyData) : (inTurn ds).weight ≤ 5 + PyData.weightAll ds := by
  have h := w_flat ds
  unfold inTurn
  split
  · rename_i d e
    rw [e, w_cons, w_nil] at h
    omega
  · rename_i es _
    rw [w_tup, w_cons, w_str, then_len]
    omega
theorem w_side (a b : PyData) : (side a b).weight ≤ 9 + a.weight + b.weight := by
  unfold side
  split
  · omega
  · split
    · omega
    · rw [w_tup, w_cons, w_cons, w_cons, w_nil, w_str, show (Str.ofString "beside").length = 6 by decide +kernel]
      omega
theorem w_map {f : PyData → PyData} (hf : ∀ d, (f d).weight ≤ d.weight) (ds : List PyData) : PyData.weightAll (ds.map f) ≤ PyData.weightAll ds := by
  induction ds with
  | nil => exact Nat.le_refl _
  | cons d ds ih =>
    rw [List.map_cons, w_cons, w_cons]
    have := hf d
    omega
theorem w_two (ps : List PyData) (d : PyData) : (twoOf ps d).weight ≤ 7 + PyData.weightAll ps ∨ (twoOf ps d).weight ≤ d.weight := by
  match ps with
  | [] => exact .inr (Nat.le_refl _)
  | [_] => exact .inr (Nat.le_refl _)
  | a :: b :: r =>
    refine .inl ?_
    have s := w_side a b
    show (side a b).weight ≤ _
    rw [w_cons, w_cons]
    omega
theorem w_nfIn {rec : PyData → PyData} (hr : ∀ d, (rec d).weight ≤ d.weight) (d : PyData) : (nfIn rec d).weight ≤ d.weight := by
  unfold nfIn
  split
  · rename_i y ds
    have m := w_map hr ds
    split
    · rename_i e
      have t := w_turn (ds.map rec)
      subst e
      rw [w_tup, w_cons, w_str, then_len]
      omega
    · split
      · rename_i e
        subst e
        rcases w_two (ds.map rec) (.tuple (.str "beside" :: ds)) with h | h
        · rw [w_tup, w_cons, w_str, show (Str.ofString "beside").length = 6 by decide +kernel]
          omega
        · exact h
      · rw [w_tup, w_tup, w_cons, w_cons]
        omega
  · exact Nat.le_refl _
theorem w_nf : ∀ (n : Nat) (d : PyData), (nf n d).weight ≤ d.weight
  | 0, d => Nat.le_refl _
  | n + 1, d => w_nfIn (w_nf n) d
/-! ### shapes of what is made -/
theorem sh_flat1 {n : Nat} {d : PyData} (h : Sh n d) : ∀ e ∈ flat1 d, Sh n e := by
  intro e he
  unfold flat1 at he
  cases q : thenParts d with
  | none =>
    rw [q] at he
    rcases List.mem_singleton.mp he with rfl
    exact h
  | some es =>
    rw [q] at he
    unfold thenParts at q
    cases h with
    | nm _ => cases q
    | @nd n y ds h1 h2 h3 =>
      have q : (if y = "then" then some ds else none) = some es := q
      split at q
      · injection q with q
        subst q
        exact (h3 e he).up (Nat.le_succ n)
      · cases q
theorem sh_flat {n : Nat} {ds : List PyData} (h : ∀ d ∈ ds, Sh n d) : ∀ e ∈ flatF ds, Sh n e := by
  intro e he
  obtain ⟨d, hd, he⟩ := List.mem_flatMap.mp he
  exact sh_flat1 (h d hd) e he
theorem then_any (m : Nat) : rightNo "then" (m : Int) = true := by
  show (decide ((0 : Int) ≤ m) && decide ((m : Int) ≤ m)) = true
  rw [decide_eq_true (by omega), decide_eq_true (Int.le_refl _)]
  rfl
theorem sh_turn {n : Nat} {ds : List PyData} (h : ∀ d ∈ ds, Sh n d) : Sh (n + 1) (inTurn ds) := by
  have f := sh_flat h
  unfold inTurn
  split
  · rename_i d e
    rw [e] at f
    exact (f d List.mem_cons_self).up (Nat.le_succ n)
  · exact .nd (then_any _) (.inl rfl) f
theorem sh_side {n : Nat} {a b : PyData} (ha : Sh n a) (hb : Sh n b) : Sh (n + 1) (side a b) := by
  unfold side
  split
  · exact hb.up (Nat.le_succ n)
  · split
    · exact ha.up (Nat.le_succ n)
    · refine .nd (show rightNo (Str.ofString "beside") ((2 : Nat) : Int) = true by decide +kernel) (.inr (show 2 ≤ 4 by decide)) fun d hd => ?_
      rcases List.mem_cons.mp hd with e | e
      · rw [e]; exact ha
      · rcases List.mem_singleton.mp e with rfl
        exact hb
theorem beside_two {m : Nat} (h : rightNo "beside" (m : Int) = true) : m = 2 := by
  have e : rightNo "beside" (m : Int) = (decide ((2 : Int) ≤ m) && decide ((m : Int) ≤ 2)) := rfl
  rw [e, Bool.and_eq_true, decide_eq_true_eq, decide_eq_true_eq] at h
  omega
theorem sh_nf : ∀ {n : Nat} {d : PyData}, Sh n d → Sh n (nf n d)
  | 0, _, h => h
  | n + 1, _, .nm h => .nm h
  | n + 1, _, .nd (y := y) (ds := ds) h1 h2 h3 => by
    have m : ∀ e ∈ ds.map (nf n), Sh n e := fun e he => by
      obtain ⟨d, hd, rfl⟩ := List.mem_map.mp he
      exact sh_nf (h3 d hd)
    show Sh (n + 1) (if y = "then" then inTurn (ds.map (nf n)) else if y = "beside" then twoOf (ds.map (nf n)) (.tuple (.str y :: ds)) else .tuple (.str y :: ds.map (nf n)))
    split
    · exact sh_turn m
    · rename_i ny
      split
      · rename_i e
        subst e
        have l2 := beside_two h1
        match ds, l2, m with
        | [a, b], _, m => exact sh_side (m _ List.mem_cons_self) (m _ (List.mem_cons_of_mem _ List.mem_cons_self))
      · refine .nd (by rw [List.length_map]; exact h1) (by rw [List.length_map]; exact h2) m
end Fp6
set_option Elab.async false
set_option linter.all false
set_option maxRecDepth 100000
set_option maxHeartbeats 8000000
/-! in_turn, side_by_side, normal_form run -/
namespace Fp6
open PySem PySem.Spec PyProof.Rows L2 Fh Fs
open PySem.W (Frag)
theorem eq_word {y : Str} (z : Str) : decide (V.str y = V.str z) = decide (y = z) := by
  by_cases h : y = z
  · rw [decide_eq_true h, decide_eq_true (by rw [h])]
  · rw [decide_eq_false h, decide_eq_false (fun e => h (by injection e))]
theorem cut_tail (x : V) (xs : List V) : cutV (x :: xs) (some 1) none = xs := by
  show ((x :: xs).drop (min 1 (xs.length + 1))).take (xs.length + 1 - min 1 (xs.length + 1)) = xs
  rw [show min 1 (xs.length + 1) = 1 by omega, List.drop_one, List.tail_cons, List.take_of_length_le (by omega)]
theorem tail_new (xs : List V) {G : Prop} (z : min 1 (xs.length + 1) = 0) : G := by omega
section
variable {P : Program} {w : World} {K : Frag} {mg : Str → Option Value} {base : Heap} {aF aM aD CE aE : Addr}
def spTurn (K : Frag) : Sp := fun vs H Q _ => ∃ l xs ds n, vs = [.ref l] ∧ SqL K H l xs ∧ Pls K H xs ds ∧ (∀ d ∈ ds, Sh n d) ∧ PyData.weightAll ds ≤ 1000000 ∧ ∀ x H', Same H H' → Pl K H' x (inTurn ds) → Q x H'
theorem scTurn : FnScope ["parts", "flat", "part"] ["parts"] (defScope sTurn) := ⟨rfl, rfl, rfl, by decide +kernel, rfl, by decide +kernel, by decide +kernel⟩
theorem ok_turn {f : Addr} {fd : FuncData} (F : Fun K "in_turn" "in_turn" sTurn f fd) (T : TxtR K mg w aF aM aD CE aE) (TK : TxtK mg) : FnOk P w K mg base CX0 1 f fd ["parts"] (spTurn K) := by
  refine F.ok scTurn (fun vs H Q E h => ?_) (fun cdv A outer s H vs Q E hr h => ?_)
  · obtain ⟨l, xs, ds, n, rfl, _⟩ := h
    rfl
  · obtain ⟨l, xs, ds, n, rfl, hl, hp, sh, hw, k⟩ := h
    refine' ⟨_, pss_cons ?s1 (pss_cons ?s2 (pss_one ?s3)), ?q⟩
    case s1 => exact ps_set (i := 1) scTurn.nd rfl (Or.inl rfl) (pe_lst pa_nil)
    case s2 =>
      refine' ps_for PassesOwn.never rfl (pi_list (pv 0)) (pg_name (i := 2) scTurn.nd rfl (Or.inl rfl)) (pss_one (ps_if (PW.pt (pw_and (pt_val ?a) (pw_and1 ?b))) (pss_one (ps_expr ?c)) (pss_one (ps_expr ?d))))
      case a => exact pe_callB call_isi (by rfl) T.isinstance (by decide +kernel) (pa_cons (pv 2) (pa_cons (pe_bltn (v := .ty "tuple") (by rfl) TK.tuple (by decide +kernel) rfl (by decide) (by decide)) pa_nil))
      case b => exact pt_cmpR op_eq (pe_ix ix_tup (pv 2) pe_int (fun _ _ => rfl)) pe_str (nomark _)
      case c => exact pe_bm PySem.F.plainAttrs_list PySem.F.slot_list_extend PySem.F.type_list_extend mt_extT (pv 1) (pa_cons (pe_slice sl_tupA (pv 2) (po_some pe_int) po_none) pa_nil)
      case d => exact pe_bm PySem.F.plainAttrs_list PySem.F.slot_list_append PySem.F.type_list_append mt_append (pv 1) (pa_cons (pv 2) pa_nil)
    case s3 => exact ps_ret (pe_ifExp (pt_cmpR op_eq (pe_callB call_len_seq (by rfl) T.len PySem.boot_len (pa_cons (pv 1) pa_nil)) pe_int (nomark _)) (pe_ix ix_list (pv 1) pe_int (fun _ _ => rfl)) (pe_tup (pa_cons pe_str (StX.pa_star (pv 1) pa_nil))))
    case q =>
      have ssz : sizeLine = 16777216 := sizeLine_eq
      refine ⟨(show 0 ≤ sizeLine by decide), fun f nf => ?_⟩
      refine gName_go ?_
      have lx := hp.len
      have s0 : Same H (upd H f (.lst [])) := Same.new nf
      have f0 : (upd H f (.lst [])) f = some (.lst []) := upd_same
      generalize upd H f (.lst []) = H0 at s0 f0 ⊢
      refine ⟨_, rfl, l, rfl, ⟨xs, sqL_same s0 hl⟩, ?_⟩
      refine for_it (walk_list (K := K) (a := l) (xs := xs)) (fun i σ Hh => ∃ o ys, σ = [some (.ref l), some (.ref f), o] ∧ Same H Hh ∧ Hh f = some (.lst ys) ∧ Pls K Hh ys (flatF (ds.take i))) ⟨none, [], rfl, s0, f0, .nil⟩ (fun i σ Hh _ ⟨_, _, _, z, _⟩ => sqL_same z hl) ?_ ?_
      · rintro i x σ Ha Hb hi ⟨o, ys, rfl, sa, ha, pa⟩ ⟨rfl, gx⟩
        have di : i < ds.length := by omega
        have gd : ds[i]? = some ds[i] := List.getElem?_eq_getElem di
        have dx := (hp.get gx gd).same sa
        have shi := sh ds[i] (List.getElem_mem di)
        have wi := w_mem (List.getElem_mem di)
        have tk : ds.take (i + 1) = ds.take i ++ [ds[i]] := by rw [List.take_add_one, gd]; rfl
        have wf : PyData.weightAll (flatF (ds.take i)) + (flat1 ds[i]).length ≤ 1000000 := by
          have h1 := w_flat (ds.take (i + 1))
          rw [tk, flat_snoc, w_app] at h1
          have h2 := w_len (flat1 ds[i])
          have h3 : PyData.weightAll (ds.take (i + 1)) ≤ PyData.weightAll ds := by
            have e := w_app (ds.take (i + 1)) (ds.drop (i + 1))
            rw [List.take_append_drop] at e
            omega
          rw [tk] at h3
          omega
        have ly := pa.len
        have wl := w_len (flatF (ds.take i))
        rw [tk, flat_snoc]
        generalize ds[i] = d at dx shi wf gd
        have ty := dx.ty
        have kt := kit_tup K d
        have post : thenParts d = none → ∃ o ys', [some (V.ref l), some (V.ref f), some x] = [some (V.ref l), some (V.ref f), o] ∧ Same H (upd Hb f (.lst (ys ++ [x]))) ∧ (upd Hb f (.lst (ys ++ [x]))) f = some (.lst ys') ∧ Pls K (upd Hb f (.lst (ys ++ [x]))) ys' (flatF (ds.take i) ++ flat1 d) := fun e => by
          refine ⟨_, _, rfl, same_off sa nf, upd_same, ?_⟩
          have e2 : flat1 d = [d] := by unfold flat1; rw [e]
          rw [e2]
          exact (pa.snoc dx).keep (KeepT.lst ha)
        refine ⟨_, rfl, _, _, _, _, isTup d, rfl, .ty _, ty, kt, _, rfl, ?_⟩
        cases shi with
        | nm _ => exact iteF (iteF ⟨.ref f, rfl, .inl ⟨rfl, _, SqL.of ha⟩, x, rfl, f, ys, x, rfl, rfl, ha, by omega, post rfl⟩)
        | @nd n y es h1 h2 h3 =>
          cases dx with
          | @tup a vs _ hg r =>
            cases r with
            | @cons x0 d0 xs0 _ hx r =>
              cases hx
              refine iteT ⟨_, rfl, a, _, 0, _, rfl, rfl, hg, atI_nat rfl, rfl, decide (y = "then"), congrArg V.bl (eq_word _), ?_⟩
              by_cases e : y = "then"
              · subst e
                refine iteT ⟨.ref f, rfl, .inl ⟨rfl, _, SqL.of ha⟩, _, rfl, 1, rfl, a, _, rfl, hg, fun z => tail_new xs0 z.1, fun _ q nq => ?_⟩
                rw [cut_tail]
                have e2 : flat1 (.tuple (.str "then" :: es)) = es := rfl
                have lr := r.len
                have sq : Same Hb (upd Hb q (.tup xs0)) := Same.new nq
                have fq : (upd Hb q (.tup xs0)) f = some (.lst ys) := sq _ _ ha
                have gq : (upd Hb q (.tup xs0)) q = some (.tup xs0) := upd_same
                generalize upd Hb q (.tup xs0) = Hc at sq fq gq ⊢
                rw [e2] at wf ⊢
                refine ⟨f, q, ys, xs0, rfl, rfl, fq, SqT.of gq, by omega, ?_⟩
                refine ⟨_, _, rfl, same_off (sa.trans sq) nf, upd_same, ?_⟩
                exact ((pa.same sq).append (r.same sq)).keep (KeepT.lst fq)
              · rw [decide_eq_false e]
                refine iteF ⟨.ref f, rfl, .inl ⟨rfl, _, SqL.of ha⟩, _, rfl, f, ys, _, rfl, rfl, ha, by omega, post ?_⟩
                exact if_neg e
      · rintro σ Ha ⟨o, ys, rfl, sa, ha, pa⟩
        rw [lx, List.take_length] at pa
        have ly := pa.len
        have wl := w_len (flatF ds)
        have wf := w_flat ds
        refine ⟨_, rfl, f, _, rfl, .inl (SqL.of ha), rfl, decide (V.int (ys.length : Nat) = V.int 1), rfl, ?_⟩
        have inj : decide (V.int (ys.length : Nat) = V.int 1) = decide (ys.length = 1) := by
          by_cases h : ys.length = 1
          · rw [decide_eq_true h, decide_eq_true (by rw [h]; rfl)]
          · rw [decide_eq_false h, decide_eq_false (fun e => h (by injection e with e; omega))]
        rw [inj]
        have e0 : inTurn ds = (match flatF ds with | [d] => d | es => .tuple (.str "then" :: es)) := rfl
        by_cases h : ys.length = 1
        · rw [decide_eq_true h]
          match ys, h, flatF ds, pa, ly, e0 with
          | [v], _, [d], .cons hv .nil, _, e0 => exact iteT ⟨_, rfl, f, _, 0, v, rfl, rfl, SqL.of ha, atI_nat rfl, k v Ha sa (e0 ▸ hv)⟩
        · rw [decide_eq_false h]
          have e1 : inTurn ds = .tuple (.str "then" :: flatF ds) := by
            rw [e0]
            match flatF ds, ly with
            | [], _ => rfl
            | [d], ly => exact absurd ly h
            | _ :: _ :: _, _ => rfl
          refine iteF ⟨_, rfl, f, _, rfl, .inr (SqL.of ha), ?_, fun t nt => k (.ref t) _ (sa.trans (Same.new nt)) ?_⟩
          · show (V.str "then" :: (ys ++ [])).length ≤ sizeLine
            rw [List.append_nil, List.length_cons]
            omega
          · rw [e1]
            exact .tup (.of upd_same) (.cons (.str _) (by rw [List.append_nil]; exact pa.same (Same.new nt)))
def spSide (K : Frag) : Sp := fun vs H Q _ => ∃ u v a b n, vs = [u, v] ∧ Pl K H u a ∧ Pl K H v b ∧ Sh n a ∧ Sh n b ∧ n ≤ 60 ∧ ∀ x H', Same H H' → Pl K H' x (side a b) → Q x H'
theorem scSide : FnScope ["one", "other"] ["one", "other"] (defScope sSide) := ⟨rfl, rfl, rfl, by decide +kernel, rfl, by decide +kernel, by decide +kernel⟩
theorem done_pl (T : TxtR K mg w aF aM aD CE aE) (H : Hp) : Pl K H (.ref aD) doneD := .tup (T.sD H) (.cons (.str _) .nil)
theorem ok_side {f : Addr} {fd : FuncData} (F : Fun K "side_by_side" "side_by_side" sSide f fd) (T : TxtR K mg w aF aM aD CE aE) : FnOk P w K mg base CX0 1 f fd ["one", "other"] (spSide K) := by
  refine F.ok scSide (fun vs H Q E h => ?_) (fun cdv A outer s H vs Q E hr h => ?_)
  · obtain ⟨u, v, a, b, n, rfl, _⟩ := h
    rfl
  · obtain ⟨u, v, a, b, n, rfl, hu, hv, sa, sb, hn, k⟩ := h
    refine' ⟨_, pss_cons ?s1 (pss_cons ?s2 (pss_one ?s3)), ?q⟩
    case s1 => exact ps_if (pt_cmpR (op_eqD hr.units) (pv 0) (pe_glob (v := .ref aD) (by rfl) T.gD rfl) (nomark _)) (pss_one (ps_ret (pv 1))) pss_nil
    case s2 => exact ps_if (pt_cmpR (op_eqD hr.units) (pv 1) (pe_glob (v := .ref aD) (by rfl) T.gD rfl) (nomark _)) (pss_one (ps_ret (pv 0))) pss_nil
    case s3 => exact ps_ret (pe_tup (pa_cons pe_str (pa_cons (pv 0) (pa_cons (pv 1) pa_nil))))
    case q =>
      have dd := (done_pl T H).dp
      have e0 : side a b = (if isDone a = true then b else if isDone b = true then a else .tuple [.str "beside", a, b]) := rfl
      refine ⟨_, rfl, a, doneD, hu.dp, dd, sa.shaped hn, done_shaped, isDone a, rfl, ?_⟩
      cases ea : isDone a with
      | true =>
        rw [e0, if_pos ea] at k
        exact iteT ⟨_, rfl, k v H (Same.refl _) hv⟩
      | false =>
        rw [e0, if_neg (by rw [ea]; exact fun z => nomatch z)] at k
        refine iteF ⟨_, rfl, b, doneD, hv.dp, dd, sb.shaped hn, done_shaped, isDone b, rfl, ?_⟩
        cases eb : isDone b with
        | true =>
          rw [if_pos eb] at k
          exact iteT ⟨_, rfl, k u H (Same.refl _) hu⟩
        | false =>
          rw [if_neg (by rw [eb]; exact fun z => nomatch z)] at k
          exact iteF ⟨_, rfl, _, rfl, (show 3 ≤ sizeLine by decide), fun t nt => k (.ref t) _ (Same.new nt) (.tup (.of upd_same) (.cons (.str _) (.cons (hu.same (Same.new nt)) (.cons (hv.same (Same.new nt)) .nil))))⟩
def spNf (K : Frag) (n : Nat) : Sp := fun vs H Q _ => ∃ v d, vs = [v] ∧ Pl K H v d ∧ Sh n d ∧ n ≤ 50 ∧ d.weight ≤ 900000 ∧ ∀ x H', Same H H' → Pl K H' x (nf n d) → Q x H'
theorem scNf : FnScope ["plan", "parts", "part"] ["plan"] (defScope sNf) := ⟨rfl, rfl, rfl, by decide +kernel, rfl, by decide +kernel, by decide +kernel⟩
theorem step_nf {n kk : Nat} {sp' : Sp} {f aT aS : Addr} {fd fT fS : FuncData} (hk : 1 ≤ kk) (F : Fun K "normal_form" "normal_form" sNf f fd) (FT : Fun K "in_turn" "in_turn" sTurn aT fT) (FS : Fun K "side_by_side" "side_by_side" sSide aS fS) (gF : mg "normal_form" = some (.ref f)) (gT : mg "in_turn" = some (.ref aT)) (gS : mg "side_by_side" = some (.ref aS))
    (T : TxtR K mg w aF aM aD CE aE) (TK : TxtK mg) (GN : FnOk P w K mg base CX0 kk f fd ["plan"] sp') (hs : ∀ j, n = j + 1 → sp' = spNf K j) : FnOk P w K mg base CX0 (kk + 1) f fd ["plan"] (spNf K n) := by
  have GT : FnOk P w K mg base CX0 1 aT fT ["parts"] (spTurn K) := ok_turn FT T TK
  have GS : FnOk P w K mg base CX0 1 aS fS ["one", "other"] (spSide K) := ok_side FS T
  have bT : Binds K fT ["parts"] [] := FT.binds (ps := ["parts"]) fun _ _ _ _ _ _ us hl => match us, hl with | [_], _ => rfl
  have bS : Binds K fS ["one", "other"] [] := FS.binds (ps := ["one", "other"]) fun _ _ _ _ _ _ us hl => match us, hl with | [_, _], _ => rfl
  have bN : Binds K fd ["plan"] [] := F.binds (ps := ["plan"]) fun _ _ _ _ _ _ us hl => match us, hl with | [_], _ => rfl
  refine F.ok scNf (fun vs H Q E h => ?_) (fun cdv A outer s H vs Q E hr h => ?_)
  · obtain ⟨v, d, rfl, _⟩ := h
    rfl
  · obtain ⟨v, d, rfl, hv, sh, hn, hw, k⟩ := h
    have hr1 : Room 1 _ := hr.mono hk
    refine' ⟨_, pss_cons ?s1 (pss_cons ?s2 (pss_cons ?s3 (pss_cons ?s4 (pss_one ?s5)))), ?q⟩
    case s1 =>
      refine' ps_if (pt_not (pt_val ?a)) (pss_one (ps_ret (pv 0))) pss_nil
      case a => exact pe_callB call_isi (by rfl) T.isinstance (by decide +kernel) (pa_cons (pv 0) (pa_cons (pe_bltn (v := .ty "tuple") (by rfl) TK.tuple (by decide +kernel) rfl (by decide) (by decide)) pa_nil))
    case s2 =>
      refine' ps_setLc (i := 1) (own := [("part", 2)]) (g := gName 2) (tt := tYes) rfl scNf.nd rfl rfl (sw_true rfl rfl rfl (by decide +kernel)) (pi_tup (pe_slice sl_tupA (pv 0) (po_some pe_int) po_none)) (blkOk_by (N := ["plan", "parts", "part"]) (sc := defScope sNf) (by decide +kernel)) (fun _ _ _ _ _ => pg_name (i := 2) scNf.nd rfl (Or.inl rfl)) (fun _ _ _ _ _ => pts_nil) ?e
      case e => exact fun _ _ _ _ _ => pe_call GN hr rfl gF F.kp bN .nil pass0 (pa_cons (pv 2) pa_nil)
    case s3 => exact ps_if (pt_cmpR op_eq (pe_ix ix_tup (pv 0) pe_int (fun _ _ => rfl)) pe_str (nomark _)) (pss_one (ps_ret (pe_call GT hr1 rfl gT FT.kp bT .nil pass0 (pa_cons (pv 1) pa_nil)))) pss_nil
    case s4 => exact ps_if (pt_cmpR op_eq (pe_ix ix_tup (pv 0) pe_int (fun _ _ => rfl)) pe_str (nomark _)) (pss_one (ps_ret (pe_call GS hr1 rfl gS FS.kp bS .nil pass0 (pa_cons (pe_ix ix_list (pv 1) pe_int (fun _ _ => rfl)) (pa_cons (pe_ix ix_list (pv 1) pe_int (fun _ _ => rfl)) pa_nil))))) pss_nil
    case s5 => exact ps_ret (pe_tup (pa_cons (pe_ix ix_tup (pv 0) pe_int (fun _ _ => rfl)) (StX.pa_star (pv 1) pa_nil)))
    case q =>
      have ty := hv.ty
      have kt := kit_tup K d
      have ssz : sizeLine = 16777216 := sizeLine_eq
      refine ⟨_, rfl, _, _, _, _, isTup d, rfl, .ty _, ty, kt, _, rfl, ?_⟩
      cases sh with
      | @nm _ y hy =>
        refine iteT ⟨_, rfl, ?_⟩
        have e : nf n (.str y) = .str y := by cases n <;> rfl
        rw [e] at k
        exact k v H (Same.refl _) hv
      | @nd n y ds h1 h2 h3 =>
        obtain rfl := hs n rfl
        refine iteF ?_
        cases hv with
        | @tup a vs _ hg r =>
          cases r with
          | @cons x0 d0 xs _ hx r =>
            cases hx
            have lx := r.len
            rw [w_tup, w_cons] at hw
            have wl := w_len ds
            refine ⟨_, rfl, 1, rfl, a, _, rfl, hg, fun z => tail_new xs z.1, fun _ q nq => ?_⟩
            rw [cut_tail]
            have sq : Same H (upd H q (.tup xs)) := Same.new nq
            have gq : (upd H q (.tup xs)) q = some (.tup xs) := upd_same
            generalize upd H q (.tup xs) = H1 at sq gq ⊢
            refine ⟨q, rfl, ⟨_, SqT.of gq⟩, fun D nD => ?_⟩
            refine lc_it (walk_tup (K := K) (a := q) (xs := xs)) (fun i Hh => ∃ ys, Pls K Hh ys ((ds.take i).map (nf n)) ∧ Hh D = some (.lst ys) ∧ Same H1 Hh) ⟨[], .nil, upd_same, Same.new nD⟩ (fun _ Hh _ ⟨_, _, _, z⟩ => SqT.of (z _ _ gq)) ?_ ?_
            · rintro i x Ha Hb hi ⟨ys, ey, hD, sa⟩ ⟨rfl, gx⟩
              refine ⟨rfl, ?_⟩
              refine yes_of ?_
              have di : i < ds.length := by omega
              have gd : ds[i]? = some ds[i] := List.getElem?_eq_getElem di
              have dx := (r.get gx gd).same (sq.trans sa)
              have mem : ds[i] ∈ ds := List.getElem_mem di
              have wm := w_mem mem
              have ly := ey.len
              rw [List.length_map, List.length_take] at ly
              refine ⟨_, rfl, x, ds[i], rfl, dx, h3 _ mem, by omega, by omega, fun z Hc sc hz => ?_⟩
              refine ⟨ys, sc _ _ hD, by omega, ys ++ [z], ?_, upd_same, ?_⟩
              · rw [List.take_add_one, gd, List.map_append]
                exact ((ey.same sc).snoc hz).keep (KeepT.lst (sc _ _ hD))
              · intro b' u z
                rw [upd_ne (fun e => by rw [e, nD] at z; cases z)]
                exact sc _ _ (sa _ _ z)
            · rintro Ha ⟨ys, ey, hD, sa⟩
              rw [lx, List.take_length] at ey
              have sA := sq.trans sa
              have hg2 := (KeepT.of sA).sqT hg
              have ly := ey.len
              rw [List.length_map] at ly
              have mm := w_map (w_nf n) ds
              have shm : ∀ e ∈ ds.map (nf n), Sh n e := fun e he => by
                obtain ⟨d, hd, rfl⟩ := List.mem_map.mp he
                exact sh_nf (h3 d hd)
              with_reducible conv => whnf
              refine ⟨_, rfl, a, _, 0, _, rfl, rfl, hg2, atI_nat rfl, rfl, decide (y = "then"), congrArg V.bl (eq_word _), ?_⟩
              have e0 : nf (n + 1) (.tuple (.str y :: ds)) = (if y = "then" then inTurn (ds.map (nf n)) else if y = "beside" then twoOf (ds.map (nf n)) (.tuple (.str y :: ds)) else .tuple (.str y :: ds.map (nf n))) := rfl
              rw [e0] at k
              by_cases e1 : y = "then"
              · rw [if_pos e1] at k
                rw [decide_eq_true e1]
                exact iteT ⟨_, rfl, D, ys, _, n, rfl, SqL.of hD, ey, shm, by omega, fun x H' s' hx => k x H' (sA.trans s') hx⟩
              · rw [if_neg e1] at k
                rw [decide_eq_false e1]
                refine iteF ⟨_, rfl, a, _, 0, _, rfl, rfl, hg2, atI_nat rfl, rfl, decide (y = "beside"), congrArg V.bl (eq_word _), ?_⟩
                by_cases e2 : y = "beside"
                · rw [if_pos e2] at k
                  rw [decide_eq_true e2]
                  subst e2
                  have l2 := beside_two h1
                  rw [l2] at ly
                  generalize ds.map (nf n) = ps at ey shm k
                  match ys, ps, ly, ey, k, shm with
                  | [u, v], [p, q], _, .cons hu (.cons hv .nil), k, shm =>
                    exact iteT ⟨_, rfl, D, _, 0, u, rfl, rfl, SqL.of hD, atI_nat rfl, _, rfl, D, _, 1, v, rfl, rfl, SqL.of hD, atI_nat rfl, u, v, p, q, n, rfl, hu, hv, shm _ List.mem_cons_self, shm _ (List.mem_cons_of_mem _ List.mem_cons_self), by omega, fun x H' s' hx => k x H' (sA.trans s') hx⟩
                · rw [if_neg e2] at k
                  rw [decide_eq_false e2]
                  refine iteF ⟨_, rfl, a, _, 0, _, rfl, rfl, hg2, atI_nat rfl, _, rfl, D, _, rfl, .inr (SqL.of hD), ?_, fun t nt => k (.ref t) _ (sA.trans (Same.new nt)) ?_⟩
                  · show (V.str y :: (ys ++ [])).length ≤ sizeLine
                    rw [List.append_nil, List.length_cons]
                    omega
                  · exact .tup (.of upd_same) (.cons (.str _) (by rw [List.append_nil]; exact ey.same (Same.new nt)))
theorem ok_nf {f aT aS : Addr} {fd fT fS : FuncData} (F : Fun K "normal_form" "normal_form" sNf f fd) (FT : Fun K "in_turn" "in_turn" sTurn aT fT) (FS : Fun K "side_by_side" "side_by_side" sSide aS fS) (gF : mg "normal_form" = some (.ref f)) (gT : mg "in_turn" = some (.ref aT)) (gS : mg "side_by_side" = some (.ref aS))
    (T : TxtR K mg w aF aM aD CE aE) (TK : TxtK mg) : ∀ n, FnOk P w K mg base CX0 (n + 3) f fd ["plan"] (spNf K n)
  | 0 => step_nf (n := 0) (kk := 2) (sp' := fun _ _ _ _ => False) (by decide) F FT FS gF gT gS T TK (F.ok scNf (fun _ _ _ _ h => h.elim) (fun _ _ _ _ _ _ _ _ _ h => h.elim)) (fun j e => nomatch e)
  | n + 1 => step_nf (n := n + 1) (kk := n + 3) (sp' := spNf K n) (by omega) F FT FS gF gT gS T TK (ok_nf F FT FS gF gT gS T TK n) (fun j e => by cases e; rfl)
end
end Fp6
set_option Elab.async false
set_option linter.all false
set_option maxRecDepth 100000
set_option maxHeartbeats 4000000
/-! FzE: the reading of a comprehension with two for -/
namespace Fs
open PySem PySem.Spec PyProof.Rows L2 Fh
open PySem.W (Frag)
/-- the inner walk of one turn -/
theorem lc2_in {J1 : It} {n : Nat} {G : Hp → Prop} {Y : Nat → Hp → V → Hp → Prop} (w : Walk J1 n G Y) {g1 : TG} {tt1 : TT} {te : TE} {vs1 : List Nat} {σ2 : L2.St} {H4 : Hp} {D : Addr} {Nx : Hp → Prop} (Pv : Nat → Hp → Prop) (h0 : Pv 0 H4) (hG : ∀ i H, i ≤ n → Pv i H → G H)
    (hs : ∀ i x Ha Hb, i < n → Pv i Ha → Y i Ha x Hb → g1 x (wipe σ2 vs1) Hb fun σ3 H5 => wipe σ3 vs1 = wipe σ2 vs1 ∧ tt1 σ3 H5 fun b H6 => if b = true then te σ3 H6 fun y H7 => ∃ acc, H7 D = some (.lst acc) ∧ acc.length < sizeLine ∧ Pv (i + 1) (upd H7 D (.lst (acc ++ [y]))) else Pv (i + 1) H6)
    (hd : ∀ H, Pv n H → Nx H) :
    ∃ W1 : Nat → Nat → Hp → Prop, (∃ m, W1 0 m H4) ∧ ∀ j k H, W1 j k H → (J1.stop j H ∧ Nx H) ∨ (J1.go j H ∧ ∃ Nx1 : Hp → Prop, (∀ H', Nx1 H' → ∃ k', k' < k ∧ W1 (j + 1) k' H') ∧ ∀ x H', J1.yld j H x H' → g1 x (wipe σ2 vs1) H' fun σ3 H5 => wipe σ3 vs1 = wipe σ2 vs1 ∧ tt1 σ3 H5 fun b H6 =>
      if b = true then te σ3 H6 fun y H7 => ∃ acc, H7 D = some (.lst acc) ∧ acc.length < sizeLine ∧ Nx1 (upd H7 D (.lst (acc ++ [y]))) else Nx1 H6) := by
  refine ⟨fun t left Z => left = n - t ∧ t ≤ n ∧ Pv t Z, ⟨n - 0, rfl, Nat.zero_le n, h0⟩, fun t left Z ⟨el, le, pv⟩ => ?_⟩
  subst el
  have gz := hG t Z le pv
  rcases Nat.lt_or_ge t n with lt | ge
  · refine .inr ⟨w.goes t Z lt gz, Pv (t + 1), fun Z' pv' => ⟨n - (t + 1), by omega, rfl, lt, pv'⟩, fun v Z' yl => ?_⟩
    exact hs t v Z Z' lt pv (w.yields t Z v Z' lt gz yl)
  · obtain rfl : t = n := Nat.le_antisymm le ge
    exact .inl ⟨w.stops Z gz, hd Z pv⟩
/-- one turn of the outer walk -/
abbrev turn2 (wi1 : TI) (g g1 : TG) (tt tt1 : TT) (te : TE) (vs vs1 : List Nat) (σ : L2.St) (D : Addr) (Nx : Hp → Prop) (v : V) (Z : Hp) : Prop :=
  g v (wipe σ vs) Z fun σ2 Z2 => wipe σ2 vs = wipe σ vs ∧ tt σ2 Z2 fun b Z3 => if b = true then wi1 σ2 Z3 fun J1 Z4 => ∃ W1 : Nat → Nat → Hp → Prop, (∃ r, W1 0 r Z4) ∧ ∀ t r Z5, W1 t r Z5 → (J1.stop t Z5 ∧ Nx Z5) ∨ (J1.go t Z5 ∧ ∃ Nx1 : Hp → Prop, (∀ Z6, Nx1 Z6 → ∃ r', r' < r ∧ W1 (t + 1) r' Z6) ∧
    ∀ v1 Z6, J1.yld t Z5 v1 Z6 → g1 v1 (wipe σ2 vs1) Z6 fun σ3 Z7 => wipe σ3 vs1 = wipe σ2 vs1 ∧ tt1 σ3 Z7 fun b1 Z8 => if b1 = true then te σ3 Z8 fun y Z9 => ∃ acc, Z9 D = some (.lst acc) ∧ acc.length < sizeLine ∧ Nx1 (upd Z9 D (.lst (acc ++ [y]))) else Nx1 Z8) else Nx Z3
/-- the outer walk -/
theorem lc2_it {J : It} {n : Nat} {G : Hp → Prop} {Y : Nat → Hp → V → Hp → Prop} (w : Walk J n G Y) {wi1 : TI} {g g1 : TG} {tt tt1 : TT} {te : TE} {vs vs1 : List Nat} {σ : L2.St} {H1 : Hp} {D : Addr} {Qd : Hp → Prop} (Pv : Nat → Hp → Prop) (h0 : Pv 0 (upd H1 D (.lst []))) (hG : ∀ i H, i ≤ n → Pv i H → G H)
    (hs : ∀ i x Ha Hb, i < n → Pv i Ha → Y i Ha x Hb → turn2 wi1 g g1 tt tt1 te vs vs1 σ D (Pv (i + 1)) x Hb) (hd : ∀ H, Pv n H → Qd H) :
    ∃ W : Nat → Nat → Hp → Prop, (∃ r, W 0 r (upd H1 D (.lst []))) ∧ ∀ t r Z, W t r Z → (J.stop t Z ∧ Qd Z) ∨ (J.go t Z ∧ ∃ Nx : Hp → Prop, (∀ Z', Nx Z' → ∃ r', r' < r ∧ W (t + 1) r' Z') ∧ ∀ v Z', J.yld t Z v Z' → turn2 wi1 g g1 tt tt1 te vs vs1 σ D Nx v Z') := by
  refine ⟨fun t left Z => left = n - t ∧ t ≤ n ∧ Pv t Z, ⟨n - 0, rfl, Nat.zero_le n, h0⟩, fun t left Z ⟨el, le, pv⟩ => ?_⟩
  subst el
  have gz := hG t Z le pv
  rcases Nat.lt_or_ge t n with lt | ge
  · refine .inr ⟨w.goes t Z lt gz, Pv (t + 1), fun Z' pv' => ⟨n - (t + 1), by omega, rfl, lt, pv'⟩, fun v Z' yl => ?_⟩
    exact hs t v Z Z' lt pv (w.yields t Z v Z' lt gz yl)
  · obtain rfl : t = n := Nat.le_antisymm le ge
    exact .inl ⟨w.stops Z gz, hd Z pv⟩
end Fs
set_option Elab.async false
set_option linter.all false
set_option maxRecDepth 100000
set_option maxHeartbeats 8000000
/-! names_inside, fronts, _is_choice, turn_of -/
namespace Fp6
open PySem PySem.Spec PyProof.Rows L2 Fh Fs
open PySem.W (Frag)
abbrev sNi : Stmt := top 28
abbrev sFr : Stmt := top 60
abbrev sCh : Stmt := top 61
/-! ### as data -/
theorem w_names {n : Nat} {d : PyData} (h : Sh n d) : (namesF n d).length ≤ d.weight + 1 := by
  induction h with
  | @nm n y h => rw [names_str]; exact Nat.le_add_left _ _
  | @nd n y ds h1 h2 h3 ih =>
    show (ds.flatMap (namesF n)).length ≤ _
    rw [w_tup, w_cons]
    clear h1 h2 h3
    induction ds with
    | nil => exact Nat.zero_le _
    | cons d ds ihd =>
      rw [List.flatMap_cons, List.length_append, w_cons]
      have := ih d List.mem_cons_self
      have := ihd fun e he => ih e (List.mem_cons_of_mem _ he)
      omega
/-- where a plan goes on -/
def frTwo (rec : PyData → List PyData) (d a : PyData) : List PyData → List PyData
  | b :: _ => rec a ++ rec b
  | [] => [d]
def frNd (rec : PyData → List PyData) (d : PyData) (y : Str) : List PyData → List PyData
  | a :: ds => if y = "then" then rec a else if y = "beside" then frTwo rec d a ds else [d]
  | [] => [d]
def frIn (rec : PyData → List PyData) (d : PyData) : List PyData := if isDone d = true then [] else match d with
  | .tuple (.str y :: ds) => frNd rec d y ds
  | d => [d]
def frF : Nat → PyData → List PyData
  | 0, d => if isDone d = true then [] else [d]
  | n + 1, d => frIn (frF n) d
theorem fr_str (n : Nat) (y : Str) : frF n (.str y) = [.str y] := by
  have no : ¬ isDone (.str y) = true := fun z => nomatch z
  cases n with
  | zero =>
    show (if isDone (.str y) = true then ([] : List PyData) else [.str y]) = [.str y]
    exact if_neg no
  | succ n =>
    show (if isDone (.str y) = true then ([] : List PyData) else [.str y]) = [.str y]
    exact if_neg no
theorem fr_nd (n : Nat) (y : Str) (ds : List PyData) : frF (n + 1) (.tuple (.str y :: ds)) = if isDone (.tuple (.str y :: ds)) = true then [] else frNd (frF n) (.tuple (.str y :: ds)) y ds := rfl
theorem frNd_or (rec : PyData → List PyData) (d : PyData) (y : Str) (a : PyData) (ds : List PyData) : (y = "then" ∧ frNd rec d y (a :: ds) = rec a) ∨ (∃ b r, y = "beside" ∧ ds = b :: r ∧ frNd rec d y (a :: ds) = rec a ++ rec b) ∨ frNd rec d y (a :: ds) = [d] := by
  by_cases h : y = "then"
  · exact .inl ⟨h, if_pos h⟩
  · have e : frNd rec d y (a :: ds) = if y = "beside" then frTwo rec d a ds else [d] := if_neg h
    by_cases h2 : y = "beside"
    · rw [if_pos h2] at e
      cases ds with
      | nil => exact .inr (.inr e)
      | cons b r => exact .inr (.inl ⟨b, r, h2, rfl, e⟩)
    · rw [if_neg h2] at e
      exact .inr (.inr e)
theorem w_fr {n : Nat} {d : PyData} (h : Sh n d) : PyData.weightAll (frF n d) ≤ d.weight + 1 ∧ ∀ e ∈ frF n d, Sh n e := by
  induction h with
  | @nm n y h =>
    rw [fr_str, w_cons, w_nil]
    refine ⟨by omega, fun e he => ?_⟩
    rcases List.mem_singleton.mp he with rfl
    exact .nm h
  | @nd n y ds h1 h2 h3 ih =>
    have self : PyData.weightAll [.tuple (.str y :: ds)] ≤ (PyData.tuple (.str y :: ds)).weight + 1 ∧ ∀ e ∈ [PyData.tuple (.str y :: ds)], Sh (n + 1) e := by
      rw [w_cons, w_nil]
      refine ⟨by omega, fun e he => ?_⟩
      rcases List.mem_singleton.mp he with rfl
      exact .nd h1 h2 h3
    rw [fr_nd]
    split
    · rw [w_nil]
      exact ⟨Nat.zero_le _, fun _ z => nomatch z⟩
    · match ds, self, h1, ih with
      | [], self, _, _ => exact self
      | a :: ds', self, h1, ih =>
        obtain ⟨i1, i2⟩ := ih a List.mem_cons_self
        have up : ∀ {l : List PyData}, (∀ e ∈ l, Sh n e) → ∀ e ∈ l, Sh (n + 1) e := fun h e he => (h e he).up (Nat.le_succ n)
        rcases frNd_or (frF n) (.tuple (.str y :: a :: ds')) y a ds' with ⟨_, e⟩ | ⟨b, r, _, rfl, e⟩ | e
        · rw [e, w_tup, w_cons, w_cons]
          exact ⟨by omega, up i2⟩
        · obtain ⟨j1, j2⟩ := ih b (List.mem_cons_of_mem _ List.mem_cons_self)
          rw [e, w_app, w_tup, w_cons, w_cons, w_cons]
          refine ⟨by omega, fun e he => ?_⟩
          rcases List.mem_append.mp he with z | z
          · exact up i2 e z
          · exact up j2 e z
        · rw [e]
          exact self
def choiceF : PyData → Bool
  | .tuple (.str y :: _) => decide (y = "either") || decide (y = "again")
  | _ => false
section
variable {P : Program} {w : World} {K : Frag} {mg : Str → Option Value} {base : Heap} {aF aM aD CE aE : Addr}
/-! ### names_inside -/
def spNi (K : Frag) (n : Nat) : Sp := fun vs H Q _ => ∃ v d, vs = [v] ∧ Pl K H v d ∧ Sh n d ∧ d.weight ≤ 900000 ∧ ∀ l H', Same H H' → H l = none → H' l = some (.lst ((namesF n d).map V.str)) → Q (.ref l) H'
theorem scNi : FnScope ["plan", "part", "name"] ["plan"] (defScope sNi) := ⟨rfl, rfl, rfl, by decide +kernel, rfl, by decide +kernel, by decide +kernel⟩
theorem step_ni {n kk : Nat} {sp' : Sp} {f : Addr} {fd : FuncData} (F : Fun K "names_inside" "names_inside" sNi f fd) (gF : mg "names_inside" = some (.ref f)) (T : TxtR K mg w aF aM aD CE aE) (TK : TxtK mg) (GN : FnOk P w K mg base CX0 kk f fd ["plan"] sp') (hs : ∀ j, n = j + 1 → sp' = spNi K j) : FnOk P w K mg base CX0 (kk + 1) f fd ["plan"] (spNi K n) := by
  have bN : Binds K fd ["plan"] [] := F.binds (ps := ["plan"]) fun _ _ _ _ _ _ us hl => match us, hl with | [_], _ => rfl
  refine F.ok scNi (fun vs H Q E h => ?_) (fun cdv A outer s H vs Q E hr h => ?_)
  · obtain ⟨v, d, rfl, _⟩ := h
    rfl
  · obtain ⟨v, d, rfl, hv, sh, hw, k⟩ := h
    refine' ⟨_, pss_cons ?s1 (pss_one (ps_ret ?s2)), ?q⟩
    case s1 =>
      refine' ps_if (pt_not (pt_val ?a)) (pss_one (ps_ret (pe_lst (pa_cons (pv 0) pa_nil)))) pss_nil
      case a => exact pe_callB call_isi (by rfl) T.isinstance (by decide +kernel) (pa_cons (pv 0) (pa_cons (pe_bltn (v := .ty "tuple") (by rfl) TK.tuple (by decide +kernel) rfl (by decide) (by decide)) pa_nil))
    case s2 =>
      refine' pe_lc2 (own := [("part", 1), ("name", 2)]) (vs1 := [2]) (g := gName 1) (tt := tYes) (g1 := gName 2) (tt1 := tYes) (wi1 := iList K (tCall sp' [] E0 (tCons (tVar 1) tNil))) (te := tVar 2) rfl scNi.nd (pi_tup (pe_slice sl_tupA (pv 0) (po_some pe_int) po_none)) ?k (by decide) ?g (fun _ _ _ _ _ => pts_nil) ?i1 ?g1 (fun _ _ _ _ _ => pts_nil) ?e
      case k => exact blkOk_by (N := ["plan", "part", "name"]) (sc := defScope sNi) (by decide +kernel)
      case g => exact fun _ _ _ _ _ => pg_name (i := 1) scNi.nd rfl (Or.inl rfl)
      case i1 => exact fun _ _ _ _ _ => pi_list (pe_call GN hr rfl gF F.kp bN .nil pass0 (pa_cons (pv 1) pa_nil))
      case g1 => exact fun _ _ _ _ _ => pg_name (i := 2) scNi.nd rfl (Or.inl rfl)
      case e => exact fun _ _ _ _ _ => pv 2
    case q =>
      have ty := hv.ty
      have kt := kit_tup K d
      have ssz : sizeLine = 16777216 := sizeLine_eq
      refine ⟨_, rfl, _, _, _, _, isTup d, rfl, .ty _, ty, kt, _, rfl, ?_⟩
      cases sh with
      | @nm _ y hy =>
        cases hv
        refine iteT ⟨_, rfl, (show 1 ≤ sizeLine by decide), fun l nl => k l _ (Same.new nl) nl ?_⟩
        rw [names_str]
        exact upd_same
      | @nd n y ds h1 h2 h3 =>
        obtain rfl := hs n rfl
        refine iteF ?_
        cases hv with
        | @tup a vs _ hg r =>
          cases r with
          | @cons x0 d0 xs _ hx r =>
            cases hx
            have lx := r.len
            rw [w_tup, w_cons] at hw
            refine ⟨_, rfl, 1, rfl, a, _, rfl, hg, fun z => tail_new xs z.1, fun _ q nq => ?_⟩
            rw [cut_tail]
            have sq : Same H (upd H q (.tup xs)) := Same.new nq
            have gq : (upd H q (.tup xs)) q = some (.tup xs) := upd_same
            generalize upd H q (.tup xs) = H1 at sq gq ⊢
            refine ⟨q, rfl, ⟨_, SqT.of gq⟩, fun D nD => ?_⟩
            have nDH : H D = none := none_back sq nD
            refine lc2_it (walk_tup (K := K) (a := q) (xs := xs)) (fun i Hh => Hh D = some (.lst (((ds.take i).flatMap (namesF n)).map V.str)) ∧ Same H1 Hh) ⟨upd_same, Same.new nD⟩ (fun _ Hh _ ⟨_, z⟩ => SqT.of (z _ _ gq)) ?_ ?_
            · rintro i x Ha Hb hi ⟨hD, sa⟩ ⟨rfl, gx⟩
              refine ⟨rfl, ?_⟩
              refine yes_of ?_
              have di : i < ds.length := by omega
              have gd : ds[i]? = some ds[i] := List.getElem?_eq_getElem di
              have dx := (r.get gx gd).same (sq.trans sa)
              have mem : ds[i] ∈ ds := List.getElem_mem di
              have wm := w_mem mem
              refine ⟨_, rfl, x, ds[i], rfl, dx, h3 _ mem, by omega, fun l Hc sc nl hl => ?_⟩
              have hDc := sc _ _ hD
              have nDl : l ≠ D := fun e => by rw [e, hD] at nl; cases nl
              refine ⟨l, rfl, ⟨_, SqL.of hl⟩, ?_⟩
              have ew : ((ds.take (i + 1)).flatMap (namesF n)) = (ds.take i).flatMap (namesF n) ++ namesF n ds[i] := by
                rw [List.take_add_one, gd, List.flatMap_append]
                show _ ++ (namesF n ds[i] ++ []) = _
                rw [List.append_nil]
              have few : ((ds.take i).flatMap (namesF n)).length + (namesF n ds[i]).length ≤ 900001 := by
                have h := w_names (n := n + 1) (.nd h1 h2 h3)
                have h' : (ds.flatMap (namesF n)).length ≤ (PyData.tuple (.str y :: ds)).weight + 1 := h
                rw [w_tup, w_cons] at h'
                have e2 : ds.flatMap (namesF n) = (ds.take (i + 1)).flatMap (namesF n) ++ (ds.drop (i + 1)).flatMap (namesF n) := by
                  rw [← List.flatMap_append, List.take_append_drop]
                rw [e2, ew, List.length_append, List.length_append] at h'
                omega
              refine lc2_in (walk_list (K := K) (a := l) (xs := (namesF n ds[i]).map V.str)) (fun j Hh => Hh D = some (.lst (((ds.take i).flatMap (namesF n) ++ (namesF n ds[i]).take j).map V.str)) ∧ Same H1 Hh ∧ Hh l = some (.lst ((namesF n ds[i]).map V.str))) ⟨by rw [List.take_zero, List.append_nil]; exact hDc, sa.trans sc, hl⟩ (fun _ Hh _ ⟨_, _, z⟩ => SqL.of z) ?_ ?_
              · rintro j z Hd He hj ⟨hDd, sd, hld⟩ ⟨rfl, gz⟩
                rw [List.length_map] at hj
                have gz2 : (namesF n ds[i])[j]? = some (namesF n ds[i])[j] := List.getElem?_eq_getElem hj
                have ez : z = .str (namesF n ds[i])[j] := by
                  rw [List.getElem?_map, gz2] at gz
                  exact (Option.some.inj gz).symm
                refine ⟨rfl, ?_⟩
                refine yes_of ?_
                refine ⟨_, rfl, _, hDd, ?_, ?_, ?_, ?_⟩
                · rw [List.length_map, List.length_append, List.length_take]
                  omega
                · rw [upd_same, List.take_add_one, gz2, ez]
                  simp only [Option.toList, List.map_append, List.map_cons, List.map_nil, List.append_assoc]
                · exact same_off sd nD
                · rw [upd_ne nDl]
                  exact hld
              · rintro Hd ⟨hDd, sd, _⟩
                rw [List.length_map, List.take_length] at hDd
                refine ⟨?_, sd⟩
                rw [ew]
                exact hDd
            · rintro Ha ⟨hD, sa⟩
              rw [lx, List.take_length] at hD
              exact k D Ha (sq.trans sa) nDH hD
theorem ok_ni {f : Addr} {fd : FuncData} (F : Fun K "names_inside" "names_inside" sNi f fd) (gF : mg "names_inside" = some (.ref f)) (T : TxtR K mg w aF aM aD CE aE) (TK : TxtK mg) : ∀ n, FnOk P w K mg base CX0 (n + 2) f fd ["plan"] (spNi K n)
  | 0 => step_ni (n := 0) (kk := 1) (sp' := fun _ _ _ _ => False) F gF T TK (F.ok scNi (fun _ _ _ _ h => h.elim) (fun _ _ _ _ _ _ _ _ _ h => h.elim)) (fun j e => nomatch e)
  | n + 1 => step_ni (n := n + 1) (kk := n + 2) (sp' := spNi K n) F gF T TK (ok_ni F gF T TK n) (fun j e => by cases e; rfl)
end
end Fp6
set_option Elab.async false
set_option linter.all false
set_option maxRecDepth 100000
set_option maxHeartbeats 1000000
/-! fronts run -/
namespace Fp6
open PySem PySem.Spec PyProof.Rows L2 Fh Fs
open PySem.W (Frag)
section
variable {P : Program} {w : World} {K : Frag} {mg : Str → Option Value} {base : Heap} {aF aM aD CE aE : Addr}
/-! ### fronts -/
def spFr (K : Frag) (n : Nat) : Sp := fun vs H Q _ => ∃ v d, vs = [v] ∧ Pl K H v d ∧ Sh n d ∧ n ≤ 50 ∧ d.weight ≤ 900000 ∧ ∀ l xs H', Same H H' → H l = none → H' l = some (.lst xs) → Pls K H' xs (frF n d) → Q (.ref l) H'
theorem scFr : FnScope ["plan"] ["plan"] (defScope sFr) := ⟨rfl, rfl, rfl, by decide +kernel, rfl, by decide +kernel, by decide +kernel⟩
theorem step_fr {n kk : Nat} {sp' : Sp} {f : Addr} {fd : FuncData} (F : Fun K "fronts" "fronts" sFr f fd) (gF : mg "fronts" = some (.ref f)) (T : TxtR K mg w aF aM aD CE aE) (TK : TxtK mg) (GN : FnOk P w K mg base CX0 kk f fd ["plan"] sp') (hs : ∀ j, n = j + 1 → sp' = spFr K j) : FnOk P w K mg base CX0 (kk + 1) f fd ["plan"] (spFr K n) := by
  have bN : Binds K fd ["plan"] [] := F.binds (ps := ["plan"]) fun _ _ _ _ _ _ us hl => match us, hl with | [_], _ => rfl
  refine F.ok scFr (fun vs H Q E h => ?_) (fun cdv A outer s H vs Q E hr h => ?_)
  · obtain ⟨v, d, rfl, _⟩ := h
    rfl
  · obtain ⟨v, d, rfl, hv, sh, hn, hw, k⟩ := h
    refine' ⟨_, pss_cons ?s1 (pss_cons ?s2 (pss_cons ?s3 (pss_one ?s4))), ?q⟩
    case s1 => exact ps_if (pt_cmpR (op_eqD hr.units) (pv 0) (pe_glob (v := .ref aD) (by rfl) T.gD rfl) (nomark _)) (pss_one (ps_ret (pe_lst pa_nil))) pss_nil
    case s2 =>
      refine' ps_if (PW.pt (pw_and (pt_val ?a) (pw_and1 ?b))) (pss_one (ps_ret ?c)) pss_nil
      case a => exact pe_callB call_isi (by rfl) T.isinstance (by decide +kernel) (pa_cons (pv 0) (pa_cons (pe_bltn (v := .ty "tuple") (by rfl) TK.tuple (by decide +kernel) rfl (by decide) (by decide)) pa_nil))
      case b => exact pt_cmpR op_eq (pe_ix ix_tup (pv 0) pe_int (fun _ _ => rfl)) pe_str (nomark _)
      case c => exact pe_call GN hr rfl gF F.kp bN .nil pass0 (pa_cons (pe_ix ix_tup (pv 0) pe_int (fun _ _ => rfl)) pa_nil)
    case s3 =>
      refine' ps_if (PW.pt (pw_and (pt_val ?a) (pw_and1 ?b))) (pss_one (ps_ret (pe_op op_cat ?c ?d))) pss_nil
      case a => exact pe_callB call_isi (by rfl) T.isinstance (by decide +kernel) (pa_cons (pv 0) (pa_cons (pe_bltn (v := .ty "tuple") (by rfl) TK.tuple (by decide +kernel) rfl (by decide) (by decide)) pa_nil))
      case b => exact pt_cmpR op_eq (pe_ix ix_tup (pv 0) pe_int (fun _ _ => rfl)) pe_str (nomark _)
      case c => exact pe_call GN hr rfl gF F.kp bN .nil pass0 (pa_cons (pe_ix ix_tup (pv 0) pe_int (fun _ _ => rfl)) pa_nil)
      case d => exact pe_call GN hr rfl gF F.kp bN .nil pass0 (pa_cons (pe_ix ix_tup (pv 0) pe_int (fun _ _ => rfl)) pa_nil)
    case s4 => exact ps_ret (pe_lst (pa_cons (pv 0) pa_nil))
    case q =>
      have ty := hv.ty
      have kt := kit_tup K d
      have ssz : sizeLine = 16777216 := sizeLine_eq
      have dd := (done_pl T H).dp
      refine ⟨_, rfl, d, doneD, hv.dp, dd, sh.shaped (by omega), done_shaped, isDone d, rfl, ?_⟩
      have self : ∀ {d : PyData}, Pl K H v d → (∀ l xs H', Same H H' → H l = none → H' l = some (.lst xs) → Pls K H' xs [d] → Q (.ref l) H') → tRet (tLst (tCons (tVar 0) tNil)) { nx := fun _ H' => Q V.non H', rt := Q } [some v] H := fun {d} hv k =>
        ⟨_, rfl, (show 1 ≤ sizeLine by decide), fun l nl => k l _ _ (Same.new nl) nl upd_same (.cons (hv.same (Same.new nl)) .nil)⟩
      cases sh with
      | @nm _ y hy =>
        rw [isDone_str]
        refine iteF ⟨_, rfl, _, _, _, _, false, rfl, .ty _, ty, kt, false, rfl, iteF (iteF ⟨_, rfl, _, _, _, _, false, rfl, .ty _, ty, kt, false, rfl, iteF (iteF (self hv ?_))⟩)⟩
        rw [fr_str] at k
        exact k
      | @nd n y ds h1 h2 h3 =>
        obtain rfl := hs n rfl
        rw [fr_nd] at k
        cases ed : isDone (.tuple (.str y :: ds)) with
        | true =>
          rw [if_pos ed] at k
          exact iteT ⟨(show 0 ≤ sizeLine by decide), fun l nl => k l _ _ (Same.new nl) nl upd_same .nil⟩
        | false =>
          rw [if_neg (by rw [ed]; exact fun z => nomatch z)] at k
          have w1 : (PyData.tuple (.str y :: ds)).weight = y.length + 1 + PyData.weightAll ds := by rw [w_tup, w_cons, w_str]
          rw [w1] at hw
          refine iteF ⟨_, rfl, _, _, _, _, true, rfl, .ty _, ty, kt, true, rfl, iteT ?_⟩
          cases hv with
          | @tup a vs _ hg r =>
            cases r with
            | @cons x0 d0 xs _ hx r =>
              cases hx
              refine ⟨_, rfl, a, _, 0, _, rfl, rfl, hg, atI_nat rfl, rfl, decide (y = "then"), congrArg V.bl (eq_word _), ?_⟩
              have more : y = "then" → ds ≠ [] := fun e z => by
                rw [isDone_nd, e, z] at ed
                cases ed
              by_cases e1 : y = "then"
              · obtain ⟨a', ds', rfl⟩ := one_of (more e1)
                obtain ⟨x1, xs', rfl, hx1, r'⟩ := r.uncons
                have ek : frNd (frF n) (.tuple (.str y :: a' :: ds')) y (a' :: ds') = frF n a' := if_pos e1
                rw [ek] at k
                rw [w_cons] at hw
                rw [decide_eq_true e1]
                exact iteT ⟨_, rfl, a, _, 1, x1, rfl, rfl, hg, atI_nat rfl, x1, a', rfl, hx1, h3 _ List.mem_cons_self, by omega, by omega, k⟩
              · rw [decide_eq_false e1]
                refine iteF ⟨_, rfl, _, _, _, _, true, rfl, .ty _, ty, kt, true, rfl, iteT ⟨_, rfl, a, _, 0, _, rfl, rfl, hg, atI_nat rfl, rfl, decide (y = "beside"), congrArg V.bl (eq_word _), ?_⟩⟩
                by_cases e2 : y = "beside"
                · rw [decide_eq_true e2]
                  subst e2
                  obtain ⟨a', b', rfl⟩ := two_of (beside_two h1)
                  obtain ⟨x1, xs', rfl, hx1, r'⟩ := r.uncons
                  obtain ⟨x2, xs'', rfl, hx2, r''⟩ := r'.uncons
                  have ek : frNd (frF n) (.tuple (.str "beside" :: [a', b'])) "beside" [a', b'] = frF n a' ++ frF n b' := rfl
                  rw [ek] at k
                  rw [w_cons, w_cons, w_nil] at hw
                  have wa := (w_fr (h3 a' List.mem_cons_self)).1
                  have wb := (w_fr (h3 b' (List.mem_cons_of_mem _ List.mem_cons_self))).1
                  have la := w_len (frF n a')
                  have lb := w_len (frF n b')
                  refine iteT ⟨_, rfl, a, _, 1, x1, rfl, rfl, hg, atI_nat rfl, x1, a', rfl, hx1, h3 _ List.mem_cons_self, by omega, by omega, fun l1 ys H1 s1 n1 g1 p1 => ?_⟩
                  refine ⟨_, rfl, a, _, 2, x2, rfl, rfl, (KeepT.of s1).sqT hg, atI_nat rfl, x2, b', rfl, hx2.same s1, h3 _ (List.mem_cons_of_mem _ List.mem_cons_self), by omega, by omega, fun l2 zs H2 s2 n2 g2 p2 => ?_⟩
                  have q1 := p1.len
                  have q2 := p2.len
                  refine ⟨l1, l2, ys, zs, rfl, rfl, s2 _ _ g1, g2, by omega, fun l nl => k l _ _ ((s1.trans s2).trans (Same.new nl)) (none_back (s1.trans s2) nl) upd_same ?_⟩
                  exact ((p1.same s2).append p2).same (Same.new nl)
                · rw [decide_eq_false e2]
                  refine iteF (self (.tup hg (.cons (.str _) r)) fun l xs' H' s' nl hl hp => k l xs' H' s' nl hl ?_)
                  have e : frNd (frF n) (.tuple (.str y :: ds)) y ds = [.tuple (.str y :: ds)] := by
                    cases ds with
                    | nil => rfl
                    | cons a' ds' => exact (if_neg e1).trans (if_neg e2)
                  rw [e]
                  exact hp
theorem ok_fr {f : Addr} {fd : FuncData} (F : Fun K "fronts" "fronts" sFr f fd) (gF : mg "fronts" = some (.ref f)) (T : TxtR K mg w aF aM aD CE aE) (TK : TxtK mg) : ∀ n, FnOk P w K mg base CX0 (n + 2) f fd ["plan"] (spFr K n)
  | 0 => step_fr (n := 0) (kk := 1) (sp' := fun _ _ _ _ => False) F gF T TK (F.ok scFr (fun _ _ _ _ h => h.elim) (fun _ _ _ _ _ _ _ _ _ h => h.elim)) (fun j e => nomatch e)
  | n + 1 => step_fr (n := n + 1) (kk := n + 2) (sp' := spFr K n) F gF T TK (ok_fr F gF T TK n) (fun j e => by cases e; rfl)
end
end Fp6
set_option Elab.async false
set_option linter.all false
set_option maxRecDepth 100000
set_option maxHeartbeats 1000000
/-! _is_choice, turn_of run -/
namespace Fp6
open PySem PySem.Spec PyProof.Rows L2 Fh Fs
open PySem.W (Frag)
section
variable {P : Program} {w : World} {K : Frag} {mg : Str → Option Value} {base : Heap} {aF aM aD CE aE : Addr}
/-! ### whose turn it is -/
structure TxtN (mg : Str → Option Value) : Prop where
  any : mg "any" = none
  enumerate : mg "enumerate" = none
  list : mg "list" = none
  set : mg "set" = none
  sorted : mg "sorted" = none
def spCh (K : Frag) : Sp := fun vs H Q _ => ∃ v d n, vs = [v] ∧ Pl K H v d ∧ Sh n d ∧ ∀ H', Same H H' → Q (.bl (choiceF d)) H'
theorem scCh : FnScope ["front"] ["front"] (defScope sCh) := ⟨rfl, rfl, rfl, by decide +kernel, rfl, by decide +kernel, by decide +kernel⟩
theorem ok_ch {f : Addr} {fd : FuncData} (F : Fun K "_is_choice" "_is_choice" sCh f fd) (T : TxtR K mg w aF aM aD CE aE) (TK : TxtK mg) : FnOk P w K mg base CX0 1 f fd ["front"] (spCh K) := by
  refine F.ok scCh (fun vs H Q E h => ?_) (fun cdv A outer s H vs Q E hr h => ?_)
  · obtain ⟨v, d, n, rfl, _⟩ := h
    rfl
  · obtain ⟨v, d, n, rfl, hv, sh, k⟩ := h
    refine' ⟨_, pss_one (ps_ret (pe_and ?a (pe_one ?b))), ?q⟩
    case a => exact pe_callB call_isi (by rfl) T.isinstance (by decide +kernel) (pa_cons (pv 0) (pa_cons (pe_bltn (v := .ty "tuple") (by rfl) TK.tuple (by decide +kernel) rfl (by decide) (by decide)) pa_nil))
    case b => exact pe_cmpR op_in_seq (pe_ix ix_tup (pv 0) pe_int (fun _ _ => rfl)) (pe_tup (pa_cons pe_str (pa_cons pe_str pa_nil))) (by rfl)
    case q =>
      have ty := hv.ty
      have kt := kit_tup K d
      refine ⟨_, rfl, _, _, _, _, isTup d, rfl, .ty _, ty, kt, _, rfl, ?_⟩
      cases sh with
      | nm _ => exact iteF (k H (Same.refl _))
      | @nd n y ds h1 h2 h3 =>
        cases hv with
        | @tup a vs _ hg r =>
          cases r with
          | @cons x0 d0 xs _ hx r =>
            cases hx
            refine iteT ⟨_, rfl, a, _, 0, _, rfl, rfl, hg, atI_nat rfl, (show 2 ≤ sizeLine by decide), fun t nt => ⟨t, _, rfl, .inr (SqT.of upd_same), rfl, rfl, ?_⟩⟩
            have ew : inV (V.str y) [V.str "either", V.str "again"] = (decide (y = "either") || decide (y = "again")) := by
              show ((Str.ofString "either" == y) || ((Str.ofString "again" == y) || false)) = _
              rw [Bool.or_false]
              have q : ∀ s : Str, (s == y) = decide (y = s) := fun s => by
                by_cases h : y = s
                · rw [decide_eq_true h, beq_iff_eq.mpr h.symm]
                · rw [decide_eq_false h, beq_eq_false_iff_ne.mpr (Ne.symm h)]
              rw [q, q]
            have z := k (upd H t (.tup [V.str "either", V.str "again"])) (Same.new nt)
            rw [show choiceF (.tuple (.str y :: ds)) = (decide (y = "either") || decide (y = "again")) from rfl, ← ew] at z
            exact z
end
end Fp6
set_option Elab.async false
set_option linter.all false
set_option maxRecDepth 100000
set_option maxHeartbeats 1000000
/-! normal plans; what is put in a front's place; ways, as data -/
namespace Fp6
open PySem PySem.Spec PyProof.Rows L2 Fh Fs
open PySem.W (Frag)
/-- a plan in normal form -/
inductive Nm : PyData → Prop where
  | nm {y : Str} : Nm (.str y)
  | thn {ds : List PyData} : ds.length ≠ 1 → (∀ d ∈ ds, Nm d) → (∀ d ∈ ds, thenParts d = none) → Nm (.tuple (.str "then" :: ds))
  | bes {a b : PyData} : Nm a → Nm b → isDone a = false → isDone b = false → Nm (.tuple [.str "beside", a, b])
  | oth {y : Str} {ds : List PyData} : y ≠ "then" → y ≠ "beside" → (∀ d ∈ ds, Nm d) → Nm (.tuple (.str y :: ds))
theorem nm_done : Nm doneD := .thn (by decide) (fun _ z => nomatch z) (fun _ z => nomatch z)
theorem thenParts_nd (y : Str) (ds : List PyData) : thenParts (.tuple (.str y :: ds)) = if y = "then" then some ds else none := rfl
theorem nm_flat1 {d : PyData} (h : Nm d) : ∀ e ∈ flat1 d, Nm e ∧ thenParts e = none := by
  intro e he
  unfold flat1 at he
  cases q : thenParts d with
  | none =>
    rw [q] at he
    rcases List.mem_singleton.mp he with rfl
    exact ⟨h, q⟩
  | some es =>
    rw [q] at he
    cases h with
    | nm => cases q
    | @thn ds h1 h2 h3 =>
      rw [thenParts_nd, if_pos rfl] at q
      cases q
      exact ⟨h2 e he, h3 e he⟩
    | bes h1 h2 h3 h4 => rw [thenParts_nd, if_neg (by decide +kernel)] at q; cases q
    | oth h1 h2 h3 => rw [thenParts_nd, if_neg h1] at q; cases q
theorem nm_turn {ds : List PyData} (h : ∀ d ∈ ds, Nm d) : Nm (inTurn ds) := by
  have f : ∀ e ∈ flatF ds, Nm e ∧ thenParts e = none := fun e he => by
    obtain ⟨d, hd, he⟩ := List.mem_flatMap.mp he
    exact nm_flat1 (h d hd) e he
  unfold inTurn
  split
  · rename_i d e
    rw [e] at f
    exact (f d List.mem_cons_self).1
  · rename_i es ne
    refine .thn (fun l => ?_) (fun d hd => (f d hd).1) (fun d hd => (f d hd).2)
    match h : flatF ds, l with
    | [x], _ => exact ne x h
theorem nm_side {a b : PyData} (ha : Nm a) (hb : Nm b) : Nm (side a b) := by
  unfold side
  split
  · exact hb
  · rename_i ea
    split
    · exact ha
    · rename_i eb
      exact .bes ha hb (by cases h : isDone a with | true => exact absurd h ea | false => rfl) (by cases h : isDone b with | true => exact absurd h eb | false => rfl)
theorem nm_nf : ∀ {n : Nat} {d : PyData}, Sh n d → Nm (nf n d)
  | 0, _, .nm _ => .nm
  | n + 1, _, .nm h => .nm
  | n + 1, _, .nd (y := y) (ds := ds) h1 h2 h3 => by
    have m : ∀ e ∈ ds.map (nf n), Nm e := fun e he => by
      obtain ⟨d, hd, rfl⟩ := List.mem_map.mp he
      exact nm_nf (h3 d hd)
    show Nm (if y = "then" then inTurn (ds.map (nf n)) else if y = "beside" then twoOf (ds.map (nf n)) (.tuple (.str y :: ds)) else .tuple (.str y :: ds.map (nf n)))
    split
    · exact nm_turn m
    · rename_i ny
      split
      · rename_i e
        subst e
        obtain ⟨a, b, rfl⟩ := two_of (beside_two h1)
        exact nm_side (m _ List.mem_cons_self) (m _ (List.mem_cons_of_mem _ List.mem_cons_self))
      · rename_i nb
        exact .oth ny nb m
theorem live_of {d : PyData} (h : thenParts d = none) : isDone d = false := by
  cases e : isDone d with
  | false => rfl
  | true =>
    exfalso
    match d, e, h with
    | .tuple (.str y :: ds), e, h =>
      rw [isDone_nd, Bool.and_eq_true, decide_eq_true_eq] at e
      rw [thenParts_nd, if_pos e.1] at h
      cases h
/-! ### another part in a front's place -/
def repTh (rec : PyData → PyData) (new : PyData) : List PyData → PyData
  | a :: r => inTurn (rec a :: r)
  | [] => new
def repBe (rec : PyData → PyData) (new : PyData) (i : Nat) : List PyData → PyData
  | a :: b :: _ => if i = 0 then side (rec a) b else side a (rec b)
  | _ => new
def repIn (rec : PyData → Nat → PyData) (new : PyData) (i : Nat) : PyData → PyData
  | .tuple (.str y :: ds) => if y = "then" then repTh (fun a => rec a i) new ds else if y = "beside" then repBe (fun a => rec a 0) new i ds else new
  | _ => new
def repF (new : PyData) : Nat → PyData → Nat → PyData
  | 0, _, _ => new
  | n + 1, d, i => repIn (repF new n) new i d
theorem rep_nd (new : PyData) (n i : Nat) (y : Str) (ds : List PyData) : repF new (n + 1) (.tuple (.str y :: ds)) i = if y = "then" then repTh (fun a => repF new n a i) new ds else if y = "beside" then repBe (fun a => repF new n a 0) new i ds else new := rfl
theorem rep_str (new : PyData) (n i : Nat) (y : Str) : repF new n (.str y) i = new := by cases n <;> rfl
theorem sh_rep {new : PyData} {k : Nat} (hn : Sh k new) : ∀ {n : Nat} {d : PyData} (i : Nat), Sh n d → Sh (n + k) (repF new n d i) := by
  intro n d i h
  induction h generalizing i with
  | nm _ => rw [rep_str]; exact hn.up (by omega)
  | @nd n y ds h1 h2 h3 ih =>
    rw [rep_nd]
    have up : Sh (n + 1 + k) new := hn.up (by omega)
    split
    · cases ds with
      | nil => exact up
      | cons a r =>
        have := sh_turn (n := n + k) (ds := repF new n a i :: r) fun e he => by
          rcases List.mem_cons.mp he with z | z
          · rw [z]; exact ih a List.mem_cons_self i
          · exact (h3 e (List.mem_cons_of_mem _ z)).up (by omega)
        exact this.up (by omega)
    · split
      · match ds, h3, ih with
        | [], _, _ => exact up
        | [_], _, _ => exact up
        | a :: b :: r, h3, ih =>
          show Sh _ (if i = 0 then side (repF new n a 0) b else side a (repF new n b 0))
          have ra := ih a List.mem_cons_self 0
          have rb := ih b (List.mem_cons_of_mem _ List.mem_cons_self) 0
          have ua := (h3 a List.mem_cons_self).up (show n ≤ n + k by omega)
          have ub := (h3 b (List.mem_cons_of_mem _ List.mem_cons_self)).up (show n ≤ n + k by omega)
          split
          · exact (sh_side ra ub).up (by omega)
          · exact (sh_side ua rb).up (by omega)
      · exact up
theorem w_rep {new : PyData} : ∀ {n : Nat} {d : PyData} (i : Nat), Sh n d → (repF new n d i).weight ≤ d.weight + new.weight := by
  intro n d i h
  induction h generalizing i with
  | nm _ => rw [rep_str]; omega
  | @nd n y ds h1 h2 h3 ih =>
    rw [rep_nd]
    split
    · rename_i e
      subst e
      cases ds with
      | nil => show new.weight ≤ _; omega
      | cons a r =>
        have t := w_turn (repF new n a i :: r)
        have r1 := ih a List.mem_cons_self i
        rw [w_cons] at t
        show (inTurn (repF new n a i :: r)).weight ≤ _
        rw [w_tup, w_cons, w_cons, w_str, then_len]
        omega
    · split
      · rename_i e
        subst e
        match ds, ih with
        | [], _ => show new.weight ≤ _; omega
        | [_], _ => show new.weight ≤ _; omega
        | a :: b :: r, ih =>
          have ra := ih a List.mem_cons_self 0
          have rb := ih b (List.mem_cons_of_mem _ List.mem_cons_self) 0
          show (if i = 0 then side (repF new n a 0) b else side a (repF new n b 0)).weight ≤ _
          rw [w_tup, w_cons, w_cons, w_cons, w_str, show (Str.ofString "beside").length = 6 by decide +kernel]
          split
          · have := w_side (repF new n a 0) b
            omega
          · have := w_side a (repF new n b 0)
            omega
      · omega
/-! ### fronts: names, and plans that are neither done nor in turn nor beside -/
def Ft : PyData → Prop
  | .str _ => True
  | .tuple (.str y :: _) => y ≠ "then" ∧ y ≠ "beside"
  | _ => False
theorem ft_fr {n : Nat} {d : PyData} (h : Sh n d) : ∀ e ∈ frF n d, Ft e := by
  induction h with
  | nm _ =>
    rw [fr_str]
    intro e he
    rcases List.mem_singleton.mp he with rfl
    exact True.intro
  | @nd n y ds h1 h2 h3 ih =>
    rw [fr_nd]
    split
    · exact fun _ z => nomatch z
    · rename_i nd
      cases ds with
      | nil =>
        intro e he
        rcases List.mem_singleton.mp he with rfl
        refine ⟨fun z => nd ?_, fun z => ?_⟩
        · rw [isDone_nd, z]; rfl
        · subst z
          exact absurd (beside_two h1) (by decide)
      | cons a r =>
        by_cases e1 : y = "then"
        · have e : frNd (frF n) (.tuple (.str y :: a :: r)) y (a :: r) = frF n a := if_pos e1
          rw [e]
          exact ih a List.mem_cons_self
        · by_cases e2 : y = "beside"
          · subst e2
            obtain ⟨a', b', hab⟩ := two_of (beside_two h1)
            cases hab
            have e : frNd (frF n) (.tuple (.str "beside" :: [a, b'])) "beside" [a, b'] = frF n a ++ frF n b' := rfl
            rw [e]
            intro e he
            rcases List.mem_append.mp he with z | z
            · exact ih a List.mem_cons_self e z
            · exact ih b' (List.mem_cons_of_mem _ List.mem_cons_self) e z
          · have e : frNd (frF n) (.tuple (.str y :: a :: r)) y (a :: r) = [.tuple (.str y :: a :: r)] := (if_neg e1).trans (if_neg e2)
            rw [e]
            intro e he
            rcases List.mem_singleton.mp he with rfl
            exact ⟨e1, e2⟩
/-! ### branches, ways -/
def brF : PyData → List PyData
  | .tuple (.str y :: ds) => if y = "again" then (match ds with
    | a :: _ => [doneD, inTurn [a, .tuple (.str y :: ds)]]
    | [] => []) else ds
  | _ => []
theorem br_fine {n : Nat} {d : PyData} (h : Sh n d) (g : Ft d) : (brF d).length ≤ 4 ∧ (∀ e ∈ brF d, Sh (n + 1) e) ∧ (∀ e ∈ brF d, e.weight ≤ 2 * d.weight + 10) ∧ (Nm d → ∀ e ∈ brF d, Nm e) := by
  cases h with
  | nm _ => exact ⟨Nat.zero_le _, (fun _ z => nomatch z), (fun _ z => nomatch z), (fun _ _ z => nomatch z)⟩
  | @nd n y ds h1 h2 h3 =>
    have l4 : ds.length ≤ 4 := h2.resolve_left g.1
    have nmp : Nm (.tuple (.str y :: ds)) → ∀ e ∈ ds, Nm e := fun q => by
      cases q with
      | thn _ _ _ => exact absurd rfl g.1
      | bes _ _ _ _ => exact absurd rfl g.2
      | oth _ _ h => exact h
    by_cases e1 : y = "again"
    · cases ds with
      | nil =>
        have e : brF (.tuple [.str y]) = [] := if_pos e1
        rw [e]
        exact ⟨Nat.zero_le _, (fun _ z => nomatch z), (fun _ z => nomatch z), (fun _ _ z => nomatch z)⟩
      | cons a r =>
        have e : brF (.tuple (.str y :: a :: r)) = [doneD, inTurn [a, .tuple (.str y :: a :: r)]] := if_pos e1
        have whole : Sh (n + 1) (.tuple (.str y :: a :: r)) := .nd h1 h2 h3
        rw [e]
        refine ⟨(show 2 ≤ 4 by decide), fun e he => ?_, fun e he => ?_, fun q e he => ?_⟩
        · rcases List.mem_cons.mp he with z | z
          · rw [z]; exact sh_done _
          · rcases List.mem_singleton.mp z with rfl
            refine sh_turn fun e he => ?_
            rcases List.mem_cons.mp he with z | z
            · rw [z]; exact (h3 a List.mem_cons_self).up (Nat.le_succ n)
            · rcases List.mem_singleton.mp z with rfl
              exact whole
        · rcases List.mem_cons.mp he with z | z
          · rw [z, w_tup, w_cons, w_nil, w_str, then_len]; omega
          · rcases List.mem_singleton.mp z with rfl
            have t := w_turn [a, .tuple (.str y :: a :: r)]
            have wa : a.weight ≤ (PyData.tuple (.str y :: a :: r)).weight := by rw [w_tup, w_cons, w_cons]; omega
            rw [w_cons, w_cons, w_nil] at t
            omega
        · rcases List.mem_cons.mp he with z | z
          · rw [z]; exact nm_done
          · rcases List.mem_singleton.mp z with rfl
            refine nm_turn fun e he => ?_
            rcases List.mem_cons.mp he with z | z
            · rw [z]; exact nmp q a List.mem_cons_self
            · rcases List.mem_singleton.mp z with rfl
              exact q
    · have e : brF (.tuple (.str y :: ds)) = ds := if_neg e1
      rw [e]
      refine ⟨l4, fun e he => (h3 e he).up (by omega), fun e he => ?_, nmp⟩
      have := w_mem he
      rw [w_tup, w_cons]
      omega
/-- a way: its word, its front's number, a branch's number or a name, the plan behind it -/
structure Wy where
  word : Str
  at_ : Nat
  what : PyData
  plan : PyData
def picksL (n : Nat) (d : PyData) (i : Nat) (word : Str) : Nat → List PyData → List Wy
  | _, [] => []
  | j, e :: es => ⟨word, i, .int (j : Int), repF e n d i⟩ :: picksL n d i word (j + 1) es
def picksF (n : Nat) (d : PyData) (i : Nat) (f : PyData) (word : Str) : List Wy := picksL n d i word 0 (brF f)
def wayF (n : Nat) (d : PyData) (i : Nat) (f : PyData) : List Wy := if isTup f = true then picksF n d i f "pick" else [⟨"do", i, f, repF doneD n d i⟩]
def waysL (n : Nat) (d : PyData) : Nat → List PyData → List Wy
  | _, [] => []
  | i, f :: fs => wayF n d i f ++ waysL n d (i + 1) fs
/-- the first front that the world chooses at -/
def firstCh : Nat → List PyData → Option (PyData × Nat)
  | _, [] => none
  | i, f :: fs => if choiceF f = true then some (f, i) else firstCh (i + 1) fs
def waysOr (n : Nat) (d : PyData) (l : List PyData) : Option (PyData × Nat) → List Wy
  | some q => picksF n d q.2 q.1 "choose"
  | none => waysL n d 0 l
def waysF (n : Nat) (d : PyData) : List Wy := waysOr n d (frF n d) (firstCh 0 (frF n d))
theorem picks_snoc (n : Nat) (d : PyData) (i : Nat) (word : Str) (e : PyData) : ∀ (l : List PyData) (j : Nat), picksL n d i word j (l ++ [e]) = picksL n d i word j l ++ [⟨word, i, .int ((j + l.length : Nat) : Int), repF e n d i⟩]
  | [], j => rfl
  | a :: l, j => by
    show _ :: picksL n d i word (j + 1) (l ++ [e]) = _ :: (picksL n d i word (j + 1) l ++ _)
    rw [picks_snoc n d i word e l (j + 1), List.length_cons, show j + 1 + l.length = j + (l.length + 1) by omega]
theorem picks_len (n : Nat) (d : PyData) (i : Nat) (word : Str) : ∀ (l : List PyData) (j : Nat), (picksL n d i word j l).length = l.length
  | [], _ => rfl
  | _ :: l, j => congrArg (· + 1) (picks_len n d i word l (j + 1))
theorem ways_snoc (n : Nat) (d : PyData) (f : PyData) : ∀ (l : List PyData) (i : Nat), waysL n d i (l ++ [f]) = waysL n d i l ++ wayF n d (i + l.length) f
  | [], i => List.append_nil _
  | a :: l, i => by
    show wayF n d i a ++ waysL n d (i + 1) (l ++ [f]) = (wayF n d i a ++ waysL n d (i + 1) l) ++ _
    rw [ways_snoc n d f l (i + 1), List.append_assoc, List.length_cons, show i + 1 + l.length = i + (l.length + 1) by omega]
theorem first_none : ∀ (l : List PyData) (k : Nat), (∀ (i : Nat) (f : PyData), l[i]? = some f → choiceF f = false) → firstCh k l = none
  | [], _, _ => rfl
  | f :: l, k, h => by
    show (if choiceF f = true then some (f, k) else firstCh (k + 1) l) = none
    rw [if_neg (by rw [h 0 f rfl]; exact fun z => nomatch z)]
    exact first_none l (k + 1) fun i g e => h (i + 1) g e
theorem first_some {f : PyData} (hc : choiceF f = true) : ∀ (l : List PyData) (k i : Nat), (∀ (j : Nat) (g : PyData), j < i → l[j]? = some g → choiceF g = false) → l[i]? = some f → firstCh k l = some (f, k + i)
  | [], _, i, _, e => by cases e
  | g :: l, k, 0, _, e => by
    cases e
    show (if choiceF f = true then some (f, k) else firstCh (k + 1) l) = _
    rw [if_pos hc]
    rfl
  | g :: l, k, i + 1, h, e => by
    show (if choiceF g = true then some (g, k) else firstCh (k + 1) l) = _
    rw [if_neg (by rw [h 0 g (by omega) rfl]; exact fun z => nomatch z), first_some hc l (k + 1) i (fun j g' hj e' => h (j + 1) g' (by omega) e') e, show k + 1 + i = k + (i + 1) by omega]
theorem way_len {n : Nat} {d : PyData} {i m : Nat} {f : PyData} (h : Sh m f) (g : Ft f) : (wayF n d i f).length ≤ 4 := by
  unfold wayF
  split
  · unfold picksF
    rw [picks_len]
    exact (br_fine h g).1
  · show 1 ≤ 4
    decide
theorem ways_len {n : Nat} {d : PyData} {m : Nat} : ∀ {l : List PyData} (i : Nat), (∀ f ∈ l, Sh m f ∧ Ft f) → (waysL n d i l).length ≤ 4 * l.length
  | [], _, _ => Nat.zero_le _
  | f :: l, i, h => by
    have h1 := way_len (n := n) (d := d) (i := i) (h f List.mem_cons_self).1 (h f List.mem_cons_self).2
    have h2 := ways_len (n := n) (d := d) (l := l) (i + 1) fun g hg => h g (List.mem_cons_of_mem _ hg)
    show (wayF n d i f ++ waysL n d (i + 1) l).length ≤ _
    rw [List.length_append, List.length_cons]
    omega
theorem fr_live {n : Nat} {d : PyData} (h : frF n d ≠ []) : isDone d = false := by
  cases e : isDone d with
  | false => rfl
  | true =>
    exfalso
    apply h
    cases n with
    | zero =>
      show (if isDone d = true then ([] : List PyData) else [d]) = []
      exact if_pos e
    | succ n =>
      show frIn (frF n) d = []
      unfold frIn
      rw [if_pos e]
end Fp6
set_option Elab.async false
set_option linter.all false
set_option maxRecDepth 100000
set_option maxHeartbeats 1000000
/-! _replaced, _branches run -/
namespace Fp6
open PySem PySem.Spec PyProof.Rows L2 Fh Fs
open PySem.W (Frag)
abbrev sRe : Stmt := top 62
abbrev sBr : Stmt := top 63
theorem cut_two (x y : V) (xs : List V) : cutV (x :: y :: xs) (some 2) none = xs := by
  show ((x :: y :: xs).drop (min 2 (xs.length + 1 + 1))).take (xs.length + 1 + 1 - min 2 (xs.length + 1 + 1)) = xs
  rw [show min 2 (xs.length + 1 + 1) = 2 by omega]
  show (xs.take (xs.length + 1 + 1 - 2)) = xs
  rw [List.take_of_length_le (by omega)]
theorem two_new (xs : List V) {G : Prop} (z : min 2 (xs.length + 1 + 1) = 0) : G := by omega
section
variable {P : Program} {w : World} {K : Frag} {mg : Str → Option Value} {base : Heap} {aF aM aD CE aE : Addr}
def spRe (K : Frag) (n : Nat) : Sp := fun vs H Q _ => ∃ (vp vn : V) (d : PyData) (i : Nat) (new : PyData) (m : Nat), vs = [vp, .int (i : Int), vn] ∧ Pl K H vp d ∧ Sh n d ∧ Nm d ∧ isDone d = false ∧ Pl K H vn new ∧ Sh m new ∧ n + m ≤ 50 ∧ d.weight + new.weight ≤ 900000 ∧ ∀ x H', Same H H' → Pl K H' x (repF new n d i) → Q x H'
theorem scRe : FnScope ["plan", "at", "new"] ["plan", "at", "new"] (defScope sRe) := ⟨rfl, rfl, rfl, by decide +kernel, rfl, by decide +kernel, by decide +kernel⟩
theorem step_re {n kk : Nat} {sp' : Sp} {f aT aS : Addr} {fd fT fS : FuncData} (hk : 1 ≤ kk) (F : Fun K "_replaced" "_replaced" sRe f fd) (FT : Fun K "in_turn" "in_turn" sTurn aT fT) (FS : Fun K "side_by_side" "side_by_side" sSide aS fS) (gF : mg "_replaced" = some (.ref f)) (gT : mg "in_turn" = some (.ref aT)) (gS : mg "side_by_side" = some (.ref aS))
    (T : TxtR K mg w aF aM aD CE aE) (TK : TxtK mg) (GN : FnOk P w K mg base CX0 kk f fd ["plan", "at", "new"] sp') (hs : ∀ j, n = j + 1 → sp' = spRe K j) : FnOk P w K mg base CX0 (kk + 1) f fd ["plan", "at", "new"] (spRe K n) := by
  have GT : FnOk P w K mg base CX0 1 aT fT ["parts"] (spTurn K) := ok_turn FT T TK
  have GS : FnOk P w K mg base CX0 1 aS fS ["one", "other"] (spSide K) := ok_side FS T
  have bT : Binds K fT ["parts"] [] := FT.binds (ps := ["parts"]) fun _ _ _ _ _ _ us hl => match us, hl with | [_], _ => rfl
  have bS : Binds K fS ["one", "other"] [] := FS.binds (ps := ["one", "other"]) fun _ _ _ _ _ _ us hl => match us, hl with | [_, _], _ => rfl
  have bN : Binds K fd ["plan", "at", "new"] [] := F.binds (ps := ["plan", "at", "new"]) fun _ _ _ _ _ _ us hl => match us, hl with | [_, _, _], _ => rfl
  refine F.ok scRe (fun vs H Q E h => ?_) (fun cdv A outer s H vs Q E hr h => ?_)
  · obtain ⟨vp, vn, d, i, new, m, rfl, _⟩ := h
    rfl
  · obtain ⟨vp, vn, d, i, new, m, rfl, hv, sh, nm, live, hn, shn, lv, hw, k⟩ := h
    have hr1 : Room 1 _ := hr.mono hk
    refine' ⟨_, pss_cons ?s1 (pss_cons ?s2 (pss_one (ps_ret (pv 2)))), ?q⟩
    case s1 =>
      refine' ps_if (PW.pt (pw_and (pt_val ?a) (pw_and1 ?b))) (pss_one (ps_ret ?c)) pss_nil
      case a => exact pe_callB call_isi (by rfl) T.isinstance (by decide +kernel) (pa_cons (pv 0) (pa_cons (pe_bltn (v := .ty "tuple") (by rfl) TK.tuple (by decide +kernel) rfl (by decide) (by decide)) pa_nil))
      case b => exact pt_cmpR op_eq (pe_ix ix_tup (pv 0) pe_int (fun _ _ => rfl)) pe_str (nomark _)
      case c =>
        refine' pe_call GT hr1 rfl gT FT.kp bT .nil pass0 (pa_cons (pe_lst (pa_cons ?r (StX.pa_star ?s pa_nil))) pa_nil)
        case r => exact pe_call GN hr rfl gF F.kp bN .nil pass0 (pa_cons (pe_ix ix_tup (pv 0) pe_int (fun _ _ => rfl)) (pa_cons (pv 1) (pa_cons (pv 2) pa_nil)))
        case s => exact pe_slice sl_tupA (pv 0) (po_some pe_int) po_none
    case s2 =>
      refine' ps_if (PW.pt (pw_and (pt_val ?a) (pw_and1 ?b))) (pss_cons ?c (pss_one (ps_ret ?d))) pss_nil
      case a => exact pe_callB call_isi (by rfl) T.isinstance (by decide +kernel) (pa_cons (pv 0) (pa_cons (pe_bltn (v := .ty "tuple") (by rfl) TK.tuple (by decide +kernel) rfl (by decide) (by decide)) pa_nil))
      case b => exact pt_cmpR op_eq (pe_ix ix_tup (pv 0) pe_int (fun _ _ => rfl)) pe_str (nomark _)
      case c =>
        refine' ps_if (pt_cmpR op_eq (pv 1) pe_int (nomark _)) (pss_one (ps_ret ?e)) pss_nil
        case e =>
          refine' pe_call GS hr1 rfl gS FS.kp bS .nil pass0 (pa_cons ?r (pa_cons (pe_ix ix_tup (pv 0) pe_int (fun _ _ => rfl)) pa_nil))
          case r => exact pe_call GN hr rfl gF F.kp bN .nil pass0 (pa_cons (pe_ix ix_tup (pv 0) pe_int (fun _ _ => rfl)) (pa_cons pe_int (pa_cons (pv 2) pa_nil)))
      case d =>
        refine' pe_call GS hr1 rfl gS FS.kp bS .nil pass0 (pa_cons (pe_ix ix_tup (pv 0) pe_int (fun _ _ => rfl)) (pa_cons ?r pa_nil))
        case r => exact pe_call GN hr rfl gF F.kp bN .nil pass0 (pa_cons (pe_ix ix_tup (pv 0) pe_int (fun _ _ => rfl)) (pa_cons pe_int (pa_cons (pv 2) pa_nil)))
    case q =>
      have ty := hv.ty
      have kt := kit_tup K d
      have ssz : sizeLine = 16777216 := sizeLine_eq
      cases sh with
      | @nm _ y hy =>
        rw [rep_str] at k
        exact ⟨_, rfl, _, _, _, _, false, rfl, .ty _, ty, kt, false, rfl, iteF (iteF ⟨_, rfl, _, _, _, _, false, rfl, .ty _, ty, kt, false, rfl, iteF (iteF ⟨_, rfl, k vn H (Same.refl _) hn⟩)⟩)⟩
      | @nd n y ds h1 h2 h3 =>
        obtain rfl := hs n rfl
        rw [rep_nd] at k
        rw [w_tup, w_cons] at hw
        refine ⟨_, rfl, _, _, _, _, true, rfl, .ty _, ty, kt, true, rfl, iteT ?_⟩
        cases hv with
        | @tup a vs _ hg r0 =>
          obtain ⟨x0, xs, rfl, hx, r⟩ := r0.uncons
          clear r0
          cases hx
          refine ⟨_, rfl, a, _, 0, _, rfl, rfl, hg, atI_nat rfl, rfl, decide (y = "then"), congrArg V.bl (eq_word _), ?_⟩
          by_cases e1 : y = "then"
          · have ne : ds ≠ [] := fun z => by
              rw [isDone_nd, e1, z] at live
              cases live
            obtain ⟨p, ps, rfl⟩ := one_of ne
            obtain ⟨x1, xs', rfl, hx1, r'⟩ := r.uncons
            rw [if_pos e1] at k
            rw [decide_eq_true e1]
            subst e1
            have np : Nm p ∧ thenParts p = none := by
              cases nm with
              | thn _ ha hb => exact ⟨ha p List.mem_cons_self, hb p List.mem_cons_self⟩
              | oth z _ _ => exact absurd rfl z
            rw [w_cons] at hw
            have wr := w_rep (new := new) i (h3 p List.mem_cons_self)
            refine iteT ⟨_, rfl, a, _, 1, x1, rfl, rfl, hg, atI_nat rfl, _, rfl, _, rfl, x1, vn, p, i, new, m, rfl, hx1, h3 _ List.mem_cons_self, np.1, live_of np.2, hn, shn, by omega, by omega, fun x H1 s1 hx => ?_⟩
            refine ⟨_, rfl, 2, rfl, a, _, rfl, (KeepT.of s1).sqT hg, fun z => two_new xs' z.1, fun _ q nq => ?_⟩
            rw [cut_two]
            have sq : Same H1 (upd H1 q (.tup xs')) := Same.new nq
            have gq : (upd H1 q (.tup xs')) q = some (.tup xs') := upd_same
            generalize upd H1 q (.tup xs') = H2 at sq gq ⊢
            have lr := r'.len
            have wl := w_len ps
            have p4 : Pls K H2 (xs' ++ []) ps := by rw [List.append_nil]; exact r'.same (s1.trans sq)
            refine ⟨q, _, rfl, .inl (SqT.of gq), ?_, fun l nl => ?_⟩
            · show (x :: (xs' ++ [])).length ≤ sizeLine
              rw [List.append_nil, List.length_cons]
              omega
            have s3 := (s1.trans sq).trans (Same.new nl (o := .lst (x :: (xs' ++ []))))
            have p5 : Pls K (upd H2 l (.lst (x :: (xs' ++ [])))) (x :: (xs' ++ [])) (repF new n p i :: ps) := .cons (hx.same (sq.trans (Same.new nl))) (p4.same (Same.new nl))
            refine ⟨l, _, _, n + m, rfl, SqL.of upd_same, p5, fun e he => ?_, ?_, fun z H' s' hz => k z H' (s3.trans s') hz⟩
            · rcases List.mem_cons.mp he with z | z
              · rw [z]; exact sh_rep shn i (h3 p List.mem_cons_self)
              · exact (h3 e (List.mem_cons_of_mem _ z)).up (by omega)
            · rw [w_cons]; omega
          · rw [if_neg e1] at k
            rw [decide_eq_false e1]
            refine iteF ⟨_, rfl, _, _, _, _, true, rfl, .ty _, ty, kt, true, rfl, iteT ⟨_, rfl, a, _, 0, _, rfl, rfl, hg, atI_nat rfl, rfl, decide (y = "beside"), congrArg V.bl (eq_word _), ?_⟩⟩
            by_cases e2 : y = "beside"
            · rw [if_pos e2] at k
              rw [decide_eq_true e2]
              subst e2
              obtain ⟨p, q, rfl⟩ := two_of (beside_two h1)
              obtain ⟨x1, xs', rfl, hx1, r'⟩ := r.uncons
              obtain ⟨x2, xs'', rfl, hx2, r''⟩ := r'.uncons
              have np : (Nm p ∧ isDone p = false) ∧ Nm q ∧ isDone q = false := by
                cases nm with
                | bes ha hb hc hd => exact ⟨⟨ha, hc⟩, hb, hd⟩
                | oth _ z _ => exact absurd rfl z
              rw [w_cons, w_cons] at hw
              have sp1 := h3 p List.mem_cons_self
              have sp2 := h3 q (List.mem_cons_of_mem _ List.mem_cons_self)
              refine iteT ⟨_, rfl, rfl, decide (i = 0), ?_, ?_⟩
              · refine congrArg V.bl ?_
                by_cases h : i = 0
                · rw [decide_eq_true h, decide_eq_true (by rw [h]; rfl)]
                · rw [decide_eq_false h, decide_eq_false (fun e => h (by injection e with e; omega))]
              · by_cases e3 : i = 0
                · rw [decide_eq_true e3]
                  subst e3
                  have k : ∀ x H', Same H H' → Pl K H' x (side (repF new n p 0) q) → Q x H' := k
                  refine iteT ⟨_, rfl, a, _, 1, x1, rfl, rfl, hg, atI_nat rfl, _, rfl, x1, vn, p, 0, new, m, rfl, hx1, sp1, np.1.1, np.1.2, hn, shn, by omega, by omega, fun x H1 s1 hx => ?_⟩
                  exact ⟨_, rfl, a, _, 2, x2, rfl, rfl, (KeepT.of s1).sqT hg, atI_nat rfl, x, x2, _, q, n + m, rfl, hx, hx2.same s1, sh_rep shn 0 sp1, sp2.up (by omega), by omega, fun z H' s' hz => k z H' (s1.trans s') hz⟩
                · rw [decide_eq_false e3]
                  have e4 : repBe (fun a => repF new n a 0) new i [p, q] = side p (repF new n q 0) := if_neg e3
                  rw [e4] at k
                  refine iteF ⟨_, rfl, a, _, 1, x1, rfl, rfl, hg, atI_nat rfl, _, rfl, a, _, 2, x2, rfl, rfl, hg, atI_nat rfl, _, rfl, x2, vn, q, 0, new, m, rfl, hx2, sp2, np.2.1, np.2.2, hn, shn, by omega, by omega, fun x H1 s1 hx => ?_⟩
                  exact ⟨x1, x, p, _, n + m, rfl, hx1.same s1, hx, sp1.up (by omega), sh_rep shn 0 sp2, by omega, fun z H' s' hz => k z H' (s1.trans s') hz⟩
            · rw [if_neg e2] at k
              rw [decide_eq_false e2]
              exact iteF ⟨_, rfl, k vn H (Same.refl _) hn⟩
theorem ok_re {f aT aS : Addr} {fd fT fS : FuncData} (F : Fun K "_replaced" "_replaced" sRe f fd) (FT : Fun K "in_turn" "in_turn" sTurn aT fT) (FS : Fun K "side_by_side" "side_by_side" sSide aS fS) (gF : mg "_replaced" = some (.ref f)) (gT : mg "in_turn" = some (.ref aT)) (gS : mg "side_by_side" = some (.ref aS))
    (T : TxtR K mg w aF aM aD CE aE) (TK : TxtK mg) : ∀ n, FnOk P w K mg base CX0 (n + 3) f fd ["plan", "at", "new"] (spRe K n)
  | 0 => step_re (n := 0) (kk := 2) (sp' := fun _ _ _ _ => False) (by decide) F FT FS gF gT gS T TK (F.ok scRe (fun _ _ _ _ h => h.elim) (fun _ _ _ _ _ _ _ _ _ h => h.elim)) (fun j e => nomatch e)
  | n + 1 => step_re (n := n + 1) (kk := n + 3) (sp' := spRe K n) (by omega) F FT FS gF gT gS T TK (ok_re F FT FS gF gT gS T TK n) (fun j e => by cases e; rfl)
/-! ### a front's branches -/
def spBr (K : Frag) : Sp := fun vs H Q _ => ∃ v d n, vs = [v] ∧ Pl K H v d ∧ Sh n d ∧ Ft d ∧ isTup d = true ∧ d.weight ≤ 400000 ∧ ∀ l xs H', Same H H' → H l = none → H' l = some (.lst xs) → Pls K H' xs (brF d) → Q (.ref l) H'
theorem scBr : FnScope ["front"] ["front"] (defScope sBr) := ⟨rfl, rfl, rfl, by decide +kernel, rfl, by decide +kernel, by decide +kernel⟩
theorem ok_br {f aT : Addr} {fd fT : FuncData} (F : Fun K "_branches" "_branches" sBr f fd) (FT : Fun K "in_turn" "in_turn" sTurn aT fT) (gT : mg "in_turn" = some (.ref aT)) (T : TxtR K mg w aF aM aD CE aE) (TK : TxtK mg) (TN : TxtN mg) : FnOk P w K mg base CX0 2 f fd ["front"] (spBr K) := by
  have GT : FnOk P w K mg base CX0 1 aT fT ["parts"] (spTurn K) := ok_turn FT T TK
  have bT : Binds K fT ["parts"] [] := FT.binds (ps := ["parts"]) fun _ _ _ _ _ _ us hl => match us, hl with | [_], _ => rfl
  refine F.ok scBr (fun vs H Q E h => ?_) (fun cdv A outer s H vs Q E hr h => ?_)
  · obtain ⟨v, d, n, rfl, _⟩ := h
    rfl
  · obtain ⟨v, d, n, rfl, hv, sh, ft, tp, hw, k⟩ := h
    refine' ⟨_, pss_cons ?s1 (pss_one (ps_ret ?s2)), ?q⟩
    case s1 =>
      refine' ps_if (pt_cmpR op_eq (pe_ix ix_tup (pv 0) pe_int (fun _ _ => rfl)) pe_str (nomark _)) (pss_one (ps_ret (pe_lst (pa_cons ?a (pa_cons ?b pa_nil))))) pss_nil
      case a => exact pe_glob (v := .ref aD) (by rfl) T.gD rfl
      case b => exact pe_call GT hr rfl gT FT.kp bT .nil pass0 (pa_cons (pe_lst (pa_cons (pe_ix ix_tup (pv 0) pe_int (fun _ _ => rfl)) (pa_cons (pv 0) pa_nil))) pa_nil)
    case s2 => exact pe_callTy call_list_of (by rfl) TN.list (by decide +kernel) (pa_cons (pe_slice sl_tupA (pv 0) (po_some pe_int) po_none) pa_nil)
    case q =>
      have ssz : sizeLine = 16777216 := sizeLine_eq
      cases sh with
      | nm _ => cases tp
      | @nd n y ds h1 h2 h3 =>
        have hv0 := hv
        have sh0 : Sh (n + 1) (.tuple (.str y :: ds)) := .nd h1 h2 h3
        cases hv with
        | @tup a vs _ hg r0 =>
          obtain ⟨x0, xs, rfl, hx, r⟩ := r0.uncons
          clear r0
          cases hx
          refine ⟨_, rfl, a, _, 0, _, rfl, rfl, hg, atI_nat rfl, rfl, decide (y = "again"), congrArg V.bl (eq_word _), ?_⟩
          by_cases e1 : y = "again"
          · rw [decide_eq_true e1]
            subst e1
            have one : ∃ p, ds = [p] := by
              have e : rightNo (Str.ofString "again") (ds.length : Int) = (decide ((1 : Int) ≤ ds.length) && decide ((ds.length : Int) ≤ 1)) := rfl
              rw [e, Bool.and_eq_true, decide_eq_true_eq, decide_eq_true_eq] at h1
              match ds, h1 with
              | [p], _ => exact ⟨p, rfl⟩
              | [], h1 => exact absurd h1.1 (by decide)
              | _ :: _ :: _, h1 => rw [List.length_cons, List.length_cons] at h1; omega
            obtain ⟨p, rfl⟩ := one
            obtain ⟨x1, xs', rfl, hx1, r'⟩ := r.uncons
            have wp : p.weight + 5 + 2 ≤ (PyData.tuple [.str "again", p]).weight := by
              rw [w_tup, w_cons, w_cons, w_nil, w_str, show (Str.ofString "again").length = 5 by decide +kernel]
              omega
            refine iteT ⟨_, rfl, a, _, 1, x1, rfl, rfl, hg, atI_nat rfl, _, rfl, (show 2 ≤ sizeLine by decide), fun l1 n1 => ?_⟩
            have s1 : Same H (upd H l1 (.lst [x1, .ref a])) := Same.new n1
            refine ⟨l1, [x1, .ref a], [p, .tuple [.str "again", p]], n + 1, rfl, SqL.of upd_same, .cons (hx1.same s1) (.cons (hv0.same s1) .nil), fun e he => ?_, ?_, fun x H1 s2 hx => ?_⟩
            · rcases List.mem_cons.mp he with z | z
              · rw [z]; exact (h3 p List.mem_cons_self).up (Nat.le_succ n)
              · rcases List.mem_singleton.mp z with rfl
                exact sh0
            · rw [w_cons, w_cons, w_nil]
              omega
            · refine ⟨(show 2 ≤ sizeLine by decide), fun l nl => k l _ _ ((s1.trans s2).trans (Same.new nl)) (none_back (s1.trans s2) nl) upd_same ?_⟩
              exact .cons (done_pl T _) (.cons (hx.same (Same.new nl)) .nil)
          · rw [decide_eq_false e1]
            have e : brF (.tuple (.str y :: ds)) = ds := if_neg e1
            rw [e] at k
            refine iteF ⟨_, rfl, 1, rfl, a, _, rfl, hg, fun z => tail_new xs z.1, fun _ q nq => ?_⟩
            rw [cut_tail]
            have sq : Same H (upd H q (.tup xs)) := Same.new nq
            have gq : (upd H q (.tup xs)) q = some (.tup xs) := upd_same
            generalize upd H q (.tup xs) = H1 at sq gq ⊢
            exact ⟨q, xs, rfl, .inr (SqT.of gq), fun l nl => k l _ _ (sq.trans (Same.new nl)) (none_back sq nl) upd_same (r.same (sq.trans (Same.new nl)))⟩
end
end Fp6
set_option Elab.async false
set_option linter.all false
set_option maxRecDepth 100000
set_option maxHeartbeats 1000000
/-! _picks, ways_of run -/
namespace Fp6
open PySem PySem.Spec PyProof.Rows L2 Fh Fs
open PySem.W (Frag)
abbrev sPi : Stmt := top 64
abbrev sWy : Stmt := top 65
abbrev NPk : List Str := ["plan", "at", "front", "word", "index", "branch"]
abbrev NWy : List Str := ["plan", "nexts", "at", "front", "found"]
/-- v is a branch's number or a name -/
def WhatV (v : V) (d : PyData) : Prop := (∃ i, v = .int i ∧ d = .int i) ∨ ∃ s, v = .str s ∧ d = .str s
/-- v is a way -/
def WyAt (K : Frag) (H : Hp) (v : V) (y : Wy) : Prop := ∃ (t : Addr) (z p : V), v = .ref t ∧ SqT K H t [.str y.word, .int (y.at_ : Int), z, p] ∧ WhatV z y.what ∧ Pl K H p y.plan
inductive Wys (K : Frag) (H : Hp) : List V → List Wy → Prop where
  | nil : Wys K H [] []
  | cons {v : V} {y : Wy} {vs : List V} {ys : List Wy} : WyAt K H v y → Wys K H vs ys → Wys K H (v :: vs) (y :: ys)
theorem WyAt.keep {K : Frag} {H H' : Hp} (k : KeepT H H') {v : V} {y : Wy} : WyAt K H v y → WyAt K H' v y := fun ⟨t, z, p, e, s, w, q⟩ => ⟨t, z, p, e, k.sqT s, w, q.keep k⟩
theorem Wys.keep {K : Frag} {H H' : Hp} (k : KeepT H H') : ∀ {vs : List V} {ys : List Wy}, Wys K H vs ys → Wys K H' vs ys
  | _, _, .nil => .nil
  | _, _, .cons h r => .cons (h.keep k) (Wys.keep k r)
theorem Wys.app {K : Frag} {H : Hp} : ∀ {vs us : List V} {ys zs : List Wy}, Wys K H vs ys → Wys K H us zs → Wys K H (vs ++ us) (ys ++ zs)
  | _, _, _, _, .nil, r => r
  | _, _, _, _, .cons h r, r2 => .cons h (Wys.app r r2)
theorem Wys.len {K : Frag} {H : Hp} : ∀ {vs : List V} {ys : List Wy}, Wys K H vs ys → vs.length = ys.length
  | _, _, .nil => rfl
  | _, _, .cons _ r => congrArg (· + 1) (Wys.len r)
section
variable {P : Program} {w : World} {K : Frag} {mg : Str → Option Value} {base : Heap} {aF aM aD CE aE : Addr}
def spPk (K : Frag) (n : Nat) : Sp := fun vs H Q _ => ∃ (vp vf : V) (d f : PyData) (i : Nat) (word : Str), vs = [vp, .int (i : Int), vf, .str word] ∧ Pl K H vp d ∧ Sh n d ∧ Nm d ∧ isDone d = false ∧ Pl K H vf f ∧ Sh n f ∧ Ft f ∧ isTup f = true ∧ n ≤ 20 ∧ d.weight ≤ 100000 ∧ f.weight ≤ 100001 ∧
  ∀ l xs H', Same H H' → H l = none → H' l = some (.lst xs) → Wys K H' xs (picksF n d i f word) → Q (.ref l) H'
theorem scPk : FnScope NPk ["plan", "at", "front", "word"] (defScope sPi) := ⟨rfl, rfl, rfl, by decide +kernel, rfl, by decide +kernel, by decide +kernel⟩
theorem ok_pk {n : Nat} {f aR aB aT aS : Addr} {fd fR fB fT fS : FuncData} (F : Fun K "_picks" "_picks" sPi f fd) (FR : Fun K "_replaced" "_replaced" sRe aR fR) (FB : Fun K "_branches" "_branches" sBr aB fB) (FT : Fun K "in_turn" "in_turn" sTurn aT fT) (FS : Fun K "side_by_side" "side_by_side" sSide aS fS)
    (gR : mg "_replaced" = some (.ref aR)) (gB : mg "_branches" = some (.ref aB)) (gT : mg "in_turn" = some (.ref aT)) (gS : mg "side_by_side" = some (.ref aS)) (T : TxtR K mg w aF aM aD CE aE) (TK : TxtK mg) (TN : TxtN mg) : FnOk P w K mg base CX0 (n + 4) f fd ["plan", "at", "front", "word"] (spPk K n) := by
  have GR : FnOk P w K mg base CX0 (n + 3) aR fR ["plan", "at", "new"] (spRe K n) := ok_re FR FT FS gR gT gS T TK n
  have GB : FnOk P w K mg base CX0 2 aB fB ["front"] (spBr K) := ok_br FB FT gT T TK TN
  have bR : Binds K fR ["plan", "at", "new"] [] := FR.binds (ps := ["plan", "at", "new"]) fun _ _ _ _ _ _ us hl => match us, hl with | [_, _, _], _ => rfl
  have bB : Binds K fB ["front"] [] := FB.binds (ps := ["front"]) fun _ _ _ _ _ _ us hl => match us, hl with | [_], _ => rfl
  refine F.ok scPk (fun vs H Q E h => ?_) (fun cdv A outer s H vs Q E hr h => ?_)
  · obtain ⟨vp, vf, d, f, i, word, rfl, _⟩ := h
    rfl
  · obtain ⟨vp, vf, d, f, i, word, rfl, hv, sh, nm, live, hf, shf, ft, tp, hn, hw, hwf, k⟩ := h
    have hr2 : Room 2 _ := hr.mono (by omega)
    refine' ⟨_, pss_one (ps_ret (pe_lc (own := [("index", 4), ("branch", 5)]) (g := gTup K 2 (gCons (gName 4) (gCons (gName 5) gNil))) (tt := tYes) rfl scPk.nd ?i ?k ?g (fun _ _ _ _ _ => pts_nil) ?e)), ?q⟩
    case i => exact pi_enum (by rfl) TN.enumerate (pa_cons (pe_call GB hr2 rfl gB FB.kp bB .nil pass0 (pa_cons (pv 2) pa_nil)) pa_nil)
    case k => exact blkOk_by (N := NPk) (sc := defScope sPi) (by decide +kernel)
    case g => exact fun _ _ _ _ _ => pg_tup rfl (pgs_cons (pg_name (i := 4) scPk.nd rfl (Or.inl rfl)) (pgs_cons (pg_name (i := 5) scPk.nd rfl (Or.inl rfl)) pgs_nil))
    case e => exact fun _ _ _ _ _ => pe_tup (pa_cons (pv 3) (pa_cons (pv 1) (pa_cons (pv 4) (pa_cons (pe_call GR hr rfl gR FR.kp bR .nil pass0 (pa_cons (pv 0) (pa_cons (pv 1) (pa_cons (pv 5) pa_nil)))) pa_nil))))
    case q =>
      have ssz : sizeLine = 16777216 := sizeLine_eq
      obtain ⟨b4, bsh, bw, _⟩ := br_fine shf ft
      refine ⟨_, rfl, vf, f, n, rfl, hf, shf, ft, tp, by omega, fun l xs H1 s1 nl hl hp => ?_⟩
      refine ⟨l, xs, rfl, SqL.of hl, fun D nD => ?_⟩
      have lx := hp.len
      have nDH : H D = none := none_back s1 nD
      refine lc_it (walk_enum (K := K) (a := l) (xs := xs)) (fun j Hh => ∃ ys, Hh D = some (.lst ys) ∧ Wys K Hh ys (picksL n d i word 0 ((brF f).take j)) ∧ Same H1 Hh) ⟨[], upd_same, .nil, Same.new nD⟩ (fun _ Hh _ ⟨_, _, _, z⟩ => SqL.of (z _ _ hl)) ?_ ?_
      · rintro j v Ha Hb hj ⟨ys, hD, wy, sa⟩ ⟨T0, x, y, rfl, nT, rfl, ex, gy⟩
        cases ex
        have di : j < (brF f).length := by omega
        have gd : (brF f)[j]? = some (brF f)[j] := List.getElem?_eq_getElem di
        have mem := List.getElem_mem di
        have sT : Same Ha (upd Ha T0 (.tup [.int (j : Nat), y])) := Same.new nT
        have hTD := sT _ _ hD
        have hT0 : (upd Ha T0 (.tup [.int (j : Nat), y])) T0 = some (.tup [.int (j : Nat), y]) := upd_same
        have tk : picksL n d i word 0 ((brF f).take (j + 1)) = picksL n d i word 0 ((brF f).take j) ++ [⟨word, i, .int (j : Int), repF (brF f)[j] n d i⟩] := by
          rw [List.take_add_one, gd]
          show picksL n d i word 0 ((brF f).take j ++ [(brF f)[j]]) = _
          rw [picks_snoc, List.length_take, Nat.min_eq_left (by omega), Nat.zero_add]
        have dx := (hp.get gy gd).same (sa.trans sT)
        have w1 := bw _ mem
        have sh1 := bsh _ mem
        generalize upd Ha T0 (.tup [.int (j : Nat), y]) = Hc at sT hTD hT0 dx ⊢
        refine ⟨T0, _, rfl, SqT.of hT0, rfl, _, _, rfl, gName_go ⟨_, _, rfl, gName_go ⟨rfl, ?_⟩⟩⟩
        refine ⟨rfl, ?_⟩
        refine yes_of ?_
        refine ⟨_, rfl, _, rfl, _, rfl, _, rfl, _, rfl, _, rfl, vp, y, d, i, _, n + 1, rfl, hv.same ((s1.trans sa).trans sT), sh, nm, live, dx, sh1, by omega, by omega, fun z He se hz => ?_⟩
        have ly := wy.len
        rw [picks_len, List.length_take] at ly
        refine ⟨(show 4 ≤ sizeLine by decide), fun t nt => ?_⟩
        have sF : Same Hc (upd He t (.tup [.str word, .int (i : Int), .int (j : Nat), z])) := se.trans (Same.new nt)
        have hDF := sF _ _ hTD
        refine ⟨ys, hDF, by omega, ys ++ [.ref t], upd_same, ?_, same_off (sa.trans (sT.trans sF)) nD⟩
        rw [tk]
        exact ((wy.keep (KeepT.of (sT.trans sF))).app (.cons ⟨t, _, _, rfl, SqT.of upd_same, .inl ⟨_, rfl, rfl⟩, hz.same (Same.new nt)⟩ .nil)).keep (KeepT.lst hDF)
      · rintro Ha ⟨ys, hD, wy, sa⟩
        rw [lx, List.take_length] at wy
        exact k D ys Ha (s1.trans sa) nDH hD wy
end
end Fp6
set_option Elab.async false
set_option linter.all false
set_option maxRecDepth 100000
set_option maxHeartbeats 1000000
/-! ways_of runs -/
namespace Fp6
open PySem PySem.Spec PyProof.Rows L2 Fh Fs
open PySem.W (Frag)
section
variable {P : Program} {w : World} {K : Frag} {mg : Str → Option Value} {base : Heap} {aF aM aD CE aE : Addr}
def spWy (K : Frag) (n : Nat) : Sp := fun vs H Q _ => ∃ (v : V) (d : PyData), vs = [v] ∧ Pl K H v d ∧ Sh n d ∧ Nm d ∧ n ≤ 20 ∧ d.weight ≤ 100000 ∧ ∀ l xs H', Same H H' → H l = none → H' l = some (.lst xs) → Wys K H' xs (waysF n d) → Q (.ref l) H'
theorem scWy : FnScope NWy ["plan"] (defScope sWy) := ⟨rfl, rfl, rfl, by decide +kernel, rfl, by decide +kernel, by decide +kernel⟩
theorem ok_wy {n : Nat} {f aK aC aX aR aB aT aS : Addr} {fd fK fC fX fR fB fT fS : FuncData} (F : Fun K "ways_of" "ways_of" sWy f fd) (FK : Fun K "_picks" "_picks" sPi aK fK) (FC : Fun K "_is_choice" "_is_choice" sCh aC fC) (FX : Fun K "fronts" "fronts" sFr aX fX) (FR : Fun K "_replaced" "_replaced" sRe aR fR) (FB : Fun K "_branches" "_branches" sBr aB fB) (FT : Fun K "in_turn" "in_turn" sTurn aT fT) (FS : Fun K "side_by_side" "side_by_side" sSide aS fS)
    (gK : mg "_picks" = some (.ref aK)) (gC : mg "_is_choice" = some (.ref aC)) (gX : mg "fronts" = some (.ref aX)) (gR : mg "_replaced" = some (.ref aR)) (gB : mg "_branches" = some (.ref aB)) (gT : mg "in_turn" = some (.ref aT)) (gS : mg "side_by_side" = some (.ref aS)) (T : TxtR K mg w aF aM aD CE aE) (TK : TxtK mg) (TN : TxtN mg) : FnOk P w K mg base CX0 (n + 5) f fd ["plan"] (spWy K n) := by
  have GK : FnOk P w K mg base CX0 (n + 4) aK fK ["plan", "at", "front", "word"] (spPk K n) := ok_pk FK FR FB FT FS gR gB gT gS T TK TN
  have GC : FnOk P w K mg base CX0 1 aC fC ["front"] (spCh K) := ok_ch FC T TK
  have GX : FnOk P w K mg base CX0 (n + 2) aX fX ["plan"] (spFr K n) := ok_fr FX gX T TK n
  have GR : FnOk P w K mg base CX0 (n + 3) aR fR ["plan", "at", "new"] (spRe K n) := ok_re FR FT FS gR gT gS T TK n
  have bK : Binds K fK ["plan", "at", "front", "word"] [] := FK.binds (ps := ["plan", "at", "front", "word"]) fun _ _ _ _ _ _ us hl => match us, hl with | [_, _, _, _], _ => rfl
  have bC : Binds K fC ["front"] [] := FC.binds (ps := ["front"]) fun _ _ _ _ _ _ us hl => match us, hl with | [_], _ => rfl
  have bX : Binds K fX ["plan"] [] := FX.binds (ps := ["plan"]) fun _ _ _ _ _ _ us hl => match us, hl with | [_], _ => rfl
  have bR : Binds K fR ["plan", "at", "new"] [] := FR.binds (ps := ["plan", "at", "new"]) fun _ _ _ _ _ _ us hl => match us, hl with | [_, _, _], _ => rfl
  refine F.ok scWy (fun vs H Q E h => ?_) (fun cdv A outer s H vs Q E hr h => ?_)
  · obtain ⟨v, d, rfl, _⟩ := h
    rfl
  · obtain ⟨v, d, rfl, hv, sh, nm, hn, hw, k⟩ := h
    have hr1 : Room 1 _ := hr.mono (by omega)
    have hr2 : Room (n + 2) _ := hr.mono (by omega)
    have hr3 : Room (n + 3) _ := hr.mono (by omega)
    refine' ⟨_, pss_cons ?s1 (pss_cons ?s2 (pss_cons ?s3 (pss_cons ?s4 (pss_one (ps_ret (pv 4)))))), ?q⟩
    case s1 => exact ps_set (i := 1) scWy.nd rfl (Or.inl rfl) (pe_call GX hr2 rfl gX FX.kp bX .nil pass0 (pa_cons (pv 0) pa_nil))
    case s2 =>
      refine' ps_for PassesOwn.never rfl (pi_enum (by rfl) TN.enumerate (pa_cons (pv 1) pa_nil)) (pg_tup (n := 2) rfl (pgs_cons (pg_name (i := 2) scWy.nd rfl (Or.inl rfl)) (pgs_cons (pg_name (i := 3) scWy.nd rfl (Or.inl rfl)) pgs_nil))) (pss_one (ps_if (pt_val ?a) (pss_one (ps_ret ?b)) pss_nil))
      case a => exact pe_call GC hr1 rfl gC FC.kp bC .nil pass0 (pa_cons (pv 3) pa_nil)
      case b => exact pe_call GK hr rfl gK FK.kp bK .nil pass0 (pa_cons (pv 0) (pa_cons (pv 2) (pa_cons (pv 3) (pa_cons pe_str pa_nil))))
    case s3 => exact ps_set (i := 4) scWy.nd rfl (Or.inl rfl) (pe_lst pa_nil)
    case s4 =>
      refine' ps_for PassesOwn.never rfl (pi_enum (by rfl) TN.enumerate (pa_cons (pv 1) pa_nil)) (pg_tup (n := 2) rfl (pgs_cons (pg_name (i := 2) scWy.nd rfl (Or.inl rfl)) (pgs_cons (pg_name (i := 3) scWy.nd rfl (Or.inl rfl)) pgs_nil))) (pss_one (ps_if (pt_val ?a) (pss_one (ps_expr ?b)) (pss_one (ps_expr ?c))))
      case a => exact pe_callB call_isi (by rfl) T.isinstance (by decide +kernel) (pa_cons (pv 3) (pa_cons (pe_bltn (v := .ty "tuple") (by rfl) TK.tuple (by decide +kernel) rfl (by decide) (by decide)) pa_nil))
      case b => exact pe_bm PySem.F.plainAttrs_list PySem.F.slot_list_extend PySem.F.type_list_extend mt_extend (pv 4) (pa_cons (pe_call GK hr rfl gK FK.kp bK .nil pass0 (pa_cons (pv 0) (pa_cons (pv 2) (pa_cons (pv 3) (pa_cons pe_str pa_nil))))) pa_nil)
      case c =>
        refine' pe_bm PySem.F.plainAttrs_list PySem.F.slot_list_append PySem.F.type_list_append mt_append (pv 4) (pa_cons (pe_tup (pa_cons pe_str (pa_cons (pv 2) (pa_cons (pv 3) (pa_cons ?r pa_nil))))) pa_nil)
        case r => exact pe_call GR hr3 rfl gR FR.kp bR .nil pass0 (pa_cons (pv 0) (pa_cons (pv 2) (pa_cons (pe_glob (v := .ref aD) (by rfl) T.gD rfl) pa_nil)))
    case q =>
      have ssz : sizeLine = 16777216 := sizeLine_eq
      obtain ⟨wf, shf⟩ := w_fr sh
      have ftf := ft_fr sh
      have lf := w_len (frF n d)
      have live : ∀ {i : Nat} {g : PyData}, (frF n d)[i]? = some g → isDone d = false := fun {i g} e => fr_live fun z => by rw [z] at e; cases e
      have each : ∀ {i : Nat} {g : PyData}, (frF n d)[i]? = some g → Sh n g ∧ Ft g ∧ g.weight ≤ 100001 := fun {i g} e => by
        have m := List.mem_of_getElem? e
        have := w_mem m
        exact ⟨shf g m, ftf g m, by omega⟩
      refine ⟨_, rfl, v, d, rfl, hv, sh, by omega, by omega, fun l xs H1 s1 nl hl hp => ?_⟩
      refine gName_go ?_
      have lx := hp.len
      have hv1 := hv.same s1
      with_reducible conv => whnf
      refine seq_cutS (fun σ Hc => ∃ o1 o2, σ = [some v, some (V.ref l), o1, o2, none] ∧ Same H1 Hc ∧ firstCh 0 (frF n d) = none) ?_ ?_
      · intro NX r'
        refine ⟨_, rfl, l, xs, rfl, SqL.of hl, ?_⟩
        refine for_it (walk_enum (K := K) (a := l) (xs := xs)) (fun i σ Hh => ∃ o1 o2, σ = [some v, some (V.ref l), o1, o2, none] ∧ Same H1 Hh ∧ ∀ (j : Nat) (g : PyData), j < i → (frF n d)[j]? = some g → choiceF g = false) ⟨none, none, rfl, Same.refl _, fun _ _ z => absurd z (Nat.not_lt_zero _)⟩ (fun i σ Hh _ ⟨_, _, _, z, _⟩ => SqL.of (z _ _ hl)) ?_ ?_
        · rintro i x σ Ha Hb hi ⟨o1, o2, rfl, sa, no⟩ ⟨T0, x0, y, rfl, nT, rfl, ex, gy⟩
          cases ex
          have di : i < (frF n d).length := by omega
          have gd : (frF n d)[i]? = some (frF n d)[i] := List.getElem?_eq_getElem di
          have sT : Same Ha (upd Ha T0 (.tup [.int (i : Nat), y])) := Same.new nT
          have hT0 : (upd Ha T0 (.tup [.int (i : Nat), y])) T0 = some (.tup [.int (i : Nat), y]) := upd_same
          have dx := (hp.get gy gd).same (sa.trans sT)
          have s2 := sa.trans sT
          obtain ⟨e1, e2, e3⟩ := each gd
          have lv := live gd
          generalize upd Ha T0 (.tup [.int (i : Nat), y]) = Hc at sT hT0 dx s2 ⊢
          generalize (frF n d)[i] = g at gd dx e1 e2 e3
          refine ⟨T0, _, rfl, SqT.of hT0, rfl, _, _, rfl, gName_go ⟨_, _, rfl, gName_go ⟨rfl, ?_⟩⟩⟩
          refine ⟨_, rfl, y, g, n, rfl, dx, e1, fun He se => ⟨choiceF g, rfl, ?_⟩⟩
          cases hc : choiceF g with
          | true =>
            have tp : isTup g = true := by
              match g, hc with
              | .tuple _, _ => rfl
            have ew : waysF n d = picksF n d i g "choose" := by
              show waysOr n d (frF n d) (firstCh 0 (frF n d)) = _
              rw [first_some hc (frF n d) 0 i no gd, Nat.zero_add]
              rfl
            rw [ew] at k
            have s3 := s2.trans se
            exact iteT ⟨_, rfl, _, rfl, _, rfl, v, y, d, g, i, _, rfl, hv1.same s3, sh, nm, lv, dx.same se, e1, e2, tp, hn, hw, e3, fun l2 xs2 H' s4 nl2 hl2 hw2 => k l2 xs2 H' (s1.trans (s3.trans s4)) (none_back (s1.trans s3) nl2) hl2 hw2⟩
          | false =>
            refine iteF ⟨_, _, rfl, s2.trans se, fun j g' hj e => ?_⟩
            rcases Nat.lt_or_ge j i with z | z
            · exact no j g' z e
            · obtain rfl : j = i := by omega
              rw [gd] at e
              cases e
              exact hc
        · rintro σ Ha ⟨o1, o2, rfl, sa, no⟩
          refine r' _ _ ⟨o1, o2, rfl, sa, first_none _ 0 fun i g e => no i g ?_ e⟩
          rcases Nat.lt_or_ge i xs.length with z | z
          · exact z
          · rw [List.getElem?_eq_none (by omega)] at e
            cases e
      · rintro σ Hc ⟨o1, o2, rfl, sc, none_⟩
        have ew : waysF n d = waysL n d 0 (frF n d) := by
          show waysOr n d (frF n d) (firstCh 0 (frF n d)) = _
          rw [none_]
          rfl
        rw [ew] at k
        refine ⟨(show 0 ≤ sizeLine by decide), fun fo nf => ?_⟩
        refine gName_go ?_
        have nfH : H fo = none := none_back (s1.trans sc) nf
        have hlc := sc _ _ hl
        have s0 : Same H1 (upd Hc fo (.lst [])) := sc.trans (Same.new nf)
        have f0 : (upd Hc fo (.lst [])) fo = some (.lst []) := upd_same
        have nf1 : H1 fo = none := none_back sc nf
        generalize upd Hc fo (.lst []) = H2 at s0 f0 ⊢
        refine ⟨_, rfl, l, xs, rfl, SqL.of (s0 _ _ hl), ?_⟩
        refine for_it (walk_enum (K := K) (a := l) (xs := xs)) (fun i σ Hh => ∃ o1 o2 ys, σ = [some v, some (V.ref l), o1, o2, some (.ref fo)] ∧ Same H1 Hh ∧ Hh fo = some (.lst ys) ∧ Wys K Hh ys (waysL n d 0 ((frF n d).take i))) ⟨o1, o2, [], rfl, s0, f0, .nil⟩ (fun i σ Hh _ ⟨_, _, _, _, z, _⟩ => SqL.of (z _ _ hl)) ?_ ?_
        · rintro i x σ Ha Hb hi ⟨o1, o2, ys, rfl, sa, ha, wy⟩ ⟨T0, x0, y, rfl, nT, rfl, ex, gy⟩
          cases ex
          have di : i < (frF n d).length := by omega
          have gd : (frF n d)[i]? = some (frF n d)[i] := List.getElem?_eq_getElem di
          have sT : Same Ha (upd Ha T0 (.tup [.int (i : Nat), y])) := Same.new nT
          have hT0 : (upd Ha T0 (.tup [.int (i : Nat), y])) T0 = some (.tup [.int (i : Nat), y]) := upd_same
          have dx := (hp.get gy gd).same (sa.trans sT)
          have s2 := sa.trans sT
          have hb := sT _ _ ha
          obtain ⟨e1, e2, e3⟩ := each gd
          have lv := live gd
          have tk : waysL n d 0 ((frF n d).take (i + 1)) = waysL n d 0 ((frF n d).take i) ++ wayF n d i (frF n d)[i] := by
            rw [List.take_add_one, gd]
            show waysL n d 0 ((frF n d).take i ++ [(frF n d)[i]]) = _
            rw [ways_snoc, List.length_take, Nat.min_eq_left (by omega), Nat.zero_add]
          have ly := wy.len
          have lw := ways_len (n := n) (d := d) (m := n) (l := (frF n d).take i) 0 fun g hg => ⟨shf g (List.mem_of_mem_take hg), ftf g (List.mem_of_mem_take hg)⟩
          rw [List.length_take] at lw
          have l4 := way_len (n := n) (d := d) (i := i) e1 e2
          have wy2 := wy.keep (KeepT.of sT)
          rw [tk]
          generalize upd Ha T0 (.tup [.int (i : Nat), y]) = Hd at sT hT0 dx s2 hb wy2 ⊢
          generalize (frF n d)[i] = g at gd dx e1 e2 e3 l4
          have ty := dx.ty
          have kt := kit_tup K g
          have hv2 := hv1.same s2
          refine ⟨T0, _, rfl, SqT.of hT0, rfl, _, _, rfl, gName_go ⟨_, _, rfl, gName_go ⟨rfl, ?_⟩⟩⟩
          refine ⟨_, rfl, _, _, _, _, isTup g, rfl, .ty _, ty, kt, _, rfl, ?_⟩
          cases tp : isTup g with
          | true =>
            have e0 : wayF n d i g = picksF n d i g "pick" := if_pos tp
            rw [e0] at l4 ⊢
            refine iteT ⟨.ref fo, rfl, .inl ⟨rfl, _, SqL.of hb⟩, _, rfl, _, rfl, _, rfl, v, y, d, g, i, _, rfl, hv2, sh, nm, lv, dx, e1, e2, tp, hn, hw, e3, fun l2 xs2 H' s4 nl2 hl2 hw2 => ?_⟩
            have hb2 := s4 _ _ hb
            have l5 := hw2.len
            refine ⟨fo, l2, ys, xs2, rfl, rfl, hb2, hl2, by omega, ?_⟩
            refine ⟨_, _, _, rfl, same_off (s2.trans s4) nf1, upd_same, ?_⟩
            exact ((wy2.keep (KeepT.of s4)).app hw2).keep (KeepT.lst hb2)
          | false =>
            have e0 : wayF n d i g = [⟨"do", i, g, repF doneD n d i⟩] := if_neg (by rw [tp]; exact fun z => nomatch z)
            rw [e0]
            refine iteF ⟨.ref fo, rfl, .inl ⟨rfl, _, SqL.of hb⟩, _, rfl, _, rfl, _, rfl, _, rfl, v, .ref aD, d, i, doneD, 1, rfl, hv2, sh, nm, lv, done_pl T _, sh_done 0, by omega, ?_, fun z H' s4 hz => ?_⟩
            · rw [w_tup, w_cons, w_nil, w_str, then_len]
              omega
            refine ⟨(show 4 ≤ sizeLine by decide), fun t nt => ?_⟩
            have sF : Same Hd (upd H' t (.tup [.str "do", .int (i : Int), y, z])) := s4.trans (Same.new nt)
            have hb2 := sF _ _ hb
            have wt : WhatV y g := by
              match g, tp, dx with
              | .str x, _, .str _ => exact .inr ⟨x, rfl, rfl⟩
            refine ⟨fo, ys, _, rfl, rfl, hb2, by omega, ?_⟩
            refine ⟨_, _, _, rfl, same_off (s2.trans sF) nf1, upd_same, ?_⟩
            exact ((wy2.keep (KeepT.of sF)).app (.cons ⟨t, _, _, rfl, SqT.of upd_same, wt, hz.same (Same.new nt)⟩ .nil)).keep (KeepT.lst hb2)
        · rintro σ Ha ⟨o1, o2, ys, rfl, sa, ha, wy⟩
          rw [lx, List.take_length] at wy
          exact ⟨_, rfl, k fo ys Ha (s1.trans sa) nfH ha wy⟩
end
end Fp6
set_option Elab.async false
set_option linter.all false
set_option maxRecDepth 100000
set_option maxHeartbeats 1000000
/-! normal, names_in, turn, choices, places run -/
namespace Fp6
open PySem PySem.Spec PyProof.Rows L2 Fh Fs
open PySem.W (Frag)
abbrev sNo : Stmt := top 67
abbrev sChs : Stmt := top 68
def chL (ws : List Wy) : List PyData := (ws.filter fun y => decide (y.word = Str.ofString "choose")).map (·.plan)
theorem ch_snoc (ws : List Wy) (y : Wy) : chL (ws ++ [y]) = chL ws ++ (if y.word = Str.ofString "choose" then [y.plan] else []) := by
  unfold chL
  rw [List.filter_append, List.map_append]
  congr 1
  by_cases h : y.word = Str.ofString "choose"
  · simp [h]
  · simp [h]
theorem ch_len (ws : List Wy) : (chL ws).length ≤ ws.length := by
  unfold chL
  rw [List.length_map]
  exact List.length_filter_le _ _
theorem ways_few {n : Nat} {d : PyData} (h : Sh n d) : (waysF n d).length ≤ 4 * (d.weight + 1) := by
  obtain ⟨w1, w2⟩ := w_fr h
  have f := ft_fr h
  have l1 := w_len (frF n d)
  show (waysOr n d (frF n d) (firstCh 0 (frF n d))).length ≤ _
  cases e : firstCh 0 (frF n d) with
  | none =>
    show (waysL n d 0 (frF n d)).length ≤ _
    have := ways_len (n := n) (d := d) (m := n) (l := frF n d) 0 fun g hg => ⟨w2 g hg, f g hg⟩
    omega
  | some q =>
    have mem : ∀ (l : List PyData) (k : Nat), firstCh k l = some q → q.1 ∈ l := by
      intro l
      induction l with
      | nil => intro k z; cases z
      | cons a l ih =>
        intro k z
        have z : (if choiceF a = true then some (a, k) else firstCh (k + 1) l) = some q := z
        split at z
        · cases z
          exact List.mem_cons_self
        · exact List.mem_cons_of_mem _ (ih (k + 1) z)
    have m := mem _ _ e
    have b4 := (br_fine (w2 _ m) (f _ m)).1
    show (picksL n d q.2 "choose" 0 (brF q.1)).length ≤ _
    rw [picks_len]
    omega
section
variable {P : Program} {w : World} {K : Frag} {mg : Str → Option Value} {base : Heap} {aF aM aD CE aE CP fP aC aA aW aI aH : Addr} {fC fA fW fI fH : FuncData}
/-- all that the functions of plans lean on -/
structure PlG (K : Frag) (mg : Str → Option Value) (w : World) (aF aM aD CE aE CP fP aC aA aW aI aH aN aT aS aX aJ aO aR aB aK aY aZ aV : Addr) (fC fA fW fI fH fN fT fS fX fJ fO fR fB fK fY fZ fV : FuncData) : Prop where
  C : CkG K mg w aF aM aD CE aE CP fP aC aA aW aI aH fC fA fW fI fH
  TN : TxtN mg
  FN : Fun K "normal_form" "normal_form" sNf aN fN
  FT : Fun K "in_turn" "in_turn" sTurn aT fT
  FS : Fun K "side_by_side" "side_by_side" sSide aS fS
  FX : Fun K "fronts" "fronts" sFr aX fX
  FJ : Fun K "_is_choice" "_is_choice" sCh aJ fJ
  FR : Fun K "_replaced" "_replaced" sRe aR fR
  FB : Fun K "_branches" "_branches" sBr aB fB
  FK : Fun K "_picks" "_picks" sPi aK fK
  FY : Fun K "ways_of" "ways_of" sWy aY fY
  FZ : Fun K "normal" "normal" sNo aZ fZ
  FV : Fun K "names_inside" "names_inside" sNi aV fV
  gN : mg "normal_form" = some (.ref aN)
  gT : mg "in_turn" = some (.ref aT)
  gS : mg "side_by_side" = some (.ref aS)
  gX : mg "fronts" = some (.ref aX)
  gJ : mg "_is_choice" = some (.ref aJ)
  gR : mg "_replaced" = some (.ref aR)
  gB : mg "_branches" = some (.ref aB)
  gK : mg "_picks" = some (.ref aK)
  gY : mg "ways_of" = some (.ref aY)
  gZ : mg "normal" = some (.ref aZ)
  gV : mg "names_inside" = some (.ref aV)
variable {aN aT aS aX aJ aO aR aB aK aY aZ aV : Addr} {fN fT fS fX fJ fO fR fB fK fY fZ fV : FuncData}
/-- a plan that is asked about -/
def AskP (K : Frag) (H : Hp) (n : Nat) (v : V) (d : PyData) : Prop := Pl K H v d ∧ Rt n false d ∧ Sh n d ∧ n ≤ 20 ∧ d.weight ≤ 100000
def spNo (K : Frag) (n : Nat) : Sp := fun vs H Q _ => ∃ v d, vs = [v] ∧ AskP K H n v d ∧ ∀ x H', Same H H' → Pl K H' x (nf n d) → Q x H'
theorem scNo : FnScope ["plan"] ["plan"] (defScope sNo) := ⟨rfl, rfl, rfl, by decide +kernel, rfl, by decide +kernel, by decide +kernel⟩
theorem ok_no (G : PlG K mg w aF aM aD CE aE CP fP aC aA aW aI aH aN aT aS aX aJ aO aR aB aK aY aZ aV fC fA fW fI fH fN fT fS fX fJ fO fR fB fK fY fZ fV) (n : Nat) : FnOk P w K mg base CX0 (n + 5) aZ fZ ["plan"] (spNo K n) := by
  have GC : FnOk P w K mg base (L2.CX P w) (n + 4) aC fC ["plan", "is_within"] (spCk K CP (n + 1)) := ok_ck G.C (n + 1)
  have GN : FnOk P w K mg base CX0 (n + 3) aN fN ["plan"] (spNf K n) := ok_nf G.FN G.FT G.FS G.gN G.gT G.gS G.C.T G.C.TK n
  obtain ⟨dsC, vC, bC⟩ := ck_one G.C.FC
  have bN : Binds K fN ["plan"] [] := G.FN.binds (ps := ["plan"]) fun _ _ _ _ _ _ us hl => match us, hl with | [_], _ => rfl
  refine G.FZ.ok scNo (fun vs H Q E h => ?_) (fun cdv A outer s H vs Q E hr h => ?_)
  · obtain ⟨v, d, rfl, _⟩ := h
    rfl
  · obtain ⟨v, d, rfl, ⟨hv, rt, sh, hn, hw⟩, k⟩ := h
    refine ⟨_, pss_cons (ps_expr (pe_call (E := E0) GC hr rfl G.C.gC G.C.FC.kp bC vC passL (pa_cons (pv 0) pa_nil))) (pss_one (ps_ret (pe_call GN (hr.mono (by omega)) rfl G.gN G.FN.kp bN .nil pass0 (pa_cons (pv 0) pa_nil)))), ?_⟩
    exact ⟨_, rfl, v, d, false, none, rfl, hv.gd rt.short, rt_chk rt, fun _ H1 s1 => ⟨_, rfl, v, d, rfl, hv.same s1, sh, by omega, by omega, fun x H2 s2 hx => k x H2 (s1.trans s2) hx⟩, fun e z => nomatch z⟩
def spChs (K : Frag) (n : Nat) : Sp := fun vs H Q _ => ∃ v d, vs = [v] ∧ AskP K H n v d ∧ ∀ l xs H', Same H H' → H l = none → H' l = some (.lst xs) → Pls K H' xs (chL (waysF n (nf n d))) → Q (.ref l) H'
theorem scChs : FnScope ["plan", "word", "_", "behind"] ["plan"] (defScope sChs) := ⟨rfl, rfl, rfl, by decide +kernel, rfl, by decide +kernel, by decide +kernel⟩
theorem ok_chs {f : Addr} {fd : FuncData} (F : Fun K "choices" "choices" sChs f fd) (G : PlG K mg w aF aM aD CE aE CP fP aC aA aW aI aH aN aT aS aX aJ aO aR aB aK aY aZ aV fC fA fW fI fH fN fT fS fX fJ fO fR fB fK fY fZ fV) (n : Nat) : FnOk P w K mg base CX0 (n + 6) f fd ["plan"] (spChs K n) := by
  have GZ : FnOk P w K mg base CX0 (n + 5) aZ fZ ["plan"] (spNo K n) := ok_no G n
  have GY : FnOk P w K mg base CX0 (n + 5) aY fY ["plan"] (spWy K n) := ok_wy G.FY G.FK G.FJ G.FX G.FR G.FB G.FT G.FS G.gK G.gJ G.gX G.gR G.gB G.gT G.gS G.C.T G.C.TK G.TN
  have bZ : Binds K fZ ["plan"] [] := G.FZ.binds (ps := ["plan"]) fun _ _ _ _ _ _ us hl => match us, hl with | [_], _ => rfl
  have bY : Binds K fY ["plan"] [] := G.FY.binds (ps := ["plan"]) fun _ _ _ _ _ _ us hl => match us, hl with | [_], _ => rfl
  refine F.ok scChs (fun vs H Q E h => ?_) (fun cdv A outer s H vs Q E hr h => ?_)
  · obtain ⟨v, d, rfl, _⟩ := h
    rfl
  · obtain ⟨v, d, rfl, ask, k⟩ := h
    refine' ⟨_, pss_one (ps_ret (pe_lc (own := [("word", 1), ("_", 2), ("behind", 3)]) (g := gTup K 4 (gCons (gName 1) (gCons (gName 2) (gCons (gName 2) (gCons (gName 3) gNil))))) rfl scChs.nd ?i ?k ?g ?c ?e)), ?q⟩
    case i => exact pi_list (pe_call GY hr rfl G.gY G.FY.kp bY .nil pass0 (pa_cons (pe_call GZ hr rfl G.gZ G.FZ.kp bZ .nil pass0 (pa_cons (pv 0) pa_nil)) pa_nil))
    case k => exact blkOk_by (N := ["plan", "word", "_", "behind"]) (sc := defScope sChs) (by decide +kernel)
    case g => exact fun _ _ _ _ _ => pg_tup rfl (pgs_cons (pg_name (i := 1) scChs.nd rfl (Or.inl rfl)) (pgs_cons (pg_name (i := 2) scChs.nd rfl (Or.inl rfl)) (pgs_cons (pg_name (i := 2) scChs.nd rfl (Or.inl rfl)) (pgs_cons (pg_name (i := 3) scChs.nd rfl (Or.inl rfl)) pgs_nil))))
    case c => exact fun _ _ _ _ _ => pts_one (pt_cmpR op_eq (pv 1) pe_str (nomark _))
    case e => exact fun _ _ _ _ _ => pv 3
    case q =>
      have ssz : sizeLine = 16777216 := sizeLine_eq
      obtain ⟨hv, rt, sh, hn, hw⟩ := ask
      have wn := w_nf n d
      have shn := sh_nf sh
      have few := ways_few shn
      refine ⟨_, rfl, v, d, rfl, ⟨hv, rt, sh, hn, hw⟩, fun x H1 s1 hx => ⟨x, nf n d, rfl, hx, shn, nm_nf sh, hn, by omega, fun l xs H2 s2 nl hl hp => ?_⟩⟩
      refine ⟨l, rfl, ⟨_, SqL.of hl⟩, fun D nD => ?_⟩
      generalize nf n d = e at *
      have lx := hp.len
      have nDH : H D = none := none_back (s1.trans s2) nD
      have wat : ∀ {xs : List V} {ws : List Wy}, Wys K H2 xs ws → ∀ {i : Nat} {x : V} {y : Wy}, xs[i]? = some x → ws[i]? = some y → WyAt K H2 x y := by
        intro xs ws h
        induction h with
        | nil => intro i x y z _; cases i <;> cases z
        | cons h _ ih =>
          intro i x y z1 z2
          cases i with
          | zero => cases z1; cases z2; exact h
          | succ i => exact ih z1 z2
      refine lc_it (walk_list (K := K) (a := l) (xs := xs)) (fun i Hh => ∃ ys, Hh D = some (.lst ys) ∧ Pls K Hh ys (chL ((waysF n e).take i)) ∧ Same H2 Hh) ⟨[], upd_same, .nil, Same.new nD⟩ (fun _ Hh _ ⟨_, _, _, z⟩ => SqL.of (z _ _ hl)) ?_ ?_
      · rintro i x Ha Hb hi ⟨ys, hD, py, sa⟩ ⟨rfl, gx⟩
        have di : i < (waysF n e).length := by omega
        have gd : (waysF n e)[i]? = some (waysF n e)[i] := List.getElem?_eq_getElem di
        obtain ⟨t, z, q, rfl, ht, _, hq⟩ := (wat hp gx gd).keep (KeepT.of sa)
        have ly := py.len
        have l2 := ch_len ((waysF n e).take i)
        rw [List.length_take] at l2
        have tk : chL ((waysF n e).take (i + 1)) = chL ((waysF n e).take i) ++ (if (waysF n e)[i].word = Str.ofString "choose" then [(waysF n e)[i].plan] else []) := by
          rw [List.take_add_one, gd]
          exact ch_snoc _ _
        rw [tk]
        generalize (waysF n e)[i] = y at ht hq gd
        refine ⟨t, _, rfl, ht, rfl, _, _, rfl, gName_go ⟨_, _, rfl, gName_go ⟨_, _, rfl, gName_go ⟨_, _, rfl, gName_go ⟨rfl, ?_⟩⟩⟩⟩⟩
        refine ⟨rfl, ?_⟩
        refine ⟨_, rfl, rfl, decide (y.word = Str.ofString "choose"), congrArg V.bl (eq_word _), ?_⟩
        by_cases h : y.word = Str.ofString "choose"
        · rw [if_pos h, decide_eq_true h]
          exact iteT ⟨q, rfl, ys, hD, by omega, ys ++ [q], upd_same, (py.snoc hq).keep (KeepT.lst hD), same_off sa nD⟩
        · rw [if_neg h, decide_eq_false h, List.append_nil]
          exact iteF ⟨ys, hD, py, sa⟩
      · rintro Ha ⟨ys, hD, py, sa⟩
        rw [lx, List.take_length] at py
        exact k D ys Ha ((s1.trans s2).trans sa) nDH hD py
end
end Fp6
set_option Elab.async false
set_option linter.all false
set_option maxRecDepth 100000
set_option maxHeartbeats 4000000
/-! FzF: f(k = v) without a positional argument; repr of data with lists that comprehensions made -/
namespace Fs
open PySem PySem.Spec PyProof.Rows L2 Fh
open PySem.W (Frag)
mutual
/-- v is the data d, its lists tracked -/
inductive Db (K : Frag) (H : Hp) : V → PyData → Prop where
  | non : Db K H .non .none
  | bl (b : Bool) : Db K H (.bl b) (.bool b)
  | int (i : Int) : Db K H (.int i) (.int i)
  | dct {a : Addr} : H a = some (.dK []) → Db K H (.ref a) (.dict [])
  | str (x : Str) : Db K H (.str x) (.str x)
  | tup {a : Addr} {xs : List V} {ds : List PyData} : SqT K H a xs → Dbs K H xs ds → Db K H (.ref a) (.tuple ds)
  | lst {a : Addr} {xs : List V} {ds : List PyData} : H a = some (.lst xs) → Dbs K H xs ds → Db K H (.ref a) (.list ds)
inductive Dbs (K : Frag) (H : Hp) : List V → List PyData → Prop where
  | nil : Dbs K H [] []
  | cons {x : V} {d : PyData} {xs : List V} {ds : List PyData} : Db K H x d → Dbs K H xs ds → Dbs K H (x :: xs) (d :: ds)
end
mutual
theorem Pl.db {K : Frag} {H : Hp} : ∀ {v : V} {d : PyData}, Pl K H v d → Db K H v d
  | _, _, .str x => .str x
  | _, _, .tup h r => .tup h (Pls.db r)
theorem Pls.db {K : Frag} {H : Hp} : ∀ {v : List V} {d : List PyData}, Pls K H v d → Dbs K H v d
  | _, _, .nil => .nil
  | _, _, .cons h r => .cons (Pl.db h) (Pls.db r)
end
mutual
theorem Db.same {K : Frag} {H H' : Hp} (s : Same H H') : ∀ {v : V} {d : PyData}, Db K H v d → Db K H' v d
  | _, _, .non => .non
  | _, _, .bl b => .bl b
  | _, _, .int i => .int i
  | _, _, .dct h => .dct (s _ _ h)
  | _, _, .str x => .str x
  | _, _, .tup h r => .tup ((KeepT.of s).sqT h) (Dbs.same s r)
  | _, _, .lst h r => .lst (s _ _ h) (Dbs.same s r)
theorem Dbs.same {K : Frag} {H H' : Hp} (s : Same H H') : ∀ {v : List V} {d : List PyData}, Dbs K H v d → Dbs K H' v d
  | _, _, .nil => .nil
  | _, _, .cons h r => .cons (Db.same s h) (Dbs.same s r)
end
section
variable {X : Cx} {pins : List (Addr × Obj)} {σ : L2.St} {H : Hp} {s : Shared}
theorem no_mods (hS : (X.K.lookup sysModules).isSome = true) (I : Inv X pins σ H s) : H sysModules = none := by
  cases e : X.K.lookup sysModules with
  | none => rw [e] at hS; cases hS
  | some o => exact (I.bs sysModules o (I.ok.mod.kin _ _ e)).2
mutual
theorem Db.reads (hS : (X.K.lookup sysModules).isSome = true) (I : Inv X pins σ H s) : ∀ {d : PyData} {v : V} {u : Value}, Db X.K H v d → RelV v u → ∃ as, Reads s.heap u d as ∧ sysModules ∉ as
  | _, _, u, .non, r => by
    obtain rfl : u = Value.none := r
    exact ⟨[], .none, List.not_mem_nil⟩
  | _, _, u, .bl b, r => by
    obtain rfl : u = Value.bool b := r
    exact ⟨[], .bool b, List.not_mem_nil⟩
  | _, _, u, .int i, r => by
    obtain ⟨t, rfl⟩ := (show ∃ t, u = Value.int i t from r)
    exact ⟨[], .int i t, List.not_mem_nil⟩
  | _, _, u, .dct (a := a) hA, r => by
    obtain rfl : u = Value.ref a := r
    obtain ⟨_, nz, vs, kv, o, es, ep, h1, h2, h3, h4, h5, h6⟩ := dk_of I.hok hA
    have na : sysModules ≠ a := fun e => by
      have z := no_mods hS I
      rw [e, hA] at z
      cases z
    have e0 : vs = [] := by cases kv; rfl
    subst e0
    have e1 : es.toList = [] := by cases e : es.toList with
      | nil => rfl
      | cons x xs => rw [e] at h5; cases h5
    exact ⟨[a] ++ [] ++ [], .dict h1 h2.1 h3 (by rw [e1]; exact .nil) (by rw [e1]; exact .nil), fun z => na (by simpa using z)⟩
  | _, _, u, .str x, r => by
    obtain ⟨t, rfl⟩ := (show ∃ t, u = Value.str x t from r)
    exact ⟨[], .str x t, List.not_mem_nil⟩
  | _, _, u, .tup h rs, r => by
    obtain ⟨its, rv, ⟨o, ho, hc, n, hd⟩, _⟩ := I.tuple h
    obtain rfl : u = Value.ref _ := r
    obtain ⟨as, ra, ns⟩ := Dbs.reads hS I rs rv
    exact ⟨as, .tuple ho hc hd (by simpa using ra), ns⟩
  | _, _, u, .lst (a := a) (xs := xs) hA rs, r => by
    obtain rfl : u = Value.ref a := r
    obtain ⟨_, its, m, rv, ho⟩ := (show ObjOk X.prog X.w H s.heap a (.lst xs) from I.hok a _ hA)
    obtain ⟨as, ra, ns⟩ := Dbs.reads hS I rs rv
    have na : sysModules ≠ a := fun e => by
      have z := no_mods hS I
      rw [e, hA] at z
      cases z
    exact ⟨a :: as, .list ho rfl rfl (by simpa using ra), fun z => (List.mem_cons.mp z).elim na ns⟩
theorem Dbs.reads (hS : (X.K.lookup sysModules).isSome = true) (I : Inv X pins σ H s) : ∀ {ds : List PyData} {vs : List V} {us : List Value}, Dbs X.K H vs ds → Vals vs us → ∃ as, ReadsAll s.heap us ds as ∧ sysModules ∉ as
  | _, _, _, .nil, .nil => ⟨[], .nil, List.not_mem_nil⟩
  | _, _, _, .cons h rs, .cons r1 r2 => by
    obtain ⟨as, a1, a2⟩ := Db.reads hS I h r1
    obtain ⟨bs, b1, b2⟩ := Dbs.reads hS I rs r2
    exact ⟨as ++ bs, .cons a1 b1, fun z => (List.mem_append.mp z).elim a2 b2⟩
end
end
def rReprB (K : Frag) : List V → Hp → VK → Prop := fun xs H Q => ∃ (v : V) (d : PyData), xs = [v] ∧ Db K H v d ∧ Rp d ∧ Q (.str d.shown) H
theorem call_reprB {X : Cx} (hS : (X.K.lookup sysModules).isSome = true) (hg : X.A.guards = some []) (hu : X.A.units + 64 < cLine) : CallR X (.builtin "repr") (rReprB X.K) := by
  intro pins s σ H xs us Q I r h
  obtain ⟨v, d, rfl, hd, ⟨h1, h2, h3⟩, q⟩ := h
  obtain ⟨u, rfl, ru⟩ := vals1 r
  obtain ⟨as, ra, ns⟩ := Db.reads hS I hd ru
  have fin : ∀ {h' : Heap} (t : Tok) (tk : Nat), (∀ b o, s.heap.get? b = some o → h'.get? b = some o) → EP X pins σ Q (.str d.shown t) { s with heap := h', toks := tk } := fun {h'} t tk k => ⟨.str _, H, I.kept (t' := tk) k, ⟨_, rfl⟩, q⟩
  match hd, ra with
  | .non, .none => exact PySem.P.repr_of_none ⟨.str _, H, I.tok _, ⟨_, rfl⟩, q⟩
  | .bl b, .bool _ => exact PySem.P.repr_of_bool ⟨.str _, H, I.tok _, ⟨_, rfl⟩, q⟩
  | .int i, .int _ t => exact PySem.P.repr_of_int (of_decide_eq_true h1) ⟨.str _, H, I.tok _, ⟨_, rfl⟩, q⟩
  | .dct _, .dict a b c e f => exact PySem.repr_of_reads' (.dict a b c e f) h1 (fun _ => ns) hg (by omega) (fun _ _ z => z) (fun h' t tk k => fin t tk k) h3
  | .str x, .str _ t => exact PySem.P.repr_of_str ⟨.str _, H, I.tok _, ⟨_, rfl⟩, q⟩ (by simpa only [PyData.shown] using h3)
  | .tup _ _, .tuple a b c e => exact PySem.repr_of_reads' (.tuple a b c e) h1 (fun _ => ns) hg (by omega) (fun _ _ z => z) (fun h' t tk k => fin t tk k) h3
  | .lst _ _, .list a b c e => exact PySem.repr_of_reads' (.list a b c e) h1 (fun _ => ns) hg (by omega) (fun _ _ z => z) (fun h' t tk k => fin t tk k) h3
/-- data of valid signs and without whole numbers, of moderate weight -/
theorem rp_lay {d : PyData} (h1 : d.canLay0 = true) (h2 : d.intsShort 13 = true) (h3 : d.depth ≤ 60) (h4 : d.weight ≤ 1000000) (h5 : d.showable = true) : Rp d := by
  have e : (2 : Nat) ^ 20 = 1048576 := by decide
  exact ⟨h5, h3, PyData.shown_fits (B := 13) (by decide) (by decide) (PyData.leavesShort_of_canLay0 13 d h1 h2) (by omega)⟩
end Fs
set_option Elab.async false
set_option linter.all false
set_option maxRecDepth 100000
set_option maxHeartbeats 1000000
/-! drawn plans: right, shaped, of moderate weight; what is told of them may be shown -/
namespace Fp6
open PySem PySem.Spec PyProof.Rows L2 Fh Fs
open PySem.W (Frag)
/-! ### data that may be shown -/
def Fine (d : PyData) : Prop := d.canLay0 = true ∧ d.intsShort 13 = true ∧ d.showable = true
def Fines (ds : List PyData) : Prop := PyData.canLayAll0 ds = true ∧ PyData.intsShortAll 13 ds = true ∧ PyData.showableAll ds = true
theorem fines_cons {d : PyData} {ds : List PyData} (h : Fine d) (r : Fines ds) : Fines (d :: ds) := by
  obtain ⟨a, b, c⟩ := h
  obtain ⟨e, f, g⟩ := r
  refine ⟨?_, ?_, ?_⟩
  · show (d.canLay0 && PyData.canLayAll0 ds) = true
    rw [a, e]; rfl
  · show (d.intsShort 13 && PyData.intsShortAll 13 ds) = true
    rw [b, f]; rfl
  · show (d.showable && PyData.showableAll ds) = true
    rw [c, g]; rfl
theorem fines_nil : Fines [] := ⟨rfl, rfl, rfl⟩
theorem fines_of {ds : List PyData} (h : ∀ d ∈ ds, Fine d) : Fines ds := by
  induction ds with
  | nil => exact fines_nil
  | cons d ds ih => exact fines_cons (h d List.mem_cons_self) (ih fun e he => h e (List.mem_cons_of_mem _ he))
theorem fine_tup {ds : List PyData} (h : Fines ds) : Fine (.tuple ds) := ⟨h.1, h.2.1, h.2.2⟩
theorem fine_str {y : Str} (h : PyData.canLay0 (.str y) = true) : Fine (.str y) := ⟨h, rfl, rfl⟩
theorem fine_sh {n : Nat} {d : PyData} (h : Sh n d) : Fine d := by
  induction h with
  | nm h => exact fine_str (word_str h).1
  | nd h1 h2 h3 ih => exact fine_tup (fines_cons (fine_str (word_str (word_fine h1).1).1) (fines_of ih))
theorem fine_rp {d : PyData} (h : Fine d) (h3 : d.depth ≤ 60) (h4 : d.weight ≤ 1000000) : Rp d := rp_lay h.1 h.2.1 h3 h4 h.2.2
/-! ### a plan's text as data -/
/-! ### choices and places -/
end Fp6
set_option Elab.async false
set_option linter.all false
set_option maxRecDepth 100000
set_option maxHeartbeats 8000000
/-! tasks: are_words, _ascending, Task (all right), its getters, == -/
namespace Fp6
open PySem PySem.Spec PyProof.Rows L2 Fh Fs
open PySem.W (Frag)
abbrev sAre : Stmt := top 5
abbrev sWhole : Stmt := top 6
abbrev sAsc : Stmt := top 39
abbrev sTkI : Stmt := inClass (top 40) 0
structure TxtB (mg : Str → Option Value) : Prop where
  int : mg "int" = none
  bool : mg "bool" = none
  list : mg "list" = none
  sorted : mg "sorted" = none
  set : mg "set" = none
  dict : mg "dict" = none
  max : mg "max" = none
  sum : mg "sum" = none
  MANY : ∃ u, mg "MANY" = some (.int 3 u)
  KINDS : ∃ u, mg "KINDS" = some (.int 3 u)
  ROLES : ∃ u, mg "ROLES" = some (.int 4 u)
  TASKS : ∃ u, mg "TASKS" = some (.int 8 u)
  REMEMBERED : ∃ u, mg "REMEMBERED" = some (.int 3 u)
  WIDTH : ∃ u, mg "WIDTH" = some (.int 5 u)
  NAMES : ∃ u, mg "NAMES" = some (.int 16 u)
  LEVELS : ∃ u, mg "LEVELS" = some (.int 5 u)
/-- a word -/
abbrev Word (x : Str) : Prop := wordB x = true
section
variable {P : Program} {w : World} {K : Frag} {mg : Str → Option Value} {base : Heap} {aF aM aD CE aE : Addr}
def spGW : Sp := fun vs H Q _ => ∃ x : Str, vs = [.str x] ∧ Word x ∧ ∀ H', Same H H' → Q (.bl true) H'
theorem ok_gw {f : Addr} {fd : FuncData} (F : Fun K "is_word" "is_word" sWord f fd) (TR : TxtR K mg w aF aM aD CE aE) (TK : TxtK mg) : FnOk P w K mg base CX0 1 f fd ["value"] spGW := by
  refine (ok_word F TR TK).imp fun vs H Q E h => ?_
  obtain ⟨x, rfl, hx, k⟩ := h
  refine ⟨_, .str x, rfl, Pl.gd (.str x) (by show x.length ≤ 1000; have := (word_str hx).2; omega), fun H' s' => ?_⟩
  rw [show wordD (.str x) = wordB x from rfl, hx]
  exact k H' s'
structure OwnC (K : Frag) (mg : Str → Option Value) (nm : Str) (C : Addr) : Prop where
  gC : mg nm = some (.ref C)
  cl : Cls K C
  ha : PySem.W.findIn K (.ref C) "__class__" = some (some (.builtin "object.__class__"))
  hn : PySem.W.specialIn K (.builtin "object.__class__") "__get__" = some (some (.builtin "getset_descriptor.__get__"))
  ht : PySem.W.takesIn K (.builtin "object.__class__") = some true
  hm : PySem.W.mroIn K C (.type "object") = some true
  me : PySem.W.kitOne K (.ref C) (.ref C) = some true
  nNoneType : PySem.W.kitOne K (.type "NoneType") (.ref C) = some false
  ntuple : PySem.W.kitOne K (.type "tuple") (.ref C) = some false
  nstr : PySem.W.kitOne K (.type "str") (.ref C) = some false
def spWhole : Sp := fun vs H Q _ => ∃ i lo hi : Int, vs = [.int i, .int lo, .int hi] ∧ lo ≤ i ∧ i ≤ hi ∧ Q (.bl true) H
theorem scWhole : FnScope ["value", "low", "high"] ["value", "low", "high"] (defScope sWhole) := ⟨rfl, rfl, rfl, by decide +kernel, rfl, by decide +kernel, by decide +kernel⟩
theorem ok_whole {f : Addr} {fd : FuncData} (F : Fun K "is_whole" "is_whole" sWhole f fd) (TR : TxtR K mg w aF aM aD CE aE) (TK : TxtK mg) (T : TxtB mg) : FnOk P w K mg base CX0 1 f fd ["value", "low", "high"] spWhole := by
  refine F.ok scWhole (fun vs H Q E h => ?_) (fun cdv A outer s H vs Q E hr h => ?_)
  · obtain ⟨i, lo, hi, rfl, _⟩ := h
    rfl
  · obtain ⟨i, lo, hi, rfl, h1, h2, k⟩ := h
    refine ⟨_, pss_cons (ps_if (PW.pt (pw_or (pt_not (pt_val (pe_callB call_isi (by rfl) TR.isinstance (by decide +kernel) (pa_cons (pv 0) (pa_cons (pe_bltn (v := .ty "int") (by rfl) T.int (by decide +kernel) rfl (by decide) (by decide)) pa_nil)))))
      (pw_or1 (pt_val (pe_callB call_isi (by rfl) TR.isinstance (by decide +kernel) (pa_cons (pv 0) (pa_cons (pe_bltn (v := .ty "bool") (by rfl) T.bool (by decide +kernel) rfl (by decide) (by decide)) pa_nil))))))) (pss_one (ps_ret pe_bl)) pss_nil)
      (pss_one (ps_ret (pe_chain op_le op_le (pv 1) (pv 0) (pv 2)))), ?_⟩
    refine ⟨_, rfl, _, _, _, _, true, rfl, .ty _, .base (.int i), (by rfl), true, rfl, ?_⟩
    refine ⟨_, rfl, _, _, _, _, false, rfl, .ty _, .base (.int i), (by rfl), false, rfl, iteF ?_⟩
    refine ⟨_, rfl, _, rfl, _, _, rfl, rfl, true, congrArg V.bl (decide_eq_true h1), iteT ⟨_, rfl, _, _, rfl, rfl, ?_⟩⟩
    show Q (.bl (decide (i ≤ hi))) H
    rw [decide_eq_true h2]
    exact k
/-- a list or a tuple of different words -/
def WL (K : Frag) (H : Hp) (v : V) (ws : List Str) : Prop := ∃ q, v = .ref q ∧ (SqL K H q (ws.map V.str) ∨ SqT K H q (ws.map V.str))
theorem WL.same {K : Frag} {H H' : Hp} {v : V} {ws : List Str} (h : WL K H v ws) (s : Same H H') : WL K H' v ws := by
  obtain ⟨q, e, h | h⟩ := h
  · exact ⟨q, e, .inl (s.seq h)⟩
  · exact ⟨q, e, .inr (sqT_same s h)⟩
def OkW (ws : List Str) : Prop := ws.Nodup ∧ (∀ x ∈ ws, Word x) ∧ ws.length ≤ 60
def spAre (K : Frag) : Sp := fun vs H Q _ => ∃ v ws, vs = [v] ∧ WL K H v ws ∧ OkW ws ∧ ∀ H', Same H H' → Q (.bl true) H'
theorem scAre : FnScope ["value", "word"] ["value"] (defScope sAre) := ⟨rfl, rfl, rfl, by decide +kernel, rfl, by decide +kernel, by decide +kernel⟩
theorem ok_are {f aW : Addr} {fd fW : FuncData} (F : Fun K "are_words" "are_words" sAre f fd) (FW : Fun K "is_word" "is_word" sWord aW fW) (gW : mg "is_word" = some (.ref aW)) (TR : TxtR K mg w aF aM aD CE aE) (TK : TxtK mg) (T : TxtB mg) : FnOk P w K mg base CX0 2 f fd ["value"] (spAre K) := by
  have GW : FnOk P w K mg base CX0 1 aW fW ["value"] spGW := ok_gw FW TR TK
  have bW : Binds K fW ["value"] [] := FW.binds (ps := ["value"]) fun _ _ _ _ _ _ us hl => match us, hl with | [_], _ => rfl
  refine F.ok scAre (fun vs H Q E h => ?_) (fun cdv A outer s H vs Q E hr h => ?_)
  · obtain ⟨v, ws, rfl, _⟩ := h
    rfl
  · obtain ⟨v, ws, rfl, ⟨q, rfl, hq⟩, ⟨nd, good, few⟩, k⟩ := h
    refine ⟨_, pss_cons (ps_if (PW.pt (pw_or (pt_not (pt_val (pe_callB call_isiT (by rfl) TR.isinstance (by decide +kernel) (pa_cons (pv 0) (pa_cons (pe_tup (pa_cons (pe_bltn (v := .ty "list") (by rfl) T.list (by decide +kernel) rfl (by decide) (by decide)) (pa_cons (pe_bltn (v := .ty "tuple") (by rfl) TK.tuple (by decide +kernel) rfl (by decide) (by decide)) pa_nil))) pa_nil)))))
      (pw_or1 (pt_not (pt_val (pe_callB (cr_all rfl) (by rfl) TK.all (by decide +kernel) (pa_cons
        (pe_lc (own := [("word", 1)]) (g := gName 1) (tt := tYes) rfl scAre.nd (pi_seq (pv 0)) (blkOk_by (N := ["value", "word"]) (sc := defScope sAre) (by decide +kernel)) (fun _ _ _ _ _ => pg_name (i := 1) scAre.nd rfl (Or.inl rfl)) (fun _ _ _ _ _ => pts_nil)
          (fun _ _ _ _ _ => pe_call GW hr rfl gW FW.kp bW .nil pass0 (pa_cons (pv 1) pa_nil))) pa_nil))))))) (pss_one (ps_ret pe_bl)) pss_nil)
      (pss_one (ps_ret (pe_cmpR op_eq (pe_callB cr_lenS (by rfl) TR.len PySem.boot_len (pa_cons (pe_callTy (cr_setL rfl) (by rfl) T.set (by decide +kernel) (pa_cons (pv 0) pa_nil)) pa_nil)) (pe_callB call_len_seq (by rfl) TR.len PySem.boot_len (pa_cons (pv 0) pa_nil)) (nomark _)))), ?_⟩
    refine ⟨_, rfl, (show 2 ≤ sizeLine by decide), fun tp ntp => ?_⟩
    have s1 : Same H (upd H tp (.tup [.ty "list", .ty "tuple"])) := Same.new ntp
    have htp : (upd H tp (.tup [.ty "list", .ty "tuple"])) tp = some (.tup [.ty "list", .ty "tuple"]) := upd_same
    generalize upd H tp (.tup [.ty "list", .ty "tuple"]) = H1 at s1 htp ⊢
    have ty : ∃ t, TyX K H1 (.ref q) t ∧ PySem.W.kitAny K t [.type "list", .type "tuple"] = some true := by
      rcases hq with z | z
      · exact ⟨_, ty_l (s1.seq z), by rfl⟩
      · exact ⟨_, ty_t (sqT_same s1 z), by rfl⟩
    obtain ⟨t, ty, kt⟩ := ty
    refine ⟨_, tp, _, t, _, true, rfl, htp, .cons (.ty _) (.cons (.ty _) .nil), ty, kt, true, rfl, iteF ?_⟩
    refine mpP (R := ∀ (D : Addr) (H2 : Hp), Same H1 H2 → H2 D = some (.lst (List.replicate ws.length (V.bl true))) → (?R : Addr → Hp → Prop) D H2) ?imp ?rest
    case imp =>
      intro r
      rcases hq with z | z
      · refine ⟨.ref q, rfl, q, rfl, Or.inl ⟨⟨_, s1.seq z⟩, fun D hD => ?_⟩⟩
        refine lc_it walk_list (fun i H2 => Same H1 H2 ∧ H2 D = some (.lst (List.replicate i (V.bl true)))) ⟨Same.new hD, upd_same⟩ (fun _ _ _ y => (s1.trans y.1).seq z) ?_ ?_
        · rintro i y H2 H3 hi ⟨s2, d2⟩ ⟨rfl, hy⟩
          obtain ⟨x, rfl, gx, mx⟩ := str_map_get hy
          refine ⟨rfl, ?_⟩
          refine yes_of ?_
          refine ⟨_, rfl, x, rfl, good x mx, fun H4 s4 => ⟨_, s4 _ _ d2, ?_, ?_, ?_⟩⟩
          · rw [List.length_replicate, sizeLine_eq]
            rw [List.length_map] at hi
            omega
          · exact fun b o y => by rw [upd_ne (ne_of_none y hD)]; exact s4 _ _ (s2 _ _ y)
          · rw [← List.replicate_succ']
            exact upd_same
        · rintro H2 ⟨s2, d2⟩
          exact r D H2 s2 (by rw [List.length_map] at d2; exact d2)
      · refine ⟨.ref q, rfl, q, rfl, Or.inr ⟨⟨_, sqT_same s1 z⟩, fun D hD => ?_⟩⟩
        refine lc_it walk_tup (fun i H2 => Same H1 H2 ∧ H2 D = some (.lst (List.replicate i (V.bl true)))) ⟨Same.new hD, upd_same⟩ (fun _ _ _ y => sqT_same (s1.trans y.1) z) ?_ ?_
        · rintro i y H2 H3 hi ⟨s2, d2⟩ ⟨rfl, hy⟩
          obtain ⟨x, rfl, gx, mx⟩ := str_map_get hy
          refine ⟨rfl, ?_⟩
          refine yes_of ?_
          refine ⟨_, rfl, x, rfl, good x mx, fun H4 s4 => ⟨_, s4 _ _ d2, ?_, ?_, ?_⟩⟩
          · rw [List.length_replicate, sizeLine_eq]
            rw [List.length_map] at hi
            omega
          · exact fun b o y => by rw [upd_ne (ne_of_none y hD)]; exact s4 _ _ (s2 _ _ y)
          · rw [← List.replicate_succ']
            exact upd_same
        · rintro H2 ⟨s2, d2⟩
          exact r D H2 s2 (by rw [List.length_map] at d2; exact d2)
    case rest =>
      intro D H2 s2 d2
      refine ⟨D, List.replicate ws.length true, rfl, SqL.of (by rw [List.map_replicate]; exact d2), ?_⟩
      have all1 : (List.replicate ws.length true).all id = true := by simp
      rw [all1]
      refine ⟨true, rfl, iteF ?_⟩
      have hq2 : SqL K H2 q (ws.map V.str) ∨ SqT K H2 q (ws.map V.str) := hq.imp (fun z => (s1.trans s2).seq z) (fun z => sqT_same (s1.trans s2) z)
      refine ⟨.ref q, rfl, q, ws, rfl, hq2, by omega, fun p np => ⟨p, ded ws, rfl, upd_same, by rw [ded_self nd]; omega, ?_⟩⟩
      rw [ded_self nd]
      have s3 : Same H2 (upd H2 p (SetS P w p ws)) := Same.new np
      have hq3 := hq.imp (fun z => ((s1.trans s2).trans s3).seq z) (fun z => sqT_same ((s1.trans s2).trans s3) z)
      refine ⟨.ref q, rfl, q, _, rfl, hq3, rfl, ?_⟩
      rw [List.length_map]
      have e1 : decide (V.int (ws.length : Int) = V.int (ws.length : Int)) = true := decide_eq_true rfl
      rw [e1]
      exact k _ ((s1.trans s2).trans s3)
end
structure TSk where
  r : Option Str
  n : Int
  o : List Str
  s : List Str
  t : List Str
  f : List Str
def rV : Option Str → V
  | none => .non
  | some x => .str x
def OkS (l : List Str) : Prop := OkW l ∧ sortedS l = true
structure OkT (T : TSk) : Prop where
  r : ∀ x, T.r = some x → Word x
  n1 : 1 ≤ T.n
  n3 : T.n ≤ 3
  o : OkS T.o
  s : OkS T.s
  t : OkS T.t
  f : OkS T.f
def flds (r : V) (n : Int) (t1 t2 t3 t4 : Addr) : List (Str × V) := [("_role", r), ("_many", .int n), ("_other", .ref t1), ("_same", .ref t2), ("_takes", .ref t3), ("_forgets", .ref t4)]
/-- the task at a -/
def TaskAt (CT : Addr) (H : Hp) (a : Addr) (T : TSk) : Prop := ∃ dx t1 t2 t3 t4, H a = some (.ins CT dx (flds (rV T.r) T.n t1 t2 t3 t4)) ∧ H t1 = some (.tup (T.o.map V.str)) ∧ H t2 = some (.tup (T.s.map V.str)) ∧ H t3 = some (.tup (T.t.map V.str)) ∧ H t4 = some (.tup (T.f.map V.str))
/-- all but a stays -/
abbrev Ext (a : Addr) (H H' : Hp) : Prop := ∀ b o, b ≠ a → H b = some o → H' b = some o
theorem WL.ext {K : Frag} {H H' : Hp} {a C dx : Addr} {fs : List (Str × V)} {v : V} {ws : List Str} (h : WL K H v ws) (e : Ext a H H') (ha : H a = some (.ins C dx fs)) : WL K H' v ws := by
  obtain ⟨q, ev, h⟩ := h
  refine ⟨q, ev, ?_⟩
  have ne : ∀ {u : HO}, H q = some u → (∀ C dx fs, u ≠ .ins C dx fs) → q ≠ a := fun z n y => by
    rw [y, ha] at z
    exact n _ _ _ (Option.some.inj z).symm
  rcases h with h | h
  · rcases h with (h | ⟨o, h⟩) | h
    · exact .inl (.inl (.inl (e _ _ (ne h fun _ _ _ z => by cases z) h)))
    · exact .inl (.inl (.inr ⟨o, e _ _ (ne h fun _ _ _ z => by cases z) h⟩))
    · exact .inl (.inr h)
  · rcases h with (h | ⟨o, h⟩) | h
    · exact .inr (.inl (.inl (e _ _ (ne h fun _ _ _ z => by cases z) h)))
    · exact .inr (.inl (.inr ⟨o, e _ _ (ne h fun _ _ _ z => by cases z) h⟩))
    · exact .inr (.inr h)
section
variable {P : Program} {w : World} {K : Frag} {mg : Str → Option Value} {base : Heap} {aF aM aD CE aE CT aW aR aH aA aI : Addr} {fW fR fH fA fI : FuncData}
def spAsc (K : Frag) : Sp := fun vs H Q _ => ∃ f v ws, vs = [f, v] ∧ WL K H v ws ∧ OkW ws ∧ ∀ ys p H', ys.Perm ws → sortedS ys = true → H p = none → Same H H' → H' p = some (.tup (ys.map V.str)) → Q (.ref p) H'
theorem scAsc : FnScope ["field", "words"] ["field", "words"] (defScope sAsc) := ⟨rfl, rfl, rfl, by decide +kernel, rfl, by decide +kernel, by decide +kernel⟩
theorem ok_asc {f : Addr} {fd : FuncData} (F : Fun K "_ascending" "_ascending" sAsc f fd) (FR : Fun K "are_words" "are_words" sAre aR fR) (FW : Fun K "is_word" "is_word" sWord aW fW) (gR : mg "are_words" = some (.ref aR)) (gW : mg "is_word" = some (.ref aW)) (TR : TxtR K mg w aF aM aD CE aE) (TK : TxtK mg) (T : TxtB mg) : FnOk P w K mg base CX0 3 f fd ["field", "words"] (spAsc K) := by
  have GR : FnOk P w K mg base CX0 2 aR fR ["value"] (spAre K) := ok_are FR FW gW TR TK T
  have bR : Binds K fR ["value"] [] := FR.binds (ps := ["value"]) fun _ _ _ _ _ _ us hl => match us, hl with | [_], _ => rfl
  refine F.ok scAsc (fun vs H Q E h => ?_) (fun cdv A outer s H vs Q E hr h => ?_)
  · obtain ⟨x, v, ws, rfl, _⟩ := h
    rfl
  · obtain ⟨x, v, ws, rfl, wl, ok, k⟩ := h
    refine ⟨_, pss_cons (ps_if (pt_not (pt_val (pe_call GR hr rfl gR FR.kp bR .nil pass0 (pa_cons (pv 1) pa_nil)))) pss_no pss_nil)
      (pss_one (ps_ret (pe_callTy call_tuple_of (by rfl) TK.tuple (by decide +kernel) (pa_cons (pe_callB cr_sortedSeq (by rfl) T.sorted (by decide +kernel) (pa_cons (pv 1) pa_nil)) pa_nil)))), ?_⟩
    refine ⟨_, rfl, v, ws, rfl, wl, ok, fun H1 s1 => ⟨true, rfl, iteF ?_⟩⟩
    obtain ⟨q, rfl, hq⟩ := wl.same s1
    have few := ok.2.2
    refine ⟨.ref q, rfl, q, ws, rfl, hq, by omega, fun zs l pz sz nl => ⟨l, _, rfl, .inl ⟨SqL.of upd_same, fun p np => ?_⟩⟩⟩
    have s2 : Same H (upd H1 l (.lst (zs.map V.str))) := s1.trans (Same.new nl)
    exact k zs p _ pz sz (none_back s2 np) (s2.trans (Same.new np)) upd_same
def spTk (K : Frag) (CT : Addr) : Sp := fun vs H Q _ => ∃ a dx v1 v2 v3 v4 w1 w2 w3 w4 T, vs = [.ref a, rV T.r, .int T.n, v1, v2, v3, v4] ∧ H a = some (.ins CT dx []) ∧ WL K H v1 w1 ∧ WL K H v2 w2 ∧ WL K H v3 w3 ∧ WL K H v4 w4 ∧
  w1.Perm T.o ∧ w2.Perm T.s ∧ w3.Perm T.t ∧ w4.Perm T.f ∧ OkT T ∧ ∀ H', Ext a H H' → TaskAt CT H' a T → Q .non H'
/-- the i-th keyword default of Task's __init__, where it is an object -/
def kwAt (x : Str) (K : Frag) : Addr := match K.lookup (He.ma K (He.ga K "Task") "__init__") with
  | some ⟨_, _, .func fd, _⟩ => (match fd.kwdefaults with
    | .ref D => (match PySem.W.nsIn K D x with
      | some (some (.ref b)) => b
      | _ => 0)
    | _ => 0)
  | _ => 0
def kwT (K : Frag) : List (Str × V) := [("many", .int 1), ("other", .ref (kwAt "other" K)), ("same", .ref (kwAt "same" K)), ("takes", .ref (kwAt "takes" K)), ("forgets", .ref (kwAt "forgets" K))]
/-- the class of tasks and its defs -/
structure Pkg (K : Frag) (mg : Str → Option Value) (w : World) (aF aM aD CE aE CT aW aR aH aA aI : Addr) (fW fR fH fA fI : FuncData) : Prop where
  TR : TxtR K mg w aF aM aD CE aE
  TK : TxtK mg
  T : TxtB mg
  C : OwnC K mg "Task" CT
  mkC : Mk K CT aI
  FI : FunD K "__init__" "Task.__init__" (defArgs sTkI) (defBody sTkI) (defScope sTkI) [.non] (kwT K) aI fI
  no_role : NoAttr K CT "_role"
  no_many : NoAttr K CT "_many"
  no_other : NoAttr K CT "_other"
  no_same : NoAttr K CT "_same"
  no_takes : NoAttr K CT "_takes"
  no_forgets : NoAttr K CT "_forgets"
  emp : ∀ q ∈ (kwT K).drop 1, ∃ b, q.2 = .ref b ∧ ∀ H : Hp, SqT K H b []
  FW : Fun K "is_word" "is_word" sWord aW fW
  FR : Fun K "are_words" "are_words" sAre aR fR
  FH : Fun K "is_whole" "is_whole" sWhole aH fH
  FA : Fun K "_ascending" "_ascending" sAsc aA fA
  gW : mg "is_word" = some (.ref aW)
  gR : mg "are_words" = some (.ref aR)
  gH : mg "is_whole" = some (.ref aH)
  gA : mg "_ascending" = some (.ref aA)
theorem OkW.perm {a b : List Str} (h : OkW b) (p : a.Perm b) : OkW a := ⟨p.nodup_iff.mpr h.1, fun x hx => h.2.1 x (p.mem_iff.mp hx), by rw [p.length_eq]; exact h.2.2⟩
theorem scTk : FnScope ["self", "role", "many", "other", "same", "takes", "forgets"] ["self", "role", "many", "other", "same", "takes", "forgets"] (defScope sTkI) := ⟨rfl, rfl, rfl, by decide +kernel, rfl, by decide +kernel, by decide +kernel⟩
theorem ok_tk (G : Pkg K mg w aF aM aD CE aE CT aW aR aH aA aI fW fR fH fA fI) : FnOk P w K mg base CX0 4 aI fI ["self", "role", "many", "other", "same", "takes", "forgets"] (spTk K CT) := by
  have GW : FnOk P w K mg base CX0 1 aW fW ["value"] spGW := ok_gw G.FW G.TR G.TK
  have GH : FnOk P w K mg base CX0 1 aH fH ["value", "low", "high"] spWhole := ok_whole G.FH G.TR G.TK G.T
  have GA : FnOk P w K mg base CX0 3 aA fA ["field", "words"] (spAsc K) := ok_asc G.FA G.FR G.FW G.gR G.gW G.TR G.TK G.T
  have bW : Binds K fW ["value"] [] := G.FW.binds (ps := ["value"]) fun _ _ _ _ _ _ us hl => match us, hl with | [_], _ => rfl
  have bH : Binds K fH ["value", "low", "high"] [] := G.FH.binds (ps := ["value", "low", "high"]) fun _ _ _ _ _ _ us hl => match us, hl with | [_, _, _], _ => rfl
  have bA : Binds K fA ["field", "words"] [] := G.FA.binds (ps := ["field", "words"]) fun _ _ _ _ _ _ us hl => match us, hl with | [_, _], _ => rfl
  refine G.FI.ok scTk (fun vs H Q E h => ?_) (fun cdv A outer s H vs Q E hr h => ?_)
  · obtain ⟨a, dx, v1, v2, v3, v4, w1, w2, w3, w4, T, rfl, _⟩ := h
    rfl
  · obtain ⟨a, dx, v1, v2, v3, v4, w1, w2, w3, w4, T, rfl, ha, l1, l2, l3, l4, q1, q2, q3, q4, ok, k⟩ := h
    have hr1 : Room 1 _ := hr.mono (by decide)
    obtain ⟨uM, gMany⟩ := G.T.MANY
    refine ⟨_, pss_cons (ps_if (PW.pt (pw_and (pt_cmpR op_notN (pv 1) pe_non (nomark _)) (pw_and1 (pt_not (pt_val (pe_call GW hr1 rfl G.gW G.FW.kp bW .nil pass0 (pa_cons (pv 1) pa_nil))))))) pss_no pss_nil)
      (pss_cons (ps_if (pt_not (pt_val (pe_call GH hr1 rfl G.gH G.FH.kp bH .nil pass0 (pa_cons (pv 2) (pa_cons pe_int (pa_cons (pe_glob (v := .int 3) (by rfl) gMany ⟨_, rfl⟩) pa_nil)))))) pss_no pss_nil)
      (pss_cons (ps_fld (pv 0) (pv 1) rfl)
      (pss_cons (ps_fld (pv 0) (pv 2) rfl)
      (pss_cons (ps_fld (pv 0) (pe_call GA hr rfl G.gA G.FA.kp bA .nil pass0 (pa_cons pe_str (pa_cons (pv 3) pa_nil))) rfl)
      (pss_cons (ps_fld (pv 0) (pe_call GA hr rfl G.gA G.FA.kp bA .nil pass0 (pa_cons pe_str (pa_cons (pv 4) pa_nil))) rfl)
      (pss_cons (ps_fld (pv 0) (pe_call GA hr rfl G.gA G.FA.kp bA .nil pass0 (pa_cons pe_str (pa_cons (pv 5) pa_nil))) rfl)
      (pss_one (ps_fld (pv 0) (pe_call GA hr rfl G.gA G.FA.kp bA .nil pass0 (pa_cons pe_str (pa_cons (pv 6) pa_nil))) rfl)))))))), ?_⟩
    refine mpP (R := ∀ (H1 : Hp), Same H H1 → (?R : Hp → Prop) H1) ?imp ?rest
    case imp =>
      intro r
      have two : (∃ x, T.r = some x) ∨ T.r = none := by
        cases T.r with
        | none => exact .inr rfl
        | some x => exact .inl ⟨x, rfl⟩
      rcases two with ⟨x, e⟩ | e
      · refine ⟨rV T.r, rfl, rfl, true, by rw [e]; rfl, iteT ⟨rV T.r, rfl, x, by rw [e]; rfl, ok.r x e, fun H1 s1 => ⟨true, rfl, iteF ?_⟩⟩⟩
        exact r H1 s1
      · refine ⟨rV T.r, rfl, rfl, false, by rw [e]; rfl, iteF (iteF ?_)⟩
        exact r H (Same.refl H)
    case rest =>
      intro H1 s1
      refine ⟨_, rfl, T.n, 1, 3, rfl, ok.n1, ok.n3, true, rfl, iteF ?_⟩
      have ha1 := s1 _ _ ha
      refine ⟨_, rfl, _, rfl, a, CT, dx, [], rfl, ha1, G.C.cl, G.no_role, by decide, ?_⟩
      refine ⟨_, rfl, _, rfl, a, CT, dx, _, rfl, upd_same, G.C.cl, G.no_many, Nat.le_of_ble_eq_true (by rfl), ?_⟩
      have x2 : ∀ {A B : HO}, Ext a H (upd (upd H1 a A) a B) := fun b o nb z => by rw [upd_ne nb, upd_ne nb]; exact s1 _ _ z
      refine ⟨_, rfl, _, v1, w1, rfl, l1.ext x2 ha, ok.o.1.perm q1, fun y1 t1 H3 p1 z1 n1 s3 e1 => ⟨_, rfl, a, CT, dx, _, rfl, s3 _ _ upd_same, G.C.cl, G.no_other, Nat.le_of_ble_eq_true (by rfl), ?_⟩⟩
      have x3 : Ext a H H3 := fun b o nb z => s3 _ _ (x2 b o nb z)
      have d1 : t1 ≠ a := fun z => by have q := s3 a _ upd_same; rw [← z, e1] at q; cases q
      refine ⟨_, rfl, _, v2, w2, rfl, l2.ext (fun b o nb z => by rw [upd_ne nb]; exact x3 b o nb z) ha, ok.s.1.perm q2, fun y2 t2 H5 p2 z2 n2 s5 e2 => ⟨_, rfl, a, CT, dx, _, rfl, s5 _ _ upd_same, G.C.cl, G.no_same, Nat.le_of_ble_eq_true (by rfl), ?_⟩⟩
      have x5 : Ext a H H5 := fun b o nb z => s5 _ _ (by rw [upd_ne nb]; exact x3 b o nb z)
      have d2 : t2 ≠ a := fun z => by have q := s5 a _ upd_same; rw [← z, e2] at q; cases q
      have e15 : H5 t1 = some (.tup (y1.map V.str)) := s5 _ _ (by rw [upd_ne d1]; exact e1)
      refine ⟨_, rfl, _, v3, w3, rfl, l3.ext (fun b o nb z => by rw [upd_ne nb]; exact x5 b o nb z) ha, ok.t.1.perm q3, fun y3 t3 H7 p3 z3 n3 s7 e3 => ⟨_, rfl, a, CT, dx, _, rfl, s7 _ _ upd_same, G.C.cl, G.no_takes, Nat.le_of_ble_eq_true (by rfl), ?_⟩⟩
      have x7 : Ext a H H7 := fun b o nb z => s7 _ _ (by rw [upd_ne nb]; exact x5 b o nb z)
      have d3 : t3 ≠ a := fun z => by have q := s7 a _ upd_same; rw [← z, e3] at q; cases q
      have e17 : H7 t1 = some (.tup (y1.map V.str)) := s7 _ _ (by rw [upd_ne d1]; exact e15)
      have e27 : H7 t2 = some (.tup (y2.map V.str)) := s7 _ _ (by rw [upd_ne d2]; exact e2)
      refine ⟨_, rfl, _, v4, w4, rfl, l4.ext (fun b o nb z => by rw [upd_ne nb]; exact x7 b o nb z) ha, ok.f.1.perm q4, fun y4 t4 H9 p4 z4 n4 s9 e4 => ⟨_, rfl, a, CT, dx, _, rfl, s9 _ _ upd_same, G.C.cl, G.no_forgets, Nat.le_of_ble_eq_true (by rfl), ?_⟩⟩
      have x9 : Ext a H H9 := fun b o nb z => s9 _ _ (by rw [upd_ne nb]; exact x7 b o nb z)
      have d4 : t4 ≠ a := fun z => by have q := s9 a _ upd_same; rw [← z, e4] at q; cases q
      have e19 : H9 t1 = some (.tup (y1.map V.str)) := s9 _ _ (by rw [upd_ne d1]; exact e17)
      have e29 : H9 t2 = some (.tup (y2.map V.str)) := s9 _ _ (by rw [upd_ne d2]; exact e27)
      have e39 : H9 t3 = some (.tup (y3.map V.str)) := s9 _ _ (by rw [upd_ne d3]; exact e3)
      have f1 : y1 = T.o := sorted_same (p1.trans q1) z1 ok.o.2
      have f2 : y2 = T.s := sorted_same (p2.trans q2) z2 ok.s.2
      have f3 : y3 = T.t := sorted_same (p3.trans q3) z3 ok.t.2
      have f4 : y4 = T.f := sorted_same (p4.trans q4) z4 ok.f.2
      refine k _ (fun b o nb z => by rw [upd_ne nb]; exact x9 b o nb z) ⟨dx, t1, t2, t3, t4, upd_same, ?_, ?_, ?_, ?_⟩
      · rw [upd_ne d1, e19, f1]
      · rw [upd_ne d2, e29, f2]
      · rw [upd_ne d3, e39, f3]
      · rw [upd_ne d4, e4, f4]
end
/-! ### getters, == -/
abbrev sG1 : Stmt := inClass (top 40) 1
abbrev sG2 : Stmt := inClass (top 40) 2
abbrev sG3 : Stmt := inClass (top 40) 3
abbrev sG4 : Stmt := inClass (top 40) 4
abbrev sG5 : Stmt := inClass (top 40) 5
abbrev sG6 : Stmt := inClass (top 40) 6
abbrev sEq : Stmt := inClass (top 40) 7
def dR : Option Str → PyData
  | none => .none
  | some x => .str x
def dL (l : List Str) : PyData := .tuple (l.map PyData.str)
def dT (T : TSk) : PyData := .tuple [dR T.r, .int T.n, dL T.o, dL T.s, dL T.t, dL T.f]
section
variable {P : Program} {w : World} {K : Frag} {mg : Str → Option Value} {base : Heap} {aF aM aD CE aE CT aW aR aH aA aI f : Addr} {fW fR fH fA fI fd : FuncData}
theorem scG3 : FnScope ["self"] ["self"] (defScope sG3) := ⟨rfl, rfl, rfl, by decide +kernel, rfl, by decide +kernel, by decide +kernel⟩
theorem ok_g3 (G : Pkg K mg w aF aM aD CE aE CT aW aR aH aA aI fW fR fH fA fI) (F : Fun K "other" "Task.other" sG3 f fd) : FnOk P w K mg base CX0 1 f fd ["self"] (getSp CT "_other") := by
  refine F.ok scG3 (fun vs H Q E h => ?_) (fun cdv A outer s H vs Q E hr h => ?_)
  · obtain ⟨a, dx, fs, v, rfl, _⟩ := h
    rfl
  · obtain ⟨a, dx, fs, v, rfl, ha, hv, k⟩ := h
    refine ⟨_, pss_one (ps_ret (pe_fld (pv 0) rfl)), ?_⟩
    exact ⟨_, rfl, a, CT, dx, fs, v, rfl, ha, G.C.cl, G.no_other, hv, k⟩
theorem scG4 : FnScope ["self"] ["self"] (defScope sG4) := ⟨rfl, rfl, rfl, by decide +kernel, rfl, by decide +kernel, by decide +kernel⟩
theorem ok_g4 (G : Pkg K mg w aF aM aD CE aE CT aW aR aH aA aI fW fR fH fA fI) (F : Fun K "same" "Task.same" sG4 f fd) : FnOk P w K mg base CX0 1 f fd ["self"] (getSp CT "_same") := by
  refine F.ok scG4 (fun vs H Q E h => ?_) (fun cdv A outer s H vs Q E hr h => ?_)
  · obtain ⟨a, dx, fs, v, rfl, _⟩ := h
    rfl
  · obtain ⟨a, dx, fs, v, rfl, ha, hv, k⟩ := h
    refine ⟨_, pss_one (ps_ret (pe_fld (pv 0) rfl)), ?_⟩
    exact ⟨_, rfl, a, CT, dx, fs, v, rfl, ha, G.C.cl, G.no_same, hv, k⟩
end
/-! ### how its arguments bind -/
abbrev PSI : List Str := ["self", "role", "many", "other", "same", "takes", "forgets"]
section
variable {P : Program} {w : World} {K : Frag} {mg : Str → Option Value} {base : Heap} {aF aM aD CE aE CT aW aR aH aA aI : Addr} {fW fR fH fA fI : FuncData}
theorem b_none (G : Pkg K mg w aF aM aD CE aE CT aW aR aH aA aI fW fR fH fA fI) : ∃ ds, Vals ([.non] ++ (kwT K).map (·.2)) ds ∧ Binds K fI PSI ds :=
  G.FI.binds (ps := PSI) 1 0 (fun z => by cases z) rfl (fun T D doc pm an cdv ct us its ks h1 h2 h3 => by
    match us, its, ks, h1, h2, h3 with
    | [a], [c], [d, e, f, g, h], _, _, _ => exact ⟨_, rfl, _, _, _, _, _, _, rfl, rfl, _, _, _, _, _, _, rfl, rfl, _, _, _, _, _, _, rfl, rfl, _, _, _, _, _, _, rfl, rfl, _, _, _, _, _, _, rfl, rfl, rfl⟩) (fun z => by cases z)
end
structure Mets (K : Frag) (CT gE g1 g2 g3 g4 g5 g6 p1 p2 p3 p4 p5 p6 : Addr) (fE f1 f2 f3 f4 f5 f6 : FuncData) : Prop where
  p1 : PropOf K CT "role" p1 g1
  F1 : Fun K "role" "Task.role" sG1 g1 f1
  p2 : PropOf K CT "many" p2 g2
  F2 : Fun K "many" "Task.many" sG2 g2 f2
  p3 : PropOf K CT "other" p3 g3
  F3 : Fun K "other" "Task.other" sG3 g3 f3
  p4 : PropOf K CT "same" p4 g4
  F4 : Fun K "same" "Task.same" sG4 g4 f4
  p5 : PropOf K CT "takes" p5 g5
  F5 : Fun K "takes" "Task.takes" sG5 g5 f5
  p6 : PropOf K CT "forgets" p6 g6
  F6 : Fun K "forgets" "Task.forgets" sG6 g6 f6
  hE : PySem.W.findIn K (.ref CT) "__eq__" = some (some (.ref gE))
  jE : PySem.W.isFn K (.ref gE) = true
  FE : Fun K "__eq__" "Task.__eq__" sEq gE fE
  hNe : PySem.W.findIn K (.ref CT) "__ne__" = some (some (.builtin "object.__ne__"))
  hob : PySem.W.subIn K (.ref CT) (.type "object") = some true
  nT : PySem.W.notFirst K CT (.type "tuple") = true
  nS : PySem.W.notFirst K CT (.type "str") = true
  nN : PySem.W.notFirst K CT (.type "NoneType") = true
  kS : PySem.W.kitOne K (.type "str") (.ref CT) = some false
  kN : PySem.W.kitOne K (.type "NoneType") (.ref CT) = some false
  kT : PySem.W.kitOne K (.type "tuple") (.ref CT) = some false
end Fp6
set_option Elab.async false
set_option linter.all false
set_option maxRecDepth 100000
set_option maxHeartbeats 4000000
/-! FzL: max(xs, default=d) of a list of ints -/
namespace FzL
open PySem PySem.Spec PyProof.Rows
section
variable {prog : Program} {w : World} {A : Around} {E : Value → Shared → Prop} {s : Shared}
theorem tree_kw {id : String} {B : Builtin} {us : List Value} {kw : List (Str × Value)} {Q : Value → Shared → Prop} (h1 : builtinKind id = none) (h2 : plainId id = true) (h3 : entryFor table id = some B) (h4 : argsOk id ⟨us, kw⟩)
    (h : wpAny (model prog w) A.in1 (B ⟨us, kw⟩) (fun fin s' => match fin with
      | .done f => (match (Except.ok f : Result) with
        | .ok (.ret v) => Q v s'
        | .ok _ => False
        | .error e => E e s')
      | .again q => q.quiet = true ∧ codeAny (model prog w) A q (fun r s' => match r with
        | .ok (.ret v) => Q v s'
        | .ok _ => False
        | .error e => E e s') s') E s) : wpAny (model prog w) A (call (.builtin id) us kw) Q E s := by
  refine wpAny_call (codeAny_call_builtin h2 h3 ?_); simp only [checkBuiltinCall, h1]
  cases sg : Manifest.signature? id with
  | none => exact wpAny_pure h
  | some g =>
    have e : Bind.checkArgs id g ⟨us, kw⟩ = pure () := by simpa only [argsOk, sg] using h4
    simp only [e]; exact wpAny_pure h
end
section
variable {prog : Program} {w : World} {A : Around} {R : Result → Shared → Prop} {I : Addr} {fp wr : List Addr} {n : Nat} {P : Nat → Value → Prop} {St : Nat → Heap → Prop} {kw : List (Str × Value)}
theorem nm : (toString "max" ++ toString ".loop" : String) = "max.loop" := by decide
/-- the loop behind its first item, whatever the keywords -/
theorem max_on (W : Walks prog w A.in1 I fp wr n P St) (bt : Nat → Nat → Bool) (cmp : CmpOf prog w A.in1 .Gt P bt) (S : Addr) (nS : S ∉ fp) : ∀ (k j : Nat) (s : Shared) (vb : Value) (c : Nat), n - (j + 1) = k → j + 1 ≤ n → St (j + 1) s.heap → P (argBest bt j) vb →
    s.heap.get? S = some { cls := .type "list", dict := none, data := .seq #[vb, vb] c, slots := #[] } →
    (∀ (v : Value) (h' : Heap) (tk : Nat), P (argBest bt (n - 1)) v → (∀ b o, b ∉ wr → b ≠ S → s.heap.get? b = some o → h'.get? b = some o) → R (.ok (.ret v)) { s with heap := h', toks := tk }) →
    codeAny (model prog w) A (.builtin "max.loop" ⟨[.ref I, .none, .ref S], kw⟩) R s
  | 0, j, s, vb, c, ek, hj, st, pb, at_, fin => by
    have nw : S ∉ wr := fun h => nS (W.sub _ h)
    have en : j + 1 = n := by omega
    refine codeAny_builtin PySem.F.entry_max_loop ?_; rw [Around.under_plainId PySem.F.plain_max_loop _]; show wpAny _ A.in1 (seqItems? (.ref S) >>= _) _ _ s
    refine wpAny_bind (wpAny_seqItems at_ rfl ?_); show wpAny _ A.in1 (tryCatch (pyNext (.ref I)) _ >>= _) _ _ s
    refine wpAny_bind (wpAny_tryCatch (W.done s _ _ (en ▸ st) fun h' tk kp => ?_)); show wpAny _ A.in1 (updateSeq S (fun _ => #[]) >>= _) _ _ _
    refine wpAny_bind (wpAny_updateSeq (kp S _ nw at_) rfl (wpAny_bind (wpAny_letGo (wpAny_pure (fin vb _ tk (by rw [← en]; exact pb) fun b o b1 b2 e => ?_)))))
    exact (Heap.get?_update_other _ _ fun q => b2 q.symm).trans (kp b o b1 e)
  | k + 1, j, s, vb, c, ek, hj, st, pb, at_, fin => by
    have nw : S ∉ wr := fun h => nS (W.sub _ h)
    have lt : j + 1 < n := by omega
    refine codeAny_builtin PySem.F.entry_max_loop ?_; rw [Around.under_plainId PySem.F.plain_max_loop _]; show wpAny _ A.in1 (seqItems? (.ref S) >>= _) _ _ s
    refine wpAny_bind (wpAny_seqItems at_ rfl ?_); show wpAny _ A.in1 (tryCatch (pyNext (.ref I)) _ >>= _) _ _ s
    refine wpAny_bind (wpAny_tryCatch (W.item (j + 1) s _ _ lt st fun v h' tk pv st' kp => ?_))
    have at2 := kp S _ nw at_
    show wpAny _ A.in1 (tryCatch (holding [v, v] (richCompare .Gt v vb >>= _)) _ >>= _) _ _ _
    refine wpAny_bind (wpAny_tryCatch (wpAny_holding (wpAny_bind (cmp (j + 1) (argBest bt j) v vb _ _ _ pv pb (wpAny_bind (wpAny_holding (wpAny_truthy_bool (wpAny_bind (wpAny_letGo (wpAny_pure ?_))))))))))
    cases eb : bt (j + 1) (argBest bt j) with
    | true =>
      simp only [if_true]
      refine wpAny_bind (wpAny_updateSeq at2 rfl (wpAny_bind (wpAny_letGo ?_))); rw [nm]
      have fr : ∀ b ∈ fp, ∀ o, h'.get? b = some o → (h'.update S (Obj.mapSeq fun _ => #[v, v])).get? b = some o := fun b m o e => (Heap.get?_update_other _ _ fun q : S = b => nS (q ▸ m)).trans e
      refine wpAny_pure ⟨plainId_quiet PySem.F.plain_max_loop _, max_on W bt cmp S nS k (j + 1) _ v _ (by omega) lt (W.frame _ _ _ st' fr) (by simp only [argBest, eb, if_true]; exact pv) (Heap.get?_update_self _ at2 rfl) fun u h2 tk2 pu kp2 => ?_⟩
      exact fin u h2 tk2 pu fun b o b1 b2 e => kp2 b o b1 b2 ((Heap.get?_update_other _ _ fun q => b2 q.symm).trans (kp b o b1 e))
    | false =>
      simp only [Bool.false_eq_true, if_false]
      refine wpAny_bind (wpAny_letGo ?_); rw [nm]
      refine wpAny_pure ⟨plainId_quiet PySem.F.plain_max_loop _, max_on W bt cmp S nS k (j + 1) _ vb c (by omega) lt st' (by simp only [argBest, eb, Bool.false_eq_true, if_false]; exact pb) at2 fun u h2 tk2 pu kp2 => ?_⟩
      exact fin u h2 tk2 pu fun b o b1 b2 e => kp2 b o b1 b2 (kp b o b1 e)
/-- the loop from its start: the default, where there is no item -/
theorem max_from (W : Walks prog w A.in1 I fp wr n P St) (bt : Nat → Nat → Bool) (cmp : CmpOf prog w A.in1 .Gt P bt) (S : Addr) (nS : S ∉ fp) {s : Shared} {c : Nat} {x : Str} {d : Value} {ks : List (Str × Value)} (ek : kw = (x, d) :: ks) (st : St 0 s.heap)
    (at_ : s.heap.get? S = some { cls := .type "list", dict := none, data := .seq #[] c, slots := #[] })
    (fin : ∀ (v : Value) (h' : Heap) (tk : Nat), (n = 0 → v = d) → (0 < n → P (argBest bt (n - 1)) v) → (∀ b o, b ∉ wr → b ≠ S → s.heap.get? b = some o → h'.get? b = some o) → R (.ok (.ret v)) { s with heap := h', toks := tk }) :
    codeAny (model prog w) A (.builtin "max.loop" ⟨[.ref I, .none, .ref S], kw⟩) R s := by
  have nw : S ∉ wr := fun h => nS (W.sub _ h)
  subst ek
  refine codeAny_builtin PySem.F.entry_max_loop ?_; rw [Around.under_plainId PySem.F.plain_max_loop _]; show wpAny _ A.in1 (seqItems? (.ref S) >>= _) _ _ s
  refine wpAny_bind (wpAny_seqItems at_ rfl ?_); show wpAny _ A.in1 (tryCatch (pyNext (.ref I)) _ >>= _) _ _ s
  by_cases n0 : n = 0
  · refine wpAny_bind (wpAny_tryCatch (W.done s _ _ (n0 ▸ st) fun h' tk kp => ?_)); show wpAny _ A.in1 (rule _ >>= fun _ => ret d) _ _ _
    exact wpAny_bind (wpAny_rule (wpAny_pure (fin d h' tk (fun _ => rfl) (fun z => absurd z (by omega)) fun b o b1 _ e => kp b o b1 e)))
  · have lt : 0 < n := Nat.pos_of_ne_zero n0
    refine wpAny_bind (wpAny_tryCatch (W.item 0 s _ _ lt st fun v h' tk pv st' kp => ?_)); show wpAny _ A.in1 (updateSeq S (fun _ => #[v, v]) >>= _) _ _ _
    have at2 := kp S _ nw at_
    refine wpAny_bind (wpAny_updateSeq at2 rfl ?_); rw [nm]
    have fr : ∀ b ∈ fp, ∀ o, h'.get? b = some o → (h'.update S (Obj.mapSeq fun _ => #[v, v])).get? b = some o := fun b m o e => (Heap.get?_update_other _ _ fun q : S = b => nS (q ▸ m)).trans e
    refine wpAny_pure ⟨plainId_quiet PySem.F.plain_max_loop _, max_on W bt cmp S nS _ 0 _ v _ rfl lt (W.frame _ _ _ st' fr) pv (Heap.get?_update_self _ at2 rfl) fun u h2 tk2 pu kp2 => ?_⟩
    exact fin u h2 tk2 (fun z => absurd z n0) (fun _ => pu) fun b o b1 b2 e => kp2 b o b1 b2 ((Heap.get?_update_other _ _ fun q => b2 q.symm).trans (kp b o b1 e))
end
section
variable {prog : Program} {w : World} {A : Around} {E : Value → Shared → Prop} {s : Shared}
theorem args_d (a b : Value) : argsOk "max" ⟨[a], [(Str.ofString "default", b)]⟩ := by unfold argsOk; kernel_rfl
theorem call_max_d {l : Addr} {xs : Array (Int × Tok)} {d : Value} {Q : Value → Shared → Prop} (hh : A.handled = none) (hl : s.heap.IsList l (intItems xs))
    (fin : ∀ (v : Value) (h' : Heap) (tk : Nat), (xs.size = 0 → v = d) → (0 < xs.size → (intItems xs)[argBest (fun i j => decide (numAt xs i > numAt xs j)) (xs.size - 1)]? = some v) → (∀ b o, s.heap.get? b = some o → h'.get? b = some o) → Q v { s with heap := h', toks := tk }) :
    wpAny (model prog w) A (call (.builtin "max") [.ref l] [(Str.ofString "default", d)]) Q E s := by
  refine tree_kw PySem.F.kind_max PySem.F.plain_max PySem.F.entry_max (args_d _ _) ?_
  show wpAny _ A.in1 (Builtin.Builtins.bindParams "max" ["key", "default"] 0 ⟨[], [(Str.ofString "default", d)]⟩ >>= _) _ _ s
  refine wpAny_bind (wpAny_of_eq (show Builtin.Builtins.bindParams "max" ["key", "default"] 0 ⟨[], [(Str.ofString "default", d)]⟩ = pure [none, some d] from rfl) ?_)
  refine wpAny_bind (wpAny_pure ?_)
  refine wpAny_bind (iter_intList hl fun s2 e st hfp ne => ?_)
  subst e
  refine wpAny_bind (wpAny_newObj_type ?_); rw [nm]
  have sz : (intItems xs).size = xs.size := by simp [intItems]
  refine wpAny_pure ⟨plainId_quiet PySem.F.plain_max_loop _, max_from (Walks.list (A := A.in1) hh _ l ne (intItems xs)) _ (CmpOf.ints_gt (numAt xs) fun _ _ => intItems_at) _ (fun m => Nat.lt_irrefl _ (hfp _ m)) rfl ?_ (Heap.get?_push_size _ rfl) fun v h' tk f1 f2 kp => ?_⟩
  · exact (Walks.list (A := A.in1) hh _ l ne (intItems xs) : Walks prog w _ _ _ _ _ _ _).frame _ _ _ st fun b _ o e => Heap.get?_push_of_some _ e
  · refine fin v h' tk (fun z => f1 (by rw [sz]; exact z)) (fun z => ?_) (old_kept fun b o nb e => kp b o nb (fun q => ?_) (Heap.get?_push_of_some _ e))
    · have := f2 (by rw [sz]; exact z)
      rw [sz] at this
      exact this
    · rw [q] at e
      exact absurd (Heap.lt_size e) (Nat.lt_irrefl _)
end
end FzL
namespace L2
open PySem PySem.Spec PyProof.Rows Fh
def rMaxDef (K : PySem.W.Frag) : List V → List V → Hp → VK → Prop := fun vs zs H Q => ∃ (a : Addr) (ns : List Int) (d : Int), vs = [V.ref a] ∧ zs = [.int d] ∧ SqL K H a (ns.map V.int) ∧ ∀ m, (ns = [] → m = d) → (ns ≠ [] → m ∈ ns ∧ ∀ y ∈ ns, y ≤ m) → Q (.int m) H
theorem cr_maxDef {X : Cx} (hc : X.calm = true) : CallRK X (.builtin "max") [Str.ofString "default"] (rMaxDef X.K) := by
  intro pins s σ H vs zs us ws Q I r rz h
  obtain ⟨a, ns, d, rfl, rfl, hs, q⟩ := h
  obtain rfl := Vals.ref1 r
  obtain ⟨w1, rfl, t, rfl⟩ := vals1 rz
  obtain ⟨its, rv, hl, hz⟩ := I.list hs
  have hi := rv.ints
  obtain ⟨xs, e⟩ := hi.allInts.items
  have hn : numsOf (intItems xs).toList = ns := by rw [← e]; exact hi.numsOf
  rw [nums_intItems] at hn
  have hl2 := hl.isList
  rw [e] at hl2
  subst hn
  refine FzL.call_max_d (I.ok.hd hc) hl2 fun v h' tk f1 f2 kp => ?_
  by_cases x0 : xs.size = 0
  · obtain rfl := f1 x0
    have e0 : xs.toList.map (·.1) = [] := List.eq_nil_of_length_eq_zero (by rw [List.length_map, Array.length_toList]; exact x0)
    exact ⟨.int d, H, I.kept kp, ⟨t, rfl⟩, q d (fun _ => rfl) fun ne => absurd e0 ne⟩
  · have xp := Nat.pos_of_ne_zero x0
    obtain ⟨t', rfl⟩ := intItems_at (f2 xp)
    obtain ⟨h1, h2⟩ := argBest_gt (numAt xs) (xs.size - 1)
    refine ⟨.int _, H, I.kept kp, ⟨t', rfl⟩, q _ (fun z => ?_) fun _ => ⟨?_, fun y hy => ?_⟩⟩
    · have l0 := congrArg List.length z
      rw [List.length_map, Array.length_toList] at l0
      exact absurd l0 x0
    · rw [numAt_eq]; exact PySem.getD_mem (by rw [List.length_map, Array.length_toList]; omega)
    · obtain ⟨j, hj, rfl⟩ := mem_getD hy
      rw [List.length_map, Array.length_toList] at hj
      rw [← numAt_eq]; exact h2 j (by omega)
end L2
set_option Elab.async false
set_option linter.all false
set_option maxRecDepth 100000
set_option maxHeartbeats 8000000
/-! levels -/
namespace Fp6
open PySem PySem.Spec PyProof.Rows L2 Fh Fs
open PySem.W (Frag)
abbrev sLv : Stmt := top 29
def mxL : List Nat → Nat
  | [] => 0
  | n :: l => max n (mxL l)
theorem mxL_ge : ∀ {l : List Nat} {n : Nat}, n ∈ l → n ≤ mxL l
  | m :: l, n, h => by
    show n ≤ max m (mxL l)
    rcases List.mem_cons.mp h with rfl | h
    · omega
    · have := mxL_ge h; omega
theorem mxL_in : ∀ {l : List Nat}, l ≠ [] → mxL l ∈ l
  | [], h => absurd rfl h
  | [m], _ => by
    show max m 0 ∈ [m]
    rw [Nat.max_eq_left (Nat.zero_le _)]
    exact List.mem_singleton.mpr rfl
  | m :: k :: l, _ => by
    show max m (mxL (k :: l)) ∈ m :: k :: l
    rcases Nat.le_total m (mxL (k :: l)) with h | h
    · rw [Nat.max_eq_right h]
      exact List.mem_cons_of_mem _ (mxL_in (fun z => nomatch z))
    · rw [Nat.max_eq_left h]
      exact List.mem_cons_self
theorem mxL_is {l : List Nat} {m : Int} (h0 : l.map (fun n : Nat => (n : Int)) = [] → m = 0) (h1 : l.map (fun n : Nat => (n : Int)) ≠ [] → m ∈ l.map (fun n : Nat => (n : Int)) ∧ ∀ y ∈ l.map (fun n : Nat => (n : Int)), y ≤ m) : m = (mxL l : Nat) := by
  by_cases e : l = []
  · subst e
    exact h0 rfl
  · have ne : l.map (fun n : Nat => (n : Int)) ≠ [] := fun z => e (List.map_eq_nil_iff.mp z)
    obtain ⟨a, b⟩ := h1 ne
    obtain ⟨n, hn, rfl⟩ := List.mem_map.mp a
    have := mxL_ge hn
    have := b _ (List.mem_map.mpr ⟨_, mxL_in e, rfl⟩)
    omega
/-- how many levels a plan has -/
def lvIn (rec : PyData → Nat) : PyData → Nat
  | .tuple (_ :: ds) => 1 + mxL (ds.map rec)
  | _ => 0
def lvF : Nat → PyData → Nat
  | 0, _ => 0
  | n + 1, d => lvIn (lvF n) d
theorem lv_str (n : Nat) (y : Str) : lvF n (.str y) = 0 := by cases n <;> rfl
section
variable {P : Program} {w : World} {K : Frag} {mg : Str → Option Value} {base : Heap} {aF aM aD CE aE : Addr}
def spLv (K : Frag) (n : Nat) : Sp := fun vs H Q _ => ∃ v d, vs = [v] ∧ Pl K H v d ∧ Sh n d ∧ d.weight ≤ 900000 ∧ ∀ H', Same H H' → Q (.int (lvF n d : Nat)) H'
theorem scLv : FnScope ["plan", "part"] ["plan"] (defScope sLv) := ⟨rfl, rfl, rfl, by decide +kernel, rfl, by decide +kernel, by decide +kernel⟩
theorem step_lv {n kk : Nat} {sp' : Sp} {f : Addr} {fd : FuncData} (F : Fun K "levels" "levels" sLv f fd) (gF : mg "levels" = some (.ref f)) (gm : mg "max" = none) (T : TxtR K mg w aF aM aD CE aE) (TK : TxtK mg)
    (GN : FnOk P w K mg base CX0 kk f fd ["plan"] sp') (hs : ∀ j, n = j + 1 → sp' = spLv K j) : FnOk P w K mg base CX0 (kk + 1) f fd ["plan"] (spLv K n) := by
  have bN : Binds K fd ["plan"] [] := F.binds (ps := ["plan"]) fun _ _ _ _ _ _ us hl => match us, hl with | [_], _ => rfl
  refine F.ok scLv (fun vs H Q E h => ?_) (fun cdv A outer s H vs Q E hr h => ?_)
  · obtain ⟨v, d, rfl, _⟩ := h
    rfl
  · obtain ⟨v, d, rfl, hv, sh, hw, k⟩ := h
    refine' ⟨_, pss_cons ?s1 (pss_one ?s2), ?q⟩
    case s1 =>
      refine' ps_if (pt_not (pt_val ?a)) (pss_one (ps_ret pe_int)) pss_nil
      case a => exact pe_callB call_isi (by rfl) T.isinstance (by decide +kernel) (pa_cons (pv 0) (pa_cons (pe_bltn (v := .ty "tuple") (by rfl) TK.tuple (by decide +kernel) rfl (by decide) (by decide)) pa_nil))
    case s2 =>
      refine' ps_ret (pe_op op_add pe_int (pe_callBK (cr_maxDef rfl) (by rfl) gm (by decide +kernel) (pa_cons ?l pa_nil) (pk_cons pe_int pk_nil)))
      case l =>
        refine' pe_lc (own := [("part", 1)]) (g := gName 1) (tt := tYes) rfl scLv.nd (pi_tup (pe_slice sl_tupA (pv 0) (po_some pe_int) po_none)) (blkOk_by (N := ["plan", "part"]) (sc := defScope sLv) (by decide +kernel)) (fun _ _ _ _ _ => pg_name (i := 1) scLv.nd rfl (Or.inl rfl)) (fun _ _ _ _ _ => pts_nil) ?e
        case e => exact fun _ _ _ _ _ => pe_call GN hr rfl gF F.kp bN .nil pass0 (pa_cons (pv 1) pa_nil)
    case q =>
      have ty := hv.ty
      have kt := kit_tup K d
      have ssz : sizeLine = 16777216 := sizeLine_eq
      refine ⟨_, rfl, _, _, _, _, isTup d, rfl, .ty _, ty, kt, _, rfl, ?_⟩
      cases sh with
      | @nm _ y hy =>
        refine iteT ?_
        have z := k H (Same.refl _)
        rw [lv_str] at z
        exact z
      | @nd n y ds h1 h2 h3 =>
        obtain rfl := hs n rfl
        refine iteF ?_
        cases hv with
        | @tup a vs _ hg r =>
          cases r with
          | @cons x0 d0 xs _ hx r =>
            cases hx
            have lx := r.len
            rw [w_tup, w_cons] at hw
            have wl := w_len ds
            refine ⟨_, rfl, 1, rfl, a, _, rfl, hg, fun z => tail_new xs z.1, fun _ q nq => ?_⟩
            rw [cut_tail]
            have sq : Same H (upd H q (.tup xs)) := Same.new nq
            have gq : (upd H q (.tup xs)) q = some (.tup xs) := upd_same
            generalize upd H q (.tup xs) = H1 at sq gq ⊢
            refine ⟨q, rfl, ⟨_, SqT.of gq⟩, fun D nD => ?_⟩
            refine lc_it (walk_tup (K := K) (a := q) (xs := xs)) (fun i Hh => Hh D = some (.lst (((ds.take i).map (lvF n)).map fun m : Nat => V.int (m : Int))) ∧ Same H1 Hh) ⟨upd_same, Same.new nD⟩ (fun _ Hh _ ⟨_, z⟩ => SqT.of (z _ _ gq)) ?_ ?_
            · rintro i x Ha Hb hi ⟨hD, sa⟩ ⟨rfl, gx⟩
              refine ⟨rfl, ?_⟩
              refine yes_of ?_
              have di : i < ds.length := by omega
              have gd : ds[i]? = some ds[i] := List.getElem?_eq_getElem di
              have dx := (r.get gx gd).same (sq.trans sa)
              have mem : ds[i] ∈ ds := List.getElem_mem di
              have wm := w_mem mem
              refine ⟨_, rfl, x, ds[i], rfl, dx, h3 _ mem, by omega, fun Hc sc => ?_⟩
              refine ⟨_, sc _ _ hD, by rw [List.length_map, List.length_map, List.length_take]; omega, ?_, fun b' u z => ?_⟩
              · rw [List.take_add_one, gd, List.map_append, List.map_append]
                exact upd_same
              · rw [upd_ne (fun e => by rw [e, nD] at z; cases z)]
                exact sc _ _ (sa _ _ z)
            · rintro Ha ⟨hD, sa⟩
              rw [lx, List.take_length] at hD
              refine ⟨D, (ds.map (lvF n)).map fun m : Nat => (m : Int), 0, rfl, rfl, SqL.of (by rw [List.map_map]; exact hD), fun m m0 m1 => ?_⟩
              refine ⟨_, _, rfl, rfl, ?_⟩
              have e := mxL_is m0 m1
              rw [e]
              have z := k Ha (sq.trans sa)
              have e2 : ((lvF (n + 1) (.tuple (.str y :: ds)) : Nat) : Int) = 1 + ((mxL (ds.map (lvF n)) : Nat) : Int) := by
                show ((1 + mxL (ds.map (lvF n)) : Nat) : Int) = _
                omega
              rw [e2] at z
              exact z
theorem ok_lv {f : Addr} {fd : FuncData} (F : Fun K "levels" "levels" sLv f fd) (gF : mg "levels" = some (.ref f)) (gm : mg "max" = none) (T : TxtR K mg w aF aM aD CE aE) (TK : TxtK mg) : ∀ n, FnOk P w K mg base CX0 (n + 2) f fd ["plan"] (spLv K n)
  | 0 => step_lv (n := 0) (kk := 1) (sp' := fun _ _ _ _ => False) F gF gm T TK (F.ok scLv (fun _ _ _ _ h => h.elim) (fun _ _ _ _ _ _ _ _ _ h => h.elim)) (fun j e => nomatch e)
  | n + 1 => step_lv (n := n + 1) (kk := n + 2) (sp' := spLv K n) F gF gm T TK (ok_lv F gF gm T TK n) (fun j e => by cases e; rfl)
end
end Fp6
set_option Elab.async false
set_option linter.all false
set_option maxRecDepth 100000
set_option maxHeartbeats 8000000
/-! kinds: are_roles, _are_kinds, checked_kinds (all right) -/
namespace Fp6
open PySem PySem.Spec PyProof.Rows L2 Fh Fs
open PySem.W (Frag)
abbrev sRol : Stmt := top 42
abbrev sAks : Stmt := top 43
abbrev sCks : Stmt := top 44
/-- a dict of texts, as pairs -/
def tD (m : List (Str × V)) : List (Key × V) := m.map fun q => (.inr q.1, q.2)
theorem tD_len (m : List (Str × V)) : (tD m).length = m.length := List.length_map _
theorem tD_keys (m : List (Str × V)) : ((tD m).map fun kv => kV kv.1) = (m.map (·.1)).map V.str := by
  unfold tD
  rw [List.map_map, List.map_map]
  rfl
theorem tD_get {m : List (Str × V)} {i : Nat} {kx vx : V} (hk : (tD m)[i]?.map (fun kv => kV kv.1) = some kx) (hv : (tD m)[i]?.map Prod.snd = some vx) : ∃ q, m[i]? = some q ∧ kx = .str q.1 ∧ vx = q.2 := by
  unfold tD at hk hv
  rw [List.getElem?_map] at hk hv
  cases e : m[i]? with
  | none => rw [e] at hk; cases hk
  | some q => rw [e] at hk hv; exact ⟨q, rfl, (Option.some.inj hk).symm, (Option.some.inj hv).symm⟩
theorem tD_val (m : List (Str × V)) (y : Str) : valV (tD m) (.inr y) = m.lookup y := by
  induction m with
  | nil => rfl
  | cons q m ih =>
    obtain ⟨x, n⟩ := q
    by_cases e : y = x
    · subst e
      show ((List.find? (fun kv => decide (kv.1 = Sum.inr y)) ((Sum.inr y, n) :: tD m)).map (·.2)) = _
      rw [List.find?_cons_of_pos (by simp), List.lookup_cons_self]
      rfl
    · have ne : ¬ ((Sum.inr x : Key) = Sum.inr y) := fun z => e (Sum.inr.inj z).symm
      show ((List.find? (fun kv => decide (kv.1 = Sum.inr y)) ((Sum.inr x, n) :: tD m)).map (·.2)) = _
      rw [List.find?_cons_of_neg (by simpa using ne)]
      show valV (tD m) (.inr y) = _
      rw [ih, List.lookup_cons, beq_eq_false_iff_ne.mpr e]
theorem tD_snoc (m : List (Str × V)) (y : Str) (v : V) : tD (m ++ [(y, v)]) = tD m ++ [(.inr y, v)] := by
  unfold tD
  rw [List.map_append]
  rfl
theorem tD_new {m : List (Str × V)} {y : Str} {v : V} (h : y ∉ m.map (·.1)) : putK (tD m) (.inr y) v = tD (m ++ [(y, v)]) := by
  rw [tD_snoc]
  induction m with
  | nil => rfl
  | cons q m ih =>
    have ne : q.1 ≠ y := fun e => h (by rw [← e]; exact List.mem_cons_self)
    have nk : ¬ ((Sum.inr q.1 : Key) = Sum.inr y) := fun z => ne (Sum.inr.inj z)
    show putK ((.inr q.1, q.2) :: tD m) (.inr y) v = (.inr q.1, q.2) :: (tD m ++ [(.inr y, v)])
    rw [← ih fun z => h (List.mem_cons_of_mem _ z)]
    have b : (decide ((Sum.inr q.1 : Key) = Sum.inr y)) = false := decide_eq_false nk
    unfold putK
    rw [List.any_cons, List.map_cons, b, Bool.false_or]
    dsimp only
    rw [if_neg nk]
    split <;> rfl
theorem look_in {m : List (Str × V)} {y : Str} (h : y ∈ m.map (·.1)) : ∃ v, m.lookup y = some v ∧ (y, v) ∈ m := by
  induction m with
  | nil => cases h
  | cons q m ih =>
    obtain ⟨x, n⟩ := q
    by_cases e : y = x
    · subst e
      exact ⟨n, List.lookup_cons_self, List.mem_cons_self⟩
    · have h2 : y ∈ m.map (·.1) := by
        rcases List.mem_cons.mp (show y ∈ x :: m.map (·.1) from h) with z | z
        · exact absurd z e
        · exact z
      obtain ⟨k, h3, h4⟩ := ih h2
      exact ⟨k, by rw [List.lookup_cons, beq_eq_false_iff_ne.mpr e]; exact h3, List.mem_cons_of_mem _ h4⟩
theorem at_strs {ys : List Str} {i : Nat} {x : V} (h : (ys.map V.str)[i]? = some x) : ∃ y, ys[i]? = some y ∧ x = .str y ∧ y ∈ ys := at_str h
/-- kinds with lists of roles -/
def RightK (K : Frag) (H : Hp) (m : List (Str × V)) (R : Str → List Str → Prop) : Prop := 1 ≤ m.length ∧ m.length ≤ 3 ∧ (m.map (·.1)).Nodup ∧ ∀ q ∈ m, Word q.1 ∧ ∃ ws, WL K H q.2 ws ∧ OkW ws ∧ ws.length ≤ 4 ∧ R q.1 ws
section
variable {P : Program} {w : World} {K : Frag} {mg : Str → Option Value} {base : Heap} {aF aM aD CE aE aW aR : Addr} {fW fR : FuncData}
def spRol (K : Frag) : Sp := fun vs H Q _ => ∃ v ws, vs = [v] ∧ WL K H v ws ∧ OkW ws ∧ ws.length ≤ 4 ∧ ∀ H', Same H H' → Q (.bl true) H'
theorem scRol : FnScope ["value"] ["value"] (defScope sRol) := ⟨rfl, rfl, rfl, by decide +kernel, rfl, by decide +kernel, by decide +kernel⟩
theorem ok_rol {f : Addr} {fd : FuncData} (F : Fun K "are_roles" "are_roles" sRol f fd) (FR : Fun K "are_words" "are_words" sAre aR fR) (FW : Fun K "is_word" "is_word" sWord aW fW) (gR : mg "are_words" = some (.ref aR)) (gW : mg "is_word" = some (.ref aW)) (TR : TxtR K mg w aF aM aD CE aE) (TK : TxtK mg) (T : TxtB mg) :
    FnOk P w K mg base CX0 3 f fd ["value"] (spRol K) := by
  have GR : FnOk P w K mg base CX0 2 aR fR ["value"] (spAre K) := ok_are FR FW gW TR TK T
  have bR : Binds K fR ["value"] [] := FR.binds (ps := ["value"]) fun _ _ _ _ _ _ us hl => match us, hl with | [_], _ => rfl
  refine F.ok scRol (fun vs H Q E h => ?_) (fun cdv A outer s H vs Q E hr h => ?_)
  · obtain ⟨v, ws, rfl, _⟩ := h
    rfl
  · obtain ⟨v, ws, rfl, wl, ok, l4, k⟩ := h
    obtain ⟨u, gR4⟩ := T.ROLES
    refine ⟨_, pss_one (ps_ret (pe_and (pe_call GR hr rfl gR FR.kp bR .nil pass0 (pa_cons (pv 0) pa_nil)) (pe_one (pe_cmpR op_le (pe_callB call_len_seq (by rfl) TR.len PySem.boot_len (pa_cons (pv 0) pa_nil)) (pe_glob (v := .int 4) (by rfl) gR4 ⟨_, rfl⟩) (nomark _))))), ?_⟩
    refine ⟨_, rfl, v, ws, rfl, wl, ok, fun H1 s1 => ⟨true, rfl, iteT ?_⟩⟩
    obtain ⟨q, rfl, hq⟩ := wl.same s1
    refine ⟨_, rfl, q, _, rfl, hq, _, _, rfl, rfl, ?_⟩
    rw [List.length_map]
    show Q (.bl (decide ((ws.length : Int) ≤ 4))) H1
    rw [decide_eq_true (show (ws.length : Int) ≤ 4 by omega)]
    exact k H1 s1
def spAks (K : Frag) : Sp := fun vs H Q _ => ∃ d m R, vs = [.ref d] ∧ H d = some (.dK (tD m)) ∧ RightK K H m R ∧ ∀ H', Same H H' → Q (.bl true) H'
abbrev NAk : List Str := ["value", "kind", "roles"]
theorem scAks : FnScope NAk ["value"] (defScope sAks) := ⟨rfl, rfl, rfl, by decide +kernel, rfl, by decide +kernel, by decide +kernel⟩
theorem ok_aks {f aO : Addr} {fd fO : FuncData} (F : Fun K "_are_kinds" "_are_kinds" sAks f fd) (FO : Fun K "are_roles" "are_roles" sRol aO fO) (gO : mg "are_roles" = some (.ref aO)) (FR : Fun K "are_words" "are_words" sAre aR fR) (FW : Fun K "is_word" "is_word" sWord aW fW) (gR : mg "are_words" = some (.ref aR)) (gW : mg "is_word" = some (.ref aW)) (TR : TxtR K mg w aF aM aD CE aE) (TK : TxtK mg) (T : TxtB mg) :
    FnOk P w K mg base CX0 4 f fd ["value"] (spAks K) := by
  have GO : FnOk P w K mg base CX0 3 aO fO ["value"] (spRol K) := ok_rol FO FR FW gR gW TR TK T
  have bO : Binds K fO ["value"] [] := FO.binds (ps := ["value"]) fun _ _ _ _ _ _ us hl => match us, hl with | [_], _ => rfl
  have GW : FnOk P w K mg base CX0 1 aW fW ["value"] spGW := ok_gw FW TR TK
  have bW : Binds K fW ["value"] [] := FW.binds (ps := ["value"]) fun _ _ _ _ _ _ us hl => match us, hl with | [_], _ => rfl
  refine F.ok scAks (fun vs H Q E h => ?_) (fun cdv A outer s H vs Q E hr h => ?_)
  · obtain ⟨d, m, R, rfl, _⟩ := h
    rfl
  · obtain ⟨d, m, R, rfl, hm, ⟨l1, l3, nd, good⟩, k⟩ := h
    obtain ⟨u, gK3⟩ := T.KINDS
    have hr1 : Room 1 _ := hr.mono (by decide)
    refine' ⟨_, pss_cons ?s1 (pss_one ?s2), ?q⟩
    case s1 =>
      refine' ps_if (PW.pt (pw_or (pt_not (pt_val ?a)) (pw_or1 (pt_not (pt_chain op_le op_le pe_int ?b (pe_glob (v := .int 3) (by rfl) gK3 ⟨_, rfl⟩)))))) (pss_one (ps_ret pe_bl)) pss_nil
      case a => exact pe_callB call_isi (by rfl) TR.isinstance (by decide +kernel) (pa_cons (pv 0) (pa_cons (pe_bltn (v := .ty "dict") (by rfl) T.dict (by decide +kernel) rfl (by decide) (by decide)) pa_nil))
      case b => exact pe_callB call_lenD (by rfl) TR.len PySem.boot_len (pa_cons (pv 0) pa_nil)
    case s2 =>
      refine' ps_ret (pe_callB (cr_all rfl) (by rfl) TK.all (by decide +kernel) (pa_cons (pe_lock (pe_lc (own := [("kind", 1), ("roles", 2)]) (g := gTup K 2 (gCons (gName 1) (gCons (gName 2) gNil))) (tt := tYes) rfl scAks.nd (pi_items (pv 0)) (blkOk_by (N := NAk) (sc := defScope sAks) (by decide +kernel)) (fun _ _ _ _ _ => pg_tup rfl (pgs_cons (pg_name (i := 1) scAks.nd rfl (Or.inl rfl)) (pgs_cons (pg_name (i := 2) scAks.nd rfl (Or.inl rfl)) pgs_nil))) (fun _ _ _ _ _ => pts_nil) ?e)) pa_nil))
      case e => exact fun _ _ _ _ _ => pe_and (pe_call GW hr1 rfl gW FW.kp bW .nil pass0 (pa_cons (pv 1) pa_nil)) (pe_one (pe_call GO hr rfl gO FO.kp bO .nil pass0 (pa_cons (pv 2) pa_nil)))
    case q =>
      refine ⟨_, rfl, _, _, _, _, true, rfl, .ty _, .base (.dK hm), (by rfl), true, rfl, iteF ?_⟩
      refine ⟨_, rfl, d, _, rfl, hm, _, _, rfl, rfl, true, congrArg V.bl (decide_eq_true (by rw [tD_len]; omega)), iteT ?_⟩
      refine ⟨_, _, rfl, rfl, true, congrArg V.bl (decide_eq_true (by rw [tD_len]; omega)), iteF ?_⟩
      refine ⟨d, .dK (tD m), hm, trivial, fun od => ?_⟩
      have fz : (upd H d (.frz od (.dK (tD m)))) d = some (.frz od (.dK (tD m))) := upd_same
      have off : ∀ b o, b ≠ d → H b = some o → (upd H d (.frz od (.dK (tD m)))) b = some o := fun b o nb z => by rw [upd_ne nb]; exact z
      refine ⟨_, rfl, d, od, tD m, rfl, fz, fun D hD => ?_⟩
      have hDd : D ≠ d := fun z => by rw [z, fz] at hD; cases hD
      refine lc_it walk_items (fun i Hi => Same (upd H d (.frz od (.dK (tD m)))) Hi ∧ Hi D = some (.lst (List.replicate i (V.bl true)))) ⟨Same.new hD, upd_same⟩ (fun _ _ _ z => z.1 _ _ fz) ?_ ?_
      · rintro i x Hi Hj hi ⟨s2, e2⟩ ⟨T', kx, vx, rfl, nT, rfl, hk, hv⟩
        obtain ⟨q, gq, rfl, rfl⟩ := tD_get hk hv
        obtain ⟨wq, ws, wl, okw, w4, _⟩ := good q (List.mem_of_getElem? gq)
        have wl2 : WL K (upd H d (.frz od (.dK (tD m)))) q.2 ws := by
          obtain ⟨r, ev, h⟩ := wl
          have ne : ∀ {u : HO}, H r = some u → (∀ kvs, u ≠ .dK kvs) → r ≠ d := fun z n y => by
            rw [y, hm] at z
            exact n _ (Option.some.inj z).symm
          refine ⟨r, ev, ?_⟩
          rcases h with h | h
          · rcases h with (h | ⟨o, h⟩) | h
            · exact .inl (.inl (.inl (off _ _ (ne h fun _ z => by cases z) h)))
            · exact .inl (.inl (.inr ⟨o, off _ _ (ne h fun _ z => by cases z) h⟩))
            · exact .inl (.inr h)
          · rcases h with (h | ⟨o, h⟩) | h
            · exact .inr (.inl (.inl (off _ _ (ne h fun _ z => by cases z) h)))
            · exact .inr (.inl (.inr ⟨o, off _ _ (ne h fun _ z => by cases z) h⟩))
            · exact .inr (.inr h)
        have s3 : Same Hi (upd Hi T' (.tup [.str q.1, q.2])) := Same.new nT
        have e3 := s3 _ _ e2
        have s23 := s2.trans s3
        have tt : (upd Hi T' (.tup [.str q.1, q.2])) T' = some (.tup [.str q.1, q.2]) := upd_same
        generalize upd Hi T' (.tup [.str q.1, q.2]) = Hj at s23 e3 tt ⊢
        refine ⟨T', _, rfl, SqT.of tt, rfl, _, _, rfl, _, _, rfl, rfl, ?_⟩
        refine ⟨rfl, ?_⟩
        refine yes_of ?_
        refine ⟨_, rfl, q.1, rfl, wq, fun Ha sa => ⟨true, rfl, iteT ?_⟩⟩
        refine ⟨_, rfl, q.2, ws, rfl, wl2.same (s23.trans sa), okw, w4, fun Hb sb => ⟨_, sb _ _ (sa _ _ e3), ?_, ?_⟩⟩
        · rw [List.length_replicate, sizeLine_eq]
          rw [tD_len] at hi
          omega
        · rw [← List.replicate_succ']
          exact ⟨fun b o z => by rw [upd_ne (ne_of_none z hD)]; exact sb _ _ (sa _ _ (s23 b o z)), upd_same⟩
      · rintro Hi ⟨s2, e2⟩
        refine ⟨s2 _ _ fz, D, List.replicate (tD m).length true, rfl, SqL.of (by rw [upd_ne hDd, List.map_replicate]; exact e2), ?_⟩
        have : (List.replicate (tD m).length true).all id = true := by simp
        rw [this]
        refine k _ fun b o z => ?_
        by_cases e : b = d
        · rw [e] at z ⊢
          rw [upd_same, ← z, hm]
        · rw [upd_ne e]
          exact s2 b o (off b o e z)
end
end Fp6
set_option Elab.async false
set_option linter.all false
set_option maxRecDepth 100000
set_option maxHeartbeats 8000000
/-! checked_kinds (all right) -/
namespace Fp6
open PySem PySem.Spec PyProof.Rows L2 Fh Fs
open PySem.W (Frag)
/-- kinds with tuples of roles -/
inductive KT (H : Hp) : List (Str × V) → List (Str × List Str) → Prop where
  | nil : KT H [] []
  | cons {k : Str} {t : Addr} {ws : List Str} {m : List (Str × V)} {ks : List (Str × List Str)} : H t = some (.tup (ws.map V.str)) → KT H m ks → KT H ((k, .ref t) :: m) ((k, ws) :: ks)
theorem KT.same {H H' : Hp} (s : Same H H') {m : List (Str × V)} {ks : List (Str × List Str)} (h : KT H m ks) : KT H' m ks := by
  induction h with
  | nil => exact .nil
  | cons e _ ih => exact .cons (s _ _ e) ih
/-- what is a tuple stays one -/
theorem KT.keep {H H' : Hp} (s : ∀ t xs, H t = some (.tup xs) → H' t = some (.tup xs)) {m : List (Str × V)} {ks : List (Str × List Str)} (h : KT H m ks) : KT H' m ks := by
  induction h with
  | nil => exact .nil
  | cons e _ ih => exact .cons (s _ _ e) ih
theorem KT.snoc {H : Hp} {m : List (Str × V)} {ks : List (Str × List Str)} {k : Str} {t : Addr} {ws : List Str} (h : KT H m ks) (e : H t = some (.tup (ws.map V.str))) : KT H (m ++ [(k, .ref t)]) (ks ++ [(k, ws)]) := by
  induction h with
  | nil => exact .cons e .nil
  | cons e' _ ih => exact .cons e' ih
theorem KT.keys {H : Hp} {m : List (Str × V)} {ks : List (Str × List Str)} (h : KT H m ks) : m.map (·.1) = ks.map (·.1) := by
  induction h with
  | nil => rfl
  | cons _ _ ih => exact congrArg (List.cons _) ih
theorem KT.len {H : Hp} {m : List (Str × V)} {ks : List (Str × List Str)} (h : KT H m ks) : m.length = ks.length := by
  have := congrArg List.length h.keys
  rw [List.length_map, List.length_map] at this
  exact this
/-- the kinds made out of m -/
def MadeK (K : Frag) (H : Hp) (m : List (Str × V)) (R : Str → List Str → Prop) (ks : List (Str × List Str)) : Prop := (ks.map (·.1)).Perm (m.map (·.1)) ∧ sortedS (ks.map (·.1)) = true ∧ ∀ q ∈ ks, Word q.1 ∧ OkW q.2 ∧ sortedS q.2 = true ∧ q.2.length ≤ 4 ∧ ∃ v ws, (q.1, v) ∈ m ∧ WL K H v ws ∧ R q.1 ws ∧ q.2.Perm ws
def rTo (K : Frag) : List V → Hp → VK → Prop := fun xs H Q => ∃ p ys, xs = [.ref p] ∧ ((SqL K H p ys ∧ ∀ l : Addr, H l = none → Q (.ref l) (upd H l (.tup ys))) ∨ SqT K H p ys ∧ Q (.ref p) H)
def rSo (K : Frag) : List V → Hp → VK → Prop := fun xs H Q => ∃ a ys, xs = [V.ref a] ∧ (SqL K H a (List.map V.str ys) ∨ SqT K H a (List.map V.str ys)) ∧ ys.length < 64 ∧ ∀ (zs : List Str) (p : Addr), zs.Perm ys → sortedS zs = true → H p = none → Q (V.ref p) (upd H p (HO.lst (List.map V.str zs)))
section
variable {P : Program} {w : World} {K : Frag} {mg : Str → Option Value} {base : Heap} {aF aM aD CE aE aW aR aO aA : Addr} {fW fR fO fA : FuncData}
def spCks (K : Frag) : Sp := fun vs H Q _ => ∃ d m R, vs = [.ref d] ∧ H d = some (.dK (tD m)) ∧ RightK K H m R ∧ ∀ d' m' ks H', Same H H' → H d' = none → H' d' = some (.dK (tD m')) → KT H' m' ks → MadeK K H m R ks → Q (.ref d') H'
theorem scCks : FnScope ["kinds", "kind"] ["kinds"] (defScope sCks) := ⟨rfl, rfl, rfl, by decide +kernel, rfl, by decide +kernel, by decide +kernel⟩
theorem ok_cks {f : Addr} {fd : FuncData} (F : Fun K "checked_kinds" "checked_kinds" sCks f fd) (FA : Fun K "_are_kinds" "_are_kinds" sAks aA fA) (gA : mg "_are_kinds" = some (.ref aA)) (FO : Fun K "are_roles" "are_roles" sRol aO fO) (gO : mg "are_roles" = some (.ref aO)) (FR : Fun K "are_words" "are_words" sAre aR fR) (FW : Fun K "is_word" "is_word" sWord aW fW) (gR : mg "are_words" = some (.ref aR)) (gW : mg "is_word" = some (.ref aW)) (TR : TxtR K mg w aF aM aD CE aE) (TK : TxtK mg) (T : TxtB mg) :
    FnOk P w K mg base CX0 5 f fd ["kinds"] (spCks K) := by
  have GA : FnOk P w K mg base CX0 4 aA fA ["value"] (spAks K) := ok_aks FA FO gO FR FW gR gW TR TK T
  have bA : Binds K fA ["value"] [] := FA.binds (ps := ["value"]) fun _ _ _ _ _ _ us hl => match us, hl with | [_], _ => rfl
  refine F.ok scCks (fun vs H Q E h => ?_) (fun cdv A outer s H vs Q E hr h => ?_)
  · obtain ⟨d, m, R, rfl, _⟩ := h
    rfl
  · obtain ⟨d, m, R, rfl, hm, rk, k⟩ := h
    have hu := hu_of (hr.mono (show 1 ≤ 4 by decide))
    refine' ⟨_, pss_cons ?s1 (pss_one ?s2), ?q⟩
    case s1 => exact ps_if (pt_not (pt_val (pe_call GA hr rfl gA FA.kp bA .nil pass0 (pa_cons (pv 0) pa_nil)))) pss_no pss_nil
    case s2 =>
      refine' ps_ret (pe_dc (own := [("kind", 1)]) (g := gName 1) (tt := tYes) rfl scCks.nd (pi_list ?i) (blkOk_by (N := ["kinds", "kind"]) (sc := defScope sCks) (by decide +kernel)) (fun _ _ _ _ _ => pg_name (i := 1) scCks.nd rfl (Or.inl rfl)) (fun _ _ _ _ _ => pts_nil) (fun _ _ _ _ _ => pv 1) ?e)
      case i => exact pe_callB cr_sortedS (by rfl) T.sorted (by decide +kernel) (pa_cons (pe_callTy (call_list_dK rfl) (by rfl) T.list (by decide +kernel) (pa_cons (pv 0) pa_nil)) pa_nil)
      case e => exact fun _ _ _ _ _ => pe_callTy (r := rTo K) call_tuple_of (by rfl) TK.tuple (by decide +kernel) (pa_cons (pe_callB (r := rSo K) cr_sortedSeq (by rfl) T.sorted (by decide +kernel) (pa_cons (pe_dget (by have := hu; exact this) (pv 0) (pv 1) (fun _ _ => rfl)) pa_nil)) pa_nil)
    case q =>
      obtain ⟨l1, l3, nd, good⟩ := id rk
      refine ⟨_, rfl, d, m, R, rfl, hm, rk, fun H0 s0 => ⟨true, rfl, iteF ?_⟩⟩
      have hm0 := s0 _ _ hm
      refine ⟨_, rfl, d, tD m, rfl, hm0, fun l nl => ⟨l, m.map (·.1), rfl, SqL.of (by rw [upd_same, tD_keys]), by rw [List.length_map]; omega, fun ys p pm so np => ?_⟩⟩
      have np0 : H0 p = none := by
        by_cases e : p = l
        · rw [e]; exact nl
        · rw [upd_ne e] at np; exact np
      have s1 : Same H0 (upd (upd H0 l (.lst ((tD m).map fun kv => kV kv.1))) p (.lst (ys.map V.str))) := (Same.new nl).trans (Same.new np)
      have e1 : (upd (upd H0 l (.lst ((tD m).map fun kv => kV kv.1))) p (.lst (ys.map V.str))) p = some (.lst (ys.map V.str)) := upd_same
      generalize upd (upd H0 l (.lst ((tD m).map fun kv => kV kv.1))) p (.lst (ys.map V.str)) = H1 at s1 e1 ⊢
      have ndy : ys.Nodup := pm.nodup_iff.mpr nd
      have s01 := s0.trans s1
      refine ⟨p, rfl, ⟨_, SqL.of e1⟩, fun D hD => ?_⟩
      refine dc_it (walk_list (K := K) (a := p) (xs := ys.map V.str)) (fun i Ha => ∃ m' ks, Same H1 Ha ∧ Ha D = some (.dK (tD m')) ∧ KT Ha m' ks ∧ ks.map (·.1) = ys.take i ∧ ∀ q ∈ ks, Word q.1 ∧ OkW q.2 ∧ sortedS q.2 = true ∧ q.2.length ≤ 4 ∧ ∃ v ws, (q.1, v) ∈ m ∧ WL K H v ws ∧ R q.1 ws ∧ q.2.Perm ws) ⟨[], [], Same.new hD, upd_same, .nil, rfl, fun _ z => nomatch z⟩ (fun _ Ha _ ⟨_, _, z, _⟩ => SqL.of (z _ _ e1)) ?_ ?_
      · rintro i x Ha Hb hi ⟨m', ks, sa, dD, kt, ek, al⟩ ⟨rfl, hx⟩
        obtain ⟨y, gy, rfl, my⟩ := at_strs hx
        obtain ⟨v, lv, mv⟩ := look_in (pm.mem_iff.mp my)
        obtain ⟨wy, ws, wl, okw, w4, rw4⟩ := good _ mv
        refine ⟨rfl, ?_⟩
        refine yes_of ?_
        have gt : DGet Hb d (.str y) (some v) := .inl ⟨tD m, .inr y, .inl (sa _ _ (s1 _ _ hm0)), rfl, by rw [tD_val, lv]⟩
        obtain ⟨q, rfl, hq⟩ := wl.same (s01.trans sa)
        have few := okw.2.2
        refine ⟨_, rfl, _, rfl, _, rfl, d, .ref q, rfl, gt, q, ws, rfl, hq, by omega, fun zs l2 pz sz n2 => ⟨l2, _, rfl, .inl ⟨SqL.of upd_same, fun t nt => ?_⟩⟩⟩
        have s2 : Same Hb (upd (upd Hb l2 (.lst (zs.map V.str))) t (.tup (zs.map V.str))) := (Same.new n2).trans (Same.new nt)
        have et : (upd (upd Hb l2 (.lst (zs.map V.str))) t (.tup (zs.map V.str))) t = some (.tup (zs.map V.str)) := upd_same
        generalize upd (upd Hb l2 (.lst (zs.map V.str))) t (.tup (zs.map V.str)) = Hc at s2 et ⊢
        have hi2 : i < ys.length := by
          have := hi
          rw [List.length_map] at this
          exact this
        have lk := kt.len
        have lks : ks.length = i := by
          have := congrArg List.length ek
          rw [List.length_map, List.length_take] at this
          rw [List.length_map] at hi
          omega
        have ly := pm.length_eq
        rw [List.length_map] at ly
        have nw : y ∉ m'.map (·.1) := by
          rw [kt.keys, ek]
          exact not_before ndy gy
        refine ⟨tD m', .inr y, rfl, s2 _ _ dD, by rw [tD_len, sizeLine_eq]; omega, m' ++ [(y, .ref t)], ks ++ [(y, zs)], fun b o z => ?_, by rw [upd_same, tD_new nw], ?_, ?_, fun q' hq' => ?_⟩
        · rw [upd_ne (ne_of_none z hD)]
          exact s2 _ _ (sa _ _ z)
        · refine ((kt.same s2).snoc et).keep fun t' xs z => ?_
          rw [upd_ne (fun e => by rw [e, s2 _ _ dD] at z; cases z)]
          exact z
        · rw [List.map_append, ek, take_snoc gy]
          rfl
        · rcases List.mem_append.mp hq' with z | z
          · exact al q' z
          · rw [List.mem_singleton.mp z]
            exact ⟨wy, okw.perm pz, sz, by rw [pz.length_eq]; exact w4, .ref q, ws, mv, wl, rw4, pz⟩
      · rintro Ha ⟨m', ks, sa, dD, kt, ek, al⟩
        rw [List.length_map, List.take_length] at ek
        refine k D m' ks Ha (s01.trans sa) ?_ dD kt ⟨by rw [ek]; exact pm, by rw [ek]; exact so, al⟩
        exact (s01).free hD
end
end Fp6
set_option Elab.async false
set_option linter.all false
set_option maxRecDepth 100000
set_option maxHeartbeats 8000000
/-! are_tasks, checked_tasks (all right) -/
namespace Fp6
open PySem PySem.Spec PyProof.Rows L2 Fh Fs
open PySem.W (Frag)
abbrev sAts : Stmt := top 45
abbrev sCts : Stmt := top 46
/-- what a task consists of -/
def Bits (o : HO) : Prop := (∃ C dx fs, o = .ins C dx fs) ∨ ∃ xs, o = .tup xs
/-- what tasks consist of stays -/
def KeepB (H H' : Hp) : Prop := ∀ b o, Bits o → H b = some o → H' b = some o
theorem KeepB.of {H H' : Hp} (s : Same H H') : KeepB H H' := fun b o _ h => s b o h
theorem KeepB.trans {A B C : Hp} (a : KeepB A B) (b : KeepB B C) : KeepB A C := fun x o n h => b x o n (a x o n h)
theorem KeepB.upd {H : Hp} {d : Addr} {u v : HO} (h : H d = some u) (n : ¬ Bits u) : KeepB H (L2.upd H d v) := fun b o nb z => by
  rw [upd_ne (fun e => by rw [e, h] at z; cases z; exact n nb)]
  exact z
theorem bits_dK {kvs : List (Key × V)} : ¬ Bits (.dK kvs) := fun h => by rcases h with ⟨_, _, _, z⟩ | ⟨_, z⟩ <;> cases z
theorem bits_lst {xs : List V} : ¬ Bits (.lst xs) := fun h => by rcases h with ⟨_, _, _, z⟩ | ⟨_, z⟩ <;> cases z
theorem TaskAt.keep {CT : Addr} {H H' : Hp} {a : Addr} {T : TSk} (k : KeepB H H') (h : TaskAt CT H a T) : TaskAt CT H' a T := by
  obtain ⟨dx, t1, t2, t3, t4, h0, h1, h2, h3, h4⟩ := h
  exact ⟨dx, t1, t2, t3, t4, k _ _ (.inl ⟨_, _, _, rfl⟩) h0, k _ _ (.inr ⟨_, rfl⟩) h1, k _ _ (.inr ⟨_, rfl⟩) h2, k _ _ (.inr ⟨_, rfl⟩) h3, k _ _ (.inr ⟨_, rfl⟩) h4⟩
/-- tasks by names -/
inductive TsAt (CT : Addr) (H : Hp) : List (Str × V) → List (Str × TSk) → Prop where
  | nil : TsAt CT H [] []
  | cons {k : Str} {a : Addr} {T : TSk} {m : List (Str × V)} {ts : List (Str × TSk)} : TaskAt CT H a T → TsAt CT H m ts → TsAt CT H ((k, .ref a) :: m) ((k, T) :: ts)
theorem TsAt.keep {CT : Addr} {H H' : Hp} (k : KeepB H H') {m : List (Str × V)} {ts : List (Str × TSk)} (h : TsAt CT H m ts) : TsAt CT H' m ts := by
  induction h with
  | nil => exact .nil
  | cons e _ ih => exact .cons (e.keep k) ih
theorem TsAt.keys {CT : Addr} {H : Hp} {m : List (Str × V)} {ts : List (Str × TSk)} (h : TsAt CT H m ts) : m.map (·.1) = ts.map (·.1) := by
  induction h with
  | nil => rfl
  | cons _ _ ih => exact congrArg (List.cons _) ih
theorem TsAt.len {CT : Addr} {H : Hp} {m : List (Str × V)} {ts : List (Str × TSk)} (h : TsAt CT H m ts) : m.length = ts.length := by
  have := congrArg List.length h.keys
  rw [List.length_map, List.length_map] at this
  exact this
theorem TsAt.get {CT : Addr} {H : Hp} {m : List (Str × V)} {ts : List (Str × TSk)} (h : TsAt CT H m ts) : ∀ {q : Str × V}, q ∈ m → ∃ a T, q.2 = .ref a ∧ TaskAt CT H a T ∧ (q.1, T) ∈ ts := by
  induction h with
  | nil => intro q z; cases z
  | cons e _ ih =>
    intro q z
    rcases List.mem_cons.mp z with rfl | z
    · exact ⟨_, _, rfl, e, List.mem_cons_self⟩
    · obtain ⟨a, T, h1, h2, h3⟩ := ih z
      exact ⟨a, T, h1, h2, List.mem_cons_of_mem _ h3⟩
theorem TsAt.snoc {CT : Addr} {H : Hp} {m : List (Str × V)} {ts : List (Str × TSk)} {k : Str} {a : Addr} {T : TSk} (h : TsAt CT H m ts) (e : TaskAt CT H a T) : TsAt CT H (m ++ [(k, .ref a)]) (ts ++ [(k, T)]) := by
  induction h with
  | nil => exact .cons e .nil
  | cons e' _ ih => exact .cons e' ih
def RightT (ts : List (Str × TSk)) : Prop := ts.length ≤ 8 ∧ (ts.map (·.1)).Nodup ∧ ∀ q ∈ ts, Word q.1 ∧ OkT q.2
/-- the tasks by ascending names -/
def MadeT (ts us : List (Str × TSk)) : Prop := (us.map (·.1)).Perm (ts.map (·.1)) ∧ sortedS (us.map (·.1)) = true ∧ ∀ q ∈ us, q ∈ ts
section
variable {P : Program} {w : World} {K : Frag} {mg : Str → Option Value} {base : Heap} {aF aM aD CE aE CT aW aR aH aA aI : Addr} {fW fR fH fA fI : FuncData}
def spAts (K : Frag) (CT : Addr) : Sp := fun vs H Q _ => ∃ d m ts, vs = [.ref d] ∧ H d = some (.dK (tD m)) ∧ TsAt CT H m ts ∧ RightT ts ∧ ∀ H', Same H H' → Q (.bl true) H'
abbrev NAt : List Str := ["value", "name", "task"]
theorem scAts : FnScope NAt ["value"] (defScope sAts) := ⟨rfl, rfl, rfl, by decide +kernel, rfl, by decide +kernel, by decide +kernel⟩
theorem ok_ats {f : Addr} {fd : FuncData} (F : Fun K "are_tasks" "are_tasks" sAts f fd) (G : Pkg K mg w aF aM aD CE aE CT aW aR aH aA aI fW fR fH fA fI) : FnOk P w K mg base CX0 2 f fd ["value"] (spAts K CT) := by
  have GW : FnOk P w K mg base CX0 1 aW fW ["value"] spGW := ok_gw G.FW G.TR G.TK
  have bW : Binds K fW ["value"] [] := G.FW.binds (ps := ["value"]) fun _ _ _ _ _ _ us hl => match us, hl with | [_], _ => rfl
  refine F.ok scAts (fun vs H Q E h => ?_) (fun cdv A outer s H vs Q E hr h => ?_)
  · obtain ⟨d, m, ts, rfl, _⟩ := h
    rfl
  · obtain ⟨d, m, ts, rfl, hm, ht, ⟨l8, nd, good⟩, k⟩ := h
    refine' ⟨_, pss_cons ?s1 (pss_one ?s2), ?q⟩
    case s1 => exact ps_if (pt_not (pt_val (pe_callB call_isi (by rfl) G.TR.isinstance (by decide +kernel) (pa_cons (pv 0) (pa_cons (pe_bltn (v := .ty "dict") (by rfl) G.T.dict (by decide +kernel) rfl (by decide) (by decide)) pa_nil))))) (pss_one (ps_ret pe_bl)) pss_nil
    case s2 =>
      refine' ps_ret (pe_callB (cr_all rfl) (by rfl) G.TK.all (by decide +kernel) (pa_cons (pe_lock (pe_lc (own := [("name", 1), ("task", 2)]) (g := gTup K 2 (gCons (gName 1) (gCons (gName 2) gNil))) (tt := tYes) rfl scAts.nd (pi_items (pv 0)) (blkOk_by (N := NAt) (sc := defScope sAts) (by decide +kernel)) (fun _ _ _ _ _ => pg_tup rfl (pgs_cons (pg_name (i := 1) scAts.nd rfl (Or.inl rfl)) (pgs_cons (pg_name (i := 2) scAts.nd rfl (Or.inl rfl)) pgs_nil))) (fun _ _ _ _ _ => pts_nil) ?e)) pa_nil))
      case e => exact fun _ _ _ _ _ => pe_and (pe_call GW hr rfl G.gW G.FW.kp bW .nil pass0 (pa_cons (pv 1) pa_nil)) (pe_one (pe_callB (r := rIsi K) call_isi (by rfl) G.TR.isinstance (show bootBuiltins "isinstance" = some (.builtin "isinstance") by decide +kernel) (pa_cons (pv 2) (pa_cons (pe_glob (v := .ref CT) (by rfl) G.C.gC rfl) pa_nil))))
    case q =>
      refine ⟨_, rfl, _, _, _, _, true, rfl, .ty _, .base (.dK hm), (by rfl), true, rfl, iteF ?_⟩
      refine ⟨d, .dK (tD m), hm, trivial, fun od => ?_⟩
      have fz : (upd H d (.frz od (.dK (tD m)))) d = some (.frz od (.dK (tD m))) := upd_same
      have kb : KeepB H (upd H d (.frz od (.dK (tD m)))) := KeepB.upd hm bits_dK
      have lm := ht.len
      refine ⟨_, rfl, d, od, tD m, rfl, fz, fun D hD => ?_⟩
      have hDd : D ≠ d := fun z => by rw [z, fz] at hD; cases hD
      refine lc_it walk_items (fun i Hi => Same (upd H d (.frz od (.dK (tD m)))) Hi ∧ Hi D = some (.lst (List.replicate i (V.bl true)))) ⟨Same.new hD, upd_same⟩ (fun _ _ _ z => z.1 _ _ fz) ?_ ?_
      · rintro i x Hi Hj hi ⟨s2, e2⟩ ⟨T', kx, vx, rfl, nT, rfl, hk, hv⟩
        obtain ⟨q, gq, rfl, rfl⟩ := tD_get hk hv
        obtain ⟨a, T, ev, ta, mt⟩ := ht.get (List.mem_of_getElem? gq)
        obtain ⟨wq, _⟩ := good _ mt
        have s3 : Same Hi (upd Hi T' (.tup [.str q.1, q.2])) := Same.new nT
        have e3 := s3 _ _ e2
        have s23 := s2.trans s3
        have tt : (upd Hi T' (.tup [.str q.1, q.2])) T' = some (.tup [.str q.1, q.2]) := upd_same
        generalize upd Hi T' (.tup [.str q.1, q.2]) = Hj at s23 e3 tt ⊢
        refine ⟨T', _, rfl, SqT.of tt, rfl, _, _, rfl, _, _, rfl, rfl, ?_⟩
        refine ⟨rfl, ?_⟩
        refine yes_of ?_
        refine ⟨_, rfl, q.1, rfl, wq, fun Ha sa => ⟨true, rfl, iteT ?_⟩⟩
        obtain ⟨dx, t1, t2, t3, t4, h0, _⟩ := ta.keep (kb.trans (.of (s23.trans sa)))
        rw [ev]
        refine ⟨_, rfl, _, _, _, _, true, rfl, .own CT, .base (.ins h0 G.C.cl G.C.ha G.C.hn G.C.ht G.C.hm), G.C.me, ?_⟩
        refine ⟨_, sa _ _ e3, ?_, ?_⟩
        · rw [List.length_replicate, sizeLine_eq]
          rw [tD_len] at hi
          omega
        · rw [← List.replicate_succ']
          exact ⟨fun b o z => by rw [upd_ne (ne_of_none z hD)]; exact sa _ _ (s23 b o z), upd_same⟩
      · rintro Hi ⟨s2, e2⟩
        refine ⟨s2 _ _ fz, D, List.replicate (tD m).length true, rfl, SqL.of (by rw [upd_ne hDd, List.map_replicate]; exact e2), ?_⟩
        have : (List.replicate (tD m).length true).all id = true := by simp
        rw [this]
        refine k _ fun b o z => ?_
        by_cases e : b = d
        · rw [e] at z ⊢
          rw [upd_same, ← z, hm]
        · rw [upd_ne e]
          exact s2 b o (by rw [upd_ne e]; exact z)
def spCts (K : Frag) (CT : Addr) : Sp := fun vs H Q _ => ∃ d m ts, vs = [.ref d] ∧ H d = some (.dK (tD m)) ∧ TsAt CT H m ts ∧ RightT ts ∧ ∀ d' m' us H', Same H H' → H d' = none → H' d' = some (.dK (tD m')) → TsAt CT H' m' us → MadeT ts us → (∀ q ∈ m', q ∈ m) → Q (.ref d') H'
theorem scCts : FnScope ["tasks", "name"] ["tasks"] (defScope sCts) := ⟨rfl, rfl, rfl, by decide +kernel, rfl, by decide +kernel, by decide +kernel⟩
theorem ok_cts {f aB : Addr} {fd fB : FuncData} (F : Fun K "checked_tasks" "checked_tasks" sCts f fd) (FB : Fun K "are_tasks" "are_tasks" sAts aB fB) (gB : mg "are_tasks" = some (.ref aB)) (G : Pkg K mg w aF aM aD CE aE CT aW aR aH aA aI fW fR fH fA fI) : FnOk P w K mg base CX0 3 f fd ["tasks"] (spCts K CT) := by
  have GB : FnOk P w K mg base CX0 2 aB fB ["value"] (spAts K CT) := ok_ats FB G
  have bB : Binds K fB ["value"] [] := FB.binds (ps := ["value"]) fun _ _ _ _ _ _ us hl => match us, hl with | [_], _ => rfl
  refine F.ok scCts (fun vs H Q E h => ?_) (fun cdv A outer s H vs Q E hr h => ?_)
  · obtain ⟨d, m, ts, rfl, _⟩ := h
    rfl
  · obtain ⟨d, m, ts, rfl, hm, ht, rt, k⟩ := h
    have hu := hu_of (hr.mono (show 1 ≤ 2 by decide))
    obtain ⟨u, g8⟩ := G.T.TASKS
    refine' ⟨_, pss_cons ?s1 (pss_cons ?s2 (pss_one ?s3)), ?q⟩
    case s1 => exact ps_if (pt_not (pt_val (pe_call GB hr rfl gB FB.kp bB .nil pass0 (pa_cons (pv 0) pa_nil)))) pss_no pss_nil
    case s2 => exact ps_if (pt_cmpR op_gt (pe_callB call_lenD (by rfl) G.TR.len PySem.boot_len (pa_cons (pv 0) pa_nil)) (pe_glob (v := .int 8) (by rfl) g8 ⟨_, rfl⟩) (nomark _)) pss_no pss_nil
    case s3 =>
      refine' ps_ret (pe_dc (own := [("name", 1)]) (g := gName 1) (tt := tYes) rfl scCts.nd (pi_list ?i) (blkOk_by (N := ["tasks", "name"]) (sc := defScope sCts) (by decide +kernel)) (fun _ _ _ _ _ => pg_name (i := 1) scCts.nd rfl (Or.inl rfl)) (fun _ _ _ _ _ => pts_nil) (fun _ _ _ _ _ => pv 1) ?e)
      case i => exact pe_callB cr_sortedS (by rfl) G.T.sorted (by decide +kernel) (pa_cons (pe_callTy (call_list_dK rfl) (by rfl) G.T.list (by decide +kernel) (pa_cons (pv 0) pa_nil)) pa_nil)
      case e => exact fun _ _ _ _ _ => pe_dget (by have := hu; exact this) (pv 0) (pv 1) (fun _ _ => rfl)
    case q =>
      obtain ⟨l8, nd, good⟩ := id rt
      have lm := ht.len
      have km := ht.keys
      refine ⟨_, rfl, d, m, ts, rfl, hm, ht, rt, fun H0 s0 => ⟨true, rfl, iteF ?_⟩⟩
      have hm0 := s0 _ _ hm
      refine ⟨_, rfl, d, tD m, rfl, hm0, _, _, rfl, rfl, false, congrArg V.bl (decide_eq_false (by rw [tD_len]; omega)), iteF ?_⟩
      refine ⟨_, rfl, d, tD m, rfl, hm0, fun l nl => ⟨l, m.map (·.1), rfl, SqL.of (by rw [upd_same, tD_keys]), by rw [List.length_map]; omega, fun ys p pm so np => ?_⟩⟩
      have s1 : Same H0 (upd (upd H0 l (.lst ((tD m).map fun kv => kV kv.1))) p (.lst (ys.map V.str))) := (Same.new nl).trans (Same.new np)
      have e1 : (upd (upd H0 l (.lst ((tD m).map fun kv => kV kv.1))) p (.lst (ys.map V.str))) p = some (.lst (ys.map V.str)) := upd_same
      generalize upd (upd H0 l (.lst ((tD m).map fun kv => kV kv.1))) p (.lst (ys.map V.str)) = H1 at s1 e1 ⊢
      have ndy : ys.Nodup := pm.nodup_iff.mpr (by rw [km]; exact nd)
      have s01 := s0.trans s1
      have ly := pm.length_eq
      rw [List.length_map] at ly
      refine ⟨p, rfl, ⟨_, SqL.of e1⟩, fun D hD => ?_⟩
      refine dc_it (walk_list (K := K) (a := p) (xs := ys.map V.str)) (fun i Ha => ∃ m' us, Same H1 Ha ∧ Ha D = some (.dK (tD m')) ∧ TsAt CT Ha m' us ∧ us.map (·.1) = ys.take i ∧ (∀ q ∈ us, q ∈ ts) ∧ ∀ q ∈ m', q ∈ m) ⟨[], [], Same.new hD, upd_same, .nil, rfl, (fun _ z => nomatch z), fun _ z => nomatch z⟩ (fun _ Ha _ ⟨_, _, z, _⟩ => SqL.of (z _ _ e1)) ?_ ?_
      · rintro i x Ha Hb hi ⟨m', us, sa, dD, kt, ek, al, am⟩ ⟨rfl, hx⟩
        have hi2 : i < ys.length := by
          have := hi
          rw [List.length_map] at this
          exact this
        obtain ⟨y, gy, rfl, my⟩ := at_strs hx
        obtain ⟨v, lv, mv⟩ := look_in (pm.mem_iff.mp my)
        obtain ⟨a, T, ev, ta, mt⟩ := ht.get mv
        have ev : v = .ref a := ev
        subst ev
        refine ⟨rfl, ?_⟩
        refine yes_of ?_
        have gt : DGet Hb d (.str y) (some (.ref a)) := .inl ⟨tD m, .inr y, .inl (sa _ _ (s1 _ _ hm0)), rfl, by rw [tD_val, lv]⟩
        have lk := kt.len
        have lks : us.length = i := by
          have := congrArg List.length ek
          rw [List.length_map, List.length_take] at this
          omega
        have nw : y ∉ m'.map (·.1) := by
          rw [kt.keys, ek]
          exact not_before ndy gy
        refine ⟨_, rfl, _, rfl, _, rfl, d, .ref a, rfl, gt, tD m', .inr y, rfl, dD, by rw [tD_len, sizeLine_eq]; omega, m' ++ [(y, .ref a)], us ++ [(y, T)], fun b o z => ?_, by rw [upd_same, tD_new nw], ?_, ?_, fun q' hq' => ?_, fun q' hq' => ?_⟩
        · rw [upd_ne (ne_of_none z hD)]
          exact sa _ _ z
        · exact (kt.snoc (ta.keep (.of (s01.trans sa)))).keep (KeepB.upd dD bits_dK)
        · rw [List.map_append, ek, take_snoc gy]
          rfl
        · rcases List.mem_append.mp hq' with z | z
          · exact al q' z
          · rw [List.mem_singleton.mp z]
            exact mt
        · rcases List.mem_append.mp hq' with z | z
          · exact am q' z
          · rw [List.mem_singleton.mp z]
            exact mv
      · rintro Ha ⟨m', us, sa, dD, kt, ek, al, am⟩
        rw [List.length_map, List.take_length] at ek
        refine k D m' us Ha (s01.trans sa) (s01.free hD) dD kt ⟨by rw [ek, ← km]; exact pm, by rw [ek]; exact so, al⟩ am
end
end Fp6
set_option Elab.async false
set_option linter.all false
set_option maxRecDepth 100000
set_option maxHeartbeats 8000000
/-! checked_plan (all right) -/
namespace Fp6
open PySem PySem.Spec PyProof.Rows L2 Fh Fs
open PySem.W (Frag)
abbrev sCp : Stmt := top 47
structure CpG (K : Frag) (mg : Str → Option Value) (w : World) (aF aM aD CE aE CP fP aC aA aW aI aH aN aT aS aV aL : Addr) (fC fA fW fI fH fN fT fS fV fL : FuncData) : Prop where
  C : CkG K mg w aF aM aD CE aE CP fP aC aA aW aI aH fC fA fW fI fH
  FN : Fun K "normal_form" "normal_form" sNf aN fN
  FT : Fun K "in_turn" "in_turn" sTurn aT fT
  FS : Fun K "side_by_side" "side_by_side" sSide aS fS
  FV : Fun K "names_inside" "names_inside" sNi aV fV
  FL : Fun K "levels" "levels" sLv aL fL
  gN : mg "normal_form" = some (.ref aN)
  gT : mg "in_turn" = some (.ref aT)
  gS : mg "side_by_side" = some (.ref aS)
  gV : mg "names_inside" = some (.ref aV)
  gL : mg "levels" = some (.ref aL)
section
variable {P : Program} {w : World} {K : Frag} {mg : Str → Option Value} {base : Heap} {aF aM aD CE aE CP fP aC aA aW aI aH aN aT aS aV aL : Addr} {fC fA fW fI fH fN fT fS fV fL : FuncData}
abbrev NCp : List Str := ["plan", "tasks", "names", "form", "name"]
theorem scCp : FnScope NCp ["plan", "tasks"] (defScope sCp) := ⟨rfl, rfl, rfl, by decide +kernel, rfl, by decide +kernel, by decide +kernel⟩
end
end Fp6
set_option Elab.async false
set_option linter.all false
set_option maxRecDepth 100000
set_option maxHeartbeats 8000000
/-! remembered_names, width_of, check_memory (of tasks that remember nothing) -/
namespace Fp6
open PySem PySem.Spec PyProof.Rows L2 Fh Fs
open PySem.W (Frag)
abbrev sRn : Stmt := top 49
abbrev sWo : Stmt := top 51
abbrev sCm : Stmt := top 52
/-- tasks that remember nothing -/
def Bare (ts : List (Str × TSk)) : Prop := ∀ q ∈ ts, q.2.o = [] ∧ q.2.s = []
section
variable {P : Program} {w : World} {K : Frag} {mg : Str → Option Value} {base : Heap} {aF aM aD CE aE CT aW aR aH aA aI gE g1 g2 g3 g4 g5 g6 p1 p2 p3 p4 p5 p6 : Addr} {fW fR fH fA fI fE f1 f2 f3 f4 f5 f6 : FuncData}
def noTE : TE := fun _ _ _ => False
theorem pe_no {X : Cx} {e : Expr} : PE X e noTE := ⟨fun _ _ _ _ _ _ h => h.elim⟩
def spRn (K : Frag) (CT : Addr) : Sp := fun vs H Q _ => ∃ d m ts, vs = [.ref d] ∧ H d = some (.dK (tD m)) ∧ TsAt CT H m ts ∧ Bare ts ∧ ∀ p H', Same H H' → H' p = some (.tup []) → Q (.ref p) H'
theorem scRn : FnScope ["tasks", "task", "name"] ["tasks"] (defScope sRn) := ⟨rfl, rfl, rfl, by decide +kernel, rfl, by decide +kernel, by decide +kernel⟩
theorem ok_rn {f : Addr} {fd : FuncData} (F : Fun K "remembered_names" "remembered_names" sRn f fd) (G : Pkg K mg w aF aM aD CE aE CT aW aR aH aA aI fW fR fH fA fI) (M : Mets K CT gE g1 g2 g3 g4 g5 g6 p1 p2 p3 p4 p5 p6 fE f1 f2 f3 f4 f5 f6) : FnOk P w K mg base CX0 3 f fd ["tasks"] (spRn K CT) := by
  have G3 : FnOk P w K mg base CX0 1 g3 f3 ["self"] (getSp CT "_other") := ok_g3 G M.F3
  have G4 : FnOk P w K mg base CX0 1 g4 f4 ["self"] (getSp CT "_same") := ok_g4 G M.F4
  have b3 : Binds K f3 ["self"] [] := M.F3.binds (ps := ["self"]) fun _ _ _ _ _ _ us hl => match us, hl with | [_], _ => rfl
  have b4 : Binds K f4 ["self"] [] := M.F4.binds (ps := ["self"]) fun _ _ _ _ _ _ us hl => match us, hl with | [_], _ => rfl
  refine F.ok scRn (fun vs H Q E h => ?_) (fun cdv A outer s H vs Q E hr h => ?_)
  · obtain ⟨d, m, ts, rfl, _⟩ := h
    rfl
  · obtain ⟨d, m, ts, rfl, hm, ht, bare, k⟩ := h
    refine' ⟨_, pss_one (ps_ret (pe_callTy call_tuple_of (by rfl) G.TK.tuple (by decide +kernel) (pa_cons (pe_callB (cr_sortedTx rfl) (by rfl) G.T.sorted (by decide +kernel) (pa_cons (pe_callTy (cr_setL rfl) (by rfl) G.T.set (by decide +kernel) (pa_cons (pe_lock ?s) pa_nil)) pa_nil)) pa_nil))), ?q⟩
    case s =>
      refine' pe_lc2 (own := [("task", 1), ("name", 2)]) (vs1 := [2]) (g := gName 1) (tt := tYes) (g1 := gName 2) (tt1 := tYes) (wi1 := iTup K (tOp (rCatA K) (tProp CT (getSp CT "_other") [] E0 (tVar 1)) (tProp CT (getSp CT "_same") [] E0 (tVar 1)))) (te := tVar 2) rfl scRn.nd (pi_values (pv 0)) ?k (by decide) ?g (fun _ _ _ _ _ => pts_nil) ?i1 ?g1 (fun _ _ _ _ _ => pts_nil) ?e
      case k => exact blkOk_by (N := ["tasks", "task", "name"]) (sc := defScope sRn) (by decide +kernel)
      case g => exact fun _ _ _ _ _ => pg_name (i := 1) scRn.nd rfl (Or.inl rfl)
      case i1 => exact fun _ _ _ _ _ => pi_tup (pe_op op_catA (pe_prop (pv 1) G.C.cl M.p3 G3 hr b3 .nil pass0 (by rfl)) (pe_prop (pv 1) G.C.cl M.p4 G4 hr b4 .nil pass0 (by rfl)))
      case g1 => exact fun _ _ _ _ _ => pg_name (i := 2) scRn.nd rfl (Or.inl rfl)
      case e => exact fun _ _ _ _ _ => pv 2
    case q =>
      refine ⟨d, .dK (tD m), hm, trivial, fun od => ?_⟩
      have fz : (upd H d (.frz od (.dK (tD m)))) d = some (.frz od (.dK (tD m))) := upd_same
      have kb : KeepB H (upd H d (.frz od (.dK (tD m)))) := KeepB.upd hm bits_dK
      refine ⟨_, rfl, d, od, tD m, rfl, fz, fun D hD => ?_⟩
      have hDd : D ≠ d := fun z => by rw [z, fz] at hD; cases hD
      refine lc2_it walk_values (fun i Hi => Same (upd H d (.frz od (.dK (tD m)))) Hi ∧ Hi D = some (.lst [])) ⟨Same.new hD, upd_same⟩ (fun _ _ _ z => z.1 _ _ fz) ?_ ?_
      · rintro i x Ha Hb hi ⟨s2, e2⟩ ⟨rfl, kx, gx⟩
        unfold tD at gx
        rw [List.getElem?_map] at gx
        rcases hq : m[i]? with _ | q
        · rw [hq] at gx
          cases gx
        rw [hq] at gx
        cases gx
        obtain ⟨a, T, ev, ta, mt⟩ := ht.get (List.mem_of_getElem? hq)
        obtain ⟨o0, s0⟩ := bare _ mt
        obtain ⟨dx, t1, t2, t3, t4, h0, h1, h2, h3, h4⟩ := ta.keep (kb.trans (.of s2))
        have o0 : T.o = [] := o0
        have s0 : T.s = [] := s0
        rw [o0] at h1
        rw [s0] at h2
        refine ⟨rfl, ?_⟩
        refine yes_of ?_
        rw [ev]
        refine ⟨_, rfl, a, dx, _, rfl, h0, a, dx, _, _, rfl, h0, rfl, _, rfl, a, dx, _, rfl, h0, a, dx, _, _, rfl, h0, rfl, t1, t2, [], [], rfl, rfl, SqT.of h1, SqT.of h2, (by decide), fun _ => ⟨t2, rfl, ⟨[], SqT.of h2⟩, ?_⟩, fun z => (z rfl).elim, fun z => (z rfl).elim⟩
        exact lc2_in (walk_tup (K := K) (a := t2) (xs := [])) (fun j Hh => (Same (upd H d (.frz od (.dK (tD m)))) Hh ∧ Hh D = some (.lst [])) ∧ SqT K Hh t2 []) ⟨⟨s2, e2⟩, SqT.of h2⟩ (fun _ Hh _ z => z.2) (fun j _ _ _ hj => absurd hj (Nat.not_lt_zero j)) (fun _ z => z.1)
      · rintro Hi ⟨s2, e2⟩
        refine ⟨s2 _ _ fz, D, [], rfl, .inl (SqL.of (by rw [upd_ne hDd]; exact e2)), by decide, fun p np => ⟨p, [], rfl, upd_same, by decide, fun ys q pm so nq => ?_⟩⟩
        have y0 : ys = [] := pm.eq_nil
        subst y0
        have kH : Same H (upd Hi d (.dK (tD m))) := fun b o z => by
          by_cases e : b = d
          · rw [e] at z ⊢
            rw [upd_same, ← z, hm]
          · rw [upd_ne e]
            exact s2 b o (by rw [upd_ne e]; exact z)
        have s1 := kH.trans (Same.new (o := SetS P w p (ded [])) np)
        refine ⟨q, [], rfl, .inl ⟨SqL.of upd_same, fun l nl => k l _ ((s1.trans (Same.new nq)).trans (Same.new nl)) upd_same⟩⟩
def spWo (K : Frag) (CT : Addr) : Sp := fun vs H Q _ => ∃ d m ts, vs = [.ref d] ∧ H d = some (.dK (tD m)) ∧ TsAt CT H m ts ∧ Bare ts ∧ ∀ H', Same H H' → Q (.int 0) H'
theorem scWo : FnScope ["tasks", "name"] ["tasks"] (defScope sWo) := ⟨rfl, rfl, rfl, by decide +kernel, rfl, by decide +kernel, by decide +kernel⟩
theorem ok_wo {f aR2 : Addr} {fd fR2 : FuncData} (F : Fun K "width_of" "width_of" sWo f fd) (FR : Fun K "remembered_names" "remembered_names" sRn aR2 fR2) (gR : mg "remembered_names" = some (.ref aR2)) (G : Pkg K mg w aF aM aD CE aE CT aW aR aH aA aI fW fR fH fA fI) (M : Mets K CT gE g1 g2 g3 g4 g5 g6 p1 p2 p3 p4 p5 p6 fE f1 f2 f3 f4 f5 f6) : FnOk P w K mg base CX0 4 f fd ["tasks"] (spWo K CT) := by
  have GR : FnOk P w K mg base CX0 3 aR2 fR2 ["tasks"] (spRn K CT) := ok_rn FR G M
  have bR : Binds K fR2 ["tasks"] [] := FR.binds (ps := ["tasks"]) fun _ _ _ _ _ _ us hl => match us, hl with | [_], _ => rfl
  refine F.ok scWo (fun vs H Q E h => ?_) (fun cdv A outer s H vs Q E hr h => ?_)
  · obtain ⟨d, m, ts, rfl, _⟩ := h
    rfl
  · obtain ⟨d, m, ts, rfl, hm, ht, bare, k⟩ := h
    refine' ⟨_, pss_one (ps_ret (pe_callB (cr_sum rfl) (by rfl) G.T.sum (by decide +kernel) (pa_cons ?s pa_nil))), ?q⟩
    case s => exact pe_lc (own := [("name", 1)]) (g := gName 1) (tt := tYes) (te := noTE) rfl scWo.nd (pi_tup (pe_call GR hr rfl gR FR.kp bR .nil pass0 (pa_cons (pv 0) pa_nil))) (blkOk_by (N := ["tasks", "name"]) (sc := defScope sWo) (by decide +kernel)) (fun _ _ _ _ _ => pg_name (i := 1) scWo.nd rfl (Or.inl rfl)) (fun _ _ _ _ _ => pts_nil) (fun _ _ _ _ _ => pe_no)
    case q =>
      refine ⟨_, rfl, d, m, ts, rfl, hm, ht, bare, fun p H1 s1 hp => ⟨p, rfl, ⟨[], SqT.of hp⟩, fun D hD => ?_⟩⟩
      refine lc_it (walk_tup (K := K) (a := p) (xs := [])) (fun i Hi => Same H1 Hi ∧ Hi D = some (.lst [])) ⟨Same.new hD, upd_same⟩ (fun _ _ _ z => SqT.of (z.1 _ _ hp)) (fun j _ _ _ hj => absurd hj (Nat.not_lt_zero j)) ?_
      rintro Hi ⟨s2, e2⟩
      exact ⟨D, [], rfl, SqL.of e2, k _ (s1.trans s2)⟩
def spCm (K : Frag) (CT : Addr) : Sp := fun vs H Q _ => ∃ d m ts, vs = [.ref d] ∧ H d = some (.dK (tD m)) ∧ TsAt CT H m ts ∧ Bare ts ∧ ∀ H', Same H H' → Q .non H'
theorem scCm : FnScope ["tasks"] ["tasks"] (defScope sCm) := ⟨rfl, rfl, rfl, by decide +kernel, rfl, by decide +kernel, by decide +kernel⟩
theorem ok_cm {f aR2 aO : Addr} {fd fR2 fO : FuncData} (F : Fun K "check_memory" "check_memory" sCm f fd) (FR : Fun K "remembered_names" "remembered_names" sRn aR2 fR2) (FO : Fun K "width_of" "width_of" sWo aO fO) (gR : mg "remembered_names" = some (.ref aR2)) (gO : mg "width_of" = some (.ref aO)) (G : Pkg K mg w aF aM aD CE aE CT aW aR aH aA aI fW fR fH fA fI) (M : Mets K CT gE g1 g2 g3 g4 g5 g6 p1 p2 p3 p4 p5 p6 fE f1 f2 f3 f4 f5 f6) : FnOk P w K mg base CX0 5 f fd ["tasks"] (spCm K CT) := by
  have GR : FnOk P w K mg base CX0 3 aR2 fR2 ["tasks"] (spRn K CT) := ok_rn FR G M
  have GO : FnOk P w K mg base CX0 4 aO fO ["tasks"] (spWo K CT) := ok_wo FO FR gR G M
  have bR : Binds K fR2 ["tasks"] [] := FR.binds (ps := ["tasks"]) fun _ _ _ _ _ _ us hl => match us, hl with | [_], _ => rfl
  have bO : Binds K fO ["tasks"] [] := FO.binds (ps := ["tasks"]) fun _ _ _ _ _ _ us hl => match us, hl with | [_], _ => rfl
  refine F.ok scCm (fun vs H Q E h => ?_) (fun cdv A outer s H vs Q E hr h => ?_)
  · obtain ⟨d, m, ts, rfl, _⟩ := h
    rfl
  · obtain ⟨d, m, ts, rfl, hm, ht, bare, k⟩ := h
    obtain ⟨u1, r1⟩ := G.T.REMEMBERED
    obtain ⟨u2, r2⟩ := G.T.WIDTH
    refine' ⟨_, pss_cons ?s1 (pss_one ?s2), ?q⟩
    case s1 => exact ps_if (pt_cmpR op_gt (pe_callB call_len_seq (by rfl) G.TR.len PySem.boot_len (pa_cons (pe_call GR (hr.mono (by decide)) rfl gR FR.kp bR .nil pass0 (pa_cons (pv 0) pa_nil)) pa_nil)) (pe_glob (v := .int 3) (by rfl) r1 ⟨_, rfl⟩) (nomark _)) pss_no pss_nil
    case s2 => exact ps_if (pt_cmpR op_gt (pe_call GO hr rfl gO FO.kp bO .nil pass0 (pa_cons (pv 0) pa_nil)) (pe_glob (v := .int 5) (by rfl) r2 ⟨_, rfl⟩) (nomark _)) pss_no pss_nil
    case q =>
      refine ⟨_, rfl, d, m, ts, rfl, hm, ht, bare, fun p H1 s1 hp => ⟨p, [], rfl, Or.inr (SqT.of hp), _, _, rfl, rfl, false, rfl, iteF ?_⟩⟩
      refine ⟨_, rfl, d, m, ts, rfl, s1 _ _ hm, ht.keep (.of s1), bare, fun H2 s2 => ⟨_, _, rfl, rfl, false, rfl, iteF ?_⟩⟩
      exact k _ (s1.trans s2)
end
end Fp6
set_option Elab.async false
set_option linter.all false
set_option maxRecDepth 100000
set_option maxHeartbeats 8000000
/-! Book.__init__ (all right, tasks that remember nothing) -/
namespace Fp6
open PySem PySem.Spec PyProof.Rows L2 Fh Fs
open PySem.W (Frag)
abbrev sBkI : Stmt := inClass (top 87) 0
def fldB (k t pv : V) : List (Str × V) := [("_kinds", k), ("_tasks", t), ("_plan", pv), ("_steps", .non), ("_survey", .non)]
/-- the book at a, its kinds and tasks as they stand -/
def BookW (K : Frag) (CB CT : Addr) (H : Hp) (a : Addr) (m1 m2 : List (Str × V)) (ks : List (Str × List Str)) (us : List (Str × TSk)) (d : PyData) : Prop := ∃ dx k t pv, H a = some (.ins CB dx (fldB (.ref k) (.ref t) pv)) ∧ H k = some (.dK (tD m1)) ∧ KT H m1 ks ∧ H t = some (.dK (tD m2)) ∧ TsAt CT H m2 us ∧ Pl K H pv d
theorem KeepT.exta {H H' : Hp} {a C dx : Addr} {fs : List (Str × V)} (e : Ext a H H') (ha : H a = some (.ins C dx fs)) : KeepT H H' := fun b xs h => h.elim (fun z => .inl (e _ _ (fun q => by rw [q, ha] at z; cases z) z)) fun ⟨o, z⟩ => .inr ⟨o, e _ _ (fun q => by rw [q, ha] at z; cases z) z⟩
theorem TaskAt.exta {CT : Addr} {H H' : Hp} {a C dx b : Addr} {fs : List (Str × V)} {T : TSk} (e : Ext a H H') (ha : H a = some (.ins C dx fs)) (hf : fs.length < 6) (h : TaskAt CT H b T) : TaskAt CT H' b T := by
  obtain ⟨dy, t1, t2, t3, t4, h0, h1, h2, h3, h4⟩ := h
  have ne : ∀ {t : Addr} {xs : List V}, H t = some (.tup xs) → t ≠ a := fun z q => by rw [q, ha] at z; cases z
  refine ⟨dy, t1, t2, t3, t4, e _ _ (fun q => ?_) h0, e _ _ (ne h1) h1, e _ _ (ne h2) h2, e _ _ (ne h3) h3, e _ _ (ne h4) h4⟩
  rw [q, ha] at h0
  have h0 : HO.ins C dx fs = .ins CT dy (flds (rV T.r) T.n t1 t2 t3 t4) := Option.some.inj h0
  have : fs = flds (rV T.r) T.n t1 t2 t3 t4 := by injection h0
  rw [this] at hf
  exact absurd hf (by simp [flds])
theorem TsAt.exta {CT : Addr} {H H' : Hp} {a C dx : Addr} {fs : List (Str × V)} (e : Ext a H H') (ha : H a = some (.ins C dx fs)) (hf : fs.length < 6) {m : List (Str × V)} {ts : List (Str × TSk)} (h : TsAt CT H m ts) : TsAt CT H' m ts := by
  induction h with
  | nil => exact .nil
  | cons z _ ih => exact .cons (z.exta e ha hf) ih
theorem KT.exta {H H' : Hp} {a C dx : Addr} {fs : List (Str × V)} (e : Ext a H H') (ha : H a = some (.ins C dx fs)) {m : List (Str × V)} {ks : List (Str × List Str)} (h : KT H m ks) : KT H' m ks :=
  h.keep fun t xs z => e _ _ (fun q => by rw [q, ha] at z; cases z) z
structure BkG (K : Frag) (mg : Str → Option Value) (CB aK aJ aO aP aT aS aM aN aV : Addr) (fK fJ fO fP fT fS fM fN fV : FuncData) : Prop where
  C : OwnC K mg "Book" CB
  no_kinds : NoAttr K CB "_kinds"
  no_tasks : NoAttr K CB "_tasks"
  no_plan : NoAttr K CB "_plan"
  no_steps : NoAttr K CB "_steps"
  no_survey : NoAttr K CB "_survey"
  FK : Fun K "checked_kinds" "checked_kinds" sCks aK fK
  FJ : Fun K "_are_kinds" "_are_kinds" sAks aJ fJ
  FO : Fun K "are_roles" "are_roles" sRol aO fO
  FP : Fun K "checked_plan" "checked_plan" sCp aP fP
  FT : Fun K "checked_tasks" "checked_tasks" sCts aT fT
  FS : Fun K "are_tasks" "are_tasks" sAts aS fS
  FM : Fun K "check_memory" "check_memory" sCm aM fM
  FN : Fun K "remembered_names" "remembered_names" sRn aN fN
  FV : Fun K "width_of" "width_of" sWo aV fV
  gK : mg "checked_kinds" = some (.ref aK)
  gJ : mg "_are_kinds" = some (.ref aJ)
  gO : mg "are_roles" = some (.ref aO)
  gP : mg "checked_plan" = some (.ref aP)
  gT : mg "checked_tasks" = some (.ref aT)
  gS : mg "are_tasks" = some (.ref aS)
  gM : mg "check_memory" = some (.ref aM)
  gN : mg "remembered_names" = some (.ref aN)
  gV : mg "width_of" = some (.ref aV)
section
variable {P : Program} {w : World} {K : Frag} {mg : Str → Option Value} {base : Heap} {aF aM aD CE aE CT aW aR aH aA aI gE g1 g2 g3 g4 g5 g6 p1 p2 p3 p4 p5 p6 : Addr} {fW fR fH fA fI fE f1 f2 f3 f4 f5 f6 : FuncData} {CP fP aC aa aw ai ah aN aT aS aV aL : Addr} {fC fa fw fi fh fN fT fS fV fL : FuncData}
  {CB cK cJ cO cP cT cS cM cN cV : Addr} {dK dJ dO dP dT' dS dM dN dV : FuncData}
abbrev NBk : List Str := ["self", "kinds", "tasks", "plan"]
theorem scBk : FnScope NBk NBk (defScope sBkI) := ⟨rfl, rfl, rfl, by decide +kernel, rfl, by decide +kernel, by decide +kernel⟩
theorem MadeT.bare {ts us : List (Str × TSk)} (h : MadeT ts us) (b : Bare ts) : Bare us := fun q hq => b q (h.2.2 q hq)
end
end Fp6
set_option Elab.async false
set_option linter.all false
set_option maxRecDepth 100000
set_option maxHeartbeats 1000000
/-! == of two dicts (or lists) whose values are the same objects or equal data -/
namespace Fh
open PySem PySem.Spec PyProof.Rows L2
end Fh
set_option Elab.async false
set_option linter.all false
set_option maxRecDepth 100000
set_option maxHeartbeats 4000000
/-! two books of the same kinds, tasks and plan are equal; another plan is set -/
namespace Fp6
open PySem PySem.Spec PyProof.Rows L2 Fh Fs
open PySem.W (Frag)
abbrev sBp : Stmt := inClass (top 87) 5
abbrev sBs : Stmt := inClass (top 87) 7
abbrev sBf : Stmt := inClass (top 87) 9
section
variable {P : Program} {w : World} {K : Frag} {mg : Str → Option Value} {base : Heap} {aF aM aD CE aE CT aW aR aH aA aI gE g1 g2 g3 g4 g5 g6 p1 p2 p3 p4 p5 p6 : Addr} {fW fR fH fA fI fE f1 f2 f3 f4 f5 f6 : FuncData} {CP fP aC aa aw ai ah aN aT aS aV aL : Addr} {fC fa fw fi fh fN fT fS fV fL : FuncData}
  {CB cK cJ cO cP cT cS cM cN cV : Addr} {dK dJ dO dP dT' dS dM dN dV : FuncData}
/-! ### its plan -/
theorem scBp : FnScope ["self"] ["self"] (defScope sBp) := ⟨rfl, rfl, rfl, by decide +kernel, rfl, by decide +kernel, by decide +kernel⟩
theorem ok_bp {f : Addr} {fd : FuncData} (F : Fun K "plan" "Book.plan" sBp f fd) (B : BkG K mg CB cK cJ cO cP cT cS cM cN cV dK dJ dO dP dT' dS dM dN dV) : FnOk P w K mg base CX0 1 f fd ["self"] (getSp CB "_plan") := by
  refine F.ok scBp (fun vs H Q E h => ?_) (fun cdv A outer s H vs Q E hr h => ?_)
  · obtain ⟨a, dx, fs, v, rfl, _⟩ := h
    rfl
  · obtain ⟨a, dx, fs, v, rfl, ha, hv, k⟩ := h
    refine ⟨_, pss_one (ps_ret (pe_fld (pv 0) rfl)), ?_⟩
    exact ⟨_, rfl, a, CB, dx, fs, v, rfl, ha, B.C.cl, B.no_plan, hv, k⟩
def spBf (CB : Addr) : Sp := fun vs H Q _ => ∃ a dx k t pv, vs = [.ref a] ∧ H a = some (.ins CB dx (fldB k t pv)) ∧ ∀ H', Ext a H H' → H' a = some (.ins CB dx (fldB k t pv)) → Q .non H'
theorem scBf : FnScope ["self"] ["self"] (defScope sBf) := ⟨rfl, rfl, rfl, by decide +kernel, rfl, by decide +kernel, by decide +kernel⟩
theorem ok_bf {f : Addr} {fd : FuncData} (F : Fun K "_forget" "Book._forget" sBf f fd) (B : BkG K mg CB cK cJ cO cP cT cS cM cN cV dK dJ dO dP dT' dS dM dN dV) : FnOk P w K mg base CX0 1 f fd ["self"] (spBf CB) := by
  refine F.ok scBf (fun vs H Q E h => ?_) (fun cdv A outer s H vs Q E hr h => ?_)
  · obtain ⟨a, dx, k, t, pl, rfl, _⟩ := h
    rfl
  · obtain ⟨a, dx, k, t, pl, rfl, ha, go⟩ := h
    refine ⟨_, pss_cons (ps_fld (pv 0) pe_non rfl) (pss_one (ps_fld (pv 0) pe_non rfl)), ?_⟩
    refine ⟨_, rfl, a, CB, dx, _, rfl, ha, B.C.cl, B.no_steps, Nat.le_of_ble_eq_true (by rfl), ?_⟩
    refine ⟨_, rfl, a, CB, dx, _, rfl, upd_same, B.C.cl, B.no_survey, Nat.le_of_ble_eq_true (by rfl), ?_⟩
    exact go _ (fun b o nb z => by rw [upd_ne nb, upd_ne nb]; exact z) upd_same
theorem scBs : FnScope ["self", "plan"] ["self", "plan"] (defScope sBs) := ⟨rfl, rfl, rfl, by decide +kernel, rfl, by decide +kernel, by decide +kernel⟩
end
end Fp6
set_option Elab.async false
set_option linter.all false
set_option maxRecDepth 100000
set_option maxHeartbeats 4000000
/-! FzN: a tuple == (); what a def tells of InvalidPlan, as a list; a local that holds a def which may raise -/
namespace Fs
open PySem PySem.Spec PyProof.Rows L2 Fh LamX
open PySem.W (Frag)
end Fs
set_option Elab.async false
set_option linter.all false
set_option maxRecDepth 100000
set_option maxHeartbeats 4000000
/-! FzP: the error TooMany(limit), over OverflowError, over the layer -/
namespace PySem
namespace ErrM
open PySem.W PySem.Calls PyProof.Rows PySem.HandSPX
/-! ### the text of __init__ -/
def iA (p1 p2 : Pos) : Arguments := { posonlyargs := [], args := [{ arg := "self", annotation := none, pos := p1 }, { arg := "limit", annotation := none, pos := p2 }], vararg := none, kwonlyargs := [], kw_defaults := [], kwarg := none, defaults := [] }
def iB (q1 q2 q3 q4 : Pos) : List Stmt := [.Assign [.Attribute (.Name "self" q1) "limit" q2] (.Name "limit" q3) q4]
def iS : Scope := { kind := .function, names := [(PySem.Str.ofString "self", .local), (PySem.Str.ofString "limit", .local)], isGenerator := false, isCoroutine := false, more := [] }
/-- what the written part says of TooMany, at C, and of its __init__, at fI -/
structure ErrMxt (K : Frag) (mg : Str → Option Value) (C fI : Addr) : Prop where
  gC : mg "TooMany" = some (.ref C)
  ei : Fh.EK K C .oe
  sa : findIn K (.ref C) "__setattr__" = some (some (.builtin "object.__setattr__"))
  ga : findIn K (.ref C) "__getattribute__" = some (some (.builtin "BaseException.__getattribute__"))
  gg : findIn K (.ref C) "__getattr__" = some none
  noN : findIn K (.ref C) "limit" = some none
  iC : findIn K (.ref C) "__init__" = some (some (.ref fI))
  tC : typeIn K (.ref fI) = some (.type "function")
  kC : keepIn K (.ref C) = true
  exC : subIn K (.ref C) (.type "BaseException") = some true
  tyC : typeIn K (.ref C) = some (.type "type")
  hdC : hasDictIn K C = true
  te : exmOne K (.ref C) (.ref C) = some true
  fn : ∃ (oc : Value) (od : Option Addr) (kV doc pm : Value) (an : Option Addr) (cdv ct : Value) (osl : Array (Option Value)) (p1 p2 q1 q2 q3 q4 : Pos),
    K.lookup fI = some ⟨oc, od, .func (fnOf "__init__" "TooMany.__init__" (iA p1 p2) (iB q1 q2 q3 q4) iS .none kV doc pm an cdv ct), osl⟩ ∧ codeIn K cdv "TooMany.__init__" = true
theorem one_size (v : Value) : [v].length ≤ sizeLine := by
  rw [sizeLine_eq]
  exact (by decide : 1 ≤ 16777216)
theorem ldC {M : Model} {s : Shared} {name : Str} {scope : Scope} {L a : Addr} {cd : Value} {m : Str → Option Value} {x : Str} {pos : Pos} {v : Value} {Q : Value → Shared → Prop} {A : Around} {E : Value → Shared → Prop} (hn : s.heap.Ns L m) (hv : m x = some v) (h : Q v s)
    (hk : scope.kind = .function := by rfl) (hl : (envOfC name scope L a cd).kindOf x = some .local := by rfl) (hd : (x == ("__debug__" : Str)) = false := by decide) :
    wpAny M A (eval (.Name x pos) (envOfC name scope L a cd)) Q E s := wpAny_Name (wpAny_loadName_local hk hl hn hv h) hd
/-- what __init__ leaves of a fresh exception at x -/
structure InitEnd (h h' : Heap) (x C dx t1 : Addr) (v : Value) : Prop where
  keep : ∀ b o, b ≠ x → h.get? b = some o → h'.get? b = some o
  obj : h'.get? x = some { cls := .ref C, dict := some dx, data := .fields #[.ref t1, .none, .none, .none, .bool false, .none] }
  dbig : h.objs.size ≤ dx
  dne : dx ≠ x
  ns : h'.Ns1 dx (fun y => if y = "limit" then some v else none)
/-- a made TooMany -/
structure OwnMade (h h' : Heap) (e C d : Addr) (v : Value) : Prop where
  keep : ∀ b o, h.get? b = some o → h'.get? b = some o
  new : h.objs.size ≤ e
  obj : ∃ oe vs, h'.get? e = some oe ∧ oe.cls = .ref C ∧ oe.dict = some d ∧ oe.data = .fields vs ∧ vs[1]? = some .none
  dbig : h.objs.size ≤ d
  dne : d ≠ e
  ns : h'.Ns1 d (fun y => if y = "limit" then some v else none)
section
variable {prog : Program} {w : World} {A : Around} {E : Value → Shared → Prop} {R : Result → Shared → Prop} {s : Shared} {K : Frag} {mg : Str → Option Value} {C fI : Addr}
theorem errM_init (T : ErrMxt K mg C fI) {x t0 : Addr} {v : Value} (X : K.In s.heap) (hlim : s.heap.NoLimit) (hx : s.heap.get? x = some (excO C t0)) (hnx : K.lookup x = none) (hroom : A.depth < recursionLimit)
    (hq : ∀ h' tk dx, InitEnd s.heap h' x C dx t0 v → R (.ok (.ret .none)) { s with heap := h', toks := tk }) :
    codeAny (model prog w) A (.call (.ref fI) ⟨[.ref x, v], []⟩) R s := by
  obtain ⟨oc, od, kV, doc, pm, an, cdv, ct, osl, p1, p2, q1, q2, q3, q4, ho, hcd⟩ := T.fn
  obtain ⟨nm, q, N, bs, sn, sub, ab, col, dd, k0, k1, k2, k3, k5, hC⟩ := Fs.ei_obj T.ei
  refine Att.call_fn (binds := [("self", .ref x), ("limit", v)]) X hlim ho hcd hroom (BindsTo.of_eq (by first | rfl | with_unfolding_all rfl)) (by first | rfl | decide | with_unfolding_all rfl) (fun s₁ IC => ?_) rfl rfl rfl
  obtain ⟨h₁, tk₁, rfl⟩ := IC.toInCall.same
  have k : ∀ b o, s.heap.get? b = some o → h₁.get? b = some o := IC.toInCall.keep
  have hn := IC.toInCall.ns
  have hxL : s.heap.objs.size ≠ x := Nat.ne_of_gt (Heap.lt_size hx)
  have X₁ : K.In h₁ := X.keeps k
  have hx₁ := k _ _ hx
  -- self.by = by
  show wpAny _ _ (execs _ _) _ _ _
  refine wpAny_execs_cons (plainObj_wpAny_Assign_Attribute ?_)
  refine ldC (v := v) hn (by first | rfl | with_unfolding_all rfl | kernel_rfl) (ldC (v := .ref x) hn (by first | rfl | with_unfolding_all rfl | kernel_rfl) ?_)
  refine set_plain X₁ (ox := excO C t0) (od := none) ⟨hx₁, rfl, rfl, trivial⟩ T.sa ?_
  refine Fh.osaG_new T.ei (Fh.BK.sf .oe) X₁ hx₁ T.noN (fun h₃ tk₃ dx k₃ dn dne hx₃ hn₃ => ?_)
  show wpAny _ _ (execs _ _) _ _ _
  have z : s.heap.objs.size < h₁.objs.size := hn.lt
  exact wpAny_execs_nil (hq h₃ tk₃ dx ⟨fun b o hb e => k₃ b o hb (k b o e), hx₃, Nat.le_of_lt (Nat.lt_of_lt_of_le z dn), dne, hn₃⟩)
theorem errM_made (T : ErrMxt K mg C fI) {v : Value} (X : K.In s.heap) (hlim : s.heap.NoLimit) (hroom : A.depth + 1 < recursionLimit)
    (hq : ∀ h' tk e d, OwnMade s.heap h' e C d v → R (.ok (.ret (.ref e))) { s with heap := h', toks := tk }) :
    codeAny (model prog w) A (.call (.ref C) ⟨[v], []⟩) R s := by
  obtain ⟨nm, q, N, bs, sn, sub, ab, col, dd, k0, k1, k2, k3, k5, hC⟩ := Fs.ei_obj T.ei
  obtain ⟨hp, g, dr, tk, os⟩ := s
  have k : ∀ b o, hp.get? b = some o → ((hp.push (kdv_tup [v])).push (excO C hp.objs.size)).get? b = some o := fun b o e => Heap.get?_push_of_some _ (Heap.get?_push_of_some _ e)
  have hget : ((hp.push (kdv_tup [v])).push (excO C hp.objs.size)).get? (hp.objs.size + 1) = some (excO C hp.objs.size) := by heap_get
  have hnx : K.lookup (hp.objs.size + 1) = none := by
    cases e : K.lookup (hp.objs.size + 1) with
    | none => rfl
    | some o =>
      have z : hp.get? (hp.objs.size + 1) = some o := X _ _ e
      exact absurd (Nat.lt_of_succ_lt (Heap.lt_size z)) (Nat.lt_irrefl _)
  refine call_own (Fh.BK.fb .oe) (fun _ => rfl) (X _ _ hC) (looks_findIn X T.iC) (fun self => bind_fn X self T.tC) (one_size v) ?_
  refine errM_init (s := ⟨(hp.push (kdv_tup [v])).push (excO C hp.objs.size), g, dr, tk, os⟩) T (X.keeps k) (hlim.keeps k) hget hnx ?_ fun h' tk' dx ⟨k', hx, dn, dne, hns⟩ => ?_
  · show A.depth + 1 < recursionLimit
    exact hroom
  · have old : ∀ b o, hp.get? b = some o → h'.get? b = some o := fun b o e => k' b o (Nat.ne_of_lt (Nat.lt_succ_of_lt (Heap.lt_size e))) (k b o e)
    have z : hp.objs.size + 1 + 1 ≤ dx := by
      first
        | (simpa only [Heap.size_push] using dn)
        | exact dn
        | (have q := dn; rw [Heap.size_push, Heap.size_push] at q; exact q)
    exact ⟨rfl, hq h' tk' (hp.objs.size + 1) dx ⟨old, Nat.le_succ _, ⟨_, _, hx, rfl, rfl, rfl, rfl⟩, Nat.le_trans (Nat.le_trans (Nat.le_succ _) (Nat.le_succ _)) z, dne, hns⟩⟩
end
end ErrM
end PySem
namespace L2
open PySem PySem.Spec PyProof.Rows
theorem relO_errM {v : V} {v' : Value} (r : RelV v v') (f : Str) : RelO (List.lookup f [(("limit" : Str), v)]) (if f = "limit" then some v' else none) := by
  by_cases hw : f = "limit"
  · subst hw
    rw [if_pos rfl]
    have q : List.lookup ("limit" : Str) [(("limit" : Str), v)] = some v := by simp [List.lookup]
    rw [q]
    exact r
  · rw [if_neg hw]
    have qw : (f == ("limit" : Str)) = false := by simpa using hw
    have q2 : List.lookup f [(("limit" : Str), v)] = none := by simp [List.lookup, qw]
    rw [q2]
    trivial
section
variable {X : Cx} {C fI : Addr}
/-- TooMany(e) -/
def tMkErrM (C : Addr) (ta : TA) : St → Hp → XK → Prop := fun σ H Q => ta σ H fun vs H1 => ∃ v, vs = [v] ∧ ∀ d, H1 d = none → Q (.ref C) (some d) (upd H1 d (.xd [(("limit" : Str), v)]))
theorem pmk_errM {a : Expr} {ta : TA} {p pos : Pos} {k : Nat} (T : PySem.ErrM.ErrMxt X.K X.mg C fI) (hr : Room k X.A) (ha : PA X [a] ta) (hg : Gl X "TooMany" := by rfl)
    (he : starEach (a :: []) X.env = (false, eval a X.env) :: starEach [] X.env := by rfl) (hpl : (backTo pos (starEach [] X.env)).any (·.1) = false := by rfl) :
    PMk X (.Call (.Name "TooMany" p) [a] [] pos) (tMkErrM C ta) := by
  intro pins s σ H Q I h
  refine wpAny_Call_Name_kw (ld_glob I hg T.gC ?_)
  refine PySem.W.callWith_K (h₀ := X.base) I.ok.mod.kin T.kC (thn (ha.run pos pins s σ H _ I h) fun us s1 hh => ?_) he hpl
  obtain ⟨vs, H1, I1, r1, v, ev, q1⟩ := hh
  subst ev
  refine ⟨I1.kIn, ?_⟩
  cases r1 with
  | cons rv rn =>
    rename_i v' us'
    cases rn
    show wpAny _ _ (call (.ref C) [v']) _ _ _
    have hlim := I1.nolimit
    obtain ⟨hp, g, dr, tk, os⟩ := s1
    refine wpAny_call (PySem.ErrM.errM_made T I1.kIn hlim (by have := hr.dp; omega) fun h' tk' e d M => ?_)
    show MkP X pins σ Q (.ref e) ⟨h', g, dr, tk', os⟩
    obtain ⟨oe, fv, hoe, hc, hd, hdat, h1⟩ := M.obj
    have hns := M.ns
    obtain ⟨G', g1, g2⟩ := restrict h' fun b => decide (b ≠ e)
    have gk : ∀ b, b ≠ e → G'.get? b = h'.get? b := fun b hb => g1 b (decide_eq_true hb)
    have ge : G'.get? e = none := g2 e (by simp)
    have old : ∀ b o, hp.get? b = some o → G'.get? b = some o := fun b o q => (gk b (Nat.ne_of_lt (Nat.lt_of_lt_of_le (Heap.lt_size q) M.new))).trans (M.keep b o q)
    have ob : ObjOk X.prog X.w (upd H1 d (.xd [(("limit" : Str), v)])) G' d (.xd [(("limit" : Str), v)]) :=
      ⟨_, hns.at (fun o q => (gk d M.dne).trans q), fun f => relO_errM rv f⟩
    have J : Inv X pins σ (upd H1 d (.xd [(("limit" : Str), v)])) ⟨G', g, dr, tk', os⟩ := I1.laid (t' := tk') old M.dbig ob
    refine ⟨e, oe, fv, ⟨G', g, dr, tk', os⟩, _, .ref C, some d, rfl, J, fun b o q => ?_, ge, hoe, ⟨hc, hd⟩, hdat, h1, ?_, rfl, I1.bare, raises_own T.exC T.tyC, q1 d (I1.hok.fresh M.dbig)⟩
    · by_cases hb : b = e
      · have q' : G'.get? b = some o := q
        rw [hb, ge] at q'; cases q'
      · exact (gk b hb).symm.trans q
    · rw [upd_ne (Ne.symm M.dne)]
      exact I1.hok.fresh M.new
/-- raise TooMany(e) -/
def tRaiseErrM (C : Addr) (W : WX) (ta : TA) : TS := fun _ σ H => tMkErrM C ta σ H fun cls d H' => W cls d σ H'
theorem ps_raiseErrM {a : Expr} {ta : TA} {W : WX} {p pos pos2 : Pos} {k : Nat} (hc : X.calm = true) (T : PySem.ErrM.ErrMxt X.K X.mg C fI) (hr : Room k X.A) (tk : Takes X W) (ha : PA X [a] ta) (hg : Gl X "TooMany" := by rfl)
    (he : starEach (a :: []) X.env = (false, eval a X.env) :: starEach [] X.env := by rfl) (hpl : (backTo pos (starEach [] X.env)).any (·.1) = false := by rfl) :
    PS X (.Raise (some (.Call (.Name "TooMany" p) [a] [] pos)) none pos2) (tRaiseErrM C W ta) := ps_raise hc tk (pmk_errM T hr ha hg he hpl)
/-- low.by, low the exception that the suite holds (at a; its class cls, its dict d) -/
def tErrMField (C : Addr) (a : Addr) (cls : Value) (d : Option Addr) (te : TE) : TE := fun σ H Q => te σ H fun x H1 => x = .ref a ∧ cls = .ref C ∧ ∃ (dd : Addr) (v : V), d = some dd ∧ H1 dd = some (.xd [(("limit" : Str), v)]) ∧ Q v H1
theorem pe_errMField {a : Addr} {oe : Obj} {cls : Value} {d : Option Addr} {pn : List (Addr × Obj)} {e : Expr} {te : TE} {pos : Pos} (T : PySem.ErrM.ErrMxt X.K X.mg C fI) (hz : Zc cls d oe) (hf : ∃ vs, oe.data = .fields vs) (he : PE (X.suite a ((a, oe) :: pn)) e te)
    (hb : attributeBase e "limit" X.env (eval e X.env) = eval e X.env := by rfl) :
    PE (X.suite a ((a, oe) :: pn)) (.Attribute e "limit" pos) (tErrMField C a cls d te) := by
  refine ⟨fun pins s σ H Q I h => ?_⟩
  refine attr_of hb (thn (he.run pins s σ H _ I h) fun u s1 hh => ?_)
  obtain ⟨x, H1, I1, rx, ex, ec, dd, v, ed, ea, q⟩ := hh
  subst ex
  obtain rfl : u = Value.ref a := rx
  subst ec
  subst ed
  obtain ⟨ha, _⟩ := I1.pin (a, oe) (List.mem_append_left _ List.mem_cons_self)
  obtain ⟨vs, hd⟩ := hf
  have hx : ObjOk X.prog X.w H1 s1.heap dd (.xd [(("limit" : Str), v)]) := I1.hok dd _ ea
  obtain ⟨mA, hns, hr⟩ := hx
  obtain ⟨od, ho, hl⟩ := lookIn_ns hns
  have l : List.lookup ("limit" : Str) [(("limit" : Str), v)] = some v := by simp [List.lookup]
  obtain ⟨u, hu, ru⟩ := RelO.some_of (v := v) (o := mA "limit") (by rw [← l]; exact hr "limit")
  have J : PySem.W.InstAt s1.heap a oe C (some od) := ⟨ha, hz.1, by unfold PySem.W.notCls; rw [hd] <;> rfl, by rw [hz.2]; exact ho⟩
  exact HandSPX.exc_get I1.kIn J T.ga T.gg T.exC (PySem.W.findObj_own T.hdC T.noN rfl (by rw [hl, hu])) (handed_of ru) ⟨v, H1, I1.tok _, ru, q⟩
end
end L2
set_option Elab.async false
set_option linter.all false
set_option maxRecDepth 100000
set_option maxHeartbeats 4000000
/-! FzQ: the error TooMany where a suite holds it; its row of facts by the head's Bools -/
namespace Fs
open PySem PySem.Spec PyProof.Rows L2 Fh
open PySem.W (Frag)
theorem call_isEM {X : Cx} {a C fI : Addr} {oe : Obj} {cls : Value} {d : Option Addr} {pn : List (Addr × Obj)} (T : PySem.ErrM.ErrMxt X.K X.mg C fI) (U : ErrC X.K C) (hz : Zc cls d oe) (hf : ∃ vs, oe.data = .fields vs) : CallR (X.suite a ((a, oe) :: pn)) (.builtin "isinstance") (rIsED X.K C a cls d) := by
  intro pins s σ H xs us Q I r h
  obtain ⟨dd, fs, c, cv, b, rfl, ec, ed, hd, hc, e, q⟩ := h
  obtain ⟨u1, u2, rfl, r1, r2⟩ := vals2 r
  have e1 : u1 = Value.ref a := r1
  rw [e1, hc.eq r2]
  subst ec ed
  obtain ⟨ha, _⟩ := I.pin (a, oe) (List.mem_append_left _ List.mem_cons_self)
  obtain ⟨vs, hv⟩ := hf
  have hx : ObjOk X.prog X.w H s.heap dd (.xd fs) := I.hok dd _ hd
  obtain ⟨mA, hns, hr⟩ := hx
  obtain ⟨od, ho, hl⟩ := lookIn_ns hns
  have J : PySem.W.InstAt s.heap a oe C (some od) := ⟨ha, hz.1, by unfold PySem.W.notCls; rw [hv] <;> rfl, by rw [hz.2]; exact ho⟩
  exact PySem.W.kia_one (PySem.W.kitx_exc (od := some od) U.is T.ga T.gg T.exC U.cl U.hn U.ht U.hm) I.kIn J e (fun z => nomatch z) fun tk => ⟨.bl b, H, I.tok tk, rfl, q⟩
theorem errM_of {K : Frag} {mg : Str → Option Value} {C : Addr} (gC : mg "TooMany" = some (.ref C)) (T : EK K C .oe) {fI : Addr} (no : PySem.W.findIn K (.ref C) "limit" = some none) (iC : PySem.W.findIn K (.ref C) "__init__" = some (some (.ref fI))) (tI : PySem.W.typeIn K (.ref fI) = some (.type "function"))
    (fn : ∃ (oc : Value) (od : Option Addr) (kV doc pm : Value) (an : Option Addr) (cdv ct : Value) (osl : Array (Option Value)) (p1 p2 q1 q2 q3 q4 : Pos),
      K.lookup fI = some ⟨oc, od, .func (PySem.W.fnOf "__init__" "TooMany.__init__" (PySem.ErrM.iA p1 p2) (PySem.ErrM.iB q1 q2 q3 q4) PySem.ErrM.iS .none kV doc pm an cdv ct), osl⟩ ∧ PySem.W.codeIn K cdv "TooMany.__init__" = true) : PySem.ErrM.ErrMxt K mg C fI := by
  have sB : PySem.W.subIn K (.ref C) (.type "BaseException") = some true := by rw [T.sub]; rfl
  have sC : PySem.W.subIn K (.ref C) (.ref C) = some true := by rw [T.sub, List.contains_cons]; simp
  exact { gC := gC, ei := T, sa := T.sa, ga := T.ga, gg := T.gg, noN := no, iC := iC, tC := tI, kC := T.kC, exC := sB, tyC := T.ty, hdC := T.hd, te := PySem.W.exm_ref sB T.hd T.ty sC, fn := fn }
theorem errC_ofM {K : Frag} {C : Addr} (T : EK K C .oe) : ErrC K C := by
  obtain ⟨cd, h1, _⟩ := T.cls
  exact ⟨by rw [h1]; rfl, T.cl, T.hn, T.ht, by rw [T.mroI]; rfl⟩
theorem errB_ofM {K : Frag} {C : Addr} (T : EK K C .oe) : PySem.W.kitOne K (.ref C) (.type "OverflowError") = some true := by
  rw [T.kitT (by decide +kernel)]
  rfl
end Fs
set_option Elab.async false
set_option linter.all false
set_option maxRecDepth 100000
set_option maxHeartbeats 4000000
/-! FzR: the error UnknownTask(value), over LookupError, over the layer -/
namespace PySem
namespace ErrU
open PySem.W PySem.Calls PyProof.Rows PySem.HandSPX
/-! ### the text of __init__ -/
def iA (p1 p2 : Pos) : Arguments := { posonlyargs := [], args := [{ arg := "self", annotation := none, pos := p1 }, { arg := "value", annotation := none, pos := p2 }], vararg := none, kwonlyargs := [], kw_defaults := [], kwarg := none, defaults := [] }
def iB (q1 q2 q3 q4 : Pos) : List Stmt := [.Assign [.Attribute (.Name "self" q1) "value" q2] (.Name "value" q3) q4]
def iS : Scope := { kind := .function, names := [(PySem.Str.ofString "self", .local), (PySem.Str.ofString "value", .local)], isGenerator := false, isCoroutine := false, more := [] }
/-- what the written part says of UnknownTask, at C, and of its __init__, at fI -/
structure ErrUxt (K : Frag) (mg : Str → Option Value) (C fI : Addr) : Prop where
  gC : mg "UnknownTask" = some (.ref C)
  ei : Fh.EK K C .le
  sa : findIn K (.ref C) "__setattr__" = some (some (.builtin "object.__setattr__"))
  ga : findIn K (.ref C) "__getattribute__" = some (some (.builtin "BaseException.__getattribute__"))
  gg : findIn K (.ref C) "__getattr__" = some none
  noN : findIn K (.ref C) "value" = some none
  iC : findIn K (.ref C) "__init__" = some (some (.ref fI))
  tC : typeIn K (.ref fI) = some (.type "function")
  kC : keepIn K (.ref C) = true
  exC : subIn K (.ref C) (.type "BaseException") = some true
  tyC : typeIn K (.ref C) = some (.type "type")
  hdC : hasDictIn K C = true
  te : exmOne K (.ref C) (.ref C) = some true
  fn : ∃ (oc : Value) (od : Option Addr) (kV doc pm : Value) (an : Option Addr) (cdv ct : Value) (osl : Array (Option Value)) (p1 p2 q1 q2 q3 q4 : Pos),
    K.lookup fI = some ⟨oc, od, .func (fnOf "__init__" "UnknownTask.__init__" (iA p1 p2) (iB q1 q2 q3 q4) iS .none kV doc pm an cdv ct), osl⟩ ∧ codeIn K cdv "UnknownTask.__init__" = true
theorem one_size (v : Value) : [v].length ≤ sizeLine := by
  rw [sizeLine_eq]
  exact (by decide : 1 ≤ 16777216)
theorem ldC {M : Model} {s : Shared} {name : Str} {scope : Scope} {L a : Addr} {cd : Value} {m : Str → Option Value} {x : Str} {pos : Pos} {v : Value} {Q : Value → Shared → Prop} {A : Around} {E : Value → Shared → Prop} (hn : s.heap.Ns L m) (hv : m x = some v) (h : Q v s)
    (hk : scope.kind = .function := by rfl) (hl : (envOfC name scope L a cd).kindOf x = some .local := by rfl) (hd : (x == ("__debug__" : Str)) = false := by decide) :
    wpAny M A (eval (.Name x pos) (envOfC name scope L a cd)) Q E s := wpAny_Name (wpAny_loadName_local hk hl hn hv h) hd
/-- what __init__ leaves of a fresh exception at x -/
structure InitEnd (h h' : Heap) (x C dx t1 : Addr) (v : Value) : Prop where
  keep : ∀ b o, b ≠ x → h.get? b = some o → h'.get? b = some o
  obj : h'.get? x = some { cls := .ref C, dict := some dx, data := .fields #[.ref t1, .none, .none, .none, .bool false, .none] }
  dbig : h.objs.size ≤ dx
  dne : dx ≠ x
  ns : h'.Ns1 dx (fun y => if y = "value" then some v else none)
/-- a made UnknownTask -/
structure OwnMade (h h' : Heap) (e C d : Addr) (v : Value) : Prop where
  keep : ∀ b o, h.get? b = some o → h'.get? b = some o
  new : h.objs.size ≤ e
  obj : ∃ oe vs, h'.get? e = some oe ∧ oe.cls = .ref C ∧ oe.dict = some d ∧ oe.data = .fields vs ∧ vs[1]? = some .none
  dbig : h.objs.size ≤ d
  dne : d ≠ e
  ns : h'.Ns1 d (fun y => if y = "value" then some v else none)
section
variable {prog : Program} {w : World} {A : Around} {E : Value → Shared → Prop} {R : Result → Shared → Prop} {s : Shared} {K : Frag} {mg : Str → Option Value} {C fI : Addr}
theorem errU_init (T : ErrUxt K mg C fI) {x t0 : Addr} {v : Value} (X : K.In s.heap) (hlim : s.heap.NoLimit) (hx : s.heap.get? x = some (excO C t0)) (hnx : K.lookup x = none) (hroom : A.depth < recursionLimit)
    (hq : ∀ h' tk dx, InitEnd s.heap h' x C dx t0 v → R (.ok (.ret .none)) { s with heap := h', toks := tk }) :
    codeAny (model prog w) A (.call (.ref fI) ⟨[.ref x, v], []⟩) R s := by
  obtain ⟨oc, od, kV, doc, pm, an, cdv, ct, osl, p1, p2, q1, q2, q3, q4, ho, hcd⟩ := T.fn
  obtain ⟨nm, q, N, bs, sn, sub, ab, col, dd, k0, k1, k2, k3, k5, hC⟩ := Fs.ei_obj T.ei
  refine Att.call_fn (binds := [("self", .ref x), ("value", v)]) X hlim ho hcd hroom (BindsTo.of_eq (by first | rfl | with_unfolding_all rfl)) (by first | rfl | decide | with_unfolding_all rfl) (fun s₁ IC => ?_) rfl rfl rfl
  obtain ⟨h₁, tk₁, rfl⟩ := IC.toInCall.same
  have k : ∀ b o, s.heap.get? b = some o → h₁.get? b = some o := IC.toInCall.keep
  have hn := IC.toInCall.ns
  have hxL : s.heap.objs.size ≠ x := Nat.ne_of_gt (Heap.lt_size hx)
  have X₁ : K.In h₁ := X.keeps k
  have hx₁ := k _ _ hx
  -- self.by = by
  show wpAny _ _ (execs _ _) _ _ _
  refine wpAny_execs_cons (plainObj_wpAny_Assign_Attribute ?_)
  refine ldC (v := v) hn (by first | rfl | with_unfolding_all rfl | kernel_rfl) (ldC (v := .ref x) hn (by first | rfl | with_unfolding_all rfl | kernel_rfl) ?_)
  refine set_plain X₁ (ox := excO C t0) (od := none) ⟨hx₁, rfl, rfl, trivial⟩ T.sa ?_
  refine Fh.osaG_new T.ei (Fh.BK.sf .le) X₁ hx₁ T.noN (fun h₃ tk₃ dx k₃ dn dne hx₃ hn₃ => ?_)
  show wpAny _ _ (execs _ _) _ _ _
  have z : s.heap.objs.size < h₁.objs.size := hn.lt
  exact wpAny_execs_nil (hq h₃ tk₃ dx ⟨fun b o hb e => k₃ b o hb (k b o e), hx₃, Nat.le_of_lt (Nat.lt_of_lt_of_le z dn), dne, hn₃⟩)
theorem errU_made (T : ErrUxt K mg C fI) {v : Value} (X : K.In s.heap) (hlim : s.heap.NoLimit) (hroom : A.depth + 1 < recursionLimit)
    (hq : ∀ h' tk e d, OwnMade s.heap h' e C d v → R (.ok (.ret (.ref e))) { s with heap := h', toks := tk }) :
    codeAny (model prog w) A (.call (.ref C) ⟨[v], []⟩) R s := by
  obtain ⟨nm, q, N, bs, sn, sub, ab, col, dd, k0, k1, k2, k3, k5, hC⟩ := Fs.ei_obj T.ei
  obtain ⟨hp, g, dr, tk, os⟩ := s
  have k : ∀ b o, hp.get? b = some o → ((hp.push (kdv_tup [v])).push (excO C hp.objs.size)).get? b = some o := fun b o e => Heap.get?_push_of_some _ (Heap.get?_push_of_some _ e)
  have hget : ((hp.push (kdv_tup [v])).push (excO C hp.objs.size)).get? (hp.objs.size + 1) = some (excO C hp.objs.size) := by heap_get
  have hnx : K.lookup (hp.objs.size + 1) = none := by
    cases e : K.lookup (hp.objs.size + 1) with
    | none => rfl
    | some o =>
      have z : hp.get? (hp.objs.size + 1) = some o := X _ _ e
      exact absurd (Nat.lt_of_succ_lt (Heap.lt_size z)) (Nat.lt_irrefl _)
  refine call_own (Fh.BK.fb .le) (fun _ => rfl) (X _ _ hC) (looks_findIn X T.iC) (fun self => bind_fn X self T.tC) (one_size v) ?_
  refine errU_init (s := ⟨(hp.push (kdv_tup [v])).push (excO C hp.objs.size), g, dr, tk, os⟩) T (X.keeps k) (hlim.keeps k) hget hnx ?_ fun h' tk' dx ⟨k', hx, dn, dne, hns⟩ => ?_
  · show A.depth + 1 < recursionLimit
    exact hroom
  · have old : ∀ b o, hp.get? b = some o → h'.get? b = some o := fun b o e => k' b o (Nat.ne_of_lt (Nat.lt_succ_of_lt (Heap.lt_size e))) (k b o e)
    have z : hp.objs.size + 1 + 1 ≤ dx := by
      first
        | (simpa only [Heap.size_push] using dn)
        | exact dn
        | (have q := dn; rw [Heap.size_push, Heap.size_push] at q; exact q)
    exact ⟨rfl, hq h' tk' (hp.objs.size + 1) dx ⟨old, Nat.le_succ _, ⟨_, _, hx, rfl, rfl, rfl, rfl⟩, Nat.le_trans (Nat.le_trans (Nat.le_succ _) (Nat.le_succ _)) z, dne, hns⟩⟩
end
end ErrU
end PySem
namespace L2
open PySem PySem.Spec PyProof.Rows
theorem relO_errU {v : V} {v' : Value} (r : RelV v v') (f : Str) : RelO (List.lookup f [(("value" : Str), v)]) (if f = "value" then some v' else none) := by
  by_cases hw : f = "value"
  · subst hw
    rw [if_pos rfl]
    have q : List.lookup ("value" : Str) [(("value" : Str), v)] = some v := by simp [List.lookup]
    rw [q]
    exact r
  · rw [if_neg hw]
    have qw : (f == ("value" : Str)) = false := by simpa using hw
    have q2 : List.lookup f [(("value" : Str), v)] = none := by simp [List.lookup, qw]
    rw [q2]
    trivial
section
variable {X : Cx} {C fI : Addr}
/-- UnknownTask(e) -/
def tMkErrU (C : Addr) (ta : TA) : St → Hp → XK → Prop := fun σ H Q => ta σ H fun vs H1 => ∃ v, vs = [v] ∧ ∀ d, H1 d = none → Q (.ref C) (some d) (upd H1 d (.xd [(("value" : Str), v)]))
theorem pmk_errU {a : Expr} {ta : TA} {p pos : Pos} {k : Nat} (T : PySem.ErrU.ErrUxt X.K X.mg C fI) (hr : Room k X.A) (ha : PA X [a] ta) (hg : Gl X "UnknownTask" := by rfl)
    (he : starEach (a :: []) X.env = (false, eval a X.env) :: starEach [] X.env := by rfl) (hpl : (backTo pos (starEach [] X.env)).any (·.1) = false := by rfl) :
    PMk X (.Call (.Name "UnknownTask" p) [a] [] pos) (tMkErrU C ta) := by
  intro pins s σ H Q I h
  refine wpAny_Call_Name_kw (ld_glob I hg T.gC ?_)
  refine PySem.W.callWith_K (h₀ := X.base) I.ok.mod.kin T.kC (thn (ha.run pos pins s σ H _ I h) fun us s1 hh => ?_) he hpl
  obtain ⟨vs, H1, I1, r1, v, ev, q1⟩ := hh
  subst ev
  refine ⟨I1.kIn, ?_⟩
  cases r1 with
  | cons rv rn =>
    rename_i v' us'
    cases rn
    show wpAny _ _ (call (.ref C) [v']) _ _ _
    have hlim := I1.nolimit
    obtain ⟨hp, g, dr, tk, os⟩ := s1
    refine wpAny_call (PySem.ErrU.errU_made T I1.kIn hlim (by have := hr.dp; omega) fun h' tk' e d M => ?_)
    show MkP X pins σ Q (.ref e) ⟨h', g, dr, tk', os⟩
    obtain ⟨oe, fv, hoe, hc, hd, hdat, h1⟩ := M.obj
    have hns := M.ns
    obtain ⟨G', g1, g2⟩ := restrict h' fun b => decide (b ≠ e)
    have gk : ∀ b, b ≠ e → G'.get? b = h'.get? b := fun b hb => g1 b (decide_eq_true hb)
    have ge : G'.get? e = none := g2 e (by simp)
    have old : ∀ b o, hp.get? b = some o → G'.get? b = some o := fun b o q => (gk b (Nat.ne_of_lt (Nat.lt_of_lt_of_le (Heap.lt_size q) M.new))).trans (M.keep b o q)
    have ob : ObjOk X.prog X.w (upd H1 d (.xd [(("value" : Str), v)])) G' d (.xd [(("value" : Str), v)]) :=
      ⟨_, hns.at (fun o q => (gk d M.dne).trans q), fun f => relO_errU rv f⟩
    have J : Inv X pins σ (upd H1 d (.xd [(("value" : Str), v)])) ⟨G', g, dr, tk', os⟩ := I1.laid (t' := tk') old M.dbig ob
    refine ⟨e, oe, fv, ⟨G', g, dr, tk', os⟩, _, .ref C, some d, rfl, J, fun b o q => ?_, ge, hoe, ⟨hc, hd⟩, hdat, h1, ?_, rfl, I1.bare, raises_own T.exC T.tyC, q1 d (I1.hok.fresh M.dbig)⟩
    · by_cases hb : b = e
      · have q' : G'.get? b = some o := q
        rw [hb, ge] at q'; cases q'
      · exact (gk b hb).symm.trans q
    · rw [upd_ne (Ne.symm M.dne)]
      exact I1.hok.fresh M.new
/-- raise UnknownTask(e) -/
def tRaiseErrU (C : Addr) (W : WX) (ta : TA) : TS := fun _ σ H => tMkErrU C ta σ H fun cls d H' => W cls d σ H'
theorem ps_raiseErrU {a : Expr} {ta : TA} {W : WX} {p pos pos2 : Pos} {k : Nat} (hc : X.calm = true) (T : PySem.ErrU.ErrUxt X.K X.mg C fI) (hr : Room k X.A) (tk : Takes X W) (ha : PA X [a] ta) (hg : Gl X "UnknownTask" := by rfl)
    (he : starEach (a :: []) X.env = (false, eval a X.env) :: starEach [] X.env := by rfl) (hpl : (backTo pos (starEach [] X.env)).any (·.1) = false := by rfl) :
    PS X (.Raise (some (.Call (.Name "UnknownTask" p) [a] [] pos)) none pos2) (tRaiseErrU C W ta) := ps_raise hc tk (pmk_errU T hr ha hg he hpl)
/-- low.by, low the exception that the suite holds (at a; its class cls, its dict d) -/
def tErrUField (C : Addr) (a : Addr) (cls : Value) (d : Option Addr) (te : TE) : TE := fun σ H Q => te σ H fun x H1 => x = .ref a ∧ cls = .ref C ∧ ∃ (dd : Addr) (v : V), d = some dd ∧ H1 dd = some (.xd [(("value" : Str), v)]) ∧ Q v H1
theorem pe_errUField {a : Addr} {oe : Obj} {cls : Value} {d : Option Addr} {pn : List (Addr × Obj)} {e : Expr} {te : TE} {pos : Pos} (T : PySem.ErrU.ErrUxt X.K X.mg C fI) (hz : Zc cls d oe) (hf : ∃ vs, oe.data = .fields vs) (he : PE (X.suite a ((a, oe) :: pn)) e te)
    (hb : attributeBase e "value" X.env (eval e X.env) = eval e X.env := by rfl) :
    PE (X.suite a ((a, oe) :: pn)) (.Attribute e "value" pos) (tErrUField C a cls d te) := by
  refine ⟨fun pins s σ H Q I h => ?_⟩
  refine attr_of hb (thn (he.run pins s σ H _ I h) fun u s1 hh => ?_)
  obtain ⟨x, H1, I1, rx, ex, ec, dd, v, ed, ea, q⟩ := hh
  subst ex
  obtain rfl : u = Value.ref a := rx
  subst ec
  subst ed
  obtain ⟨ha, _⟩ := I1.pin (a, oe) (List.mem_append_left _ List.mem_cons_self)
  obtain ⟨vs, hd⟩ := hf
  have hx : ObjOk X.prog X.w H1 s1.heap dd (.xd [(("value" : Str), v)]) := I1.hok dd _ ea
  obtain ⟨mA, hns, hr⟩ := hx
  obtain ⟨od, ho, hl⟩ := lookIn_ns hns
  have l : List.lookup ("value" : Str) [(("value" : Str), v)] = some v := by simp [List.lookup]
  obtain ⟨u, hu, ru⟩ := RelO.some_of (v := v) (o := mA "value") (by rw [← l]; exact hr "value")
  have J : PySem.W.InstAt s1.heap a oe C (some od) := ⟨ha, hz.1, by unfold PySem.W.notCls; rw [hd] <;> rfl, by rw [hz.2]; exact ho⟩
  exact HandSPX.exc_get I1.kIn J T.ga T.gg T.exC (PySem.W.findObj_own T.hdC T.noN rfl (by rw [hl, hu])) (handed_of ru) ⟨v, H1, I1.tok _, ru, q⟩
end
end L2
set_option Elab.async false
set_option linter.all false
set_option maxRecDepth 100000
set_option maxHeartbeats 4000000
/-! FzS: the error UnknownTask where a suite holds it; its row of facts by the head's Bools -/
namespace Fs
open PySem PySem.Spec PyProof.Rows L2 Fh
open PySem.W (Frag)
theorem call_isEU {X : Cx} {a C fI : Addr} {oe : Obj} {cls : Value} {d : Option Addr} {pn : List (Addr × Obj)} (T : PySem.ErrU.ErrUxt X.K X.mg C fI) (U : ErrC X.K C) (hz : Zc cls d oe) (hf : ∃ vs, oe.data = .fields vs) : CallR (X.suite a ((a, oe) :: pn)) (.builtin "isinstance") (rIsED X.K C a cls d) := by
  intro pins s σ H xs us Q I r h
  obtain ⟨dd, fs, c, cv, b, rfl, ec, ed, hd, hc, e, q⟩ := h
  obtain ⟨u1, u2, rfl, r1, r2⟩ := vals2 r
  have e1 : u1 = Value.ref a := r1
  rw [e1, hc.eq r2]
  subst ec ed
  obtain ⟨ha, _⟩ := I.pin (a, oe) (List.mem_append_left _ List.mem_cons_self)
  obtain ⟨vs, hv⟩ := hf
  have hx : ObjOk X.prog X.w H s.heap dd (.xd fs) := I.hok dd _ hd
  obtain ⟨mA, hns, hr⟩ := hx
  obtain ⟨od, ho, hl⟩ := lookIn_ns hns
  have J : PySem.W.InstAt s.heap a oe C (some od) := ⟨ha, hz.1, by unfold PySem.W.notCls; rw [hv] <;> rfl, by rw [hz.2]; exact ho⟩
  exact PySem.W.kia_one (PySem.W.kitx_exc (od := some od) U.is T.ga T.gg T.exC U.cl U.hn U.ht U.hm) I.kIn J e (fun z => nomatch z) fun tk => ⟨.bl b, H, I.tok tk, rfl, q⟩
theorem errU_of {K : Frag} {mg : Str → Option Value} {C : Addr} (gC : mg "UnknownTask" = some (.ref C)) (T : EK K C .le) {fI : Addr} (no : PySem.W.findIn K (.ref C) "value" = some none) (iC : PySem.W.findIn K (.ref C) "__init__" = some (some (.ref fI))) (tI : PySem.W.typeIn K (.ref fI) = some (.type "function"))
    (fn : ∃ (oc : Value) (od : Option Addr) (kV doc pm : Value) (an : Option Addr) (cdv ct : Value) (osl : Array (Option Value)) (p1 p2 q1 q2 q3 q4 : Pos),
      K.lookup fI = some ⟨oc, od, .func (PySem.W.fnOf "__init__" "UnknownTask.__init__" (PySem.ErrU.iA p1 p2) (PySem.ErrU.iB q1 q2 q3 q4) PySem.ErrU.iS .none kV doc pm an cdv ct), osl⟩ ∧ PySem.W.codeIn K cdv "UnknownTask.__init__" = true) : PySem.ErrU.ErrUxt K mg C fI := by
  have sB : PySem.W.subIn K (.ref C) (.type "BaseException") = some true := by rw [T.sub]; rfl
  have sC : PySem.W.subIn K (.ref C) (.ref C) = some true := by rw [T.sub, List.contains_cons]; simp
  exact { gC := gC, ei := T, sa := T.sa, ga := T.ga, gg := T.gg, noN := no, iC := iC, tC := tI, kC := T.kC, exC := sB, tyC := T.ty, hdC := T.hd, te := PySem.W.exm_ref sB T.hd T.ty sC, fn := fn }
theorem errC_ofL {K : Frag} {C : Addr} (T : EK K C .le) : ErrC K C := by
  obtain ⟨cd, h1, _⟩ := T.cls
  exact ⟨by rw [h1]; rfl, T.cl, T.hn, T.ht, by rw [T.mroI]; rfl⟩
theorem errB_ofU {K : Frag} {C : Addr} (T : EK K C .le) : PySem.W.kitOne K (.ref C) (.type "LookupError") = some true := by
  rw [T.kitT (by decide +kernel)]
  rfl
end Fs
set_option Elab.async false
set_option linter.all false
set_option maxRecDepth 100000
set_option maxHeartbeats 4000000
/-! FzT: try with several except clauses, each with a name of its own for what it caught -/
namespace Fs
open PySem PySem.Spec PyProof.Rows L2
inductive HdsAs (X : Cx) : List ExceptHandler → List (Value × Nat × (Addr → Value → Option Addr → TS)) → Prop where
  | nil : HdsAs X [] []
  | cons {x n : Str} {c : Value} {i : Nat} {ts : Addr → Value → Option Addr → TS} {b₀ : Stmt} {suite : List Stmt} {np pos' : Pos} {hds : List ExceptHandler} {l : List (Value × Nat × (Addr → Value → Option Addr → TS))}
      (hi : X.N[i]? = some n) (hln : X.env.kindOf n = some .local) (hc : Names X x c)
      (hsu : ∀ (a : Addr) (oe : Obj) (cls : Value) (d : Option Addr) (pn : List (Addr × Obj)), Zc cls d oe → (∃ vs, oe.data = .fields vs) → PSs (X.suite a ((a, oe) :: pn)) (b₀ :: suite) (ts a cls d))
      (r : HdsAs X hds l) : HdsAs X (.ExceptHandler (some (.Name x np)) (some n) (b₀ :: suite) pos' :: hds) ((c, i, ts) :: l)
def wManyAs (K : PySem.W.Frag) (Wout : WX) (D : Ends) : List (Value × Nat × (Addr → Value → Option Addr → TS)) → WX
  | [] => Wout
  | (c, i, ts) :: r => fun cls d σ H => ∃ b, PySem.W.exmOne K cls c = some b ∧
      (b = true → ∀ a, H a = none → ts a cls d { nx := fun σ' H' => D.nx (σ'.set i none) H', rt := D.rt, bk := fun σ' H' => D.bk (σ'.set i none) H', ct := fun σ' H' => D.ct (σ'.set i none) H' } (σ.set i (some (.ref a))) H) ∧
      (b = false → wManyAs K Wout D r cls d σ H)
theorem ps_try_manyAs {X : Cx} {body : List Stmt} {h₀ : ExceptHandler} {hds : List ExceptHandler} {l : List (Value × Nat × (Addr → Value → Option Addr → TS))} {pos : Pos} {tb : WX → TS} {Wout : WX}
    (hs : X.stack = X.env :: X.outer) (hf : X.env.frame = some X.env.locals) (hN : X.N.Nodup) (tk : Takes X Wout)
    (hb : ∀ (W : WX) (pn : List (Addr × Obj)) (xe : Value → Shared → Prop), Takes (X.tr pn xe) W → PassesOwn (model X.prog X.w) X.A X.env xe → PSs (X.tr pn xe) body (tb W))
    (hh : HdsAs X (h₀ :: hds) l) : PS X (.Try body (h₀ :: hds) [] [] pos) fun D σ H => tb (wManyAs X.K Wout D l) D σ H := by
  refine ⟨fun pins s σ H D I h => ?_⟩
  have ok := I.ok
  have hfr := ok.frames
  rw [hs] at hfr
  refine wpAny_Try_except (wpAny_mono ((hb (wManyAs X.K Wout D l) (X.pn ++ pins) (fun e s₁ => wpAny (model X.prog X.w) X.A (noteFrame e X.env) (fun _ s₂ => wpAny (model X.prog X.w) X.A (setFlight e none) (fun _ s₃ => wpAny (model X.prog X.w) X.A (handleBy e X.env (h₀ :: hds)) (SP X pins D) X.xe s₃) X.xe s₂) X.xe s₁) ?tk PassesOwn.looking).run [] s σ H D (I.toTry _) h) ?nx ?er)
  case nx =>
    intro f s1 hsp
    cases f with
    | next =>
      obtain ⟨σ', H', J', q⟩ := hsp
      exact wpAny_execs_nil ⟨σ', H', J'.ofTry ok, q⟩
    | brk =>
      obtain ⟨σ', H', J', q⟩ := hsp
      exact ⟨σ', H', J'.ofTry ok, q⟩
    | cont =>
      obtain ⟨σ', H', J', q⟩ := hsp
      exact ⟨σ', H', J'.ofTry ok, q⟩
    | ret u =>
      obtain ⟨v, σ', H', J', r, q⟩ := hsp
      exact ⟨v, σ', H', J'.ofTry ok, r, q⟩
  case er => exact fun e s1 he => he
  case tk =>
    rintro u s' ⟨a, B, sI, _pins0, σ', H', cls, d, rfl, J', nb, up, sky, na, os, ag, hw⟩
    have J := J'.ofTry ok
    have sky' : Sky B (X.env :: X.outer) a (Zc cls d) X.env.locals s'.heap := by rw [← hs]; exact sky
    refine Sky.land Zc.steady hfr hf sky' fun h3 fl3 up3 => ?_
    have J3 : L2.Inv X pins σ' H' ⟨h3, s'.gens, s'.drawn, s'.toks, s'.os⟩ := Inv.landed J nb fl3.1 (Heap.UpToSlots.trans up up3) os ag
    obtain ⟨oe3, vs3, he3, hz3, hd3⟩ := HandSPX.FlyingZ.there fl3
    have nfr : ¬ a ∈ List.filterMap (fun x : Env => x.frame) (X.env :: X.outer) := by
      intro hm
      obtain ⟨_, o', e', hnf⟩ := Heap.FunFrames.mem fl3.2.2.1 hm
      rw [he3] at e'
      cases e'
      exact hnf _ hd3
    have nL : a ≠ X.env.locals := fun z => nfr (List.mem_filterMap.mpr ⟨X.env, List.mem_cons_self, by rw [hf, z]⟩)
    have nF : ¬ a ∈ X.fs := fun hm => by
      obtain ⟨e, he, q⟩ := List.mem_filterMap.mp hm
      exact nfr (List.mem_filterMap.mpr ⟨e, List.mem_cons_of_mem X.env he, q⟩)
    have S3 := Inv.suite J3 he3 hd3 na nL nF
    have go : ∀ (hds' : List ExceptHandler) (l' : List (Value × Nat × (Addr → Value → Option Addr → TS))), HdsAs X hds' l' → wManyAs X.K Wout D l' cls d σ' H' → wpAny (model X.prog X.w) X.A (handleBy (.ref a) X.env hds') (SP X pins D) X.xe ⟨h3, s'.gens, s'.drawn, s'.toks, s'.os⟩ := by
      intro hds' l' hh'
      induction hh' with
      | nil =>
        intro hno
        obtain ⟨k1, k2, k3, oe, vs, T, oT, ts', he, hz, hd, h1, hr⟩ := fl3
        refine wpAny_handleBy_nil (wpAny_bind (wpAny_field he hd h1 ?_))
        rw [if_neg (show ¬ (Value.ref T == Value.none) = true by simp)]
        refine wpAny_bind ?_
        rw [hf]
        exact HandSPX.setFlight_upZ ⟨k1, k2, k3, oe, vs, T, oT, ts', he, hz, hd, h1, hr⟩ fun h4 hh4 up4 => wpAny_throw (tk _ _ ⟨a, B, sI, pins, σ', H', cls, d, rfl, J, nb, Heap.UpToSlots.trans (Heap.UpToSlots.trans up up3) up4, .inr (.inr (by rw [hs]; exact hh4)), na, os, ag, hno⟩)
      | @cons x n c i ts b₀ suite np pos' hds l hi hln hc hsu r ih =>
        rintro ⟨b, hb1, hyes, hno⟩
        refine wpAny_handleBy_cons (codeAny_handlers_test ?_) (fun q => by cases q)
        have LT : PySem.W.Looks (model X.prog X.w) h3 (typeOf (.ref a)) cls := fun A Q E s k q => wpAny_typeOf_ref (k a oe3 he3) (by rw [hz3.1]; exact q)
        have LM := PySem.W.exm_one J3.kIn LT hb1
        have test : ∀ {Q : Value → Shared → Prop} {E : Value → Shared → Prop}, Q c ⟨h3, s'.gens, s'.drawn, s'.toks, s'.os⟩ → wpAny (model X.prog X.w) (X.A.mark (some (Value.ref a))) (eval (.Name x np) X.env) Q E ⟨h3, s'.gens, s'.drawn, s'.toks, s'.os⟩ := by
          intro Q E q
          obtain ⟨hg, hdbg, hm | ⟨hm, hv, hnn⟩⟩ := hc
          · exact ld_glob S3 hg hm q hdbg
          · exact ld_blt S3 hg hm hv q hnn hdbg
        refine test (PySem.W.Looks.here LM ?_)
        cases b with
        | false => exact ih (hno rfl)
        | true =>
          refine codeAny_handlers_suite_as (HandSPX.lands_againZ fl3 fun h4 fl4 up4 => ?_)
          have J4 : L2.Inv X pins σ' H' ⟨h4, s'.gens, s'.drawn, s'.toks, s'.os⟩ := Inv.landed J nb fl4.1 (Heap.UpToSlots.trans (Heap.UpToSlots.trans up up3) up4) os ag
          obtain ⟨oe4, vs4, he4, hz4, hd4⟩ := HandSPX.FlyingZ.there fl4
          have S4 := Inv.suite J4 he4 hd4 na nL nF
          refine store_ok (X := X.suite a ((a, oe4) :: (X.pn ++ pins))) S4 hN hi (Or.inl hln) (v := .ref a) rfl (fun s5 S5 => ?_) (Or.inr hln)
          refine wpAny_mono ((hsu a oe4 cls d (X.pn ++ pins) hz4 ⟨vs4, hd4⟩).run [] s5 (σ'.set i (some (V.ref a))) H' _ S5 (hyes rfl a na)) (fun f s6 hsp => ?_) (fun x y z => False.elim z)
          have end_ : ∀ {σ6 : L2.St} {H6 : Hp} {Q : Unit → Shared → Prop}, L2.Inv (X.suite a ((a, oe4) :: (X.pn ++ pins))) [] σ6 H6 s6 → (∀ s7, L2.Inv X pins (σ6.set i none) H6 s7 → Q () s7) → _ := fun S6 hq => gone_ok (E := X.xe) (pos := pos') (M := model X.prog X.w) (A := X.A) (Q := _) (Inv.unsuite S6 ok) hN hi hln hq
          cases f with
          | next =>
            obtain ⟨σ6, H6, S6, q6⟩ := hsp
            exact end_ S6 fun s7 J7 => ⟨_, H6, J7, q6⟩
          | brk =>
            obtain ⟨σ6, H6, S6, q6⟩ := hsp
            exact end_ S6 fun s7 J7 => ⟨_, H6, J7, q6⟩
          | cont =>
            obtain ⟨σ6, H6, S6, q6⟩ := hsp
            exact end_ S6 fun s7 J7 => ⟨_, H6, J7, q6⟩
          | ret u =>
            obtain ⟨v6, σ6, H6, S6, r6, q6⟩ := hsp
            exact end_ S6 fun s7 J7 => ⟨v6, _, H6, J7, r6, q6⟩
    exact go _ _ hh hw
end Fs
set_option Elab.async false
set_option linter.all false
set_option maxRecDepth 100000
set_option maxHeartbeats 4000000
/-! FzU: what a def tells of three errors: InvalidPlan, TooMany, UnknownTask -/
namespace Fs
open PySem PySem.Spec PyProof.Rows L2 Fh LamX
open PySem.W (Frag)
theorem boot_oerr : bootBuiltins "OverflowError" = some (.type "OverflowError") := by decide +kernel
theorem boot_lerr : bootBuiltins "LookupError" = some (.type "LookupError") := by decide +kernel
/-- the three errors, none below another -/
structure Err3 (K : Frag) (mg : Str → Option Value) (CP fP CM fM CU fU : Addr) : Prop where
  P : PySem.ErrP.ErrPxt K mg CP fP
  M : PySem.ErrM.ErrMxt K mg CM fM
  U : PySem.ErrU.ErrUxt K mg CU fU
  cM : ErrC K CM
  cU : ErrC K CU
  eP : PySem.W.exmOne K (.ref CP) (.ref CP) = some true
  MP : PySem.W.exmOne K (.ref CM) (.ref CP) = some false
  UP : PySem.W.exmOne K (.ref CU) (.ref CP) = some false
  UM : PySem.W.exmOne K (.ref CU) (.ref CM) = some false
  oM : PySem.W.kitOne K (.ref CM) (.type "OverflowError") = some true
  lU : PySem.W.kitOne K (.ref CU) (.type "LookupError") = some true
/-- what is told of an error -/
def ToldE (K : Frag) (CP CM CU : Addr) (Q : VK) : XK := fun cls d H' =>
  (cls = .ref CP ∧ ∃ (dd : Addr) (v : V) (e : PyData), d = some dd ∧ H' dd = some (.xd [("value", v)]) ∧ Db K H' v e ∧ Rp e ∧ ∀ t, H' t = none → Q (.ref t) (upd H' t (.tup [.str "plan", .str e.shown]))) ∨
  (cls = .ref CM ∧ ∃ (dd : Addr) (v : V), d = some dd ∧ H' dd = some (.xd [("limit", v)]) ∧ ∀ t, H' t = none → Q (.ref t) (upd H' t (.tup [.str "many", v]))) ∨
  (cls = .ref CU ∧ ∃ (dd : Addr) (v : V), d = some dd ∧ H' dd = some (.xd [("value", v)]) ∧ ∀ t, H' t = none → Q (.ref t) (upd H' t (.tup [.str "task", v])))
/-- told: try: a() / except InvalidPlan as e: .. / except TooMany as e: .. / except UnknownTask as e: .. / return None -/
def TTold3 (K : Frag) (CP CM CU : Addr) : (XK → Hp → VK → Prop) → Hp → VK → Prop := fun tl H Q => tl (ToldE K CP CM CU Q) H (fun _ H' => Q .non H')
theorem told_gives3 {X : Cx} {x q : Str} {sg : Scope} {g CP fP CM fM CU fU : Addr} {cdg : Value} {k1 k2 k3 k4 k5 k6 k7 k8 k9 : Nat} {o1 o2 : Str} {p1 p2 p3 p4 p5 p6 p7 p8 p9 q1 q2 q3 q4 q5 q6 q7 q8 q9 q0 r1 r2 r3 r4 r5 r6 r7 r8 r9 s1 s2 s3 s4 s5 s6 s7 s8 s9 p0' p1' p2' p3' : Pos} (ET : Err3 X.K X.mg CP fP CM fM CU fU)
    (hS : (X.K.lookup sysModules).isSome = true) (gd : X.A.guards = some []) (hu : Room 1 X.A) (mr : X.mg "repr" = none) (mi : X.mg "isinstance" = none) (mo : X.mg "OverflowError" = none) (ml : X.mg "LookupError" = none)
    (hg1 : sg.names.lookup ("InvalidPlan" : Str) = some .globalImplicit) (hg2 : sg.names.lookup ("TooMany" : Str) = some .globalImplicit) (hg3 : sg.names.lookup ("UnknownTask" : Str) = some .globalImplicit)
    (hgr : sg.names.lookup ("repr" : Str) = some .globalImplicit) (hgi : sg.names.lookup ("isinstance" : Str) = some .globalImplicit) (hgo : sg.names.lookup ("OverflowError" : Str) = some .globalImplicit) (hgl : sg.names.lookup ("LookupError" : Str) = some .globalImplicit) (hle : sg.names.lookup ("e" : Str) = some .local) :
    LamX.GivesTo X ["_law_call", "e"] x sg g cdg [.Try [.Expr (.Call (.Name "_law_call" p1) [] [] p2) p3]
      [.ExceptHandler (some (.Name "InvalidPlan" p4)) (some "e") [.Return (some (.Tuple [.Constant (.str "plan") k1 p5, .Call (.Name "repr" p6) [.Attribute (.Name "e" p7) "value" p8] [] p9] k2 q1)) q2] q3,
       .ExceptHandler (some (.Name "TooMany" q4)) (some "e") [.Return (some (.IfExp (.Call (.Name "isinstance" q5) [.Name "e" q6, .Name "OverflowError" q7] [] q8) (.Tuple [.Constant (.str "many") k3 q9, .Attribute (.Name "e" q0) "limit" r1] k4 r2) (.Constant (.str o1) k5 r3) r4)) r5] r6,
       .ExceptHandler (some (.Name "UnknownTask" r7)) (some "e") [.Return (some (.IfExp (.Call (.Name "isinstance" r8) [.Name "e" r9, .Name "LookupError" s1] [] s2) (.Tuple [.Constant (.str "task") k6 s3, .Attribute (.Name "e" s4) "value" s5] k7 s6) (.Constant (.str o2) k8 s7) s8)) s9] p0']
      [] [] p1', .Return (some (.Constant .none k9 p2')) p3'] "_law_call" q (TTold3 X.K CP CM CU) := by
  intro f c' s H Q tl act hc h
  have G : ∀ {n : Str}, sg.names.lookup n = some .globalImplicit → Gl (cxOf C8.CX0 X.prog X.w X.K X.mg X.base ["_law_call", "e"] x sg g cdg X.A X.stack s H C8.E0).nox n := fun h => h
  refine ⟨_, pss_cons (ps_try_manyAs (X := (cxOf C8.CX0 X.prog X.w X.K X.mg X.base ["_law_call", "e"] x sg g cdg X.A X.stack s H C8.E0).nox) (Wout := fun _ _ _ _ => False)
      (tb := fun W D σ H => ∃ Ech : XK, (∀ cls d σ' H', σ'.length = 2 → Ech cls d H' → W cls d σ' H') ∧ σ[0]? = some (some (.ref f)) ∧ H c' = some (LamX.CodeO c' q) ∧ tl Ech H (fun _ H' => D.nx σ H'))
      rfl rfl (show (["_law_call", "e"] : List Str).Nodup by decide +kernel) L2.takes0 (fun W pn xe tk _ => ?_)
      (.cons (i := 1) (c := .ref CP) rfl hle ⟨G hg1, by decide, .inl ET.P.gC⟩ (fun a oe cls d pn hz hf => pss_one (ps_ret (pe_tup (pa_cons pe_str (pa_cons (pe_callB (r := rReprB X.K) (call_reprB hS ?gd ?hu) hgr mr boot_repr (pa_cons (pe_errPField ET.P hz hf (pe_var (i := 1) rfl (Or.inl hle))) pa_nil)) pa_nil)))))
      (.cons (i := 1) (c := .ref CM) rfl hle ⟨G hg2, by decide, .inl ET.M.gC⟩ (fun a oe cls d pn hz hf => pss_one (ps_ret (pe_ifExp (pt_val (pe_callB (r := rIsED X.K CM a cls d) (call_isEM ET.M ET.cM hz hf) hgi mi boot_isinst (pa_cons (pe_var (i := 1) rfl (Or.inl hle)) (pa_cons (pe_bltn (v := .ty "OverflowError") hgo mo boot_oerr rfl (by decide) (by decide)) pa_nil))))
        (pe_tup (pa_cons pe_str (pa_cons (pe_errMField ET.M hz hf (pe_var (i := 1) rfl (Or.inl hle))) pa_nil))) pe_str)))
      (.cons (i := 1) (c := .ref CU) rfl hle ⟨G hg3, by decide, .inl ET.U.gC⟩ (fun a oe cls d pn hz hf => pss_one (ps_ret (pe_ifExp (pt_val (pe_callB (r := rIsED X.K CU a cls d) (call_isEU ET.U ET.cU hz hf) hgi mi boot_isinst (pa_cons (pe_var (i := 1) rfl (Or.inl hle)) (pa_cons (pe_bltn (v := .ty "LookupError") hgl ml boot_lerr rfl (by decide) (by decide)) pa_nil))))
        (pe_tup (pa_cons pe_str (pa_cons (pe_errUField ET.U hz hf (pe_var (i := 1) rfl (Or.inl hle))) pa_nil))) pe_str))) .nil)))) (pss_one (ps_ret pe_non)), ?_⟩
  case gd =>
    refine Eq.trans (b := X.A.guards) ?_ gd
    first | rfl | simp [Around.mark, Around.deeper]
  case hu =>
    have z := (hu.deeper (envOfC x sg s.heap.objs.size g cdg)).units
    first | exact z | simpa [Around.mark] using z | (refine Nat.lt_of_le_of_lt ?_ z; simp [Around.mark, Around.deeper])
  · refine ⟨fun pins s' σ H' D I h' => ?_⟩
    obtain ⟨Ech, hW, h1, h2, h3⟩ := h'
    have hp := act (fun cls d σ H => σ.length = 2 → W cls d σ H) pn xe Ech p1 p2 (LamY.takes_len tk) (fun cls d σ' H' e l => hW cls d σ' H' l e)
    have hq := pss_one (ps_expr (pos := p3) hp)
    exact hq.run pins s' σ H' D I ⟨h1, h2, h3⟩
  · refine ⟨ToldE X.K CP CM CU Q, fun cls d σ' H' hl hw => ?_, rfl, hc, h⟩
    have here : ∀ {a0 : Addr}, (σ'.set 1 (some (V.ref a0)))[1]? = some (some (V.ref a0)) := List.getElem?_set_self (by omega)
    rcases hw with ⟨rfl, dd, v, y, e2, e3, e4, e4', e5⟩ | ⟨rfl, dd, v, e2, e3, e5⟩ | ⟨rfl, dd, v, e2, e3, e5⟩
    · exact ⟨true, ET.eP, fun _ a0 _ => ⟨_, here, rfl, rfl, dd, v, e2, e3, _, _, rfl, e4, e4', (show 2 ≤ sizeLine by decide), e5⟩, fun q => nomatch q⟩
    · refine ⟨false, ET.MP, (fun q => nomatch q), fun _ => ⟨true, ET.M.te, fun _ a0 _ => ?_, fun q => nomatch q⟩⟩
      exact ⟨_, here, dd, _, _, _, true, rfl, rfl, e2, e3, .ty _, ET.oM, _, rfl, iteT ⟨_, here, rfl, rfl, dd, v, e2, e3, (show 2 ≤ sizeLine by decide), e5⟩⟩
    · refine ⟨false, ET.UP, (fun q => nomatch q), fun _ => ⟨false, ET.UM, (fun q => nomatch q), fun _ => ⟨true, ET.U.te, fun _ a0 _ => ?_, fun q => nomatch q⟩⟩⟩
      exact ⟨_, here, dd, _, _, _, true, rfl, rfl, e2, e3, .ty _, ET.lU, _, rfl, iteT ⟨_, here, rfl, rfl, dd, v, e2, e3, (show 2 ≤ sizeLine by decide), e5⟩⟩
end Fs
set_option Elab.async false
set_option linter.all false
set_option maxRecDepth 100000
set_option maxHeartbeats 8000000
/-! checked_plan, Book.__init__, set_plan with any plan: what they raise, in their order -/
namespace Fp6
open PySem PySem.Spec PyProof.Rows L2 Fh Fs
open PySem.W (Frag)
mutual
theorem gd_exta {K : Frag} {H H' : Hp} {a C dx : Addr} {fs : List (Str × V)} (s : Ext a H H') (ha : H a = some (.ins C dx fs)) : ∀ {v : V} {d : PyData}, Gd K H v d → Gd K H' v d
  | _, _, .non => .non
  | _, _, .bl b => .bl b
  | _, _, .int i => .int i
  | _, _, .str x h => .str x h
  | _, _, .lst h r => .lst (s _ _ (fun q => by rw [q, ha] at h; cases h) h) (gds_exta s ha r)
  | _, _, .tup h r => .tup ((KeepT.exta s ha).sqT h) (gds_exta s ha r)
  | _, _, .dct h => .dct (s _ _ (fun q => by rw [q, ha] at h; cases h) h)
  | _, _, .dctN h n => .dctN (s _ _ (fun q => by rw [q, ha] at h; cases h) h) n
theorem gds_exta {K : Frag} {H H' : Hp} {a C dx : Addr} {fs : List (Str × V)} (s : Ext a H H') (ha : H a = some (.ins C dx fs)) : ∀ {v : List V} {d : List PyData}, Gds K H v d → Gds K H' v d
  | _, _, .nil => .nil
  | _, _, .cons h r => .cons (gd_exta s ha h) (gds_exta s ha r)
end
/-- what comes of a plan -/
inductive Out where
  | bad (e : PyData)
  | many (k : Int)
  | odd (x : Str)
  | fine
/-- a plan, right by itself -/
structure Whole (n : Nat) (d : PyData) : Prop where
  rt : Rt n false d
  sh : Sh n d
  n20 : n ≤ 20
  w : d.weight ≤ 100000
  few : (namesF n d).length < 64
/-- what is due of a plan beside tasks of these names -/
inductive Due (n : Nat) (d : PyData) (ns : List Str) : Out → Prop where
  | bad {e : PyData} : chk (n + 1) false d = some (some e) → Due n d ns (.bad e)
  | names : Whole n d → 16 < (namesF n d).length → Due n d ns (.many 16)
  | levels : Whole n d → (namesF n d).length ≤ 16 → 5 < lvF n (nf n d) → Due n d ns (.many 5)
  | odd {x : Str} : Whole n d → (namesF n d).length ≤ 16 → lvF n (nf n d) ≤ 5 → x ∈ namesF n d → x ∉ ns → (∀ y ∈ namesF n d, y ∉ ns → x.cps.toList ≤ y.cps.toList) → Due n d ns (.odd x)
  | fine : Whole n d → (namesF n d).length ≤ 16 → lvF n (nf n d) ≤ 5 → (∀ y ∈ namesF n d, y ∈ ns) → Due n d ns .fine
theorem Due.congr {n : Nat} {d : PyData} {ns ms : List Str} {o : Out} (h : Due n d ns o) (e : ∀ y, y ∈ ns ↔ y ∈ ms) : Due n d ms o := by
  cases h with
  | bad a => exact .bad a
  | names a b => exact .names a b
  | levels a b c => exact .levels a b c
  | odd a b c p q r => exact .odd a b c p (fun z => q ((e _).mpr z)) fun y hy z => r y hy fun u => z ((e _).mp u)
  | fine a b c p => exact .fine a b c fun y hy => (e y).mp (p y hy)
theorem look_none {m : List (Str × V)} {y : Str} (h : y ∉ m.map (·.1)) : m.lookup y = none := by
  cases e : m.lookup y with
  | none => rfl
  | some v =>
    exfalso
    induction m with
    | nil => cases e
    | cons q m ih =>
      obtain ⟨k, u⟩ := q
      rw [List.map_cons, List.mem_cons, not_or] at h
      rw [List.lookup_cons, show (y == k) = false from beq_eq_false_iff_ne.mpr h.1] at e
      exact ih h.2 e
theorem least_of : ∀ {l : List Str}, l ≠ [] → ∃ x ∈ l, ∀ y ∈ l, x.cps.toList ≤ y.cps.toList
  | [], h => absurd rfl h
  | [a], _ => ⟨a, List.mem_cons_self, fun y hy => by rw [List.mem_singleton.mp hy]; exact List.le_refl _⟩
  | a :: b :: l, _ => by
    obtain ⟨x, hx, h⟩ := least_of (l := b :: l) (fun z => nomatch z)
    rcases List.le_total a.cps.toList x.cps.toList with z | z
    · refine ⟨a, List.mem_cons_self, fun y hy => ?_⟩
      rcases List.mem_cons.mp hy with e | e
      · rw [e]; exact List.le_refl _
      · exact List.le_trans z (h y e)
    · refine ⟨x, List.mem_cons_of_mem _ hx, fun y hy => ?_⟩
      rcases List.mem_cons.mp hy with e | e
      · rw [e]; exact z
      · exact h y e
theorem due_some {n : Nat} {d : PyData} (ns : List Str) (h : Whole n d) : ∃ o, Due n d ns o ∧ ∀ e, o ≠ .bad e := by
  by_cases h1 : 16 < (namesF n d).length
  · exact ⟨_, .names h h1, fun _ z => nomatch z⟩
  by_cases h2 : 5 < lvF n (nf n d)
  · exact ⟨_, .levels h (by omega) h2, fun _ z => nomatch z⟩
  by_cases h3 : ∀ y ∈ namesF n d, y ∈ ns
  · exact ⟨_, .fine h (by omega) (by omega) h3, fun _ z => nomatch z⟩
  have ne : ((namesF n d).filter fun y => !decide (y ∈ ns)) ≠ [] := fun z => h3 fun y hy => by
    have q := List.filter_eq_nil_iff.mp z y hy
    simpa using q
  obtain ⟨x, hx, lx⟩ := least_of ne
  obtain ⟨x1, x2⟩ := List.mem_filter.mp hx
  exact ⟨.odd x, .odd h (by omega) (by omega) x1 (by simpa using x2) (fun y hy hn => lx y (List.mem_filter.mpr ⟨hy, by simpa using hn⟩)), fun _ z => nomatch z⟩
/-- a value that is asked about -/
structure AskV (K : Frag) (H : Hp) (v : V) (d : PyData) (o : Out) : Prop where
  gd : Gd K H v d
  pl : (∀ e, o ≠ .bad e) → Pl K H v d
theorem AskV.same {K : Frag} {H H' : Hp} {v : V} {d : PyData} {o : Out} (h : AskV K H v d o) (s : Same H H') : AskV K H' v d o := ⟨h.gd.same s, fun z => (h.pl z).same s⟩
theorem AskV.exta {K : Frag} {H H' : Hp} {a C dx : Addr} {fs : List (Str × V)} {v : V} {d : PyData} {o : Out} (h : AskV K H v d o) (s : Ext a H H') (ha : H a = some (.ins C dx fs)) : AskV K H' v d o := ⟨gd_exta s ha h.gd, fun z => (h.pl z).keep (KeepT.exta s ha)⟩
/-- the wish of the error that is due -/
def OutE (K : Frag) (CP CM CU : Addr) (E : XK) (H' : Hp) : Out → Prop
  | .bad e => ∀ v' dd, Gd K H' v' e → H' dd = some (.xd [("value", v')]) → E (.ref CP) (some dd) H'
  | .many k => ∀ dd, H' dd = some (.xd [("limit", .int k)]) → E (.ref CM) (some dd) H'
  | .odd x => ∀ dd, H' dd = some (.xd [("value", .str x)]) → E (.ref CU) (some dd) H'
  | .fine => True
theorem sorted_pairs {l : List Str} (h : sortedS l = true) : l.Pairwise fun a b => a.cps.toList ≤ b.cps.toList := by
  cases l with
  | nil => exact .nil
  | cons x r => exact rising_pairs r x h
theorem str_le_antisymm {a b : Str} (u : a.cps.toList ≤ b.cps.toList) (v : b.cps.toList ≤ a.cps.toList) : a = b := by
  have e2 : a.cps = b.cps := Array.toList_inj.mp (List.le_antisymm u v)
  cases a
  cases b
  cases e2
  rfl
section
variable {P : Program} {w : World} {K : Frag} {mg : Str → Option Value} {base : Heap} {aF aM aD CE aE CP fP aC aA aW aI aH aN aT aS aV aL : Addr} {fC fA fW fI fH fN fT fS fV fL : FuncData} {CM fM CU fU : Addr}
def spCpA (K : Frag) (CP CM CU : Addr) (n : Nat) : Sp := fun vs H Q E => ∃ v d t m o, vs = [v, .ref t] ∧ H t = some (.dK (tD m)) ∧ AskV K H v d o ∧ Due n d (m.map (·.1)) o ∧ (∀ H', Same H H' → OutE K CP CM CU E H' o) ∧ (o = .fine → ∀ x H', Same H H' → Pl K H' x (nf n d) → Q x H')
theorem ok_cpA {f : Addr} {fd : FuncData} (F : Fun K "checked_plan" "checked_plan" sCp f fd) (G : CpG K mg w aF aM aD CE aE CP fP aC aA aW aI aH aN aT aS aV aL fC fA fW fI fH fN fT fS fV fL) (T : TxtB mg) (E3 : Err3 K mg CP fP CM fM CU fU) (n : Nat) : FnOk P w K mg base (L2.CX P w) (n + 6) f fd ["plan", "tasks"] (spCpA K CP CM CU n) := by
  have GC : FnOk P w K mg base (L2.CX P w) (n + 4) aC fC ["plan", "is_within"] (spCk K CP (n + 1)) := ok_ck G.C (n + 1)
  have GN : FnOk P w K mg base CX0 (n + 3) aN fN ["plan"] (spNf K n) := ok_nf G.FN G.FT G.FS G.gN G.gT G.gS G.C.T G.C.TK n
  have GV := ok_ni (P := P) (w := w) (base := base) G.FV G.gV G.C.T G.C.TK n
  have GL := ok_lv (P := P) (w := w) (base := base) G.FL G.gL T.max G.C.T G.C.TK n
  obtain ⟨dsC, vC, bC⟩ := ck_one G.C.FC
  have bN : Binds K fN ["plan"] [] := G.FN.binds (ps := ["plan"]) fun _ _ _ _ _ _ us hl => match us, hl with | [_], _ => rfl
  have bV : Binds K fV ["plan"] [] := G.FV.binds (ps := ["plan"]) fun _ _ _ _ _ _ us hl => match us, hl with | [_], _ => rfl
  have bL : Binds K fL ["plan"] [] := G.FL.binds (ps := ["plan"]) fun _ _ _ _ _ _ us hl => match us, hl with | [_], _ => rfl
  refine F.okX scCp (fun vs H Q E h => ?_) (fun cdv A outer s H vs Q E hr h => ?_)
  · obtain ⟨v, d, t, m, o, rfl, _⟩ := h
    rfl
  · obtain ⟨v, d, t, m, o, rfl, hm, av, du, ke, k⟩ := h
    have hr1 : Room 1 _ := hr.mono (show 1 ≤ n + 5 by omega)
    have hu := hu_of hr1
    obtain ⟨u1, g16⟩ := T.NAMES
    obtain ⟨u2, g5⟩ := T.LEVELS
    refine' ⟨_, pss_cons ?s1 (pss_cons ?s2 (pss_cons ?s3 (pss_cons ?s4 (pss_cons ?s5 (pss_cons ?s6 (pss_one (ps_ret (pv 3)))))))), ?q⟩
    case s1 => exact ps_expr (pe_call GC (hr.mono (by omega)) rfl G.C.gC G.C.FC.kp bC vC (passes_call (takes_of rfl rfl rfl rfl) fun _ _ _ _ h => h) (pa_cons (pv 0) pa_nil))
    case s2 => exact ps_set (i := 2) scCp.nd rfl (Or.inl rfl) (pe_callB cr_sortedS (by rfl) T.sorted (by decide +kernel) (pa_cons (pe_call GV (hr.mono (by omega)) rfl G.gV G.FV.kp bV .nil pass0 (pa_cons (pv 0) pa_nil)) pa_nil))
    case s3 => exact ps_if (pt_cmpR op_gt (pe_callB call_len_seq (by rfl) G.C.T.len PySem.boot_len (pa_cons (pv 2) pa_nil)) (pe_glob (v := .int 16) (by rfl) g16 ⟨_, rfl⟩) (nomark _)) (pss_one (ps_raiseErrM rfl E3.M hr1 (takes_of rfl rfl rfl rfl) (pa_cons (pe_glob (v := .int 16) (by rfl) g16 ⟨_, rfl⟩) pa_nil))) pss_nil
    case s4 => exact ps_set (i := 3) scCp.nd rfl (Or.inl rfl) (pe_call GN (hr.mono (by omega)) rfl G.gN G.FN.kp bN .nil pass0 (pa_cons (pv 0) pa_nil))
    case s5 => exact ps_if (pt_cmpR op_gt (pe_call GL (hr.mono (by omega)) rfl G.gL G.FL.kp bL .nil pass0 (pa_cons (pv 3) pa_nil)) (pe_glob (v := .int 5) (by rfl) g5 ⟨_, rfl⟩) (nomark _)) (pss_one (ps_raiseErrM rfl E3.M hr1 (takes_of rfl rfl rfl rfl) (pa_cons (pe_glob (v := .int 5) (by rfl) g5 ⟨_, rfl⟩) pa_nil))) pss_nil
    case s6 => exact ps_for (passes_of rfl) rfl (pi_list (pv 2)) (pg_name (i := 4) scCp.nd rfl (Or.inl rfl)) (pss_one (ps_if (pt_cmp (pc_dnotin hu (pv 4) (pv 1))) (pss_one (ps_raiseErrU rfl E3.U hr1 (takes_of rfl rfl rfl rfl) (pa_cons (pv 4) pa_nil))) pss_nil))
    case q =>
      by_cases hb : ∃ e, o = .bad e
      · obtain ⟨e, rfl⟩ := hb
        cases du with
        | bad er => exact ⟨_, rfl, v, d, false, some e, rfl, av.gd, er, fun z => (nomatch z), fun e1 z v' dd H' s' gv hd => by cases z; exact ke H' s' v' dd gv hd⟩
      · have hb' : ∀ e, o ≠ .bad e := fun e z => hb ⟨e, z⟩
        have hv := av.pl hb'
        have wh : Whole n d := by
          cases du with
          | bad er => exact absurd rfl (hb' _)
          | names a _ => exact a
          | levels a _ _ => exact a
          | odd a _ _ _ _ _ => exact a
          | fine a _ _ _ => exact a
        obtain ⟨rt, sh, hn, hw, few⟩ := wh
        refine ⟨_, rfl, v, d, false, none, rfl, hv.gd rt.short, rt_chk rt, fun _ H1 s1 => ?_, fun e z => nomatch z⟩
        refine ⟨_, rfl, v, d, rfl, hv.same s1, sh, by omega, fun l H2 s2 nl hl => ⟨l, namesF n d, rfl, SqL.of hl, few, fun ys p pm so np => ?_⟩⟩
        have s3 : Same H2 (upd H2 p (.lst (ys.map V.str))) := Same.new np
        have hp : (upd H2 p (.lst (ys.map V.str))) p = some (.lst (ys.map V.str)) := upd_same
        generalize upd H2 p (.lst (ys.map V.str)) = H3 at s3 hp ⊢
        have s13 := (s1.trans s2).trans s3
        have ly := pm.length_eq
        refine gName_go ?_
        with_reducible conv => whnf
        refine ⟨_, rfl, p, _, rfl, Or.inl (SqL.of hp), _, _, rfl, rfl, decide (16 < (namesF n d).length), congrArg V.bl (decide_eq_decide.mpr (by rw [List.length_map]; omega)), ?_⟩
        by_cases l16 : 16 < (namesF n d).length
        · rw [decide_eq_true l16]
          obtain rfl : o = .many 16 := by
            cases du with
            | bad er => exact absurd rfl (hb' _)
            | names _ _ => rfl
            | levels _ z _ => omega
            | odd _ z _ _ _ _ => omega
            | fine _ z _ _ => omega
          exact iteT ⟨_, rfl, fun dd nd => ke _ (s13.trans (Same.new nd)) dd upd_same⟩
        rw [decide_eq_false l16]
        refine iteF ?_
        refine ⟨_, rfl, v, d, rfl, hv.same s13, sh, by omega, by omega, fun x H4 s4 hx => ?_⟩
        refine gName_go ?_
        with_reducible conv => whnf
        have wn := w_nf n d
        refine ⟨_, rfl, x, nf n d, rfl, hx, sh_nf sh, by omega, fun H5 s5 => ?_⟩
        have s45 := s4.trans s5
        refine ⟨_, _, rfl, rfl, decide (5 < lvF n (nf n d)), congrArg V.bl (decide_eq_decide.mpr (by omega)), ?_⟩
        by_cases l5 : 5 < lvF n (nf n d)
        · rw [decide_eq_true l5]
          obtain rfl : o = .many 5 := by
            cases du with
            | bad er => exact absurd rfl (hb' _)
            | names _ z => omega
            | levels _ _ _ => rfl
            | odd _ _ z _ _ _ => omega
            | fine _ _ z _ => omega
          exact iteT ⟨_, rfl, fun dd nd => ke _ ((s13.trans s45).trans (Same.new nd)) dd upd_same⟩
        rw [decide_eq_false l5]
        refine iteF ?_
        have so' := sorted_pairs so
        refine ⟨_, rfl, p, rfl, ⟨_, SqL.of (s45 _ _ hp)⟩, for_list (xs := ys.map V.str) (fun i σ H6 => ∃ z, σ = [some v, some (.ref t), some (.ref p), some x, z] ∧ Same H5 H6 ∧ ∀ y ∈ ys.take i, y ∈ m.map (·.1)) ⟨none, rfl, Same.refl _, fun y hy => by rw [List.take_zero] at hy; cases hy⟩ (fun _ _ _ _ ⟨_, _, z, _⟩ => SqL.of (z _ _ (s45 _ _ hp))) ?_ ?_⟩
        · rintro i x' σ H6 hx' ⟨z, rfl, s6, before⟩
          obtain ⟨y, gy, rfl, hy⟩ := at_strs hx'
          refine gName_go ?_
          with_reducible conv => whnf
          have gt : DGet H6 t (.str y) (m.lookup y) := .inl ⟨tD m, .inr y, .inl (s6 _ _ (s45 _ _ (s13 _ _ hm))), rfl, by rw [tD_val]⟩
          refine ⟨_, rfl, _, rfl, t, m.lookup y, rfl, gt, !(m.lookup y).isSome, rfl, ?_⟩
          by_cases hk : y ∈ m.map (·.1)
          · obtain ⟨v', lv, _⟩ := look_in hk
            rw [lv]
            refine iteF ⟨_, rfl, s6, fun u hu => ?_⟩
            rw [List.take_add_one, gy] at hu
            rcases List.mem_append.mp hu with q | q
            · exact before u q
            · rw [List.mem_singleton.mp q]; exact hk
          · have ln : m.lookup y = none := look_none hk
            rw [ln]
            obtain rfl : o = .odd y := by
              have hyn : y ∈ namesF n d := pm.mem_iff.mp hy
              cases du with
              | bad er => exact absurd rfl (hb' _)
              | names _ z => omega
              | levels _ _ z => omega
              | @odd x0 _ _ _ h1 h2 h3 =>
                have e : x0 = y := by
                  refine str_le_antisymm (h3 y hyn hk) ?_
                  obtain ⟨j, hj, gj⟩ := List.mem_iff_getElem.mp (pm.mem_iff.mpr h1)
                  have hi : i < ys.length := (List.getElem?_eq_some_iff.mp gy).1
                  have gi : ys[i] = y := (List.getElem?_eq_some_iff.mp gy).2
                  rcases Nat.lt_or_ge j i with lt | ge
                  · exfalso
                    refine h2 (before x0 ?_)
                    rw [← gj]
                    exact List.mem_take_iff_getElem.mpr ⟨j, by omega, rfl⟩
                  · rcases Nat.eq_or_lt_of_le ge with e | lt
                    · subst e
                      rw [← gj, ← gi]
                      exact List.le_refl _
                    · have := List.pairwise_iff_getElem.mp so' i j hi hj lt
                      rw [gi, gj] at this
                      exact this
                rw [e]
              | fine _ _ _ z => exact absurd (z y hyn) hk
            exact iteT ⟨_, rfl, _, rfl, fun dd nd => ke _ (((s13.trans s45).trans s6).trans (Same.new nd)) dd upd_same⟩
        · rintro σ H6 ⟨z, rfl, s6, all⟩
          obtain rfl : o = .fine := by
            cases du with
            | bad er => exact absurd rfl (hb' _)
            | names _ z => omega
            | levels _ _ z => omega
            | odd _ _ _ h1 h2 _ =>
              rw [List.length_map, List.take_length] at all
              exact absurd (all _ (pm.mem_iff.mpr h1)) h2
            | fine _ _ _ _ => rfl
          exact ⟨_, rfl, k rfl x H6 ((s13.trans s45).trans s6) (hx.same (s5.trans s6))⟩
end
section
variable {P : Program} {w : World} {K : Frag} {mg : Str → Option Value} {base : Heap} {aF aM aD CE aE CT aW aR aH aA aI gE g1 g2 g3 g4 g5 g6 p1 p2 p3 p4 p5 p6 : Addr} {fW fR fH fA fI fE f1 f2 f3 f4 f5 f6 : FuncData} {CP fP aC aa aw ai ah aN aT aS aV aL : Addr} {fC fa fw fi fh fN fT fS fV fL : FuncData} {CM fM CU fU : Addr}
  {CB cK cJ cO cP cT cS cM cN cV : Addr} {dK dJ dO dP dT' dS dM dN dV : FuncData}
def spBkA (K : Frag) (CB CT CP CM CU : Addr) (n : Nat) : Sp := fun vs H Q E => ∃ a dx kd td v d mk mt ts R o, vs = [.ref a, .ref kd, .ref td, v] ∧ H a = some (.ins CB dx []) ∧ H kd = some (.dK (tD mk)) ∧ RightK K H mk R ∧ H td = some (.dK (tD mt)) ∧ TsAt CT H mt ts ∧ RightT ts ∧ Bare ts ∧ AskV K H v d o ∧ Due n d (ts.map (·.1)) o ∧
  (∀ H', Ext a H H' → OutE K CP CM CU E H' o) ∧ (o = .fine → ∀ ks us m1 m2 H', Ext a H H' → MadeK K H mk R ks → MadeT ts us → (∀ q ∈ m2, q ∈ mt) → BookW K CB CT H' a m1 m2 ks us (nf n d) → Q .non H')
theorem ok_bkA {f : Addr} {fd : FuncData} (F : Fun K "__init__" "Book.__init__" sBkI f fd) (G : Pkg K mg w aF aM aD CE aE CT aW aR aH aA aI fW fR fH fA fI) (M : Mets K CT gE g1 g2 g3 g4 g5 g6 p1 p2 p3 p4 p5 p6 fE f1 f2 f3 f4 f5 f6)
    (CG : CpG K mg w aF aM aD CE aE CP fP aC aa aw ai ah aN aT aS aV aL fC fa fw fi fh fN fT fS fV fL) (E3 : Err3 K mg CP fP CM fM CU fU) (B : BkG K mg CB cK cJ cO cP cT cS cM cN cV dK dJ dO dP dT' dS dM dN dV) (n : Nat) : FnOk P w K mg base (L2.CX P w) (n + 7) f fd NBk (spBkA K CB CT CP CM CU n) := by
  have GK : FnOk P w K mg base CX0 5 cK dK ["kinds"] (spCks K) := ok_cks B.FK B.FJ B.gJ B.FO B.gO G.FR G.FW G.gR G.gW G.TR G.TK G.T
  have GT : FnOk P w K mg base CX0 3 cT dT' ["tasks"] (spCts K CT) := ok_cts B.FT B.FS B.gS G
  have GP : FnOk P w K mg base (L2.CX P w) (n + 6) cP dP ["plan", "tasks"] (spCpA K CP CM CU n) := ok_cpA B.FP CG G.T E3 n
  have GM : FnOk P w K mg base CX0 5 cM dM ["tasks"] (spCm K CT) := ok_cm B.FM B.FN B.FV B.gN B.gV G M
  have bK : Binds K dK ["kinds"] [] := B.FK.binds (ps := ["kinds"]) fun _ _ _ _ _ _ us hl => match us, hl with | [_], _ => rfl
  have bT : Binds K dT' ["tasks"] [] := B.FT.binds (ps := ["tasks"]) fun _ _ _ _ _ _ us hl => match us, hl with | [_], _ => rfl
  have bP : Binds K dP ["plan", "tasks"] [] := B.FP.binds (ps := ["plan", "tasks"]) fun _ _ _ _ _ _ us hl => match us, hl with | [_, _], _ => rfl
  have bM : Binds K dM ["tasks"] [] := B.FM.binds (ps := ["tasks"]) fun _ _ _ _ _ _ us hl => match us, hl with | [_], _ => rfl
  refine F.okX scBk (fun vs H Q E h => ?_) (fun cdv A outer s H vs Q E hr h => ?_)
  · obtain ⟨a, dx, kd, td, v, d, mk, mt, ts, R, o, rfl, _⟩ := h
    rfl
  · obtain ⟨a, dx, kd, td, v, d, mk, mt, ts, R, o, rfl, ha, hk, rk, ht, tsa, rt, bare, av, du, ke, k⟩ := h
    refine' ⟨_, pss_cons (ps_fld (pv 0) ?s1 rfl) (pss_cons (ps_fld (pv 0) ?s2 rfl) (pss_cons (ps_fld (pv 0) ?s3 rfl) (pss_cons (ps_expr ?s4) (pss_cons (ps_fld (pv 0) pe_non rfl) (pss_one (ps_fld (pv 0) pe_non rfl)))))), ?q⟩
    case s1 => exact pe_call GK (hr.mono (by omega)) rfl B.gK B.FK.kp bK .nil pass0 (pa_cons (pv 1) pa_nil)
    case s2 => exact pe_call GT (hr.mono (by omega)) rfl B.gT B.FT.kp bT .nil pass0 (pa_cons (pv 2) pa_nil)
    case s3 => exact pe_call GP hr rfl B.gP B.FP.kp bP .nil (passes_call (takes_of rfl rfl rfl rfl) fun _ _ _ _ h => h) (pa_cons (pv 3) (pa_cons (pe_fld (pv 0) rfl) pa_nil))
    case s4 => exact pe_call GM (hr.mono (by omega)) rfl B.gM B.FM.kp bM .nil pass0 (pa_cons (pe_fld (pv 0) rfl) pa_nil)
    case q =>
      refine ⟨_, rfl, kd, mk, R, rfl, hk, rk, fun k1 m1 ks H1 s1 n1 e1 kt mk1 => ?_⟩
      refine ⟨_, rfl, a, CB, dx, [], rfl, s1 _ _ ha, B.C.cl, B.no_kinds, by decide, ?_⟩
      have d1 : k1 ≠ a := ne_of_none ha n1 |>.symm
      have x1 : Ext a H (upd H1 a (.ins CB dx (putF "_kinds" (.ref k1) []))) := fun b o nb z => by rw [upd_ne nb]; exact s1 _ _ z
      have a1 : (upd H1 a (.ins CB dx (putF "_kinds" (.ref k1) []))) a = some (.ins CB dx [("_kinds", .ref k1)]) := upd_same
      have e1' : (upd H1 a (.ins CB dx (putF "_kinds" (.ref k1) []))) k1 = some (.dK (tD m1)) := by rw [upd_ne d1]; exact e1
      have kt1 : KT (upd H1 a (.ins CB dx (putF "_kinds" (.ref k1) []))) m1 ks := kt.exta (fun b o nb z => by rw [upd_ne nb]; exact z) (s1 _ _ ha)
      have dT0 : td ≠ a := fun z => by rw [z, ha] at ht; cases ht
      have ht1 := x1 _ _ dT0 ht
      have ts1 := tsa.exta x1 ha (by decide)
      have av1 := av.exta x1 ha
      generalize upd H1 a (.ins CB dx (putF "_kinds" (.ref k1) [])) = G1 at x1 a1 e1' kt1 ht1 ts1 av1 ⊢
      refine ⟨_, rfl, td, mt, ts, rfl, ht1, ts1, rt, fun t2 m2 us H2 s2 n2 e2 ta2 mt2 sub2 => ?_⟩
      refine ⟨_, rfl, a, CB, dx, _, rfl, s2 _ _ a1, B.C.cl, B.no_tasks, Nat.le_of_ble_eq_true (by rfl), ?_⟩
      have d2 : t2 ≠ a := ne_of_none a1 n2 |>.symm
      have y2 : Ext a H2 (upd H2 a (.ins CB dx (putF "_tasks" (.ref t2) [("_kinds", .ref k1)]))) := fun b o nb z => by rw [upd_ne nb]; exact z
      have x2 : Ext a H (upd H2 a (.ins CB dx (putF "_tasks" (.ref t2) [("_kinds", .ref k1)]))) := fun b o nb z => y2 _ _ nb (s2 _ _ (x1 _ _ nb z))
      have a2 : (upd H2 a (.ins CB dx (putF "_tasks" (.ref t2) [("_kinds", .ref k1)]))) a = some (.ins CB dx [("_kinds", .ref k1), ("_tasks", .ref t2)]) := upd_same
      have e12 := y2 _ _ d1 (s2 _ _ e1')
      have kt2 := (kt1.same s2).exta y2 (s2 _ _ a1)
      have e22 := y2 _ _ d2 e2
      have ta22 := ta2.exta y2 (s2 _ _ a1) (by simp)
      have av2 := (av1.same s2).exta y2 (s2 _ _ a1)
      generalize upd H2 a (.ins CB dx (putF "_tasks" (.ref t2) [("_kinds", .ref k1)])) = G2 at x2 a2 e12 kt2 e22 ta22 av2 ⊢
      have du2 : Due n d (m2.map (·.1)) o := du.congr fun y => by
        rw [ta2.keys]
        exact mt2.1.mem_iff.symm
      refine ⟨_, rfl, _, rfl, a, CB, dx, _, _, rfl, a2, B.C.cl, B.no_tasks, rfl, v, d, t2, m2, o, rfl, e22, av2, du2, fun H' s' => ke H' (fun b o nb z => s' _ _ (x2 _ _ nb z)), fun fine x H3 s3 hx => ?_⟩
      refine ⟨_, rfl, a, CB, dx, _, rfl, s3 _ _ a2, B.C.cl, B.no_plan, Nat.le_of_ble_eq_true (by rfl), ?_⟩
      have y3 : Ext a H3 (upd H3 a (.ins CB dx (putF "_plan" x [("_kinds", .ref k1), ("_tasks", .ref t2)]))) := fun b o nb z => by rw [upd_ne nb]; exact z
      have x3 : Ext a H (upd H3 a (.ins CB dx (putF "_plan" x [("_kinds", .ref k1), ("_tasks", .ref t2)]))) := fun b o nb z => y3 _ _ nb (s3 _ _ (x2 _ _ nb z))
      have a3 : (upd H3 a (.ins CB dx (putF "_plan" x [("_kinds", .ref k1), ("_tasks", .ref t2)]))) a = some (.ins CB dx [("_kinds", .ref k1), ("_tasks", .ref t2), ("_plan", x)]) := upd_same
      have e13 := y3 _ _ d1 (s3 _ _ e12)
      have kt3 := (kt2.same s3).exta y3 (s3 _ _ a2)
      have e23 := y3 _ _ d2 (s3 _ _ e22)
      have ta3 := (ta22.keep (.of s3)).exta y3 (s3 _ _ a2) (by simp)
      have hx3 := hx.keep (KeepT.exta y3 (s3 _ _ a2))
      generalize upd H3 a (.ins CB dx (putF "_plan" x [("_kinds", .ref k1), ("_tasks", .ref t2)])) = G3 at x3 a3 e13 kt3 e23 ta3 hx3 ⊢
      refine ⟨_, rfl, a, CB, dx, _, _, rfl, a3, B.C.cl, B.no_tasks, rfl, t2, m2, us, rfl, e23, ta3, mt2.bare bare, fun H4 s4 => ?_⟩
      refine ⟨_, rfl, a, CB, dx, _, rfl, s4 _ _ a3, B.C.cl, B.no_steps, Nat.le_of_ble_eq_true (by rfl), ?_⟩
      refine ⟨_, rfl, a, CB, dx, _, rfl, upd_same, B.C.cl, B.no_survey, Nat.le_of_ble_eq_true (by rfl), ?_⟩
      have y4 : ∀ {A C : HO}, Ext a H4 (upd (upd H4 a A) a C) := fun b o nb z => by rw [upd_ne nb, upd_ne nb]; exact z
      exact k fine ks us m1 m2 _ (fun b o nb z => y4 _ _ nb (s4 _ _ (x3 _ _ nb z))) mk1 mt2 sub2 ⟨dx, k1, t2, x, upd_same, y4 _ _ d1 (s4 _ _ e13), (kt3.same s4).exta y4 (s4 _ _ a3), y4 _ _ d2 (s4 _ _ e23), (ta3.keep (.of s4)).exta y4 (s4 _ _ a3) (by simp), (hx3.same s4).keep (KeepT.exta y4 (s4 _ _ a3))⟩
def spBsA (K : Frag) (CB CT CP CM CU : Addr) (n : Nat) : Sp := fun vs H Q E => ∃ a v m1 m2 ks us d0 d o, vs = [.ref a, v] ∧ BookW K CB CT H a m1 m2 ks us d0 ∧ AskV K H v d o ∧ Due n d (us.map (·.1)) o ∧ (∀ H', Same H H' → OutE K CP CM CU E H' o) ∧ (o = .fine → ∀ H', Ext a H H' → BookW K CB CT H' a m1 m2 ks us (nf n d) → Q .non H')
theorem ok_bsA {f aF2 : Addr} {fd fF2 : FuncData} (F : Fun K "set_plan" "Book.set_plan" sBs f fd) (FF : Fun K "_forget" "Book._forget" sBf aF2 fF2) (mF : Meth K CB "_forget" aF2) (G : Pkg K mg w aF aM aD CE aE CT aW aR aH aA aI fW fR fH fA fI)
    (CG : CpG K mg w aF aM aD CE aE CP fP aC aa aw ai ah aN aT aS aV aL fC fa fw fi fh fN fT fS fV fL) (E3 : Err3 K mg CP fP CM fM CU fU) (B : BkG K mg CB cK cJ cO cP cT cS cM cN cV dK dJ dO dP dT' dS dM dN dV) (n : Nat) : FnOk P w K mg base (L2.CX P w) (n + 7) f fd ["self", "plan"] (spBsA K CB CT CP CM CU n) := by
  have GP : FnOk P w K mg base (L2.CX P w) (n + 6) cP dP ["plan", "tasks"] (spCpA K CP CM CU n) := ok_cpA B.FP CG G.T E3 n
  have GF : FnOk P w K mg base CX0 1 aF2 fF2 ["self"] (spBf CB) := ok_bf FF B
  have bP : Binds K dP ["plan", "tasks"] [] := B.FP.binds (ps := ["plan", "tasks"]) fun _ _ _ _ _ _ us hl => match us, hl with | [_, _], _ => rfl
  have bF : Binds K fF2 ["self"] [] := FF.binds (ps := ["self"]) fun _ _ _ _ _ _ us hl => match us, hl with | [_], _ => rfl
  refine F.okX scBs (fun vs H Q E h => ?_) (fun cdv A outer s H vs Q E hr h => ?_)
  · obtain ⟨a, v, m1, m2, ks, us, d0, d, o, rfl, _⟩ := h
    rfl
  · obtain ⟨a, v, m1, m2, ks, us, d0, d, o, rfl, ⟨dx, k1, t1, pl, ha, hk, kt, ht, ta, hp⟩, av, du, ke, go⟩ := h
    refine' ⟨_, pss_cons (ps_fld (pv 0) ?s1 rfl) (pss_one (ps_expr ?s2)), ?q⟩
    case s1 => exact pe_call GP hr rfl B.gP B.FP.kp bP .nil (passes_call (takes_of rfl rfl rfl rfl) fun _ _ _ _ h => h) (pa_cons (pv 1) (pa_cons (pe_fld (pv 0) rfl) pa_nil))
    case s2 => exact pe_meth0 (pv 0) B.C.cl mF GF (hr.mono (by omega)) bF .nil pass0
    case q =>
      have du2 : Due n d (m2.map (·.1)) o := by
        rw [ta.keys]
        exact du
      refine ⟨_, rfl, _, rfl, a, CB, dx, _, _, rfl, ha, B.C.cl, B.no_tasks, rfl, v, d, t1, m2, o, rfl, ht, av, du2, ke, fun fine x H1 s1 hx => ?_⟩
      have ha1 := s1 _ _ ha
      refine ⟨_, rfl, a, CB, dx, _, rfl, ha1, B.C.cl, B.no_plan, Nat.le_of_ble_eq_true (by rfl), ?_⟩
      have e1 : Ext a H1 (upd H1 a (.ins CB dx (putF "_plan" x (fldB (.ref k1) (.ref t1) pl)))) := fun b o nb z => by rw [upd_ne nb]; exact z
      have a1 : (upd H1 a (.ins CB dx (putF "_plan" x (fldB (.ref k1) (.ref t1) pl)))) a = some (.ins CB dx (fldB (.ref k1) (.ref t1) x)) := upd_same
      generalize upd H1 a (.ins CB dx (putF "_plan" x (fldB (.ref k1) (.ref t1) pl))) = H2 at e1 a1 ⊢
      refine ⟨_, rfl, a, dx, _, rfl, a1, rfl, ?_⟩
      refine ⟨a, dx, .ref k1, .ref t1, x, rfl, a1, fun H3 e3 a3 => ?_⟩
      have e13 : Ext a H1 H3 := fun b o nb z => e3 b o nb (e1 b o nb z)
      have nk : k1 ≠ a := fun z => by rw [z, ha] at hk; cases hk
      have nt : t1 ≠ a := fun z => by rw [z, ha] at ht; cases ht
      refine go fine H3 (fun b o nb z => e13 b o nb (s1 _ _ z)) ⟨dx, k1, t1, x, a3, e13 _ _ nk (s1 _ _ hk), (kt.same s1).exta e13 ha1, e13 _ _ nt (s1 _ _ ht), (ta.keep (.of s1)).exta e13 ha1 (by simp [fldB]), hx.keep (KeepT.exta e13 ha1)⟩
end
end Fp6
set_option Elab.async false
set_option linter.all false
set_option maxRecDepth 100000
set_option maxHeartbeats 1000000
/-! FzG: x in (a, b) where items are data of any depth; isinstance of str beside data -/
namespace L2
open PySem PySem.Spec PyProof.Rows
section
variable {X : Cx}
def rInDT (K : PySem.W.Frag) : R2 := fun x y H Q => ∃ d ds, Dp K H x d ∧ Dp K H y (.tuple ds) ∧ SeqAt.shaped d = true ∧ SeqAt.shaped (.tuple ds) = true ∧ Q (.bl (ds.any fun z => PyData.eqv z d)) H
theorem op_inDT (hu : X.A.units + 65 < cLine) : OpR X (compareOp .In) (rInDT X.K) := by
  intro pins s σ H x y v u Q I rx ry h
  obtain ⟨d, ds, hd, he, sd, se, q⟩ := h
  obtain ⟨as, r1⟩ := Dp.reads I d x v hd rx
  obtain ⟨bs, r2⟩ := Dp.reads I (.tuple ds) y u he ry
  exact SeqAt.in_tuple_reads r2 r1 (SeqAt.canLay_of_shaped se) (SeqAt.canLay_of_shaped sd) (room_in_shaped sd hu) ⟨.bl _, H, I, rfl, q⟩
end
end L2
set_option Elab.async false
set_option linter.all false
set_option maxRecDepth 100000
set_option maxHeartbeats 8000000
/-! _law_row, _law_two, _law_form: the law's own normal form -/
namespace Fp6
open PySem PySem.Spec PyProof.Rows L2 Fh Fs
open PySem.W (Frag)
abbrev sLrow : Stmt := top 92
abbrev sLtwo : Stmt := top 93
abbrev sLform : Stmt := top 94
def isStrD : PyData → Bool
  | .str _ => true
  | _ => false
theorem kit_strD (K : Frag) (d : PyData) : PySem.W.kitOne K (.type (tyn d)) (.type "str") = some (isStrD d) := by cases d <;> rfl
theorem sh_tup {n : Nat} {ds : List PyData} (h : ∀ d ∈ ds, Sh n d) (hn : n ≤ 60) : SeqAt.shaped (.tuple ds) = true := by
  have h1 : PyData.canLay0 (.tuple ds) = true := lay_all fun d hd => (h d hd).lay.1
  have h2 : PyData.depth (.tuple ds) ≤ n + 1 := by
    have := depth_all fun d hd => (h d hd).lay.2
    simp only [PyData.depth]
    omega
  unfold SeqAt.shaped
  rw [h1, decide_eq_true (by omega)]
  rfl
section
variable {P : Program} {w : World} {K : Frag} {mg : Str → Option Value} {base : Heap} {aF aM aD CE aE : Addr}
structure TxtL (mg : Str → Option Value) : Prop where
  isinstance : mg "isinstance" = none
  str : mg "str" = none
  len : mg "len" = none
  list : mg "list" = none
  tuple : mg "tuple" = none
theorem scLrow : FnScope ["_law_parts", "_law_found", "_law_part"] ["_law_parts"] (defScope sLrow) := ⟨rfl, rfl, rfl, by decide +kernel, rfl, by decide +kernel, by decide +kernel⟩
theorem ok_lrow {f : Addr} {fd : FuncData} (F : Fun K "_law_row" "_law_row" sLrow f fd) (T : TxtL mg) : FnOk P w K mg base CX0 1 f fd ["_law_parts"] (spTurn K) := by
  refine F.ok scLrow (fun vs H Q E h => ?_) (fun cdv A outer s H vs Q E hr h => ?_)
  · obtain ⟨l, xs, ds, n, rfl, _⟩ := h
    rfl
  · obtain ⟨l, xs, ds, n, rfl, hl, hp, sh, hw, k⟩ := h
    refine' ⟨_, pss_cons ?s1 (pss_cons ?s2 (pss_one ?s3)), ?q⟩
    case s1 => exact ps_set (i := 1) scLrow.nd rfl (Or.inl rfl) (pe_lst pa_nil)
    case s2 =>
      refine' ps_for PassesOwn.never rfl (pi_list (pv 0)) (pg_name (i := 2) scLrow.nd rfl (Or.inl rfl)) (pss_one (ps_expr (pe_bm PySem.F.plainAttrs_list PySem.F.slot_list_extend PySem.F.type_list_extend mt_extend (pv 1) (pa_cons (pe_ifExp (PW.pt (pw_and (pt_val ?a) (pw_and1 ?b))) ?c ?d) pa_nil))))
      case a => exact pe_callB call_isi (by rfl) T.isinstance (by decide +kernel) (pa_cons (pv 2) (pa_cons (pe_bltn (v := .ty "tuple") (by rfl) T.tuple (by decide +kernel) rfl (by decide) (by decide)) pa_nil))
      case b => exact pt_cmpR op_eq (pe_ix ix_tup (pv 2) pe_int (fun _ _ => rfl)) pe_str (nomark _)
      case c => exact pe_callTy call_list_of (by rfl) T.list (by decide +kernel) (pa_cons (pe_slice sl_tupA (pv 2) (po_some pe_int) po_none) pa_nil)
      case d => exact pe_lst (pa_cons (pv 2) pa_nil)
    case s3 => exact ps_ret (pe_ifExp (pt_cmpR op_eq (pe_callB call_len_seq (by rfl) T.len PySem.boot_len (pa_cons (pv 1) pa_nil)) pe_int (nomark _)) (pe_ix ix_list (pv 1) pe_int (fun _ _ => rfl)) (pe_op op_catA (pe_tup (pa_cons pe_str pa_nil)) (pe_callTy call_tuple_of (by rfl) T.tuple (by decide +kernel) (pa_cons (pv 1) pa_nil))))
    case q =>
      have ssz : sizeLine = 16777216 := sizeLine_eq
      refine ⟨(show 0 ≤ sizeLine by decide), fun f nf => ?_⟩
      refine gName_go ?_
      have lx := hp.len
      have s0 : Same H (upd H f (.lst [])) := Same.new nf
      have f0 : (upd H f (.lst [])) f = some (.lst []) := upd_same
      generalize upd H f (.lst []) = H0 at s0 f0 ⊢
      refine ⟨_, rfl, l, rfl, ⟨xs, sqL_same s0 hl⟩, ?_⟩
      refine for_it (walk_list (K := K) (a := l) (xs := xs)) (fun i σ Hh => ∃ o ys, σ = [some (.ref l), some (.ref f), o] ∧ Same H Hh ∧ Hh f = some (.lst ys) ∧ Pls K Hh ys (flatF (ds.take i))) ⟨none, [], rfl, s0, f0, .nil⟩ (fun i σ Hh _ ⟨_, _, _, z, _⟩ => sqL_same z hl) ?_ ?_
      · rintro i x σ Ha Hb hi ⟨o, ys, rfl, sa, ha, pa⟩ ⟨rfl, gx⟩
        have di : i < ds.length := by omega
        have gd : ds[i]? = some ds[i] := List.getElem?_eq_getElem di
        have dx := (hp.get gx gd).same sa
        have shi := sh ds[i] (List.getElem_mem di)
        have wi := w_mem (List.getElem_mem di)
        have tk : ds.take (i + 1) = ds.take i ++ [ds[i]] := by rw [List.take_add_one, gd]; rfl
        have wf : PyData.weightAll (flatF (ds.take i)) + (flat1 ds[i]).length ≤ 1000000 := by
          have h1 := w_flat (ds.take (i + 1))
          rw [tk, flat_snoc, w_app] at h1
          have h2 := w_len (flat1 ds[i])
          have h3 : PyData.weightAll (ds.take (i + 1)) ≤ PyData.weightAll ds := by
            have e := w_app (ds.take (i + 1)) (ds.drop (i + 1))
            rw [List.take_append_drop] at e
            omega
          rw [tk] at h3
          omega
        have ly := pa.len
        have wl := w_len (flatF (ds.take i))
        rw [tk, flat_snoc]
        generalize ds[i] = d at dx shi wf gd
        have ty := dx.ty
        have kt := kit_tup K d
        -- the list that the found ones are longer by
        have post : ∀ {q : Addr} {zs : List V} {Hc : Hp}, Same Hb Hc → Hb q = none → Hc q = some (.lst zs) → Pls K Hc zs (flat1 d) → ∃ l0 b ys0 zs0, V.ref f = V.ref l0 ∧ [V.ref q] = [V.ref b] ∧ Hc l0 = some (.lst ys0) ∧ Hc b = some (.lst zs0) ∧ ys0.length + zs0.length ≤ sizeLine ∧
            ∃ o ys', [some (V.ref l), some (V.ref f), some x] = [some (V.ref l), some (V.ref f), o] ∧ Same H (upd Hc l0 (.lst (ys0 ++ zs0))) ∧ (upd Hc l0 (.lst (ys0 ++ zs0))) f = some (.lst ys') ∧ Pls K (upd Hc l0 (.lst (ys0 ++ zs0))) ys' (flatF (ds.take i) ++ flat1 d) := fun {q zs Hc} sq nq gq pz => by
          have lz := pz.len
          have fq := sq _ _ ha
          exact ⟨f, q, ys, zs, rfl, rfl, fq, gq, by omega, _, _, rfl, same_off (sa.trans sq) nf, upd_same, ((pa.same sq).append pz).keep (KeepT.lst fq)⟩
        have alone : thenParts d = none → ∀ q, Hb q = none → Pls K (upd Hb q (.lst [x])) [x] (flat1 d) := fun e q nq => by
          have e2 : flat1 d = [d] := by unfold flat1; rw [e]
          rw [e2]
          exact .cons (dx.same (Same.new nq)) .nil
        refine ⟨.ref f, rfl, .inl ⟨rfl, _, SqL.of ha⟩, _, rfl, _, _, _, _, isTup d, rfl, .ty _, ty, kt, _, rfl, ?_⟩
        cases shi with
        | nm _ =>
          refine iteF (iteF ⟨_, rfl, (show 1 ≤ sizeLine by decide), fun q nq => ?_⟩)
          exact post (Same.new nq) nq upd_same (alone rfl q nq)
        | @nd n y es h1 h2 h3 =>
          cases dx with
          | @tup a vs _ hg r =>
            cases r with
            | @cons x0 d0 xs0 _ hx r =>
              cases hx
              refine iteT ⟨_, rfl, a, _, 0, _, rfl, rfl, hg, atI_nat rfl, rfl, decide (y = "then"), congrArg V.bl (eq_word _), ?_⟩
              by_cases e : y = "then"
              · subst e
                refine iteT ⟨_, rfl, 1, rfl, a, _, rfl, hg, fun z => tail_new xs0 z.1, fun _ q nq => ?_⟩
                rw [cut_tail]
                have sq : Same Hb (upd Hb q (.tup xs0)) := Same.new nq
                have gq : (upd Hb q (.tup xs0)) q = some (.tup xs0) := upd_same
                generalize upd Hb q (.tup xs0) = Hc at sq gq ⊢
                refine ⟨q, xs0, rfl, .inr (SqT.of gq), fun q2 nq2 => ?_⟩
                have nq0 : Hb q2 = none := by
                  cases ee : Hb q2 with
                  | none => rfl
                  | some o => rw [sq _ _ ee] at nq2; cases nq2
                exact post (sq.trans (Same.new nq2)) nq0 upd_same (r.same (sq.trans (Same.new nq2)))
              · rw [decide_eq_false e]
                refine iteF ⟨_, rfl, (show 1 ≤ sizeLine by decide), fun q nq => ?_⟩
                exact post (Same.new nq) nq upd_same (alone (if_neg e) q nq)
      · rintro σ Ha ⟨o, ys, rfl, sa, ha, pa⟩
        rw [lx, List.take_length] at pa
        have ly := pa.len
        have wl := w_len (flatF ds)
        have wf := w_flat ds
        refine ⟨_, rfl, f, _, rfl, .inl (SqL.of ha), rfl, decide (V.int (ys.length : Nat) = V.int 1), rfl, ?_⟩
        have inj : decide (V.int (ys.length : Nat) = V.int 1) = decide (ys.length = 1) := by
          by_cases h : ys.length = 1
          · rw [decide_eq_true h, decide_eq_true (by rw [h]; rfl)]
          · rw [decide_eq_false h, decide_eq_false (fun e => h (by injection e with e; omega))]
        rw [inj]
        have e0 : inTurn ds = (match flatF ds with | [d] => d | es => .tuple (.str "then" :: es)) := rfl
        by_cases h : ys.length = 1
        · rw [decide_eq_true h]
          match ys, h, flatF ds, pa, ly, e0 with
          | [v], _, [d], .cons hv .nil, _, e0 => exact iteT ⟨_, rfl, f, _, 0, v, rfl, rfl, SqL.of ha, atI_nat rfl, k v Ha sa (e0 ▸ hv)⟩
        · rw [decide_eq_false h]
          have e1 : inTurn ds = .tuple (.str "then" :: flatF ds) := by
            rw [e0]
            match flatF ds, ly with
            | [], _ => rfl
            | [d], ly => exact absurd ly h
            | _ :: _ :: _, _ => rfl
          refine iteF ⟨(show 1 ≤ sizeLine by decide), fun t0 nt0 => ?_⟩
          have s1 : Same Ha (upd Ha t0 (.tup [.str (Str.ofString "then")])) := Same.new nt0
          have g1 : (upd Ha t0 (.tup [.str (Str.ofString "then")])) t0 = some (.tup [.str (Str.ofString "then")]) := upd_same
          generalize upd Ha t0 (.tup [.str (Str.ofString "then")]) = H1 at s1 g1 ⊢
          refine ⟨_, rfl, f, ys, rfl, .inl ⟨SqL.of (s1 _ _ ha), fun t1 nt1 => ?_⟩⟩
          have s2 : Same H1 (upd H1 t1 (.tup ys)) := Same.new nt1
          have g2 : (upd H1 t1 (.tup ys)) t1 = some (.tup ys) := upd_same
          generalize upd H1 t1 (.tup ys) = H2 at s2 g2 ⊢
          have s12 := s1.trans s2
          refine ⟨t0, t1, _, ys, rfl, rfl, SqT.of (s2 _ _ g1), SqT.of g2, by show 1 + ys.length ≤ sizeLine; omega, (fun z => nomatch z), fun _ e => ?_, fun _ _ t nt => ?_⟩
          · subst e
            exact k (.ref t0) _ (sa.trans s12) (by
              rw [e1]
              have e3 : flatF ds = [] := List.eq_nil_of_length_eq_zero (by rw [← ly]; rfl)
              rw [e3]
              exact .tup (.of (s2 _ _ g1)) (.cons (.str _) .nil))
          · exact k (.ref t) _ ((sa.trans s12).trans (Same.new nt)) (by
              rw [e1]
              exact .tup (.of upd_same) (.cons (.str _) (pa.same (s12.trans (Same.new nt)))))
theorem room65 {k : Nat} {A : Around} (r : Room k A) : A.units + 65 < cLine := by have := r.un; omega
theorem scLtwo : FnScope ["_law_one", "_law_second"] ["_law_one", "_law_second"] (defScope sLtwo) := ⟨rfl, rfl, rfl, by decide +kernel, rfl, by decide +kernel, by decide +kernel⟩
theorem done_new {H : Hp} {t : Addr} (h : H t = some (.tup [.str (Str.ofString "then")])) : Pl K H (.ref t) doneD := .tup (SqT.of h) (.cons (.str _) .nil)
theorem ok_ltwo {f : Addr} {fd : FuncData} (F : Fun K "_law_two" "_law_two" sLtwo f fd) : FnOk P w K mg base CX0 1 f fd ["_law_one", "_law_second"] (spSide K) := by
  refine F.ok scLtwo (fun vs H Q E h => ?_) (fun cdv A outer s H vs Q E hr h => ?_)
  · obtain ⟨u, v, a, b, n, rfl, _⟩ := h
    rfl
  · obtain ⟨u, v, a, b, n, rfl, hu, hv, sa, sb, hn, k⟩ := h
    refine' ⟨_, pss_cons ?s1 (pss_one ?s2), ?q⟩
    case s1 =>
      refine' ps_if (pt_cmpR (op_inDT ?u) (pe_tup (pa_cons pe_str pa_nil)) (pe_tup (pa_cons (pv 0) (pa_cons (pv 1) pa_nil))) (by rfl)) (pss_one (ps_ret (pe_ifExp (pt_cmpR (op_eqD hr.units) (pv 0) (pe_tup (pa_cons pe_str pa_nil)) (nomark _)) (pv 1) (pv 0)))) pss_nil
      case u => exact room65 hr
    case s2 => exact ps_ret (pe_tup (pa_cons pe_str (pa_cons (pv 0) (pa_cons (pv 1) pa_nil))))
    case q =>
      have e0 : side a b = (if isDone a = true then b else if isDone b = true then a else .tuple [.str "beside", a, b]) := rfl
      refine ⟨(show 1 ≤ sizeLine by decide), fun t0 nt0 => ?_⟩
      have s1 : Same H (upd H t0 (.tup [.str (Str.ofString "then")])) := Same.new nt0
      have d1 : Pl K (upd H t0 (.tup [.str (Str.ofString "then")])) (.ref t0) doneD := done_new upd_same
      generalize upd H t0 (.tup [.str (Str.ofString "then")]) = H1 at s1 d1 ⊢
      refine ⟨_, rfl, _, rfl, (show 2 ≤ sizeLine by decide), fun t1 nt1 => ?_⟩
      have s2 : Same H1 (upd H1 t1 (.tup [u, v])) := Same.new nt1
      have hu2 := hu.same (s1.trans s2)
      have hv2 := hv.same (s1.trans s2)
      have p2 : Pl K (upd H1 t1 (.tup [u, v])) (.ref t1) (.tuple [a, b]) := .tup (SqT.of upd_same) (.cons hu2 (.cons hv2 .nil))
      have d2 := d1.same s2
      generalize upd H1 t1 (.tup [u, v]) = H2 at s2 hu2 hv2 p2 d2 ⊢
      have sA := s1.trans s2
      have sab : SeqAt.shaped (.tuple [a, b]) = true := sh_tup (n := n) (fun d hd => by
        rcases List.mem_cons.mp hd with rfl | z
        · exact sa
        · rw [List.mem_singleton.mp z]; exact sb) hn
      refine ⟨doneD, [a, b], d2.dp, p2.dp, done_shaped, sab, (isDone a || (isDone b || false)), rfl, ?_⟩
      rw [Bool.or_false]
      cases ea : isDone a with
      | true =>
        rw [e0, if_pos ea] at k
        refine iteT ⟨_, rfl, (show 1 ≤ sizeLine by decide), fun t3 nt3 => ?_⟩
        have s3 : Same H2 (upd H2 t3 (.tup [.str (Str.ofString "then")])) := Same.new nt3
        refine ⟨a, doneD, (hu2.same s3).dp, (done_new upd_same).dp, sa.shaped (by omega), done_shaped, isDone a, rfl, ?_⟩
        rw [ea]
        exact iteT ⟨_, rfl, k v _ (sA.trans s3) (hv2.same s3)⟩
      | false =>
        rw [e0, if_neg (by rw [ea]; exact fun z => nomatch z)] at k
        cases eb : isDone b with
        | true =>
          rw [if_pos eb] at k
          refine iteT ⟨_, rfl, (show 1 ≤ sizeLine by decide), fun t3 nt3 => ?_⟩
          have s3 : Same H2 (upd H2 t3 (.tup [.str (Str.ofString "then")])) := Same.new nt3
          refine ⟨a, doneD, (hu2.same s3).dp, (done_new upd_same).dp, sa.shaped (by omega), done_shaped, isDone a, rfl, ?_⟩
          rw [ea]
          exact iteF ⟨_, rfl, k u _ (sA.trans s3) (hu2.same s3)⟩
        | false =>
          rw [if_neg (by rw [eb]; exact fun z => nomatch z)] at k
          refine iteF ⟨_, rfl, _, rfl, (show 3 ≤ sizeLine by decide), fun t nt => k (.ref t) _ (sA.trans (Same.new nt)) (.tup (.of upd_same) (.cons (.str _) (.cons (hu2.same (Same.new nt)) (.cons (hv2.same (Same.new nt)) .nil))))⟩
end
end Fp6
set_option Elab.async false
set_option linter.all false
set_option maxRecDepth 100000
set_option maxHeartbeats 8000000
/-! _law_form: it gives what normal_form gives -/
namespace Fp6
open PySem PySem.Spec PyProof.Rows L2 Fh Fs
open PySem.W (Frag)
section
variable {P : Program} {w : World} {K : Frag} {mg : Str → Option Value} {base : Heap}
theorem scLf : FnScope ["_law_plan", "_law_parts", "_law_part"] ["_law_plan"] (defScope sLform) := ⟨rfl, rfl, rfl, by decide +kernel, rfl, by decide +kernel, by decide +kernel⟩
theorem step_lf {n kk : Nat} {sp' : Sp} {f aT aS : Addr} {fd fT fS : FuncData} (hk : 1 ≤ kk) (F : Fun K "_law_form" "_law_form" sLform f fd) (FT : Fun K "_law_row" "_law_row" sLrow aT fT) (FS : Fun K "_law_two" "_law_two" sLtwo aS fS) (gF : mg "_law_form" = some (.ref f)) (gT : mg "_law_row" = some (.ref aT)) (gS : mg "_law_two" = some (.ref aS))
    (T : TxtL mg) (GN : FnOk P w K mg base CX0 kk f fd ["_law_plan"] sp') (hs : ∀ j, n = j + 1 → sp' = spNf K j) : FnOk P w K mg base CX0 (kk + 1) f fd ["_law_plan"] (spNf K n) := by
  have GT : FnOk P w K mg base CX0 1 aT fT ["_law_parts"] (spTurn K) := ok_lrow FT T
  have GS : FnOk P w K mg base CX0 1 aS fS ["_law_one", "_law_second"] (spSide K) := ok_ltwo FS
  have bT : Binds K fT ["_law_parts"] [] := FT.binds (ps := ["_law_parts"]) fun _ _ _ _ _ _ us hl => match us, hl with | [_], _ => rfl
  have bS : Binds K fS ["_law_one", "_law_second"] [] := FS.binds (ps := ["_law_one", "_law_second"]) fun _ _ _ _ _ _ us hl => match us, hl with | [_, _], _ => rfl
  have bN : Binds K fd ["_law_plan"] [] := F.binds (ps := ["_law_plan"]) fun _ _ _ _ _ _ us hl => match us, hl with | [_], _ => rfl
  refine F.ok scLf (fun vs H Q E h => ?_) (fun cdv A outer s H vs Q E hr h => ?_)
  · obtain ⟨v, d, rfl, _⟩ := h
    rfl
  · obtain ⟨v, d, rfl, hv, sh, hn, hw, k⟩ := h
    have hr1 : Room 1 _ := hr.mono hk
    refine' ⟨_, pss_cons ?s1 (pss_cons ?s2 (pss_cons ?s3 (pss_one ?s4))), ?q⟩
    case s1 =>
      refine' ps_if (pt_val ?a) (pss_one (ps_ret (pv 0))) pss_nil
      case a => exact pe_callB call_isi (by rfl) T.isinstance (by decide +kernel) (pa_cons (pv 0) (pa_cons (pe_bltn (v := .ty "str") (by rfl) T.str (by decide +kernel) rfl (by decide) (by decide)) pa_nil))
    case s2 =>
      refine' ps_setLc (i := 1) (own := [("_law_part", 2)]) (g := gName 2) (tt := tYes) rfl scLf.nd rfl rfl (sw_true rfl rfl rfl (by decide +kernel)) (pi_tup (pe_slice sl_tupA (pv 0) (po_some pe_int) po_none)) (blkOk_by (N := ["_law_plan", "_law_parts", "_law_part"]) (sc := defScope sLform) (by decide +kernel)) (fun _ _ _ _ _ => pg_name (i := 2) scLf.nd rfl (Or.inl rfl)) (fun _ _ _ _ _ => pts_nil) ?e
      case e => exact fun _ _ _ _ _ => pe_call GN hr rfl gF F.kp bN .nil pass0 (pa_cons (pv 2) pa_nil)
    case s3 => exact ps_if (pt_cmpR op_eq (pe_ix ix_tup (pv 0) pe_int (fun _ _ => rfl)) pe_str (nomark _)) (pss_one (ps_ret (pe_call GT hr1 rfl gT FT.kp bT .nil pass0 (pa_cons (pv 1) pa_nil)))) pss_nil
    case s4 =>
      refine' ps_ret (pe_ifExp (pt_cmpR op_eq (pe_ix ix_tup (pv 0) pe_int (fun _ _ => rfl)) pe_str (nomark _)) ?a ?b)
      case a => exact pe_call GS hr1 rfl gS FS.kp bS .nil pass0 (pa_cons (pe_ix ix_list (pv 1) pe_int (fun _ _ => rfl)) (pa_cons (pe_ix ix_list (pv 1) pe_int (fun _ _ => rfl)) pa_nil))
      case b => exact pe_op op_catA (pe_tup (pa_cons (pe_ix ix_tup (pv 0) pe_int (fun _ _ => rfl)) pa_nil)) (pe_callTy call_tuple_of (by rfl) T.tuple (by decide +kernel) (pa_cons (pv 1) pa_nil))
    case q =>
      have ty := hv.ty
      have kt := kit_strD K d
      have ssz : sizeLine = 16777216 := sizeLine_eq
      refine ⟨_, rfl, _, _, _, _, isStrD d, rfl, .ty _, ty, kt, _, rfl, ?_⟩
      cases sh with
      | @nm _ y hy =>
        refine iteT ⟨_, rfl, ?_⟩
        have e : nf n (.str y) = .str y := by cases n <;> rfl
        rw [e] at k
        exact k v H (Same.refl _) hv
      | @nd n y ds h1 h2 h3 =>
        obtain rfl := hs n rfl
        refine iteF ?_
        cases hv with
        | @tup a vs _ hg r =>
          cases r with
          | @cons x0 d0 xs _ hx r =>
            cases hx
            have lx := r.len
            rw [w_tup, w_cons] at hw
            have wl := w_len ds
            refine ⟨_, rfl, 1, rfl, a, _, rfl, hg, fun z => tail_new xs z.1, fun _ q nq => ?_⟩
            rw [cut_tail]
            have sq : Same H (upd H q (.tup xs)) := Same.new nq
            have gq : (upd H q (.tup xs)) q = some (.tup xs) := upd_same
            generalize upd H q (.tup xs) = H1 at sq gq ⊢
            refine ⟨q, rfl, ⟨_, SqT.of gq⟩, fun D nD => ?_⟩
            refine lc_it (walk_tup (K := K) (a := q) (xs := xs)) (fun i Hh => ∃ ys, Pls K Hh ys ((ds.take i).map (nf n)) ∧ Hh D = some (.lst ys) ∧ Same H1 Hh) ⟨[], .nil, upd_same, Same.new nD⟩ (fun _ Hh _ ⟨_, _, _, z⟩ => SqT.of (z _ _ gq)) ?_ ?_
            · rintro i x Ha Hb hi ⟨ys, ey, hD, sa⟩ ⟨rfl, gx⟩
              refine ⟨rfl, ?_⟩
              refine yes_of ?_
              have di : i < ds.length := by omega
              have gd : ds[i]? = some ds[i] := List.getElem?_eq_getElem di
              have dx := (r.get gx gd).same (sq.trans sa)
              have mem : ds[i] ∈ ds := List.getElem_mem di
              have wm := w_mem mem
              have ly := ey.len
              rw [List.length_map, List.length_take] at ly
              refine ⟨_, rfl, x, ds[i], rfl, dx, h3 _ mem, by omega, by omega, fun z Hc sc hz => ?_⟩
              refine ⟨ys, sc _ _ hD, by omega, ys ++ [z], ?_, upd_same, ?_⟩
              · rw [List.take_add_one, gd, List.map_append]
                exact ((ey.same sc).snoc hz).keep (KeepT.lst (sc _ _ hD))
              · intro b' u z
                rw [upd_ne (fun e => by rw [e, nD] at z; cases z)]
                exact sc _ _ (sa _ _ z)
            · rintro Ha ⟨ys, ey, hD, sa⟩
              rw [lx, List.take_length] at ey
              have sA := sq.trans sa
              have hg2 := (KeepT.of sA).sqT hg
              have ly := ey.len
              rw [List.length_map] at ly
              have mm := w_map (w_nf n) ds
              have shm : ∀ e ∈ ds.map (nf n), Sh n e := fun e he => by
                obtain ⟨d, hd, rfl⟩ := List.mem_map.mp he
                exact sh_nf (h3 d hd)
              with_reducible conv => whnf
              refine ⟨_, rfl, a, _, 0, _, rfl, rfl, hg2, atI_nat rfl, rfl, decide (y = "then"), congrArg V.bl (eq_word _), ?_⟩
              have e0 : nf (n + 1) (.tuple (.str y :: ds)) = (if y = "then" then inTurn (ds.map (nf n)) else if y = "beside" then twoOf (ds.map (nf n)) (.tuple (.str y :: ds)) else .tuple (.str y :: ds.map (nf n))) := rfl
              rw [e0] at k
              by_cases e1 : y = "then"
              · rw [if_pos e1] at k
                rw [decide_eq_true e1]
                exact iteT ⟨_, rfl, D, ys, _, n, rfl, SqL.of hD, ey, shm, by omega, fun x H' s' hx => k x H' (sA.trans s') hx⟩
              · rw [if_neg e1] at k
                rw [decide_eq_false e1]
                refine iteF ⟨_, rfl, a, _, 0, _, rfl, rfl, hg2, atI_nat rfl, rfl, decide (y = "beside"), congrArg V.bl (eq_word _), ?_⟩
                by_cases e2 : y = "beside"
                · rw [if_pos e2] at k
                  rw [decide_eq_true e2]
                  subst e2
                  have l2 := beside_two h1
                  rw [l2] at ly
                  generalize ds.map (nf n) = ps at ey shm k
                  match ys, ps, ly, ey, k, shm with
                  | [u, v], [p, q], _, .cons hu (.cons hv .nil), k, shm =>
                    exact iteT ⟨_, rfl, D, _, 0, u, rfl, rfl, SqL.of hD, atI_nat rfl, _, rfl, D, _, 1, v, rfl, rfl, SqL.of hD, atI_nat rfl, u, v, p, q, n, rfl, hu, hv, shm _ List.mem_cons_self, shm _ (List.mem_cons_of_mem _ List.mem_cons_self), by omega, fun x H' s' hx => k x H' (sA.trans s') hx⟩
                · rw [if_neg e2] at k
                  rw [decide_eq_false e2]
                  refine iteF ⟨_, rfl, a, _, 0, _, rfl, rfl, hg2, atI_nat rfl, (show 1 ≤ sizeLine by decide), fun t0 nt0 => ?_⟩
                  have s1 : Same Ha (upd Ha t0 (.tup [.str y])) := Same.new nt0
                  have g1 : (upd Ha t0 (.tup [.str y])) t0 = some (.tup [.str y]) := upd_same
                  generalize upd Ha t0 (.tup [.str y]) = H3 at s1 g1 ⊢
                  refine ⟨_, rfl, D, ys, rfl, .inl ⟨SqL.of (s1 _ _ hD), fun t1 nt1 => ?_⟩⟩
                  have s2 : Same H3 (upd H3 t1 (.tup ys)) := Same.new nt1
                  have g2 : (upd H3 t1 (.tup ys)) t1 = some (.tup ys) := upd_same
                  generalize upd H3 t1 (.tup ys) = H4 at s2 g2 ⊢
                  have s12 := s1.trans s2
                  refine ⟨t0, t1, _, ys, rfl, rfl, SqT.of (s2 _ _ g1), SqT.of g2, by show 1 + ys.length ≤ sizeLine; omega, (fun z => nomatch z), fun _ e => ?_, fun _ _ t nt => ?_⟩
                  · subst e
                    have e3 : ds = [] := List.eq_nil_of_length_eq_zero (by rw [← ly]; rfl)
                    subst e3
                    exact k (.ref t0) _ (sA.trans s12) (.tup (.of (s2 _ _ g1)) (.cons (.str _) .nil))
                  · exact k (.ref t) _ ((sA.trans s12).trans (Same.new nt)) (.tup (.of upd_same) (.cons (.str _) (ey.same (s12.trans (Same.new nt)))))
theorem ok_lf {f aT aS : Addr} {fd fT fS : FuncData} (F : Fun K "_law_form" "_law_form" sLform f fd) (FT : Fun K "_law_row" "_law_row" sLrow aT fT) (FS : Fun K "_law_two" "_law_two" sLtwo aS fS) (gF : mg "_law_form" = some (.ref f)) (gT : mg "_law_row" = some (.ref aT)) (gS : mg "_law_two" = some (.ref aS))
    (T : TxtL mg) : ∀ n, FnOk P w K mg base CX0 (n + 3) f fd ["_law_plan"] (spNf K n)
  | 0 => step_lf (n := 0) (kk := 2) (sp' := fun _ _ _ _ => False) (by decide) F FT FS gF gT gS T (F.ok scLf (fun _ _ _ _ h => h.elim) (fun _ _ _ _ _ _ _ _ _ h => h.elim)) (fun j e => nomatch e)
  | n + 1 => step_lf (n := n + 1) (kk := n + 3) (sp' := spNf K n) (by omega) F FT FS gF gT gS T (ok_lf F FT FS gF gT gS T n) (fun j e => by cases e; rfl)
end
end Fp6
set_option Elab.async false
set_option linter.all false
set_option maxRecDepth 100000
set_option maxHeartbeats 8000000
/-! _law_names: the names from left to right -/
namespace Fp6
open PySem PySem.Spec PyProof.Rows L2 Fh Fs
open PySem.W (Frag)
abbrev sLn : Stmt := top 95
theorem names_w : ∀ (n : Nat) (d : PyData), (namesF n d).length ≤ d.weight + 1
  | 0, d => by
    cases d with
    | str y => exact Nat.le_add_left _ _
    | _ => exact Nat.zero_le _
  | n + 1, d => by
    match d with
    | .str y => rw [names_str]; exact Nat.le_add_left _ _
    | .tuple (y :: ds) =>
      rw [names_nd]
      have h : ∀ ds : List PyData, (ds.flatMap (namesF n)).length ≤ PyData.weightAll ds := fun ds => by
        induction ds with
        | nil => exact Nat.zero_le _
        | cons d r ih =>
          have := names_w n d
          rw [List.flatMap_cons, List.length_append, w_cons]
          omega
      have := h ds
      rw [w_tup, w_cons]
      omega
    | .tuple [] => exact Nat.zero_le _
    | .none => exact Nat.zero_le _
    | .bool _ => exact Nat.zero_le _
    | .int _ => exact Nat.zero_le _
    | .list _ => exact Nat.zero_le _
    | .dict _ => exact Nat.zero_le _
section
variable {P : Program} {w : World} {K : Frag} {mg : Str → Option Value} {base : Heap}
def spLn (K : Frag) (n : Nat) : Sp := fun vs H Q _ => ∃ v d, vs = [v] ∧ Pl K H v d ∧ Sh n d ∧ d.weight ≤ 900000 ∧ ∀ l H', Same H H' → H l = none → H' l = some (.lst ((namesF n d).map V.str)) → Q (.ref l) H'
theorem scLn : FnScope ["_law_plan", "_law_found", "_law_part"] ["_law_plan"] (defScope sLn) := ⟨rfl, rfl, rfl, by decide +kernel, rfl, by decide +kernel, by decide +kernel⟩
theorem step_ln {n kk : Nat} {sp' : Sp} {f : Addr} {fd : FuncData} (F : Fun K "_law_names" "_law_names" sLn f fd) (gF : mg "_law_names" = some (.ref f)) (T : TxtL mg)
    (GN : FnOk P w K mg base CX0 kk f fd ["_law_plan"] sp') (hs : ∀ j, n = j + 1 → sp' = spLn K j) : FnOk P w K mg base CX0 (kk + 1) f fd ["_law_plan"] (spLn K n) := by
  have bN : Binds K fd ["_law_plan"] [] := F.binds (ps := ["_law_plan"]) fun _ _ _ _ _ _ us hl => match us, hl with | [_], _ => rfl
  refine F.ok scLn (fun vs H Q E h => ?_) (fun cdv A outer s H vs Q E hr h => ?_)
  · obtain ⟨v, d, rfl, _⟩ := h
    rfl
  · obtain ⟨v, d, rfl, hv, sh, hw, k⟩ := h
    refine' ⟨_, pss_cons ?s1 (pss_cons ?s2 (pss_cons ?s3 (pss_one ?s4))), ?q⟩
    case s1 =>
      refine' ps_if (pt_val ?a) (pss_one (ps_ret (pe_lst (pa_cons (pv 0) pa_nil)))) pss_nil
      case a => exact pe_callB call_isi (by rfl) T.isinstance (by decide +kernel) (pa_cons (pv 0) (pa_cons (pe_bltn (v := .ty "str") (by rfl) T.str (by decide +kernel) rfl (by decide) (by decide)) pa_nil))
    case s2 => exact ps_set (i := 1) scLn.nd rfl (Or.inl rfl) (pe_lst pa_nil)
    case s3 =>
      refine' ps_for PassesOwn.never rfl (pi_tup (pe_slice sl_tupA (pv 0) (po_some pe_int) po_none)) (pg_name (i := 2) scLn.nd rfl (Or.inl rfl)) (pss_one (ps_expr (pe_bm PySem.F.plainAttrs_list PySem.F.slot_list_extend PySem.F.type_list_extend mt_extend (pv 1) (pa_cons ?a pa_nil))))
      case a => exact pe_call GN hr rfl gF F.kp bN .nil pass0 (pa_cons (pv 2) pa_nil)
    case s4 => exact ps_ret (pv 1)
    case q =>
      have ty := hv.ty
      have kt := kit_strD K d
      have ssz : sizeLine = 16777216 := sizeLine_eq
      refine ⟨_, rfl, _, _, _, _, isStrD d, rfl, .ty _, ty, kt, _, rfl, ?_⟩
      cases sh with
      | @nm _ y hy =>
        cases hv
        refine iteT ⟨_, rfl, (show 1 ≤ sizeLine by decide), fun q nq => k q _ (Same.new nq) nq ?_⟩
        rw [names_str]
        exact upd_same
      | @nd n y ds h1 h2 h3 =>
        obtain rfl := hs n rfl
        refine iteF ?_
        cases hv with
        | @tup a vs _ hg r =>
          cases r with
          | @cons x0 d0 xs _ hx r =>
            cases hx
            have lx := r.len
            rw [w_tup, w_cons] at hw
            have wl := w_len ds
            refine ⟨(show 0 ≤ sizeLine by decide), fun fo nf => gName_go ?_⟩
            have s0 : Same H (upd H fo (.lst [])) := Same.new nf
            have f0 : (upd H fo (.lst [])) fo = some (.lst []) := upd_same
            generalize upd H fo (.lst []) = H0 at s0 f0 ⊢
            refine ⟨_, rfl, 1, rfl, a, _, rfl, (KeepT.of s0).sqT hg, fun z => tail_new xs z.1, fun _ q nq => ?_⟩
            rw [cut_tail]
            have sq : Same H0 (upd H0 q (.tup xs)) := Same.new nq
            have gq : (upd H0 q (.tup xs)) q = some (.tup xs) := upd_same
            have f1 := sq _ _ f0
            have s1 := s0.trans sq
            generalize upd H0 q (.tup xs) = H1 at s1 gq f1 ⊢
            have fq : q ≠ fo := fun e => by rw [e, f1] at gq; cases gq
            refine ⟨q, rfl, ⟨_, SqT.of gq⟩, ?_⟩
            refine for_it (walk_tup (K := K) (a := q) (xs := xs)) (fun i σ Hh => ∃ o, σ = [some (.ref a), some (.ref fo), o] ∧ Same H Hh ∧ Hh q = some (.tup xs) ∧ Hh fo = some (.lst (((ds.take i).flatMap (namesF n)).map V.str))) ⟨none, rfl, s1, gq, f1⟩ (fun _ _ Hh _ ⟨_, _, _, z, _⟩ => SqT.of z) ?_ ?_
            · rintro i x σ Ha Hb hi ⟨o, rfl, sa, hq, hf⟩ ⟨rfl, gx⟩
              have di : i < ds.length := by omega
              have gd : ds[i]? = some ds[i] := List.getElem?_eq_getElem di
              have dx := (r.get gx gd).same sa
              have mem : ds[i] ∈ ds := List.getElem_mem di
              have wm := w_mem mem
              have nw := names_w n ds[i]
              have nl : (((ds.take i).flatMap (namesF n)).map V.str).length ≤ 900000 := by
                have h : ∀ ds : List PyData, (ds.flatMap (namesF n)).length ≤ PyData.weightAll ds := fun ds => by
                  induction ds with
                  | nil => exact Nat.zero_le _
                  | cons d r ih =>
                    have := names_w n d
                    rw [List.flatMap_cons, List.length_append, w_cons]
                    omega
                have h1 := h (ds.take i)
                have e := w_app (ds.take i) (ds.drop i)
                rw [List.take_append_drop] at e
                rw [List.length_map]
                omega
              refine gName_go ?_
              with_reducible conv => whnf
              refine ⟨.ref fo, rfl, .inl ⟨rfl, _, SqL.of hf⟩, _, rfl, x, ds[i], rfl, dx, h3 _ mem, by omega, fun l Hc sc nl2 gl => ?_⟩
              have hf2 := sc _ _ hf
              refine ⟨fo, l, _, _, rfl, rfl, hf2, gl, by have e1 : ((namesF n ds[i]).map V.str).length = (namesF n ds[i]).length := List.length_map ..; omega, _, rfl, same_off (sa.trans sc) nf, (upd_ne fq).trans (sc _ _ hq), ?_⟩
              rw [List.take_add_one, gd, List.flatMap_append, List.map_append]
              show _ = some (HO.lst (_ ++ (namesF n ds[i] ++ []).map V.str))
              rw [List.append_nil]
              exact upd_same
            · rintro σ Ha ⟨o, rfl, sa, hq, hf⟩
              rw [lx, List.take_length] at hf
              exact ⟨_, rfl, k fo Ha sa nf (by rw [names_nd]; exact hf)⟩
theorem ok_ln {f : Addr} {fd : FuncData} (F : Fun K "_law_names" "_law_names" sLn f fd) (gF : mg "_law_names" = some (.ref f)) (T : TxtL mg) : ∀ n, FnOk P w K mg base CX0 (n + 2) f fd ["_law_plan"] (spLn K n)
  | 0 => step_ln (n := 0) (kk := 1) (sp' := fun _ _ _ _ => False) F gF T (F.ok scLn (fun _ _ _ _ h => h.elim) (fun _ _ _ _ _ _ _ _ _ h => h.elim)) (fun j e => nomatch e)
  | n + 1 => step_ln (n := n + 1) (kk := n + 2) (sp' := spLn K n) F gF T (ok_ln F gF T n) (fun j e => by cases e; rfl)
end
end Fp6
set_option Elab.async false
set_option linter.all false
set_option maxRecDepth 100000
set_option maxHeartbeats 8000000
/-! _law_levels, _law_due: the law's own look -/
namespace Fp6
open PySem PySem.Spec PyProof.Rows L2 Fh Fs
open PySem.W (Frag)
abbrev sLl : Stmt := top 97
abbrev sDue : Stmt := top 98
abbrev NLl : List Str := ["_law_plan", "_law_found", "_law_part"]
abbrev NDue : List Str := ["_law_plan", "_law_known", "_law_form_here", "_law_strange", "_law_name"]
abbrev ADue : List Str := ["_law_plan", "_law_known"]
theorem mxL_snoc : ∀ (l : List Nat) (n : Nat), mxL (l ++ [n]) = max (mxL l) n
  | [], n => by
    show max n 0 = max 0 n
    omega
  | m :: l, n => by
    show max m (mxL (l ++ [n])) = max (max m (mxL l)) n
    rw [mxL_snoc l n]
    omega
section
variable {P : Program} {w : World} {K : Frag} {mg : Str → Option Value} {base : Heap}
theorem scLl : FnScope NLl ["_law_plan"] (defScope sLl) := ⟨rfl, rfl, rfl, by decide +kernel, rfl, by decide +kernel, by decide +kernel⟩
theorem step_ll {n kk : Nat} {sp' : Sp} {f : Addr} {fd : FuncData} (F : Fun K "_law_levels" "_law_levels" sLl f fd) (gF : mg "_law_levels" = some (.ref f)) (gm : mg "max" = none) (T : TxtL mg)
    (GN : FnOk P w K mg base CX0 kk f fd ["_law_plan"] sp') (hs : ∀ j, n = j + 1 → sp' = spLv K j) : FnOk P w K mg base CX0 (kk + 1) f fd ["_law_plan"] (spLv K n) := by
  have bN : Binds K fd ["_law_plan"] [] := F.binds (ps := ["_law_plan"]) fun _ _ _ _ _ _ us hl => match us, hl with | [_], _ => rfl
  refine F.ok scLl (fun vs H Q E h => ?_) (fun cdv A outer s H vs Q E hr h => ?_)
  · obtain ⟨v, d, rfl, _⟩ := h
    rfl
  · obtain ⟨v, d, rfl, hv, sh, hw, k⟩ := h
    refine' ⟨_, pss_cons ?s1 (pss_cons ?s2 (pss_cons ?s3 (pss_one ?s4))), ?q⟩
    case s1 =>
      refine' ps_if (pt_val ?a) (pss_one (ps_ret pe_int)) pss_nil
      case a => exact pe_callB call_isi (by rfl) T.isinstance (by decide +kernel) (pa_cons (pv 0) (pa_cons (pe_bltn (v := .ty "str") (by rfl) T.str (by decide +kernel) rfl (by decide) (by decide)) pa_nil))
    case s2 => exact ps_set (i := 1) scLl.nd rfl (Or.inl rfl) pe_int
    case s3 =>
      refine' ps_for PassesOwn.never rfl (pi_tup (pe_slice sl_tupA (pv 0) (po_some pe_int) po_none)) (pg_name (i := 2) scLl.nd rfl (Or.inl rfl)) (pss_one (ps_set (i := 1) scLl.nd rfl (Or.inl rfl) (pe_callB (call_max2 rfl) (by rfl) gm (by decide +kernel) (pa_cons (pv 1) (pa_cons ?a pa_nil)))))
      case a => exact pe_call GN hr rfl gF F.kp bN .nil pass0 (pa_cons (pv 2) pa_nil)
    case s4 => exact ps_ret (pe_op op_add (pv 1) pe_int)
    case q =>
      have ty := hv.ty
      have kt := kit_strD K d
      refine ⟨_, rfl, _, _, _, _, isStrD d, rfl, .ty _, ty, kt, _, rfl, ?_⟩
      cases sh with
      | @nm _ y hy =>
        refine iteT ?_
        have z := k H (Same.refl _)
        rw [lv_str] at z
        exact z
      | @nd n y ds h1 h2 h3 =>
        obtain rfl := hs n rfl
        refine iteF ?_
        cases hv with
        | @tup a vs _ hg r =>
          cases r with
          | @cons x0 d0 xs _ hx r =>
            cases hx
            have lx := r.len
            rw [w_tup, w_cons] at hw
            refine tNext_go ?_
            with_reducible conv => whnf
            refine gName_go ?_
            with_reducible conv => whnf
            refine ⟨_, rfl, 1, rfl, a, _, rfl, hg, fun z => tail_new xs z.1, fun _ q nq => ?_⟩
            rw [cut_tail]
            have sq : Same H (upd H q (.tup xs)) := Same.new nq
            have gq : (upd H q (.tup xs)) q = some (.tup xs) := upd_same
            generalize upd H q (.tup xs) = H1 at sq gq ⊢
            refine ⟨q, rfl, ⟨_, SqT.of gq⟩, ?_⟩
            refine for_it (walk_tup (K := K) (a := q) (xs := xs)) (fun i σ Hh => ∃ o, σ = [some (.ref a), some (.int (mxL ((ds.take i).map (lvF n)) : Nat)), o] ∧ Same H Hh ∧ Hh q = some (.tup xs)) ⟨none, rfl, sq, gq⟩ (fun _ _ Hh _ ⟨_, _, _, z⟩ => SqT.of z) ?_ ?_
            · rintro i x σ Ha Hb hi ⟨o, rfl, sa, hq⟩ ⟨rfl, gx⟩
              have di : i < ds.length := by omega
              have gd : ds[i]? = some ds[i] := List.getElem?_eq_getElem di
              have dx := (r.get gx gd).same sa
              have mem : ds[i] ∈ ds := List.getElem_mem di
              have wm := w_mem mem
              refine gName_go ?_
              with_reducible conv => whnf
              refine ⟨_, rfl, _, rfl, x, ds[i], rfl, dx, h3 _ mem, by omega, fun Hc sc => ?_⟩
              refine ⟨_, _, rfl, gName_go ⟨some x, ?_, sa.trans sc, sc _ _ hq⟩⟩
              have e : (if ((lvF n ds[i] : Nat) : Int) > ((mxL ((ds.take i).map (lvF n)) : Nat) : Int) then ((lvF n ds[i] : Nat) : Int) else ((mxL ((ds.take i).map (lvF n)) : Nat) : Int)) = ((mxL ((ds.take (i + 1)).map (lvF n)) : Nat) : Int) := by
                rw [List.take_add_one, gd, List.map_append]
                show _ = ((mxL ((ds.take i).map (lvF n) ++ [lvF n ds[i]]) : Nat) : Int)
                rw [mxL_snoc]
                split <;> omega
              rw [e]
              rfl
            · rintro σ Ha ⟨o, rfl, sa, hq⟩
              rw [lx, List.take_length]
              refine ⟨_, rfl, _, _, rfl, rfl, ?_⟩
              have z := k Ha sa
              have e2 : ((lvF (n + 1) (.tuple (.str y :: ds)) : Nat) : Int) = ((mxL (ds.map (lvF n)) : Nat) : Int) + 1 := by
                show ((1 + mxL (ds.map (lvF n)) : Nat) : Int) = _
                omega
              rw [e2] at z
              exact z
theorem ok_ll {f : Addr} {fd : FuncData} (F : Fun K "_law_levels" "_law_levels" sLl f fd) (gF : mg "_law_levels" = some (.ref f)) (gm : mg "max" = none) (T : TxtL mg) : ∀ n, FnOk P w K mg base CX0 (n + 2) f fd ["_law_plan"] (spLv K n)
  | 0 => step_ll (n := 0) (kk := 1) (sp' := fun _ _ _ _ => False) F gF gm T (F.ok scLl (fun _ _ _ _ h => h.elim) (fun _ _ _ _ _ _ _ _ _ h => h.elim)) (fun j e => nomatch e)
  | n + 1 => step_ll (n := n + 1) (kk := n + 2) (sp' := spLv K n) F gF gm T (ok_ll F gF gm T n) (fun j e => by cases e; rfl)
/-- what the law says is due -/
def dueD : Out → PyData
  | .many k => .tuple [.str "many", .int k]
  | .odd x => .tuple [.str "task", .str x]
  | _ => .none
structure TxtD (mg : Str → Option Value) : Prop where
  L : TxtL mg
  max : mg "max" = none
  sorted : mg "sorted" = none
  set : mg "set" = none
def spDue (K : Frag) (n : Nat) : Sp := fun vs H Q _ => ∃ v d t m o, vs = [v, .ref t] ∧ H t = some (.dK (tD m)) ∧ Pl K H v d ∧ Due n d (m.map (·.1)) o ∧ (∀ e, o ≠ .bad e) ∧ ∀ r H', Same H H' → Dp K H' r (dueD o) → (o = .fine → r = .non) → (o ≠ .fine → ∃ a, r = .ref a) → Q r H'
theorem scDue : FnScope NDue ADue (defScope sDue) := ⟨rfl, rfl, rfl, by decide +kernel, rfl, by decide +kernel, by decide +kernel⟩
theorem Due.whole {n : Nat} {d : PyData} {ns : List Str} {o : Out} (h : Due n d ns o) (hb : ∀ e, o ≠ .bad e) : Whole n d := by
  cases h with
  | bad er => exact absurd rfl (hb _)
  | names a _ => exact a
  | levels a _ _ => exact a
  | odd a _ _ _ _ _ => exact a
  | fine a _ _ _ => exact a
theorem ok_due {f aF aT aS aN aL : Addr} {fd fF fT fS fN fL : FuncData} (F : Fun K "_law_due" "_law_due" sDue f fd) (FF : Fun K "_law_form" "_law_form" sLform aF fF) (FT : Fun K "_law_row" "_law_row" sLrow aT fT) (FS : Fun K "_law_two" "_law_two" sLtwo aS fS) (FN : Fun K "_law_names" "_law_names" sLn aN fN) (FL : Fun K "_law_levels" "_law_levels" sLl aL fL)
    (gF : mg "_law_form" = some (.ref aF)) (gT : mg "_law_row" = some (.ref aT)) (gS : mg "_law_two" = some (.ref aS)) (gN : mg "_law_names" = some (.ref aN)) (gL : mg "_law_levels" = some (.ref aL)) (T : TxtD mg) (n : Nat) : FnOk P w K mg base CX0 (n + 4) f fd ADue (spDue K n) := by
  have GF : FnOk P w K mg base CX0 (n + 3) aF fF ["_law_plan"] (spNf K n) := ok_lf FF FT FS gF gT gS T.L n
  have GN : FnOk P w K mg base CX0 (n + 2) aN fN ["_law_plan"] (spLn K n) := ok_ln FN gN T.L n
  have GL : FnOk P w K mg base CX0 (n + 2) aL fL ["_law_plan"] (spLv K n) := ok_ll FL gL T.max T.L n
  have bF : Binds K fF ["_law_plan"] [] := FF.binds (ps := ["_law_plan"]) fun _ _ _ _ _ _ us hl => match us, hl with | [_], _ => rfl
  have bN : Binds K fN ["_law_plan"] [] := FN.binds (ps := ["_law_plan"]) fun _ _ _ _ _ _ us hl => match us, hl with | [_], _ => rfl
  have bL : Binds K fL ["_law_plan"] [] := FL.binds (ps := ["_law_plan"]) fun _ _ _ _ _ _ us hl => match us, hl with | [_], _ => rfl
  refine F.ok scDue (fun vs H Q E h => ?_) (fun cdv A outer s H vs Q E hr h => ?_)
  · obtain ⟨v, d, t, m, o, rfl, _⟩ := h
    rfl
  · obtain ⟨v, d, t, m, o, rfl, hm, hv, du, hb, k⟩ := h
    have hr1 : Room 1 _ := hr.mono (show 1 ≤ n + 3 by omega)
    have hu := hu_of hr1
    have hu0 : _ < cLine := Nat.lt_of_le_of_lt (Nat.le_add_right _ 1) hu
    refine' ⟨_, pss_cons (ps_set (i := 2) scDue.nd rfl (Or.inl rfl) (pe_call GF hr rfl gF FF.kp bF .nil pass0 (pa_cons (pv 0) pa_nil)))
      (pss_cons (ps_if ?t1 (pss_one (ps_ret (pe_tup (pa_cons pe_str (pa_cons pe_int pa_nil))))) pss_nil)
      (pss_cons (ps_if ?t2 (pss_one (ps_ret (pe_tup (pa_cons pe_str (pa_cons pe_int pa_nil))))) pss_nil)
      (pss_cons ?l (pss_one ?r)))), ?q⟩
    case t1 => exact pt_cmpR op_gt (pe_callB call_len_seq (by rfl) T.L.len PySem.boot_len (pa_cons (pe_call GN (hr.mono (by omega)) rfl gN FN.kp bN .nil pass0 (pa_cons (pv 0) pa_nil)) pa_nil)) pe_int (nomark _)
    case t2 => exact pt_cmpR op_gt (pe_call GL (hr.mono (by omega)) rfl gL FL.kp bL .nil pass0 (pa_cons (pv 2) pa_nil)) pe_int (nomark _)
    case l =>
      refine' ps_setLc (i := 3) (own := [("_law_name", 4)]) (g := gName 4) rfl scDue.nd rfl rfl (sw_true rfl rfl rfl (by decide +kernel)) (pi_list ?s) (blkOk_by (N := NDue) (sc := defScope sDue) (by decide +kernel)) (fun _ _ _ _ _ => pg_name (i := 4) scDue.nd rfl (Or.inl rfl)) (fun _ _ _ _ _ => pts_one (pt_cmp (pc_dnotin ?hu (pv 4) (pv 1)))) (fun _ _ _ _ _ => pv 4)
      case s =>
        refine' pe_callB (cr_sortedTx rfl) (by rfl) T.sorted (by decide +kernel) (pa_cons ?b pa_nil)
        case b =>
          refine' pe_callTy (cr_setL rfl) (by rfl) T.set (by decide +kernel) (pa_cons ?c pa_nil)
          case c => exact pe_call GN (hr.mono (by omega)) rfl gN FN.kp bN .nil pass0 (pa_cons (pv 0) pa_nil)
      case hu => exact hu
    case r => exact ps_ret (pe_ifExp (pt_cmpR (op_neE hu0) (pv 3) (pe_lst pa_nil) (nomark _)) (pe_tup (pa_cons pe_str (pa_cons (pe_ix ix_list (pv 3) pe_int (fun _ _ => rfl)) pa_nil))) pe_non)
    case q =>
      obtain ⟨rt, sh, hn, hw, few⟩ := du.whole hb
      have wn := w_nf n d
      refine ⟨_, rfl, v, d, rfl, hv, sh, by omega, by omega, fun x H1 s1 hx => gName_go ?_⟩
      with_reducible conv => whnf
      refine ⟨_, rfl, v, d, rfl, hv.same s1, sh, by omega, fun l H2 s2 nl hl => ?_⟩
      refine ⟨l, _, rfl, Or.inl (SqL.of hl), _, _, rfl, rfl, decide (16 < (namesF n d).length), congrArg V.bl (decide_eq_decide.mpr (by rw [List.length_map]; omega)), ?_⟩
      have s12 := s1.trans s2
      by_cases l16 : 16 < (namesF n d).length
      · rw [decide_eq_true l16]
        obtain rfl : o = .many 16 := by
          cases du with
          | bad er => exact absurd rfl (hb _)
          | names _ _ => rfl
          | levels _ z _ => omega
          | odd _ z _ _ _ _ => omega
          | fine _ z _ _ => omega
        exact iteT ⟨(show 2 ≤ sizeLine by decide), fun q nq => k _ _ (s12.trans (Same.new nq)) (Dp.tup (SqT.of upd_same) (.cons (.str _) (.cons (.int _) .nil))) (fun z => nomatch z) (fun _ => ⟨_, rfl⟩)⟩
      rw [decide_eq_false l16]
      refine iteF ?_
      refine ⟨_, rfl, x, nf n d, rfl, hx.same s2, sh_nf sh, by omega, fun H3 s3 => ?_⟩
      refine ⟨_, _, rfl, rfl, decide (5 < lvF n (nf n d)), congrArg V.bl (decide_eq_decide.mpr (by omega)), ?_⟩
      have s13 := s12.trans s3
      by_cases l5 : 5 < lvF n (nf n d)
      · rw [decide_eq_true l5]
        obtain rfl : o = .many 5 := by
          cases du with
          | bad er => exact absurd rfl (hb _)
          | names _ z => omega
          | levels _ _ _ => rfl
          | odd _ _ z _ _ _ => omega
          | fine _ _ z _ => omega
        exact iteT ⟨(show 2 ≤ sizeLine by decide), fun q nq => k _ _ (s13.trans (Same.new nq)) (Dp.tup (SqT.of upd_same) (.cons (.str _) (.cons (.int _) .nil))) (fun z => nomatch z) (fun _ => ⟨_, rfl⟩)⟩
      rw [decide_eq_false l5]
      refine iteF ?_
      refine ⟨_, rfl, v, d, rfl, hv.same s13, sh, by omega, fun l4 H4 s4 nl4 hl4 => ?_⟩
      refine ⟨l4, _, rfl, .inl (SqL.of hl4), few, fun p np => ?_⟩
      have dl := ded_len (namesF n d)
      refine ⟨p, _, rfl, upd_same, by omega, fun ys q pm so nq => ?_⟩
      have s05 := s13.trans s4
      have memy : ∀ y, y ∈ ys ↔ y ∈ namesF n d := fun y => pm.mem_iff.trans ded_mem
      have ly : ys.length < 64 := by rw [pm.length_eq]; omega
      have so' := sorted_pairs so
      refine ⟨q, rfl, ⟨_, SqL.of upd_same⟩, fun D nD => ?_⟩
      refine lc_it (walk_list (K := K) (a := q) (xs := ys.map V.str)) (fun i Hh => Hh D = some (.lst (((ys.take i).filter fun y => !decide (y ∈ m.map (·.1))).map V.str)) ∧ Same H4 Hh ∧ Hh q = some (.lst (ys.map V.str))) ⟨by rw [List.take_zero]; exact upd_same, fun b o z => (Same.new nD) _ _ ((Same.new nq) _ _ ((Same.new np) _ _ z)), (Same.new nD) _ _ upd_same⟩ (fun _ Hh _ ⟨_, _, z⟩ => SqL.of z) ?_ ?_
      · rintro i x' Ha Hb' hi ⟨hD, sa, hqa⟩ ⟨rfl, gx⟩
        obtain ⟨y, gy, rfl, hy⟩ := at_strs gx
        refine ⟨rfl, ?_⟩
        have gt : DGet Hb' t (.str y) (m.lookup y) := .inl ⟨tD m, .inr y, .inl (sa _ _ (s05 _ _ hm)), rfl, by rw [tD_val]⟩
        refine ⟨_, rfl, _, rfl, t, m.lookup y, rfl, gt, !(m.lookup y).isSome, rfl, ?_⟩
        have tk : (ys.take (i + 1)).filter (fun y => !decide (y ∈ m.map (·.1))) = (ys.take i).filter (fun y => !decide (y ∈ m.map (·.1))) ++ if y ∈ m.map (·.1) then [] else [y] := by
          rw [List.take_add_one, gy, List.filter_append]
          congr 1
          by_cases hk : y ∈ m.map (·.1)
          · rw [if_pos hk]
            simp only [Option.toList, List.filter_cons, hk, decide_true, Bool.not_true, List.filter_nil]
            rfl
          · rw [if_neg hk]
            simp only [Option.toList, List.filter_cons, hk, decide_false, Bool.not_false, List.filter_nil]
            rfl
        by_cases hk : y ∈ m.map (·.1)
        · obtain ⟨v', lv, _⟩ := look_in hk
          rw [lv]
          rw [if_pos hk, List.append_nil] at tk
          exact iteF ⟨by rw [tk]; exact hD, sa, hqa⟩
        · rw [look_none hk]
          rw [if_neg hk] at tk
          refine iteT ⟨_, rfl, _, hD, ?_, by rw [tk, List.map_append]; exact upd_same, fun b o' z => ?_, ?_⟩
          rotate_left
          · have nDH : H4 D = none := none_back (Same.new np) (none_back (Same.new nq) nD)
            rw [upd_ne (ne_of_none z nDH)]
            exact sa _ _ z
          · have qD : q ≠ D := fun e => by rw [← e, upd_same] at nD; cases nD
            rw [upd_ne qD]
            exact hqa
          rw [List.length_map]
          have l1 := List.length_filter_le (fun y => !decide (y ∈ m.map (·.1))) (ys.take i)
          rw [List.length_take] at l1
          rw [sizeLine_eq]
          omega
      · rintro Ha ⟨hD, sa, _⟩
        rw [List.length_map, List.take_length] at hD
        have s0a := s05.trans sa
        generalize est : ys.filter (fun y => !decide (y ∈ m.map (·.1))) = st at hD
        refine gName_go ?_
        with_reducible conv => whnf
        refine ⟨_, rfl, (show 0 ≤ sizeLine by decide), fun Z nZ => ⟨D, Z, _, rfl, rfl, SqL.of (Same.new nZ _ _ hD), SqL.of upd_same, _, rfl, ?_⟩⟩
        have sZ : Same Ha (upd Ha Z (.lst [])) := Same.new nZ
        have hDZ := sZ _ _ hD
        generalize upd Ha Z (.lst []) = HZ at sZ hDZ ⊢
        have mst : ∀ y, y ∈ st ↔ y ∈ namesF n d ∧ y ∉ m.map (·.1) := fun y => by
          rw [← est, List.mem_filter, memy]
          simp
        cases st with
        | nil =>
          obtain rfl : o = .fine := by
            cases du with
            | bad er => exact absurd rfl (hb _)
            | names _ z => omega
            | levels _ _ z => omega
            | odd _ _ _ h1 h2 _ =>
              have := (mst _).mpr ⟨h1, h2⟩
              cases this
            | fine _ _ _ _ => rfl
          exact iteF (k _ _ (s0a.trans sZ) .non (fun _ => rfl) (fun z => absurd rfl z))
        | cons y r =>
          have hyst : y ∈ namesF n d ∧ y ∉ m.map (·.1) := (mst y).mp List.mem_cons_self
          have first : ∀ z ∈ y :: r, y.cps.toList ≤ z.cps.toList := fun z hz => by
            have pw : (y :: r).Pairwise fun a b => a.cps.toList ≤ b.cps.toList := by
              rw [← est]
              exact so'.filter _
            rcases List.mem_cons.mp hz with e | e
            · rw [e]; exact List.le_refl _
            · exact (List.pairwise_cons.mp pw).1 z e
          obtain rfl : o = .odd y := by
            cases du with
            | bad er => exact absurd rfl (hb _)
            | names _ z => omega
            | levels _ _ z => omega
            | @odd x0 _ _ _ h1 h2 h3 =>
              rw [str_le_antisymm (h3 y hyst.1 hyst.2) (first x0 ((mst x0).mpr ⟨h1, h2⟩))]
            | fine _ _ _ z => exact absurd (z y hyst.1) hyst.2
          refine iteT ⟨_, rfl, D, _, 0, _, rfl, rfl, SqL.of hDZ, atI_nat rfl, (show 2 ≤ sizeLine by decide), fun q2 nq2 => k _ _ ((s0a.trans sZ).trans (Same.new nq2)) (Dp.tup (SqT.of upd_same) (.cons (.str _) (.cons (.str _) .nil))) (fun z => nomatch z) (fun _ => ⟨_, rfl⟩)⟩
end
end Fp6
set_option Elab.async false
set_option linter.all false
set_option maxRecDepth 100000
set_option maxHeartbeats 1000000
/-! FzH: a lambda as a value (made, perhaps never called); a def whose code object is known -/
namespace Fh
open PySem PySem.Spec PyProof.Rows L2
open PySem.W (Frag)
/-- a def whose code object stands at c -/
structure FunC (K : Frag) (x qual : Str) (st : Stmt) (f c : Addr) (fd : FuncData) : Prop where
  ex : ∃ (oc : Value) (od : Option Addr) (kV doc pm : Value) (an : Option Addr) (ct : Value) (osl : Array (Option Value)),
    fd = PySem.W.fnOf x qual (defArgs st) (defBody st) (defScope st) .none kV doc pm an (.ref c) ct ∧ K.lookup f = some ⟨oc, od, .func fd, osl⟩ ∧ PySem.W.codeIn K (.ref c) qual = true
  kp : PySem.W.keepIn K (.ref f) = true
section
variable {P : Program} {w : World} {K : Frag} {mg : Str → Option Value} {base : Heap}
theorem FunC.of {x qual : Str} {st : Stmt} {p : Str × Option Str} {fd : FuncData} (F : Fun K x qual st (He.fAd K p) fd) : FunC K x qual st (He.fAd K p) (He.codeOf K p) fd := by
  obtain ⟨oc, od, kV, doc, pm, an, cdv, ct, osl, e, lk, hcd⟩ := F.ex
  obtain ⟨c, rfl⟩ := He.codeIn_ref hcd
  have q : He.codeOf K p = c := He.codeOf_eq lk (by rw [e])
  rw [q]
  exact ⟨⟨oc, od, kV, doc, pm, an, ct, osl, e, lk, hcd⟩, F.kp⟩
theorem FunC.ok {x qual : Str} {st : Stmt} {f c : Addr} {fd : FuncData} {N ps : List Str} {k : Nat} {sp : Sp} (F : FunC K x qual st f c fd) (S : FnScope N ps (defScope st)) (len : ∀ vs H Q E, sp vs H Q E → vs.length = ps.length)
    (hbody : ∀ (A : Around) (outer : List Env) (s : Shared) (H : Hp) (vs : List V) (Q : VK) (E : XK), Room k (A.deeper (envOfC qual (defScope st) s.heap.objs.size f (.ref c))) → sp vs H Q E →
      ∃ t, PSs (cxOf CX0 P w K mg base N qual (defScope st) f (.ref c) A outer s H E).nox (defBody st) t ∧ t { nx := fun _ H' => Q .non H', rt := Q } (start N vs) H) : FnOk P w K mg base CX0 (k + 1) f fd ps sp := by
  obtain ⟨oc, od, kV, doc, pm, an, ct, osl, rfl, lk, hcd⟩ := F.ex
  refine fn_of lk hcd S len fun A outer s H vs Q E hr hsp => ?_
  obtain ⟨t, h, q⟩ := hbody A outer s H vs Q E hr hsp
  exact ⟨t, h.nox, q⟩
end
end Fh
namespace Fs
open PySem PySem.Spec PyProof.Rows L2 Fh
open PySem.W (Frag)
theorem KeepT.ext {H H' : Hp} (e : LamX.ExtN H H') : KeepT H H' := fun a xs h => h.elim (fun z => .inl (e _ _ z fun _ q => nomatch q)) fun ⟨o, z⟩ => .inr ⟨o, e _ _ z fun _ q => nomatch q⟩
end Fs
set_option Elab.async false
set_option linter.all false
set_option maxRecDepth 100000
set_option maxHeartbeats 4000000
/-! what stays while lambdas are made; _law_tall; plans that grow -/
namespace Fp6
open PySem PySem.Spec PyProof.Rows L2 Fh Fs
open PySem.W (Frag)
abbrev sTall : Stmt := top 99
abbrev NTall : List Str := ["_law_pen_here", "_law_part", "_law_levels_here", "_law_k"]
abbrev ATall : List Str := ["_law_pen_here", "_law_part", "_law_levels_here"]
theorem KeepT.pen' {H H' : Hp} {p c : Addr} {n : Nat} (P : PenAt H p c n) (b : But p H H') : KeepT H H' := by
  obtain ⟨cs, s, r, S, _⟩ := P.open
  exact KeepT.but (no_tup S.hp (fun _ z => nomatch z) fun _ _ z => nomatch z) b
theorem tabs_but {T : List (Addr × Str)} {H H' : Hp} {p : Addr} {u : HO} (t : LamX.Tabs T H) (hp : H p = some u) (n1 : ∀ ps, u ≠ .tbl ps) (n2 : ∀ c q, u ≠ LamX.CodeO c q) (b : But p H H') : LamX.Tabs T H' := fun x hx => by
  obtain ⟨ps, h1, h2, h3⟩ := t x hx
  refine ⟨ps, b _ _ (fun e => ?_) h1, h2, fun pos cv hc => ?_⟩
  · rw [e, hp] at h1
    exact n1 _ (Option.some.inj h1)
  · obtain ⟨c, e1, e2⟩ := h3 pos cv hc
    refine ⟨c, e1, b _ _ (fun e => ?_) e2⟩
    rw [e, hp] at e2
    exact n2 _ _ (Option.some.inj e2)
theorem tabs_pen {T : List (Addr × Str)} {H H' : Hp} {p c : Addr} {n : Nat} (t : LamX.Tabs T H) (P : PenAt H p c n) (b : But p H H') : LamX.Tabs T H' := by
  obtain ⟨cs, s, r, S, _⟩ := P.open
  exact tabs_but t S.hp (fun _ z => nomatch z) (fun _ _ z => by unfold LamX.CodeO at z; cases z) b
theorem pen_n {H H' : Hp} {p c : Addr} {n : Nat} (e : LamX.ExtN H H') (h : PenAt H p c n) : PenAt H' p c n := by
  obtain ⟨pc, cs, s, r, hp, hc, hl, h0, h3⟩ := h
  exact ⟨pc, cs, s, r, e _ _ hp (fun _ z => nomatch z), e _ _ hc (fun _ z => nomatch z), hl, h0, h3⟩
theorem keepT_n {H H' : Hp} (e : LamX.ExtN H H') : KeepT H H' := fun a xs h => h.elim (fun z => .inl (e _ _ z fun _ q => nomatch q)) fun ⟨o, z⟩ => .inr ⟨o, e _ _ z fun _ q => nomatch q⟩
def tk0 : TSk := ⟨none, 1, [], [], [], []⟩
theorem oks_nil : OkS [] := ⟨⟨List.nodup_nil, (fun _ z => nomatch z), by decide⟩, rfl⟩
theorem ok_tk0 : OkT tk0 := ⟨(fun _ z => nomatch z), by decide, by decide, oks_nil, oks_nil, oks_nil, oks_nil⟩
/-- a default task is made -/
theorem mk_tk0 {K : Frag} {mg : Str → Option Value} {w : World} {aF aM aD CE aE CT aW aR aH aA aI : Addr} {fW fR fH fA fI : FuncData} (G : Pkg K mg w aF aM aD CE aE CT aW aR aH aA aI fW fR fH fA fI) {H : Hp} {Q : Addr → Hp → Prop} {E : XK} (k : ∀ x H', Same H H' → H x = none → TaskAt CT H' x tk0 → Q x H') :
    ∀ x dx, H x = none → H dx = none → dx ≠ x → spTk K CT (.ref x :: ([] ++ ([.non] ++ (kwT K).map (·.2)))) (upd (upd H dx (.own x)) x (.ins CT dx [])) (fun v H3 => v = .non ∧ Q x H3) E := by
  intro x dx hx hdx ne
  have hx2 : (upd H dx (.own x)) x = none := by rw [upd_ne (Ne.symm ne)]; exact hx
  have s2 : Same H (upd (upd H dx (.own x)) x (.ins CT dx [])) := (Same.new hdx).trans (Same.new hx2)
  have em : ∀ {n : Str} {b : Addr}, (n, V.ref b) ∈ (kwT K).drop 1 → ∀ H : Hp, WL K H (.ref b) [] := fun {n b} h H => by
    obtain ⟨b', e, z⟩ := G.emp _ h
    have e : V.ref b = .ref b' := e
    cases e
    exact ⟨b, rfl, .inr (z H)⟩
  refine ⟨x, dx, _, _, _, _, [], [], [], [], tk0, rfl, upd_same, em (n := "other") (by simp [kwT]) _, em (n := "same") (by simp [kwT]) _, em (n := "takes") (by simp [kwT]) _, em (n := "forgets") (by simp [kwT]) _, List.Perm.nil, List.Perm.nil, List.Perm.nil, List.Perm.nil, ok_tk0, fun H' e at_ => ⟨rfl, k x H' (fun b o z => ?_) hx at_⟩⟩
  exact e b o (fun q => by rw [q, hx] at z; cases z) (s2 _ _ z)
/-- a plan that grew j times -/
structure Grow (j : Nat) (d : PyData) : Prop where
  rt : Rt (j + 1) false d
  sh : Sh (j + 1) d
  w : d.weight ≤ 60 + 20 * j
  few : ∀ m, (namesF m d).length ≤ 17 + 2 * j
theorem wd_a : wordB "a" = true := by decide +kernel
theorem few_nd {y : Str} {ds : List PyData} {k : Nat} (h : ∀ m, (ds.flatMap (namesF m)).length ≤ k) : ∀ m, (namesF m (.tuple (.str y :: ds))).length ≤ k
  | 0 => Nat.zero_le _
  | m + 1 => by rw [names_nd]; exact h m
theorem grow_nd {j : Nat} {y : Str} {ds : List PyData} (h1 : rightNo y ds.length = true) (hb : y ≠ "beside") (h4 : ds.length ≤ 4) (hr : ∀ d ∈ ds, Rt (j + 1) false d) (hs : ∀ d ∈ ds, Sh (j + 1) d) (hw : y.length + 1 + PyData.weightAll ds ≤ 60 + 20 * (j + 1)) (hf : ∀ m, (ds.flatMap (namesF m)).length ≤ 17 + 2 * (j + 1)) : Grow (j + 1) (.tuple (.str y :: ds)) := by
  refine ⟨.nd h1 (and_b hb) fun d hd => by rw [or_b hb]; exact hr d hd, .nd h1 (.inr h4) hs, ?_, few_nd hf⟩
  rw [w_tup, w_cons, w_str]
  exact hw
theorem names_one (m : Nat) (d : PyData) : [d].flatMap (namesF m) = namesF m d := by simp
theorem grow_any {j : Nat} {d : PyData} (g : Grow j d) : Grow (j + 1) (.tuple [.str "any", d]) := by
  refine grow_nd (show rightNo (Str.ofString "any") ((1 : Nat) : Int) = true by decide +kernel) (by decide +kernel) (show 1 ≤ 4 by decide) (fun e he => by rw [List.mem_singleton.mp he]; exact g.rt) (fun e he => by rw [List.mem_singleton.mp he]; exact g.sh) ?_ fun m => ?_
  · have := g.w
    have e1 : (Str.ofString "any").length = 3 := by decide +kernel
    rw [w_cons, w_nil, e1]
    omega
  · have := g.few m
    rw [names_one]
    omega
theorem grow_again {j : Nat} {d : PyData} (g : Grow j d) : Grow (j + 1) (.tuple [.str "again", d]) := by
  refine grow_nd (show rightNo (Str.ofString "again") ((1 : Nat) : Int) = true by decide +kernel) (by decide +kernel) (show 1 ≤ 4 by decide) (fun e he => by rw [List.mem_singleton.mp he]; exact g.rt) (fun e he => by rw [List.mem_singleton.mp he]; exact g.sh) ?_ fun m => ?_
  · have := g.w
    have e1 : (Str.ofString "again").length = 5 := by decide +kernel
    rw [w_cons, w_nil, e1]
    omega
  · have := g.few m
    rw [names_one]
    omega
theorem grow_either {j : Nat} {d : PyData} (g : Grow j d) : Grow (j + 1) (.tuple [.str "either", d, .str "a"]) := by
  refine grow_nd (show rightNo (Str.ofString "either") ((2 : Nat) : Int) = true by decide +kernel) (by decide +kernel) (show 2 ≤ 4 by decide) (fun e he => ?_) (fun e he => ?_) ?_ fun m => ?_
  · rcases List.mem_cons.mp he with rfl | he
    · exact g.rt
    · rw [List.mem_singleton.mp he]; exact .nm wd_a
  · rcases List.mem_cons.mp he with rfl | he
    · exact g.sh
    · rw [List.mem_singleton.mp he]; exact .nm wd_a
  · have := g.w
    have e1 : (Str.ofString "either").length = 6 := by decide +kernel
    have e2 : (Str.ofString "a").length = 1 := by decide +kernel
    rw [w_cons, w_cons, w_nil, w_str, e1, e2]
    omega
  · have := g.few m
    rw [List.flatMap_cons, names_one, names_str, List.length_append]
    show _ + 1 ≤ _
    omega
theorem grow_then {j : Nat} {d : PyData} (g : Grow j d) : Grow (j + 1) (.tuple [.str "then", .tuple [.str "then", .str "a"], d]) := by
  have r1 : Rt (j + 1) false (.tuple [.str "then", .str "a"]) := .nd (then_any 1) rfl fun e he => by rw [List.mem_singleton.mp he]; exact .nm wd_a
  have s1 : Sh (j + 1) (.tuple [.str "then", .str "a"]) := .nd (then_any 1) (.inl rfl) fun e he => by rw [List.mem_singleton.mp he]; exact .nm wd_a
  refine grow_nd (then_any 2) (by decide +kernel) (show 2 ≤ 4 by decide) (fun e he => ?_) (fun e he => ?_) ?_ fun m => ?_
  · rcases List.mem_cons.mp he with rfl | he
    · exact r1
    · rw [List.mem_singleton.mp he]; exact g.rt
  · rcases List.mem_cons.mp he with rfl | he
    · exact s1
    · rw [List.mem_singleton.mp he]; exact g.sh
  · have := g.w
    have e1 : (Str.ofString "then").length = 4 := by decide +kernel
    have e2 : (Str.ofString "a").length = 1 := by decide +kernel
    rw [w_cons, w_cons, w_nil, w_tup, w_cons, w_cons, w_nil, w_str, w_str, e1, e2]
    omega
  · have := g.few m
    rw [List.flatMap_cons, names_one, List.length_append]
    have : (namesF m (.tuple [.str "then", .str "a"])).length ≤ 1 := few_nd (k := 1) (fun m => by rw [names_one, names_str]; exact Nat.le_refl _) m
    omega
theorem Grow.whole {j : Nat} {d : PyData} (g : Grow j d) (hj : j ≤ 5) : Whole 8 d := ⟨g.rt.up (by omega), g.sh.up (by omega), by decide, by have := g.w; omega, by have := g.few 8; omega⟩
section
variable {P : Program} {w : World} {K : Frag} {mg : Str → Option Value} {base : Heap}
def spTall (K : Frag) : Sp := fun vs H Q _ => ∃ (p c : Addr) (n : Nat) (v : V) (d : PyData) (k : Nat), vs = [.ref p, v, .int (k : Int)] ∧ PenAt H p c n ∧ n ≤ 900000 ∧ k ≤ 5 ∧ Pl K H v d ∧ Grow 0 d ∧ ∀ v' d' H', PenAt H' p c (n + k) → But p H H' → Pl K H' v' d' → Grow k d' → Q v' H'
theorem scTall : FnScope NTall ATall (defScope sTall) := ⟨rfl, rfl, rfl, by decide +kernel, rfl, by decide +kernel, by decide +kernel⟩
theorem ok_tall {f aK aD : Addr} {fd fK fD : FuncData} (F : Fun K "_law_tall" "_law_tall" sTall f fd) (FK : Fun K "_law_pick" "_law_pick" sPick aK fK) (FD : Fun K "_law_draw" "_law_draw" sDraw aD fD) (gK : mg "_law_pick" = some (.ref aK)) (gD : mg "_law_draw" = some (.ref aD)) (T : TxtP mg) (gr : mg "range" = none) : FnOk P w K mg base CX0 3 f fd ATall (spTall K) := by
  have GQ : FnOk P w K mg base CX0 2 aK fK ["_law_pen_here", "_law_items"] (spPick K) := ok_pick FK FD T gD
  have bQ : Binds K fK ["_law_pen_here", "_law_items"] [] := FK.binds (ps := ["_law_pen_here", "_law_items"]) fun _ _ _ _ _ _ us hl => match us, hl with | [_, _], _ => rfl
  refine F.ok scTall (fun vs H Q E h => ?_) (fun cdv A outer s H vs Q E hr h => ?_)
  · obtain ⟨p, c, n, v, d, k, rfl, _⟩ := h
    rfl
  · obtain ⟨p, c, n, v, d, k, rfl, hP, hn, hk, hv, g0, go⟩ := h
    refine' ⟨_, pss_cons (ps_for PassesOwn.never rfl (pi_range1 rfl gr (pa_cons (pv 2) pa_nil)) (pg_name (i := 3) scTall.nd rfl (Or.inl rfl)) (pss_one ?b)) (pss_one (ps_ret (pv 1))), ?q⟩
    case b =>
      refine' ps_set (i := 1) scTall.nd rfl (Or.inl rfl) (pe_call GQ (hr.mono (by decide)) rfl gK FK.kp bQ .nil pass0 (pa_cons (pv 0) (pa_cons (pe_lst ?l) pa_nil)))
      case l =>
        exact pa_cons (pe_tup (pa_cons pe_str (pa_cons (pv 1) pa_nil))) (pa_cons (pe_tup (pa_cons pe_str (pa_cons (pv 1) (pa_cons pe_str pa_nil)))) (pa_cons (pe_tup (pa_cons pe_str (pa_cons (pv 1) pa_nil))) (pa_cons (pe_tup (pa_cons pe_str (pa_cons (pe_tup (pa_cons pe_str (pa_cons pe_str pa_nil))) (pa_cons (pv 1) pa_nil)))) pa_nil)))
    case q =>
      refine ⟨_, rfl, (k : Int), rfl, by omega, by omega, for_range (lo := 0) (n := k) (fun i σ Hh => ∃ v' d' o, σ = [some (V.ref p), some v', some (.int (k : Int)), o] ∧ PenAt Hh p c (n + i) ∧ But p H Hh ∧ Pl K Hh v' d' ∧ Grow i d') ⟨v, d, none, rfl, hP, But.refl p H, hv, g0⟩ ?_ ?_⟩
      · rintro i σ Hh hi ⟨v', d', o, rfl, Pi, bi, hvi, gi⟩
        refine gName_go ?_
        with_reducible conv => whnf
        refine ⟨_, rfl, _, rfl, (show 2 ≤ sizeLine by decide), fun t1 n1 => ?_⟩
        have s1 : Same Hh (upd Hh t1 (.tup [.str (Str.ofString "any"), v'])) := Same.new n1
        have g1 : (upd Hh t1 (.tup [.str (Str.ofString "any"), v'])) t1 = some (.tup [.str (Str.ofString "any"), v']) := upd_same
        generalize upd Hh t1 (.tup [.str (Str.ofString "any"), v']) = H1 at s1 g1 ⊢
        refine ⟨_, rfl, (show 3 ≤ sizeLine by decide), fun t2 n2 => ?_⟩
        have s2 : Same H1 (upd H1 t2 (.tup [.str (Str.ofString "either"), v', .str (Str.ofString "a")])) := Same.new n2
        have g2 : (upd H1 t2 (.tup [.str (Str.ofString "either"), v', .str (Str.ofString "a")])) t2 = some (.tup [.str (Str.ofString "either"), v', .str (Str.ofString "a")]) := upd_same
        generalize upd H1 t2 (.tup [.str (Str.ofString "either"), v', .str (Str.ofString "a")]) = H2 at s2 g2 ⊢
        refine ⟨_, rfl, (show 2 ≤ sizeLine by decide), fun t3 n3 => ?_⟩
        have s3 : Same H2 (upd H2 t3 (.tup [.str (Str.ofString "again"), v'])) := Same.new n3
        have g3 : (upd H2 t3 (.tup [.str (Str.ofString "again"), v'])) t3 = some (.tup [.str (Str.ofString "again"), v']) := upd_same
        generalize upd H2 t3 (.tup [.str (Str.ofString "again"), v']) = H3 at s3 g3 ⊢
        refine ⟨(show 2 ≤ sizeLine by decide), fun t4 n4 => ?_⟩
        have s4 : Same H3 (upd H3 t4 (.tup [.str (Str.ofString "then"), .str (Str.ofString "a")])) := Same.new n4
        have g4 : (upd H3 t4 (.tup [.str (Str.ofString "then"), .str (Str.ofString "a")])) t4 = some (.tup [.str (Str.ofString "then"), .str (Str.ofString "a")]) := upd_same
        generalize upd H3 t4 (.tup [.str (Str.ofString "then"), .str (Str.ofString "a")]) = H4 at s4 g4 ⊢
        refine ⟨_, rfl, (show 3 ≤ sizeLine by decide), fun t5 n5 => ?_⟩
        have s5 : Same H4 (upd H4 t5 (.tup [.str (Str.ofString "then"), .ref t4, v'])) := Same.new n5
        have g5 : (upd H4 t5 (.tup [.str (Str.ofString "then"), .ref t4, v'])) t5 = some (.tup [.str (Str.ofString "then"), .ref t4, v']) := upd_same
        generalize upd H4 t5 (.tup [.str (Str.ofString "then"), .ref t4, v']) = H5 at s5 g5 ⊢
        refine ⟨(show 4 ≤ sizeLine by decide), fun l nl => ?_⟩
        have s6 : Same H5 (upd H5 l (.lst [.ref t1, .ref t2, .ref t3, .ref t5])) := Same.new nl
        have g6 : (upd H5 l (.lst [.ref t1, .ref t2, .ref t3, .ref t5])) l = some (.lst [.ref t1, .ref t2, .ref t3, .ref t5]) := upd_same
        generalize upd H5 l (.lst [.ref t1, .ref t2, .ref t3, .ref t5]) = H6 at s6 g6 ⊢
        have s46 := s5.trans s6
        have s36 := s4.trans s46
        have s26 := s3.trans s36
        have s16 := s2.trans s26
        have s06 := s1.trans s16
        have hv6 := hvi.same s06
        have all : ∀ x ∈ [V.ref t1, .ref t2, .ref t3, .ref t5], ∃ e, Pl K H6 x e ∧ Grow (i + 1) e := fun x hx => by
          simp only [List.mem_cons, List.not_mem_nil, or_false] at hx
          rcases hx with rfl | rfl | rfl | rfl
          · exact ⟨_, .tup (SqT.of (s16 _ _ g1)) (.cons (.str _) (.cons hv6 .nil)), grow_any gi⟩
          · exact ⟨_, .tup (SqT.of (s26 _ _ g2)) (.cons (.str _) (.cons hv6 (.cons (.str _) .nil))), grow_either gi⟩
          · exact ⟨_, .tup (SqT.of (s36 _ _ g3)) (.cons (.str _) (.cons hv6 .nil)), grow_again gi⟩
          · exact ⟨_, .tup (SqT.of (s6 _ _ g5)) (.cons (.str _) (.cons (.tup (SqT.of (s46 _ _ g4)) (.cons (.str _) (.cons (.str _) .nil))) (.cons hv6 .nil))), grow_then gi⟩
        have P6 := Pi.same s06 (Nat.le_refl _)
        refine ⟨p, c, n + i, l, _, rfl, P6, by omega, g6, (show 1 ≤ 4 by decide), (show 4 ≤ 1000 by decide), fun j x H7 gx P7 b7 => ?_⟩
        obtain ⟨e, he, ge⟩ := all x (List.mem_of_getElem? gx)
        exact gName_go ⟨x, e, _, rfl, P7, bi.trans ((But.of s06).trans b7), he.keep (KeepT.pen' P6 b7), ge⟩
      · rintro σ Hh ⟨v', d', o, rfl, Pi, bi, hvi, gi⟩
        exact ⟨_, rfl, go v' d' Hh Pi bi hvi gi⟩
end
end Fp6
set_option Elab.async false
set_option linter.all false
set_option maxRecDepth 100000
set_option maxHeartbeats 4000000
/-! the law's book and its tasks; what is told, and what is due -/
namespace Fp6
open PySem PySem.Spec PyProof.Rows L2 Fh Fs
open PySem.W (Frag)
/-- what stays but the pen -/
def StepP (p : Addr) (H H' : Hp) : Prop := ∀ b o, b ≠ p → H b = some o → (∀ ps, o ≠ .tbl ps) → H' b = some o
theorem StepP.but {p : Addr} {H H' : Hp} (b : But p H H') : StepP p H H' := fun x o n h _ => b x o n h
theorem StepP.same {p : Addr} {H H' : Hp} (b : Same H H') : StepP p H H' := fun x o _ h _ => b x o h
theorem StepP.ext {p : Addr} {H H' : Hp} (b : LamX.ExtN H H') : StepP p H H' := fun x o _ h n => b x o h n
theorem StepP.keepB {p c : Addr} {n : Nat} {H H' : Hp} (P : PenAt H p c n) (s : StepP p H H') : KeepB H H' := fun b o bits h => by
  obtain ⟨cs, sp, r, S, _⟩ := P.open
  refine s b o (fun e => ?_) h fun ps z => ?_
  · rw [e, S.hp] at h
    cases h
    exact bits_dK bits
  · subst z
    rcases bits with ⟨_, _, _, z⟩ | ⟨_, z⟩ <;> cases z
theorem StepP.keepT {p c : Addr} {n : Nat} {H H' : Hp} (P : PenAt H p c n) (s : StepP p H H') : KeepT H H' := fun a xs h => by
  obtain ⟨cs, sp, r, S, _⟩ := P.open
  rcases h with h | ⟨o, h⟩
  · exact .inl (s a _ (fun e => by rw [e, S.hp] at h; cases h) h fun _ z => nomatch z)
  · exact .inr ⟨o, s a _ (fun e => by rw [e, S.hp] at h; cases h) h fun _ z => nomatch z⟩
theorem ne_pen {p c t : Addr} {n : Nat} {H : Hp} {m : List (Str × V)} (P : PenAt H p c n) (h : H t = some (.dK (tD m))) (hm : m.length ≠ 3) : t ≠ p := fun e => by
  obtain ⟨cs, sp, r, S, _⟩ := P.open
  rw [e, S.hp] at h
  injection h with h
  injection h with h
  have l := congrArg List.length h
  rw [tD_len] at l
  exact hm l.symm
/-- the tasks a and b -/
structure Kn (CT : Addr) (H : Hp) (td a1 a2 : Addr) : Prop where
  ht : H td = some (.dK (tD [("a", .ref a1), ("b", .ref a2)]))
  t1 : TaskAt CT H a1 tk0
  t2 : TaskAt CT H a2 tk0
theorem Kn.step {CT : Addr} {H H' : Hp} {td a1 a2 p c : Addr} {n : Nat} (h : Kn CT H td a1 a2) (P : PenAt H p c n) (s : StepP p H H') : Kn CT H' td a1 a2 :=
  ⟨s _ _ (ne_pen P h.ht (show 2 ≠ 3 by decide)) h.ht (fun _ z => nomatch z), h.t1.keep (s.keepB P), h.t2.keep (s.keepB P)⟩
theorem Kn.exta {CT : Addr} {H H' : Hp} {td a1 a2 a C dx : Addr} {fs : List (Str × V)} (h : Kn CT H td a1 a2) (s : Ext a H H') (ha : H a = some (.ins C dx fs)) (hf : fs.length < 6) : Kn CT H' td a1 a2 :=
  ⟨s _ _ (fun e => by rw [← e, h.ht] at ha; cases ha) h.ht, h.t1.exta s ha hf, h.t2.exta s ha hf⟩
abbrev ns0 : List Str := ["a", "b"]
/-- the book -/
def Bk (K : Frag) (CB CT : Addr) (H : Hp) (bk : Addr) (d : PyData) : Prop := ∃ m1 m2 ks us, BookW K CB CT H bk m1 m2 ks us d ∧ ks.length = 1 ∧ us.length = 2 ∧ ∀ y, y ∈ us.map (·.1) ↔ y ∈ ns0
theorem Bk.step {K : Frag} {CB CT : Addr} {H H' : Hp} {bk p c : Addr} {n : Nat} {d : PyData} (h : Bk K CB CT H bk d) (P : PenAt H p c n) (s : StepP p H H') : Bk K CB CT H' bk d := by
  obtain ⟨m1, m2, ks, us, ⟨dx, k1, t1, pl, ha, hk, kt, ht, ta, hp⟩, l1, l2, hn⟩ := h
  have kB := s.keepB P
  have kT := s.keepT P
  refine ⟨m1, m2, ks, us, ⟨dx, k1, t1, pl, kB _ _ (.inl ⟨_, _, _, rfl⟩) ha, s _ _ (ne_pen P hk (by rw [kt.len]; omega)) hk (fun _ z => nomatch z), kt.keep (fun t xs z => kB _ _ (.inr ⟨_, rfl⟩) z), s _ _ (ne_pen P ht (by rw [ta.len]; omega)) ht (fun _ z => nomatch z), ta.keep kB, hp.keep kT⟩, l1, l2, hn⟩
theorem pen_exta {H H' : Hp} {p c a C dx : Addr} {n : Nat} {fs : List (Str × V)} (P : PenAt H p c n) (s : Ext a H H') (ha : H a = some (.ins C dx fs)) : PenAt H' p c n := by
  obtain ⟨pc, cs, sp, r, hp, hc, hl, h0, h3⟩ := P
  exact ⟨pc, cs, sp, r, s _ _ (fun e => by rw [← e, hp] at ha; cases ha) hp, s _ _ (fun e => by rw [← e, hc] at ha; cases ha) hc, hl, h0, h3⟩
theorem tabs_exta {T : List (Addr × Str)} {H H' : Hp} {a C dx : Addr} {fs : List (Str × V)} (t : LamX.Tabs T H) (s : Ext a H H') (ha : H a = some (.ins C dx fs)) : LamX.Tabs T H' := tabs_but t ha (fun _ z => nomatch z) (fun _ _ z => by unfold LamX.CodeO at z; cases z) s
theorem names_word : ∀ {n : Nat} {d : PyData}, Sh n d → ∀ y ∈ namesF n d, wordB y = true
  | n, _, .nm (y := x) h, y, hy => by
    rw [names_str] at hy
    rw [List.mem_singleton.mp hy]
    exact h
  | n + 1, _, .nd (y := x) (ds := ds) h1 h2 h3, y, hy => by
    rw [names_nd] at hy
    obtain ⟨d, hd, hy⟩ := List.mem_flatMap.mp hy
    exact names_word (h3 d hd) y hy
theorem due_shaped {n : Nat} {d : PyData} {ns : List Str} {o : Out} (h : Due n d ns o) : SeqAt.shaped (dueD o) = true := by
  cases h with
  | bad _ => rfl
  | names _ _ => exact (by decide +kernel : SeqAt.shaped (.tuple [.str "many", .int 16]) = true)
  | levels _ _ _ => exact (by decide +kernel : SeqAt.shaped (.tuple [.str "many", .int 5]) = true)
  | @odd x a _ _ h1 _ _ =>
    have w := (word_str (names_word a.sh x h1)).1
    unfold SeqAt.shaped
    have c : PyData.canLay0 (.tuple [.str "task", .str x]) = true := by
      show PyData.canLayAll0 [.str "task", .str x] = true
      refine lay_all fun d hd => ?_
      rcases List.mem_cons.mp hd with rfl | hd
      · exact (by decide +kernel : PyData.canLay0 (.str "task") = true)
      · rw [List.mem_singleton.mp hd]; exact w
    rw [show PyData.canLay0 (dueD (.odd x)) = true from c]
    rfl
  | fine _ _ _ _ => rfl
/-- values that are no plans -/
def wrongs : List PyData := [.int 5, .tuple [], .list [.str "a"], .tuple [.str "any"]]
theorem wrong_chk : ∀ e ∈ wrongs, chk 8 false e = some (some e) := by
  intro e he
  simp only [wrongs, List.mem_cons, List.not_mem_nil, or_false] at he
  rcases he with rfl | rfl | rfl | rfl <;> rfl
theorem wrong_rp : ∀ e ∈ wrongs, Rp e := by
  intro e he
  have ssz : sizeLine = 16777216 := sizeLine_eq
  simp only [wrongs, List.mem_cons, List.not_mem_nil, or_false] at he
  rcases he with rfl | rfl | rfl | rfl <;> exact ⟨by decide +kernel, by decide +kernel, by rw [ssz]; decide +kernel⟩
theorem wrong_shaped : ∀ e ∈ wrongs, SeqAt.shaped (.tuple [.str "plan", .str e.shown]) = true := by
  intro e he
  simp only [wrongs, List.mem_cons, List.not_mem_nil, or_false] at he
  rcases he with rfl | rfl | rfl | rfl <;> decide +kernel
theorem wrong_db {K : Frag} {H : Hp} {v : V} : ∀ e ∈ wrongs, Gd K H v e → Db K H v e := by
  intro e he g
  simp only [wrongs, List.mem_cons, List.not_mem_nil, or_false] at he
  rcases he with rfl | rfl | rfl | rfl
  · cases g with
    | int i => exact .int _
  · cases g with
    | tup h r => cases r; exact .tup h .nil
  · cases g with
    | lst h r =>
      cases r with
      | cons h1 r => cases r; cases h1; exact .lst h (.cons (.str _) .nil)
  · cases g with
    | tup h r =>
      cases r with
      | cons h1 r => cases r; cases h1; exact .tup h (.cons (.str _) .nil)
theorem spoilt_chk {d e : PyData} (rt : Rt 7 false d) (he : chk 8 false e = some (some e)) : chk 9 false (.tuple [.str "then", d, e]) = some (some e) := by
  have e1 : chk 9 false (.tuple [.str "then", d, e]) = chks (chk 8 false) [d, e] := rfl
  rw [e1]
  show (match chk 8 false d with | some none => chks (chk 8 false) [e] | r => r) = _
  rw [rt_chk rt]
  show (match chk 8 false e with | some none => chks (chk 8 false) [] | r => r) = _
  rw [he]
/-- of due and told: equal -/
theorem told_due {K : Frag} {CP CM CU : Addr} {H' : Hp} {Q : VK} {n : Nat} {d : PyData} {ns : List Str} {o : Out} (du : Due n d ns o) (hb : ∀ e, o ≠ .bad e) (k : o ≠ .fine → ∀ r H2, Same H' H2 → Dp K H2 r (dueD o) → Q r H2) : OutE K CP CM CU (ToldE K CP CM CU Q) H' o := by
  cases o with
  | bad e => exact absurd rfl (hb e)
  | many m => exact fun dd hd => .inr (.inl ⟨rfl, dd, _, rfl, hd, fun t nt => k (fun z => nomatch z) _ _ (Same.new nt) (.tup (SqT.of upd_same) (.cons (.str _) (.cons (.int _) .nil)))⟩)
  | odd x => exact fun dd hd => .inr (.inr ⟨rfl, dd, _, rfl, hd, fun t nt => k (fun z => nomatch z) _ _ (Same.new nt) (.tup (SqT.of upd_same) (.cons (.str _) (.cons (.str _) .nil)))⟩)
  | fine => trivial
/-- Book({'p': []}, known, plan) -/
theorem bk_make {K : Frag} {mg : Str → Option Value} {w : World} {aF aM aD CE aE CB CT CP CM CU aW aR aH aA aI : Addr} {fW fR fH fA fI : FuncData} (G : Pkg K mg w aF aM aD CE aE CT aW aR aH aA aI fW fR fH fA fI) {σ : L2.St} {H : Hp} {Q : VK} {E : XK} {i : Nat} {td a1 a2 : Addr} {te : TE} {v : V} {d : PyData} {o : Out}
    (hi : σ[i]? = some (some (.ref td))) (kn : Kn CT H td a1 a2) (hte : ∀ (Hx : Hp) (g : VK), g v Hx → te σ Hx g) (av : AskV K H v d o) (du : Due 8 d ns0 o) (ke : ∀ H', Same H H' → OutE K CP CM CU E H' o) (k : o = .fine → ∀ bk H', Same H H' → Bk K CB CT H' bk (nf 8 d) → Q (.ref bk) H') :
    tMake CB (spBkA K CB CT CP CM CU 8) [] E (tCons (tDisp [(tC (.str "p"), tLst tNil)]) (tCons (tVar i) (tCons te tNil))) σ H Q := by
  refine fun kd nkd => ?_
  refine ⟨(show 0 ≤ sizeLine by decide), fun el nel => ?_⟩
  have ek : el ≠ kd := fun z => by rw [z, upd_same] at nel; cases nel
  have nel2 : H el = none := by rw [upd_ne ek] at nel; exact nel
  refine ⟨by rw [upd_ne (Ne.symm ek), upd_same], [(.inr "p", .ref el)], rfl, by simp, ?_⟩
  have hkd : (upd (upd (upd H kd (.dK [])) el (.lst [])) kd (.dK (mergeK [] [(.inr "p", .ref el)]))) kd = some (.dK (tD [("p", .ref el)])) := upd_same
  have hel : (upd (upd (upd H kd (.dK [])) el (.lst [])) kd (.dK (mergeK [] [(.inr "p", .ref el)]))) el = some (.lst (([] : List Str).map V.str)) := by rw [upd_ne ek, upd_same]; rfl
  have sk : Same H (upd (upd (upd H kd (.dK [])) el (.lst [])) kd (.dK (mergeK [] [(.inr "p", .ref el)]))) := fun b o z => by
    rw [upd_ne (ne_of_none z nkd), upd_ne (ne_of_none z nel2), upd_ne (ne_of_none z nkd)]
    exact z
  generalize upd (upd (upd H kd (.dK [])) el (.lst [])) kd (.dK (mergeK [] [(.inr "p", .ref el)])) = Hk at hkd hel sk ⊢
  refine ⟨_, hi, ?_⟩
  refine hte _ _ ?_
  refine fun bk dx nbk ndx ne => ?_
  have nbk2 : (upd Hk dx (.own bk)) bk = none := by rw [upd_ne (Ne.symm ne)]; exact nbk
  have sB : Same Hk (upd (upd Hk dx (.own bk)) bk (.ins CB dx [])) := (Same.new ndx).trans (Same.new nbk2)
  have gB : (upd (upd Hk dx (.own bk)) bk (.ins CB dx [])) bk = some (.ins CB dx []) := upd_same
  generalize upd (upd Hk dx (.own bk)) bk (.ins CB dx []) = Hb at sB gB ⊢
  have skb := sk.trans sB
  have nbH := none_back sk nbk
  have rT : RightT [("a", tk0), ("b", tk0)] := ⟨by simp, by decide +kernel, fun q hq => by
    rcases List.mem_cons.mp hq with rfl | hq
    · exact ⟨(by decide +kernel : Word "a"), ok_tk0⟩
    · rw [List.mem_singleton.mp hq]; exact ⟨(by decide +kernel : Word "b"), ok_tk0⟩⟩
  have rK : RightK K Hb [("p", .ref el)] (fun _ _ => True) := ⟨by simp, by simp, by simp, fun q hq => by
    rw [List.mem_singleton.mp hq]
    exact ⟨(by decide +kernel : Word "p"), [], ⟨el, rfl, .inl (SqL.of (sB _ _ hel))⟩, oks_nil.1, by simp, trivial⟩⟩
  have back : ∀ {H' : Hp}, Ext bk Hb H' → Same H H' := fun ext b o z => ext b o (fun e => by rw [e, nbH] at z; cases z) (skb _ _ z)
  refine ⟨bk, dx, kd, td, v, d, [("p", .ref el)], [("a", .ref a1), ("b", .ref a2)], [("a", tk0), ("b", tk0)], _, o, rfl, gB, sB _ _ hkd, rK, skb _ _ kn.ht, .cons (kn.t1.keep (.of skb)) (.cons (kn.t2.keep (.of skb)) .nil), rT, fun q hq => ?_, av.same skb, du, fun H' ext => ke H' (back ext), fun fine ks us m1 m2 H' ext mk mt _ bw => ⟨rfl, k fine bk H' (back ext) ⟨m1, m2, ks, us, bw, ?_, ?_, fun y => ?_⟩⟩⟩
  · rcases List.mem_cons.mp hq with rfl | hq
    · exact ⟨rfl, rfl⟩
    · rw [List.mem_singleton.mp hq]; exact ⟨rfl, rfl⟩
  · have := mk.1.length_eq
    simpa using this
  · have := mt.1.length_eq
    simpa using this
  · exact mt.1.mem_iff
/-- the long plan, and what is left of it -/
def longD : PyData := .tuple [.str "again", .tuple (.str "then" :: List.replicate 16 (.str "a"))]
def leftD : PyData := .tuple (.str "then" :: (List.replicate 16 (.str "a") ++ [longD]))
theorem long_rt : Rt 2 false longD := by
  refine .nd (show rightNo (Str.ofString "again") ((1 : Nat) : Int) = true by decide +kernel) rfl fun d hd => ?_
  rw [List.mem_singleton.mp hd]
  refine .nd (then_any _) rfl fun d hd => ?_
  rw [List.eq_of_mem_replicate hd]
  exact .nm wd_a
theorem long_sh : Sh 2 longD := by
  refine .nd (show rightNo (Str.ofString "again") ((1 : Nat) : Int) = true by decide +kernel) (.inr (show 1 ≤ 4 by decide)) fun d hd => ?_
  rw [List.mem_singleton.mp hd]
  refine .nd (then_any _) (.inl rfl) fun d hd => ?_
  rw [List.eq_of_mem_replicate hd]
  exact .nm wd_a
theorem left_rt : Rt 3 false leftD := by
  refine .nd (then_any _) rfl fun d hd => ?_
  rcases List.mem_append.mp hd with z | z
  · rw [List.eq_of_mem_replicate z]
    exact .nm wd_a
  · rw [List.mem_singleton.mp z]
    exact long_rt
theorem left_sh : Sh 3 leftD := by
  refine .nd (then_any _) (.inl rfl) fun d hd => ?_
  rcases List.mem_append.mp hd with z | z
  · rw [List.eq_of_mem_replicate z]
    exact .nm wd_a
  · rw [List.mem_singleton.mp z]
    exact long_sh
theorem long_w : longD.weight = 44 := by decide +kernel
theorem left_w : leftD.weight = 82 := by decide +kernel
theorem long_names : namesF 8 longD = List.replicate 16 (Str.ofString "a") := rfl
theorem left_names : (namesF 8 leftD).length = 32 := rfl
theorem long_nf : nf 8 longD = longD := by rfl
theorem left_nf : nf 8 leftD = leftD := by rfl
theorem long_lv : lvF 8 longD = 2 := rfl
theorem long_due : Due 8 longD ns0 .fine := by
  refine .fine ⟨long_rt.up (by decide), long_sh.up (by decide), by decide, by rw [long_w]; decide, by rw [long_names]; decide⟩ (by rw [long_names]; decide) (by rw [long_nf, long_lv]; decide) fun y hy => ?_
  rw [long_names] at hy
  rw [List.eq_of_mem_replicate hy]
  exact List.mem_cons_self
theorem long_choices : chL (waysF 8 longD) = [doneD, leftD] := by rfl
theorem left_rp : Rp leftD := by
  have ssz : sizeLine = 16777216 := sizeLine_eq
  exact ⟨by decide +kernel, by decide +kernel, by rw [ssz]; decide +kernel⟩
theorem two_keys : ∀ {m : List (Str × V)}, m.map (·.1) = ns0 → ∃ v1 v2 : V, m = [((Str.ofString "a" : Str), v1), ((Str.ofString "b" : Str), v2)]
  | [(x, v), (y, u)], h => by
    have h : [x, y] = ns0 := h
    injection h with h1 h2
    injection h2 with h2 _
    exact ⟨v, u, by rw [h1, h2]⟩
  | [], h => by cases h
  | [_], h => by
    have := congrArg List.length h
    cases this
  | _ :: _ :: _ :: _, h => by
    have := congrArg List.length h
    rw [List.length_map] at this
    cases this
theorem grow0 {ys : List Str} (h : ∀ y ∈ ys, wordB y = true ∧ y.length = 1) (l : ys.length ≤ 17) : Grow 0 (.tuple (.str "then" :: ys.map PyData.str)) := by
  have hw : PyData.weightAll (ys.map PyData.str) = 2 * ys.length := by
    clear l
    induction ys with
    | nil => rw [List.map_nil, w_nil]; rfl
    | cons y ys ih =>
      rw [List.map_cons, w_cons, w_str, ih fun z hz => h z (List.mem_cons_of_mem _ hz), (h y List.mem_cons_self).2, List.length_cons]
      omega
  have hn : ∀ m, (ys.map PyData.str).flatMap (namesF m) = ys := fun m => by
    clear h l hw
    induction ys with
    | nil => rfl
    | cons y ys ih => rw [List.map_cons, List.flatMap_cons, names_str, ih]; rfl
  refine ⟨.nd (then_any _) rfl fun d hd => ?_, .nd (then_any _) (.inl rfl) fun d hd => ?_, ?_, few_nd fun m => by rw [hn]; exact l⟩
  · obtain ⟨y, hy, rfl⟩ := List.mem_map.mp hd
    exact .nm (h y hy).1
  · obtain ⟨y, hy, rfl⟩ := List.mem_map.mp hd
    exact .nm (h y hy).1
  · have e1 : (Str.ofString "then").length = 4 := by decide +kernel
    rw [w_tup, w_cons, w_str, hw, e1]
    omega
theorem pls_strs {K : Frag} {H : Hp} : ∀ ys : List Str, Pls K H (ys.map V.str) (ys.map PyData.str)
  | [] => .nil
  | y :: ys => .cons (.str y) (pls_strs ys)
theorem wrong_step {K : Frag} {H H' : Hp} {v : V} {p c : Addr} {n : Nat} (P : PenAt H p c n) (s : StepP p H H') : ∀ e ∈ wrongs, Gd K H v e → Gd K H' v e := by
  intro e he g
  simp only [wrongs, List.mem_cons, List.not_mem_nil, or_false] at he
  rcases he with rfl | rfl | rfl | rfl
  · cases g with
    | int i => exact .int _
  · cases g with
    | tup h r => cases r; exact .tup ((s.keepT P).sqT h) .nil
  · cases g with
    | lst h r =>
      cases r with
      | cons h1 r =>
        cases r
        cases h1 with
        | str _ l => exact .lst (s _ _ (fun e => by obtain ⟨_, _, _, S, _⟩ := P.open; rw [e, S.hp] at h; cases h) h fun _ z => nomatch z) (.cons (.str _ l) .nil)
  · cases g with
    | tup h r =>
      cases r with
      | cons h1 r =>
        cases r
        cases h1 with
        | str _ l => exact .tup ((s.keepT P).sqT h) (.cons (.str _ l) .nil)
theorem dp_due {K : Frag} {H H' : Hp} (k : KeepT H H') : ∀ {o : Out} {r : V}, Dp K H r (dueD o) → Dp K H' r (dueD o)
  | .bad _, _, h => by cases h; exact .non
  | .fine, _, h => by cases h; exact .non
  | .many m, _, h => by
    cases h with
    | tup h r =>
      cases r with
      | cons h1 r =>
        cases h1
        cases r with
        | cons h2 r =>
          cases h2
          cases r
          exact .tup (k.sqT h) (.cons (.str _) (.cons (.int _) .nil))
  | .odd x, _, h => by
    cases h with
    | tup h r =>
      cases r with
      | cons h1 r =>
        cases h1
        cases r with
        | cons h2 r =>
          cases h2
          cases r
          exact .tup (k.sqT h) (.cons (.str _) (.cons (.str _) .nil))
/-- what the book's plan is then -/
def planD (o : Out) (d : PyData) : PyData := match o with
  | .fine => nf 8 d
  | _ => .str "a"
/-- what stands while it is told -/
structure Sc (K : Frag) (CB CT : Addr) (T : List (Addr × Str)) (p cp : Addr) (n : Nat) (td a1 a2 bk : Addr) (b d : PyData) (v r : V) (o : Out) (H : Hp) : Prop where
  pen : PenAt H p cp n
  tab : LamX.Tabs T H
  kn : Kn CT H td a1 a2
  bk : Bk K CB CT H bk b
  pl : Pl K H v d
  dp : Dp K H r (dueD o)
theorem Sc.same {K : Frag} {CB CT : Addr} {T : List (Addr × Str)} {p cp : Addr} {n : Nat} {td a1 a2 bk : Addr} {b d : PyData} {v r : V} {o : Out} {H H' : Hp} (h : Sc K CB CT T p cp n td a1 a2 bk b d v r o H) (s : Same H H') : Sc K CB CT T p cp n td a1 a2 bk b d v r o H' :=
  ⟨h.pen.same s (Nat.le_refl _), h.tab.ext fun b o z => s b o z, h.kn.step h.pen (.same s), h.bk.step h.pen (.same s), h.pl.same s, dp_due (.of s) h.dp⟩
theorem Sc.ext {K : Frag} {CB CT : Addr} {T : List (Addr × Str)} {p cp : Addr} {n : Nat} {td a1 a2 bk : Addr} {b d : PyData} {v r : V} {o : Out} {H H' : Hp} (h : Sc K CB CT T p cp n td a1 a2 bk b d v r o H) (s : LamX.ExtN H H') (t : LamX.Tabs T H') : Sc K CB CT T p cp n td a1 a2 bk b d v r o H' :=
  ⟨pen_n s h.pen, t, h.kn.step h.pen (.ext s), h.bk.step h.pen (.ext s), h.pl.keep (keepT_n s), dp_due (keepT_n s) h.dp⟩
theorem Sc.set {K : Frag} {CB CT : Addr} {T : List (Addr × Str)} {p cp : Addr} {n : Nat} {td a1 a2 bk : Addr} {b b' d : PyData} {v r : V} {o : Out} {H H' : Hp} {C dx : Addr} {fs : List (Str × V)} (h : Sc K CB CT T p cp n td a1 a2 bk b d v r o H) (s : Ext bk H H') (ha : H bk = some (.ins C dx fs)) (hf : fs.length < 6) (hb : Bk K CB CT H' bk b') : Sc K CB CT T p cp n td a1 a2 bk b' d v r o H' :=
  ⟨pen_exta h.pen s ha, tabs_exta h.tab s ha, h.kn.exta s ha hf, hb, h.pl.keep (KeepT.exta s ha), dp_due (KeepT.exta s ha) h.dp⟩
end Fp6
set_option Elab.async false
set_option linter.all false
set_option maxRecDepth 100000
set_option maxHeartbeats 2000000
/-! k26: the law -/
namespace Fp6
open PySem PySem.Spec PyProof.Rows L2 Fh Fs
open PySem.W (Frag)
abbrev sLaw : Stmt := top 100
abbrev sTold : Stmt := top 96
abbrev qL : Str := (("law" : Str) ++ ".<locals>.") ++ "<lambda>"
abbrev NL : List Str := ["_law_script", "_law_pen_here", "_law_again", "_law_names_here", "_law_number", "_law_part", "_law_due_here", "_law_wrong", "_law_long", "_law_left", "_law_book", "_law_known", "_law_plan", "_law_spoilt", "_law_word", "_law_k"]
structure TxtQ (mg : Str → Option Value) : Prop where
  range : mg "range" = none
  min : mg "min" = none
  repr : mg "repr" = none
  oerr : mg "OverflowError" = none
  lerr : mg "LookupError" = none
structure Defs (K : Frag) (mg : Str → Option Value) (oP oD oQ oF oR oB oN oV oE oL oC oT : Addr) (eP eD eQ eF eR eB eN eV eE eL eC eT : FuncData) : Prop where
  dP : Fun K "_law_pen" "_law_pen" sPen oP eP
  dD : Fun K "_law_draw" "_law_draw" sDraw oD eD
  dQ : Fun K "_law_pick" "_law_pick" sPick oQ eQ
  dF : Fun K "_law_form" "_law_form" sLform oF eF
  dR : Fun K "_law_row" "_law_row" sLrow oR eR
  dB : Fun K "_law_two" "_law_two" sLtwo oB eB
  dN : Fun K "_law_names" "_law_names" sLn oN eN
  dV : Fun K "_law_levels" "_law_levels" sLl oV eV
  dE : Fun K "_law_due" "_law_due" sDue oE eE
  dL : Fun K "_law_tall" "_law_tall" sTall oL eL
  dC : Fun K "choices" "choices" sChs oC eC
  dT : Fun K "_law_told" "_law_told" sTold oT eT
  gP : mg "_law_pen" = some (.ref oP)
  gD : mg "_law_draw" = some (.ref oD)
  gQ : mg "_law_pick" = some (.ref oQ)
  gF : mg "_law_form" = some (.ref oF)
  gR : mg "_law_row" = some (.ref oR)
  gB : mg "_law_two" = some (.ref oB)
  gN : mg "_law_names" = some (.ref oN)
  gV : mg "_law_levels" = some (.ref oV)
  gE : mg "_law_due" = some (.ref oE)
  gL : mg "_law_tall" = some (.ref oL)
  gC : mg "choices" = some (.ref oC)
  gT : mg "_law_told" = some (.ref oT)
theorem fine_one {n : Nat} {d : PyData} (h : Sh n d) (hn : n ≤ 60) (hw : d.weight ≤ 1000000) : Rp d := fine_rp (fine_sh h) (by have := h.lay.2; omega) hw
theorem paired_imp {α β : Type} {F G : α → β → Prop} (h : ∀ a b, F a b → G a b) : ∀ {l1 : List α} {l2 : List β}, Paired F l1 l2 → Paired G l1 l2
  | _, _, .nil => .nil
  | _, _, .cons z r => .cons (h _ _ z) (paired_imp h r)
theorem tCons_go {ta : TE} {t : TA} {σ : L2.St} {H : Hp} {Q : List V → Hp → Prop} (h : ta σ H fun x H1 => t σ H1 fun xs H2 => Q (x :: xs) H2) : tCons ta t σ H Q := h
theorem two_pls {K : Frag} {H : Hp} {xs : List V} {d e : PyData} (h : Pls K H xs [d, e]) : ∃ z1 z2, xs = [z1, z2] ∧ Pl K H z2 e := by
  cases h with
  | cons h1 r =>
    cases r with
    | cons h2 r =>
      cases r
      exact ⟨_, _, rfl, h2⟩
theorem tOp_go {r : R2} {a b : TE} {σ : L2.St} {H : Hp} {Q : VK} (h : a σ H fun x H1 => b σ H1 fun y H2 => r x y H2 Q) : tOp r a b σ H Q := h
theorem tCall_go {sp : Sp} {dvs : List V} {E : XK} {t : TA} {σ : L2.St} {H : Hp} {Q : VK} (h : t σ H fun vs H1 => sp (vs ++ dvs) H1 Q E) : tCall sp dvs E t σ H Q := h
theorem tProp_go {C : Addr} {sp : Sp} {dvs : List V} {E : XK} {ta : TE} {σ : L2.St} {H : Hp} {Q : VK} (h : ta σ H fun x H1 => ∃ a dx fs, x = V.ref a ∧ H1 a = some (HO.ins C dx fs) ∧ sp (V.ref a :: dvs) H1 Q E) : tProp C sp dvs E ta σ H Q := h
theorem told_go {K : Frag} {CP CM CU : Addr} {tl : XK → Hp → VK → Prop} {H : Hp} {Q : VK} (h : tl (ToldE K CP CM CU Q) H (fun _ H' => Q .non H')) : TTold3 K CP CM CU tl H Q := h
section
variable {P : Program} {w : World} {K : Frag} {mg : Str → Option Value} {base : Heap} {aF aM aD CE aE CP fP aC aA aW aI aH : Addr} {fC fA fW fI fH : FuncData} {aN aT aS aX aJ aO aR aB aK aY aZ aV aL : Addr} {fN fT fS fX fJ fO fR fB fK fY fZ fV fL : FuncData}
  {oP oD oQ oF oR oB oN oV oE oL oC oT : Addr} {eP eD eQ eF eR eB eN eV eE eL eC eT : FuncData}
  {CT tR tA tI gE g1 g2 g3 g4 g5 g6 p1 p2 p3 p4 p5 p6 tH : Addr} {hR hH hA hI fE f1 f2 f3 f4 f5 f6 : FuncData} {CB cK cJ cO cP cT cS cM cN cV bI bS bF pP bP CM fM CU fU : Addr} {dK dJ dO dP dT' dS dM dN dV dI dS' dF' dP' : FuncData}
def spLaw (K : Frag) (T : List (Addr × Str)) : Sp := fun vs H Q _ => ∃ (a : Addr) (ns : List Int), vs = [.ref a] ∧ SqL K H a (ns.map V.int) ∧ ns.length ≤ 63 ∧ LamX.Tabs T H ∧ ∀ H', Q (.bl true) H'
theorem scLaw : FnScope NL ["_law_script"] (defScope sLaw) := ⟨rfl, rfl, rfl, by decide +kernel, rfl, by decide +kernel, by decide +kernel⟩
theorem scTold : FnScope ["_law_call", "e"] ["_law_call"] (defScope sTold) := ⟨rfl, rfl, rfl, by decide +kernel, rfl, by decide +kernel, by decide +kernel⟩
/-- the defs of books -/
structure AllG (K : Frag) (mg : Str → Option Value) (w : World) (aF aM aD CE aE CP fP aC aA aW aI aH aN aT aS aX aJ aO aR aB aK aY aZ aV aL CT tR tH tA tI gE g1 g2 g3 g4 g5 g6 p1 p2 p3 p4 p5 p6 CB cK cJ cO cP cT cS cM cN cV bI bS bF pP bP CM fM CU fU : Addr)
    (fC fA fW fI fH fN fT fS fX fJ fO fR fB fK fY fZ fV fL hR hH hA hI fE f1 f2 f3 f4 f5 f6 dK dJ dO dP dT' dS dM dN dV dI dS' dF' dP' : FuncData) : Prop where
  PG : PlG K mg w aF aM aD CE aE CP fP aC aA aW aI aH aN aT aS aX aJ aO aR aB aK aY aZ aV fC fA fW fI fH fN fT fS fX fJ fO fR fB fK fY fZ fV
  CG : CpG K mg w aF aM aD CE aE CP fP aC aA aW aI aH aN aT aS aV aL fC fA fW fI fH fN fT fS fV fL
  G : Pkg K mg w aF aM aD CE aE CT aW tR tH tA tI fW hR hH hA hI
  M : Mets K CT gE g1 g2 g3 g4 g5 g6 p1 p2 p3 p4 p5 p6 fE f1 f2 f3 f4 f5 f6
  B : BkG K mg CB cK cJ cO cP cT cS cM cN cV dK dJ dO dP dT' dS dM dN dV
  mkB : Mk K CB bI
  FBI : Fun K "__init__" "Book.__init__" sBkI bI dI
  mS : Meth K CB "set_plan" bS
  FBS : Fun K "set_plan" "Book.set_plan" sBs bS dS'
  mF : Meth K CB "_forget" bF
  FBF : Fun K "_forget" "Book._forget" sBf bF dF'
  pp : PropOf K CB "plan" pP bP
  FBP : Fun K "plan" "Book.plan" sBp bP dP'
  E3 : Err3 K mg CP fP CM fM CU fU
set_option maxHeartbeats 0 in
theorem ok_law {f c Pt : Addr} {fd : FuncData} (F : FunC K "law" "law" sLaw f c fd) (TB : LamX.TabB base mg c Pt) (A : AllG K mg w aF aM aD CE aE CP fP aC aA aW aI aH aN aT aS aX aJ aO aR aB aK aY aZ aV aL CT tR tH tA tI gE g1 g2 g3 g4 g5 g6 p1 p2 p3 p4 p5 p6 CB cK cJ cO cP cT cS cM cN cV bI bS bF pP bP CM fM CU fU fC fA fW fI fH fN fT fS fX fJ fO fR fB fK fY fZ fV fL hR hH hA hI fE f1 f2 f3 f4 f5 f6 dK dJ dO dP dT' dS dM dN dV dI dS' dF' dP')
    (Z : Defs K mg oP oD oQ oF oR oB oN oV oE oL oC oT eP eD eQ eF eR eB eN eV eE eL eC eT) (TP : TxtP mg) (TQ : TxtQ mg) (TD : TxtD mg) (hS : (K.lookup sysModules).isSome = true) : FnG P w K mg base CX0 24 f fd ["_law_script"] (spLaw K [(Pt, qL)]) := by
  have C := A.PG.C
  have GP : FnOk P w K mg base CX0 1 oP eP ["_law_script"] (spPen K) := ok_pen Z.dP TP
  have GD : FnOk P w K mg base CX0 1 oD eD ["_law_pen_here", "_law_number"] spDraw := ok_draw Z.dD TP
  have GQ : FnOk P w K mg base CX0 2 oQ eQ ["_law_pen_here", "_law_items"] (spPick K) := ok_pick Z.dQ Z.dD TP Z.gD
  have GF : FnOk P w K mg base CX0 11 oF eF ["_law_plan"] (spNf K 8) := ok_lf Z.dF Z.dR Z.dB Z.gF Z.gR Z.gB TD.L 8
  have GN : FnOk P w K mg base CX0 10 oN eN ["_law_plan"] (spLn K 8) := ok_ln Z.dN Z.gN TD.L 8
  have GE : FnOk P w K mg base CX0 12 oE eE ADue (spDue K 8) := ok_due Z.dE Z.dF Z.dR Z.dB Z.dN Z.dV Z.gF Z.gR Z.gB Z.gN Z.gV TD 8
  have GL : FnOk P w K mg base CX0 3 oL eL ATall (spTall K) := ok_tall Z.dL Z.dQ Z.dD Z.gQ Z.gD TP TQ.range
  have GC : FnOk P w K mg base CX0 14 oC eC ["plan"] (spChs K 8) := ok_chs Z.dC A.PG 8
  have GZ : FnOk P w K mg base CX0 13 aZ fZ ["plan"] (spNo K 8) := ok_no A.PG 8
  have GI : FnOk P w K mg base CX0 4 tI hI PSI (spTk K CT) := ok_tk A.G
  have GB : FnOk P w K mg base (L2.CX P w) 15 bI dI NBk (spBkA K CB CT CP CM CU 8) := ok_bkA A.FBI A.G A.M A.CG A.E3 A.B 8
  have GS : FnOk P w K mg base (L2.CX P w) 15 bS dS' ["self", "plan"] (spBsA K CB CT CP CM CU 8) := ok_bsA A.FBS A.FBF A.mF A.G A.CG A.E3 A.B 8
  have GBP : FnOk P w K mg base CX0 1 bP dP' ["self"] (getSp CB "_plan") := ok_bp A.FBP A.B
  have kPen : Binds K eP ["_law_script"] [] := Z.dP.binds (ps := ["_law_script"]) fun _ _ _ _ _ _ us hl => match us, hl with | [_], _ => rfl
  have kD : Binds K eD ["_law_pen_here", "_law_number"] [] := Z.dD.binds (ps := ["_law_pen_here", "_law_number"]) fun _ _ _ _ _ _ us hl => match us, hl with | [_, _], _ => rfl
  have kQ : Binds K eQ ["_law_pen_here", "_law_items"] [] := Z.dQ.binds (ps := ["_law_pen_here", "_law_items"]) fun _ _ _ _ _ _ us hl => match us, hl with | [_, _], _ => rfl
  have kF : Binds K eF ["_law_plan"] [] := Z.dF.binds (ps := ["_law_plan"]) fun _ _ _ _ _ _ us hl => match us, hl with | [_], _ => rfl
  have kN : Binds K eN ["_law_plan"] [] := Z.dN.binds (ps := ["_law_plan"]) fun _ _ _ _ _ _ us hl => match us, hl with | [_], _ => rfl
  have kE : Binds K eE ADue [] := Z.dE.binds (ps := ADue) fun _ _ _ _ _ _ us hl => match us, hl with | [_, _], _ => rfl
  have kL : Binds K eL ATall [] := Z.dL.binds (ps := ATall) fun _ _ _ _ _ _ us hl => match us, hl with | [_, _, _], _ => rfl
  have kC : Binds K eC ["plan"] [] := Z.dC.binds (ps := ["plan"]) fun _ _ _ _ _ _ us hl => match us, hl with | [_], _ => rfl
  have kZ : Binds K fZ ["plan"] [] := A.PG.FZ.binds (ps := ["plan"]) fun _ _ _ _ _ _ us hl => match us, hl with | [_], _ => rfl
  have kB : Binds K dI NBk [] := A.FBI.binds (ps := NBk) fun _ _ _ _ _ _ us hl => match us, hl with | [_, _, _, _], _ => rfl
  have kS : Binds K dS' ["self", "plan"] [] := A.FBS.binds (ps := ["self", "plan"]) fun _ _ _ _ _ _ us hl => match us, hl with | [_, _], _ => rfl
  have kBP : Binds K dP' ["self"] [] := A.FBP.binds (ps := ["self"]) fun _ _ _ _ _ _ us hl => match us, hl with | [_], _ => rfl
  have kT : Binds K eT ["_law_call"] [] := Z.dT.binds (ps := ["_law_call"]) fun _ _ _ _ _ _ us hl => match us, hl with | [_], _ => rfl
  obtain ⟨dsN, vN, bN⟩ := b_none A.G
  obtain ⟨ocT, odT, kVT, docT, pmT, anT, cdvT, ctT, oslT, eTe, lkT, hcT⟩ := Z.dT.ex
  rw [eTe] at lkT kT
  obtain ⟨oc, od, kVl, doc, pm, an, ct, osl, rfl, lk, hcd⟩ := F.ex
  refine fnG_of lk hcd scLaw (fun vs H Q E h => ?_) (fun Ar outer s H vs Q E hG hr h => ?_)
  · obtain ⟨a, ns, rfl, _⟩ := h
    rfl
  · obtain ⟨sc, ns, rfl, hL, hn, hT, k⟩ := h
    have gd : (Ar.deeper (envOfC "law" (defScope sLaw) s.heap.objs.size f (.ref c))).guards = some [] := (guards_deeper _ _).trans hG
    have hu := hr.units
    have hu0 := hr.units0
    have hr1 : Room 1 _ := hr.mono (by decide)
    have hr2 : Room 2 _ := hr.mono (by decide)
    have hr3 : Room 3 _ := hr.mono (by decide)
    have hr5 : Room 5 _ := hr.mono (by decide)
    have hr10 : Room 10 _ := hr.mono (by decide)
    have hr11 : Room 11 _ := hr.mono (by decide)
    have hr12 : Room 12 _ := hr.mono (by decide)
    have hr13 : Room 13 _ := hr.mono (by decide)
    have hr14 : Room 14 _ := hr.mono (by decide)
    have hr16 : Room 16 _ := hr.mono (by decide)
    have hr22 : Room 22 _ := hr.mono (by decide)
    refine' ⟨_, PSs.nox (pss_cons ?s0 (pss_cons ?s1 (pss_cons (ps_for PassesOwn.never rfl ?r0 (pg_name (i := 2) scLaw.nd rfl (Or.inl rfl))
      (pss_cons ?a1 (pss_cons ?a2 (pss_cons ?a3 (pss_cons ?a4 (pss_cons ?a5 (pss_cons ?a6 (pss_cons ?a7 (pss_cons ?a8 (pss_cons ?a9 (pss_cons ?a10 (pss_one ?a11)))))))))))) (pss_cons ?e1 (pss_cons ?e2 (pss_one ?e3)))))), ?q⟩
    case s0 => exact ps_set (i := 1) scLaw.nd rfl (Or.inr rfl) (pe_call GP hr1 rfl Z.gP Z.dP.kp kPen .nil pass0 (pa_cons (pv 0) pa_nil))
    case s1 =>
      refine' ps_set (i := 11) scLaw.nd rfl (Or.inr rfl) (pe_callTy (call_dictP rfl) (by rfl) A.G.T.dict (by decide +kernel) (pa_cons ?l pa_nil))
      case l =>
        refine' pe_lc (own := [("_law_word", 14)]) (g := gName 14) (tt := tYes) rfl scLaw.nd (pi_tup (pe_tup (pa_cons pe_str (pa_cons pe_str pa_nil)))) (blkOk_by (N := NL) (sc := defScope sLaw) (by decide +kernel)) (fun _ _ _ _ _ => pg_name (i := 14) scLaw.nd rfl (Or.inl rfl)) (fun _ _ _ _ _ => pts_nil) ?e
        case e => exact fun _ _ _ _ _ => pe_tup (pa_cons (pv 14) (pa_cons (pe_make0 A.G.mkC GI hr5 rfl A.G.C.gC bN vN pass0) pa_nil))
    case r0 => exact pi_range1 rfl TQ.range (pa_cons (pe_op op_add pe_int (pe_callB (call_min2 rfl) (by rfl) TQ.min (by decide +kernel) (pa_cons pe_int (pa_cons (pe_callB call_len_seq (by rfl) TP.len PySem.boot_len (pa_cons (pv 0) pa_nil)) pa_nil)))) pa_nil)
    case a1 =>
      refine' ps_asg (pe_tup (pa_cons ?b (pa_cons (pe_lst (pa_cons pe_str (pa_cons pe_str (pa_cons pe_str (pa_cons ?u pa_nil))))) pa_nil))) (pg_tup (n := 2) rfl (pgs_cons (pg_name (i := 10) scLaw.nd rfl (Or.inr rfl)) (pgs_cons (pg_name (i := 3) scLaw.nd rfl (Or.inr rfl)) pgs_nil)))
      case b => exact pe_make (E := E0) A.mkB GB hr16 rfl A.B.C.gC kB .nil passL (pa_cons (pe_disp (pps_cons pe_str (pe_lst pa_nil) pps_nil) rfl rfl (by simp) (by decide)) (pa_cons (pv 11) (pa_cons pe_str pa_nil)))
      case u => exact pe_call GQ hr2 rfl Z.gQ Z.dQ.kp kQ .nil pass0 (pa_cons (pv 1) (pa_cons (pe_lst (pa_cons pe_str (pa_cons pe_str (pa_cons pe_str pa_nil)))) pa_nil))
    case a2 => exact ps_set (i := 4) scLaw.nd rfl (Or.inl rfl) (pe_call GQ hr2 rfl Z.gQ Z.dQ.kp kQ .nil pass0 (pa_cons (pv 1) (pa_cons (pe_lst (pa_cons pe_int (pa_cons pe_int (pa_cons pe_int (pa_cons pe_int (pa_cons pe_int pa_nil)))))) pa_nil)))
    case a3 =>
      refine' ps_set (i := 5) scLaw.nd rfl (Or.inl rfl) (pe_op op_catA (pe_tup (pa_cons pe_str pa_nil)) (pe_callTy call_tuple_of (by rfl) TD.L.tuple (by decide +kernel) (pa_cons ?l pa_nil)))
      case l =>
        refine' pe_lc (own := [("_law_k", 15)]) (g := gName 15) (tt := tYes) rfl scLaw.nd (pi_range1 rfl TQ.range (pa_cons (pv 4) pa_nil)) (blkOk_by (N := NL) (sc := defScope sLaw) (by decide +kernel)) (fun _ _ _ _ _ => pg_name (i := 15) scLaw.nd rfl (Or.inl rfl)) (fun _ _ _ _ _ => pts_nil) ?e
        case e => exact fun _ _ _ _ _ => pe_call GQ hr2 rfl Z.gQ Z.dQ.kp kQ .nil pass0 (pa_cons (pv 1) (pa_cons (pv 3) pa_nil))
    case a4 => exact ps_set (i := 12) scLaw.nd rfl (Or.inr rfl) (pe_call GL hr3 rfl Z.gL Z.dL.kp kL .nil pass0 (pa_cons (pv 1) (pa_cons (pv 5) (pa_cons (pe_call GD hr1 rfl Z.gD Z.dD.kp kD .nil pass0 (pa_cons (pv 1) (pa_cons pe_int pa_nil))) pa_nil))))
    case a5 => exact ps_set (i := 6) scLaw.nd rfl (Or.inl rfl) (pe_call GE hr12 rfl Z.gE Z.dE.kp kE .nil pass0 (pa_cons (pv 12) (pa_cons (pv 11) pa_nil)))
    case a6 =>
      refine' ps_if (pt_cmpR (op_neD hu) ?a (pv 6) (nomark _)) (pss_one (ps_ret pe_bl)) pss_nil
      case a =>
        refine' LamX.pe_lamcall (T := [(Pt, qL)]) (TT := TTold3 K CP CM CU) (k := 20) (Ng := ["_law_call", "e"]) rfl Z.gT Z.dT.kp lkT hcT kT scTold rfl (Or.inl rfl) ?told TB rfl List.mem_cons_self (fun p hp _ => by rw [List.mem_singleton.mp hp]; rfl) hr22 (LamX.lamS_by (sc := defScope sLaw) (by decide +kernel)) rfl (fun _ _ _ _ _ => rfl) ?body
        case told => exact told_gives3 A.E3 hS gd hr1 TQ.repr C.T.isinstance TQ.oerr TQ.lerr rfl rfl rfl rfl rfl rfl rfl rfl
        case body => exact fun A' outer' s' H' E' f' c' hr' => pe_make A.mkB GB (hr'.mono (by decide)) rfl A.B.C.gC kB .nil (passes_call (takes_of rfl rfl rfl rfl) fun _ _ _ _ h => h) (pa_cons (pe_disp (pps_cons pe_str (pe_lst pa_nil) pps_nil) rfl rfl (by simp) (by decide)) (pa_cons (pv 11) (pa_cons (pv 12) pa_nil)))
    case a7 =>
      refine' ps_if (pt_cmpR (op_neD hu) ?a (pv 6) (nomark _)) (pss_one (ps_ret pe_bl)) pss_nil
      case a =>
        refine' LamX.pe_lamcall (T := [(Pt, qL)]) (TT := TTold3 K CP CM CU) (k := 20) (Ng := ["_law_call", "e"]) rfl Z.gT Z.dT.kp lkT hcT kT scTold rfl (Or.inl rfl) ?told TB rfl List.mem_cons_self (fun p hp _ => by rw [List.mem_singleton.mp hp]; rfl) hr22 (LamX.lamS_by (sc := defScope sLaw) (by decide +kernel)) rfl (fun _ _ _ _ _ => rfl) ?body
        case told => exact told_gives3 A.E3 hS gd hr1 TQ.repr C.T.isinstance TQ.oerr TQ.lerr rfl rfl rfl rfl rfl rfl rfl rfl
        case body => exact fun A' outer' s' H' E' f' c' hr' => pe_meth (pv 10) A.B.C.cl A.mS GS (hr'.mono (by decide)) kS .nil (passes_call (takes_of rfl rfl rfl rfl) fun _ _ _ _ h => h) (pa_cons (pv 12) pa_nil)
    case a8 =>
      refine' ps_if (pt_cmpR op_ne ?a ?b (nomark _)) (pss_one (ps_ret pe_bl)) pss_nil
      case a => exact pe_callB (call_reprB hS gd hu) (by rfl) TQ.repr (by decide +kernel) (pa_cons (pe_prop (pv 10) A.B.C.cl A.pp GBP hr2 kBP .nil pass0 (by rfl)) pa_nil)
      case b => exact pe_callB (call_reprB hS gd hu) (by rfl) TQ.repr (by decide +kernel) (pa_cons (pe_ifExp (pt_cmp (pc_notN (pv 6))) pe_str (pe_call GF hr11 rfl Z.gF Z.dF.kp kF .nil pass0 (pa_cons (pv 12) pa_nil))) pa_nil)
    case a9 => exact ps_set (i := 7) scLaw.nd rfl (Or.inl rfl) (pe_call GQ hr2 rfl Z.gQ Z.dQ.kp kQ .nil pass0 (pa_cons (pv 1) (pa_cons (pe_lst (pa_cons pe_int (pa_cons (pe_tup pa_nil) (pa_cons (pe_lst (pa_cons pe_str pa_nil)) (pa_cons (pe_tup (pa_cons pe_str pa_nil)) pa_nil))))) pa_nil)))
    case a10 => exact ps_set (i := 13) scLaw.nd rfl (Or.inr rfl) (pe_tup (pa_cons pe_str (pa_cons (pv 12) (pa_cons (pv 7) pa_nil))))
    case a11 =>
      refine' ps_if (pt_cmpR (op_neD hu) ?a ?b (nomark _)) (pss_one (ps_ret pe_bl)) pss_nil
      case a =>
        refine' LamX.pe_lamcall (T := [(Pt, qL)]) (TT := TTold3 K CP CM CU) (k := 20) (Ng := ["_law_call", "e"]) rfl Z.gT Z.dT.kp lkT hcT kT scTold rfl (Or.inl rfl) ?told TB rfl List.mem_cons_self (fun p hp _ => by rw [List.mem_singleton.mp hp]; rfl) hr22 (LamX.lamS_by (sc := defScope sLaw) (by decide +kernel)) rfl (fun _ _ _ _ _ => rfl) ?body
        case told => exact told_gives3 A.E3 hS gd hr1 TQ.repr C.T.isinstance TQ.oerr TQ.lerr rfl rfl rfl rfl rfl rfl rfl rfl
        case body => exact fun A' outer' s' H' E' f' c' hr' => pe_meth (pv 10) A.B.C.cl A.mS GS (hr'.mono (by decide)) kS .nil (passes_call (takes_of rfl rfl rfl rfl) fun _ _ _ _ h => h) (pa_cons (pv 13) pa_nil)
      case b => exact pe_tup (pa_cons pe_str (pa_cons (pe_callB (call_reprB hS gd hu) (by rfl) TQ.repr (by decide +kernel) (pa_cons (pv 7) pa_nil)) pa_nil))
    case e1 => exact ps_set (i := 8) scLaw.nd rfl (Or.inl rfl) (pe_tup (pa_cons pe_str (pa_cons (pe_op op_catA (pe_tup (pa_cons pe_str pa_nil)) (pe_op op_repT (pe_tup (pa_cons pe_str pa_nil)) pe_int)) pa_nil)))
    case e2 =>
      refine' ps_set (i := 9) scLaw.nd rfl (Or.inl rfl) (pe_ix ix_list (pe_call GC hr14 rfl Z.gC Z.dC.kp kC .nil pass0 (pa_cons (pe_prop ?b A.B.C.cl A.pp GBP hr2 kBP .nil pass0 (by rfl)) pa_nil)) pe_int (fun _ _ => rfl))
      case b => exact pe_make (E := E0) A.mkB GB hr16 rfl A.B.C.gC kB .nil passL (pa_cons (pe_disp (pps_cons pe_str (pe_lst pa_nil) pps_nil) rfl rfl (by simp) (by decide)) (pa_cons (pv 11) (pa_cons (pv 8) pa_nil)))
    case e3 =>
      refine' ps_ret (pe_and (pe_cmpR op_eq ?a pe_int (nomark _)) (pe_one (pe_cmpR op_eq ?b ?c (nomark _))))
      case a => exact pe_callB call_len_seq (by rfl) TP.len PySem.boot_len (pa_cons (pe_call GN hr10 rfl Z.gN Z.dN.kp kN .nil pass0 (pa_cons (pv 9) pa_nil)) pa_nil)
      case b => exact pe_callB (call_reprB hS gd hu) (by rfl) TQ.repr (by decide +kernel) (pa_cons (pe_call GZ hr13 rfl A.PG.gZ A.PG.FZ.kp kZ .nil pass0 (pa_cons (pv 9) pa_nil)) pa_nil)
      case c => exact pe_callB (call_reprB hS gd hu) (by rfl) TQ.repr (by decide +kernel) (pa_cons (pv 9) pa_nil)
    case q =>
      have ssz : sizeLine = 16777216 := sizeLine_eq
      refine ⟨_, rfl, sc, ns, rfl, hL, hn, fun p cp H1 s1 np hP => ?_⟩
      have tab1 := hT.ext fun b o z => s1 b o z
      refine gName_go ?_
      with_reducible conv => whnf
      -- the tasks
      refine seq_cutS (fun σ Hc => ∃ (td a1 a2 : Addr), σ = [some (V.ref sc), some (.ref p), none, none, none, none, none, none, none, none, none, some (.ref td), none, none, none, none] ∧ Same H1 Hc ∧ Kn CT Hc td a1 a2) ?_ ?_
      · intro NX rr
        refine ⟨(show 2 ≤ sizeLine by decide), fun q nq => ?_⟩
        have sq : Same H1 (upd H1 q (.tup [.str (Str.ofString "a"), .str (Str.ofString "b")])) := Same.new nq
        have gq : (upd H1 q (.tup [.str (Str.ofString "a"), .str (Str.ofString "b")])) q = some (.tup (ns0.map V.str)) := upd_same
        generalize upd H1 q (.tup [.str (Str.ofString "a"), .str (Str.ofString "b")]) = Hk at sq gq ⊢
        refine ⟨q, rfl, ⟨_, SqT.of gq⟩, fun D nD => ?_⟩
        refine lc_it (walk_tup (K := K) (a := q) (xs := ns0.map V.str)) (fun j Hh => ∃ (ps : List Addr) (m : List (Str × V)), Same Hk Hh ∧ Hh D = some (.lst (ps.map V.ref)) ∧ Paired (fun p kv => SqT K Hh p [kV kv.1, kv.2]) ps (tD m) ∧ m.map (·.1) = ns0.take j ∧ ∀ q ∈ m, ∃ a, q.2 = .ref a ∧ TaskAt CT Hh a tk0) ⟨[], [], Same.new nD, upd_same, .nil, rfl, fun _ z => nomatch z⟩ (fun _ Hh _ ⟨_, _, z, _⟩ => SqT.of (z _ _ gq)) ?_ ?_
        · rintro j x Ha Hb hj ⟨ps, m, sa, hD, pr, mk, tk⟩ ⟨rfl, gx⟩
          obtain ⟨y, gy, rfl, my⟩ := at_strs gx
          refine ⟨rfl, ?_⟩
          refine yes_of ?_
          refine ⟨_, rfl, mk_tk0 A.G fun a Hc' sc' na ta => ?_⟩
          refine ⟨(show 2 ≤ sizeLine by decide), fun t nt => ?_⟩
          have hD1 := sc' _ _ hD
          have s2 : Same Hc' (upd Hc' t (.tup [.str y, .ref a])) := Same.new nt
          have hD2 := s2 _ _ hD1
          have ht : (upd Hc' t (.tup [.str y, .ref a])) t = some (.tup [.str y, .ref a]) := upd_same
          generalize upd Hc' t (.tup [.str y, .ref a]) = He' at s2 hD2 ht ⊢
          have sae := sc'.trans s2
          have kT : KeepT He' (upd He' D (.lst (ps.map V.ref ++ [.ref t]))) := KeepT.lst hD2
          have kB : KeepB He' (upd He' D (.lst (ps.map V.ref ++ [.ref t]))) := KeepB.upd hD2 bits_lst
          have ml : m.length ≤ 2 := by
            have := congrArg List.length mk
            rw [List.length_map, List.length_take] at this
            have e2 : ns0.length = 2 := rfl
            omega
          have pl := pr.length
          rw [tD_len] at pl
          refine ⟨ps.map V.ref, hD2, ?_, ps ++ [t], m ++ [(y, .ref a)], same_off (sa.trans sae) nD, ?_, ?_, ?_, fun q hq => ?_⟩
          · rw [List.length_map, ssz]
            omega
          · rw [upd_same, List.map_append]
            rfl
          · rw [tD_snoc]
            refine (paired_imp (fun a b z => kT.sqT ((KeepT.of sae).sqT z)) pr).snoc (kT.sqT (SqT.of ht))
          · rw [List.map_append, mk, take_snoc gy]
            rfl
          · rcases List.mem_append.mp hq with z | z
            · obtain ⟨b, eb, tb⟩ := tk q z
              exact ⟨b, eb, (tb.keep (.of sae)).keep kB⟩
            · rw [List.mem_singleton.mp z]
              exact ⟨a, rfl, (ta.keep (.of s2)).keep kB⟩
        · rintro Hz ⟨ps, m, sz, hD, pr, mk, tk⟩
          rw [List.length_map, List.take_length] at mk
          obtain ⟨v1, v2, rfl⟩ := two_keys mk
          obtain ⟨a1, e1, t1⟩ := tk _ List.mem_cons_self
          obtain ⟨a2, e2, t2⟩ := tk _ (List.mem_cons_of_mem _ List.mem_cons_self)
          replace e1 : v1 = .ref a1 := e1
          replace e2 : v2 = .ref a2 := e2
          subst e1 e2
          refine ⟨D, ps, tD _, rfl, SqL.of hD, pr, fun td ntd => gName_go (rr _ _ ⟨td, a1, a2, rfl, ?_, ?_⟩)⟩
          · exact fun b o z => (Same.new ntd) _ _ (sz _ _ (sq _ _ z))
          · have me : mergeK [] (tD [((Str.ofString "a" : Str), V.ref a1), ((Str.ofString "b" : Str), V.ref a2)]) = tD [((Str.ofString "a" : Str), V.ref a1), ((Str.ofString "b" : Str), V.ref a2)] := rfl
            rw [me]
            exact ⟨upd_same, t1.keep (.of (Same.new ntd)), t2.keep (.of (Same.new ntd))⟩
      rintro σ Hc ⟨td, a1, a2, rfl, s2, kn1⟩
      have P1 := hP.same s2 (Nat.le_refl _)
      have tabc := tab1.ext fun b o z => s2 b o z
      have s12 := s1.trans s2
      clear hP tab1
      obtain ⟨M, hM, hM2⟩ : ∃ N : Nat, (4 + (if ((ns.map V.int).length : Int) < 4 then ((ns.map V.int).length : Int) else 4) : Int) = (N : Int) ∧ N ≤ 8 := by
        refine ⟨(4 + (if ((ns.map V.int).length : Int) < 4 then ((ns.map V.int).length : Int) else 4) : Int).toNat, ?_, ?_⟩
        · split <;> omega
        · split <;> omega
      have ava : ∀ {H : Hp}, AskV K H (.str "a") (.str "a") .fine := ⟨.str _ (by decide +kernel), fun _ => .str _⟩
      have dua : Due 8 (.str "a") ns0 .fine := .fine ⟨.nm wd_a, .nm wd_a, by decide, by decide +kernel, by decide +kernel⟩ (by decide +kernel) (by decide +kernel) fun y hy => by
        rw [names_str] at hy
        rw [List.mem_singleton.mp hy]
        exact List.mem_cons_self
      refine ⟨_, rfl, sc, _, rfl, Or.inl (s12.seq hL), 4, _, rfl, 4, _, rfl, rfl, (M : Int), congrArg (fun z => [V.int z]) hM, by omega, by omega, for_range (lo := 0) (n := M)
        (fun i σ H2 => ∃ x2 x3 x4 x5 x6 x7 x10 x12 x13, σ = [some (V.ref sc), some (.ref p), x2, x3, x4, x5, x6, x7, none, none, x10, some (.ref td), x12, x13, none, none] ∧ PenAt H2 p cp (30 * i) ∧ LamX.Tabs [(Pt, qL)] H2 ∧ Kn CT H2 td a1 a2) ⟨none, none, none, none, none, none, none, none, none, rfl, P1, tabc, kn1⟩ ?_ ?_⟩
      · rintro i σ H2 hi ⟨x2, x3, x4, x5, x6, x7, x10, x12, x13, rfl, P2, tab2, kn2⟩
        refine gName_go ?_
        with_reducible conv => whnf
        -- the book, the names
        refine seq_cutS (fun σ Hc => ∃ (bk l : Addr) (u : Str), σ = [some (V.ref sc), some (.ref p), some (.int (0 + (i : Int))), some (.ref l), x4, x5, x6, x7, none, none, some (.ref bk), some (.ref td), x12, x13, none, none] ∧ PenAt Hc p cp (30 * i + 1) ∧ LamX.Tabs [(Pt, qL)] Hc ∧ Kn CT Hc td a1 a2 ∧ Bk K CB CT Hc bk (.str "a") ∧ Hc l = some (.lst [.str "a", .str "b", .str "b", .str u]) ∧ l ≠ p ∧ wordB u = true ∧ u.length = 1) ?_ ?_
        · intro NX rr
          delta tAsg tTup
          refine tCons_go ?_
          refine bk_make A.G (i := 11) (te := tC (.str (Str.ofString "a"))) (by rfl) kn2 (fun _ _ h => h) ava dua (fun _ _ => trivial) fun _ bk Ha sa hbk => ?_
          refine ⟨_, rfl, (show 3 ≤ sizeLine by decide), fun lp nlp => ?_⟩
          have sl : Same Ha (upd Ha lp (.lst [.str (Str.ofString "b"), .str (Str.ofString "c"), .str (Str.ofString "d")])) := Same.new nlp
          have gl : (upd Ha lp (.lst [.str (Str.ofString "b"), .str (Str.ofString "c"), .str (Str.ofString "d")])) lp = some (.lst [.str (Str.ofString "b"), .str (Str.ofString "c"), .str (Str.ofString "d")]) := upd_same
          generalize upd Ha lp (.lst [.str (Str.ofString "b"), .str (Str.ofString "c"), .str (Str.ofString "d")]) = Hb at sl gl ⊢
          have Pa := P2.same sa (Nat.le_refl _)
          have Pb := Pa.same sl (Nat.le_refl _)
          refine ⟨p, cp, 30 * i, lp, _, rfl, Pb, by omega, gl, (show 1 ≤ 3 by decide), (show 3 ≤ 1000 by decide), fun j x H4 gx P4 b4 => ?_⟩
          obtain ⟨u, rfl, wu, lu⟩ : ∃ u : Str, x = V.str u ∧ wordB u = true ∧ u.length = 1 := by
            have hm := List.mem_of_getElem? gx
            simp only [List.mem_cons, List.not_mem_nil, or_false] at hm
            rcases hm with z | z | z
            · exact ⟨_, z, by decide +kernel, by decide +kernel⟩
            · exact ⟨_, z, by decide +kernel, by decide +kernel⟩
            · exact ⟨_, z, by decide +kernel, by decide +kernel⟩
          have tab4 := tabs_pen (tab2.ext fun b o z => sl b o (sa b o z)) Pb b4
          have kn4 := ((kn2.step P2 (.same sa)).step Pa (.same sl)).step Pb (.but b4)
          have bk4 := (hbk.step Pa (.same sl)).step Pb (.but b4)
          refine ⟨(show 4 ≤ sizeLine by decide), fun l nl => ?_⟩
          have s5 : Same H4 (upd H4 l (.lst [.str (Str.ofString "a"), .str (Str.ofString "b"), .str (Str.ofString "b"), .str u])) := Same.new nl
          have g5 : (upd H4 l (.lst [.str (Str.ofString "a"), .str (Str.ofString "b"), .str (Str.ofString "b"), .str u])) l = some (.lst [.str (Str.ofString "a"), .str (Str.ofString "b"), .str (Str.ofString "b"), .str u]) := upd_same
          generalize upd H4 l (.lst [.str (Str.ofString "a"), .str (Str.ofString "b"), .str (Str.ofString "b"), .str u]) = H5 at s5 g5 ⊢
          have lp := (pen_apart P4 (Same.refl _) nl).1
          refine ⟨(show 2 ≤ sizeLine by decide), fun t nt => ⟨t, _, rfl, SqT.of upd_same, rfl, _, _, rfl, gName_go ⟨_, _, rfl, gName_go ⟨rfl, rr _ _ ?_⟩⟩⟩⟩
          have s6 : Same H5 (upd H5 t (.tup [.ref bk, .ref l])) := Same.new nt
          have s46 := s5.trans s6
          exact ⟨bk, l, u, rfl, P4.same s46 (Nat.le_refl _), tab4.ext (fun b o z => s46 b o z), kn4.step P4 (.same s46), bk4.step P4 (.same s46), s6 _ _ g5, lp, wu, lu⟩
        rintro σ Hc ⟨bk, l, u, rfl, Pc, tabc, knc, bkc, hl, lp, wu, lu⟩
        clear P2 tab2 kn2
        -- the number
        refine seq_cutS (fun σ Hd => ∃ m : Nat, σ = [some (V.ref sc), some (.ref p), some (.int (0 + (i : Int))), some (.ref l), some (.int (m : Int)), x5, x6, x7, none, none, some (.ref bk), some (.ref td), x12, x13, none, none] ∧ 1 ≤ m ∧ m ≤ 17 ∧ PenAt Hd p cp (30 * i + 2) ∧ LamX.Tabs [(Pt, qL)] Hd ∧ Kn CT Hd td a1 a2 ∧ Bk K CB CT Hd bk (.str "a") ∧ Hd l = some (.lst [.str "a", .str "b", .str "b", .str u])) ?_ ?_
        · intro NX rr
          refine ⟨_, rfl, (show 5 ≤ sizeLine by decide), fun lq nlq => ?_⟩
          have sl : Same Hc (upd Hc lq (.lst [.int 1, .int 3, .int 15, .int 16, .int 17])) := Same.new nlq
          have gl : (upd Hc lq (.lst [.int 1, .int 3, .int 15, .int 16, .int 17])) lq = some (.lst [.int 1, .int 3, .int 15, .int 16, .int 17]) := upd_same
          generalize upd Hc lq (.lst [.int 1, .int 3, .int 15, .int 16, .int 17]) = Hb at sl gl ⊢
          have Pb := Pc.same sl (Nat.le_refl _)
          refine ⟨p, cp, 30 * i + 1, lq, _, rfl, Pb, by omega, gl, (show 1 ≤ 5 by decide), (show 5 ≤ 1000 by decide), fun j x H4 gx P4 b4 => gName_go ?_⟩
          obtain ⟨m, rfl, m1, m2⟩ : ∃ m : Nat, x = V.int (m : Int) ∧ 1 ≤ m ∧ m ≤ 17 := by
            have hm := List.mem_of_getElem? gx
            simp only [List.mem_cons, List.not_mem_nil, or_false] at hm
            rcases hm with z | z | z | z | z
            · exact ⟨1, z, by decide, by decide⟩
            · exact ⟨3, z, by decide, by decide⟩
            · exact ⟨15, z, by decide, by decide⟩
            · exact ⟨16, z, by decide, by decide⟩
            · exact ⟨17, z, by decide, by decide⟩
          exact rr _ _ ⟨m, rfl, m1, m2, P4, tabs_pen (tabc.ext fun b o z => sl b o z) Pb b4, (knc.step Pc (.same sl)).step Pb (.but b4), (bkc.step Pc (.same sl)).step Pb (.but b4), b4 _ _ lp (sl _ _ hl)⟩
        rintro σ Hd ⟨m, rfl, m1, m2, Pd, tabd, knd, bkd, hld⟩
        clear Pc tabc knc bkc hl
        -- the part
        refine seq_cutS (fun σ He => ∃ (v : V) (d : PyData), σ = [some (V.ref sc), some (.ref p), some (.int (0 + (i : Int))), some (.ref l), some (.int (m : Int)), some v, x6, x7, none, none, some (.ref bk), some (.ref td), x12, x13, none, none] ∧ PenAt He p cp (30 * i + 19) ∧ LamX.Tabs [(Pt, qL)] He ∧ Kn CT He td a1 a2 ∧ Bk K CB CT He bk (.str "a") ∧ Pl K He v d ∧ Grow 0 d) ?_ ?_
        · intro NX rr
          refine ⟨(show 1 ≤ sizeLine by decide), fun t0 nt0 => ?_⟩
          have tp := (pen_apart Pd (Same.refl _) nt0).1
          have s0 : Same Hd (upd Hd t0 (.tup [.str (Str.ofString "then")])) := Same.new nt0
          have g0 : (upd Hd t0 (.tup [.str (Str.ofString "then")])) t0 = some (.tup [.str (Str.ofString "then")]) := upd_same
          generalize upd Hd t0 (.tup [.str (Str.ofString "then")]) = H0 at s0 g0 ⊢
          have P0 := Pd.same s0 (Nat.le_refl _)
          have l0 := s0 _ _ hld
          refine ⟨_, rfl, (m : Int), rfl, by omega, by omega, fun D nD => ?_⟩
          have mm : (m : Int).toNat = m := by omega
          obtain ⟨Dp, Dc⟩ := pen_apart P0 (Same.refl _) nD
          refine lc_it walk_range (fun j Hh => ∃ ys : List Str, ys.length = j ∧ (∀ y ∈ ys, wordB y = true ∧ y.length = 1) ∧ Hh D = some (.lst (ys.map V.str)) ∧ PenAt Hh p cp (30 * i + 2 + j) ∧ But p H0 Hh) ⟨[], rfl, (fun _ z => nomatch z), upd_same, pen_off P0 Dp Dc, But.of (Same.new nD)⟩ (fun _ _ _ _ => trivial) ?_ ?_
          · rintro j x H2' H3 hj ⟨ys, ly, gy, hD, Pj, bj⟩ ⟨rfl, ex⟩
            refine ⟨rfl, ?_⟩
            refine yes_of ?_
            refine ⟨_, rfl, _, rfl, p, cp, 30 * i + 2 + j, l, _, rfl, Pj, by omega, bj _ _ lp l0, (show 1 ≤ 4 by decide), (show 4 ≤ 1000 by decide), fun q x4 H4 gx P4 b4 => ?_⟩
            obtain ⟨z, rfl, wz, lz⟩ : ∃ z : Str, x4 = V.str z ∧ wordB z = true ∧ z.length = 1 := by
              have hm := List.mem_of_getElem? gx
              simp only [List.mem_cons, List.not_mem_nil, or_false] at hm
              rcases hm with z | z | z | z
              · exact ⟨_, z, by decide +kernel, by decide +kernel⟩
              · exact ⟨_, z, by decide +kernel, by decide +kernel⟩
              · exact ⟨_, z, by decide +kernel, by decide +kernel⟩
              · exact ⟨_, z, wu, lu⟩
            have d4 := b4 D _ Dp hD
            refine ⟨ys.map V.str, d4, by rw [List.length_map, ssz]; omega, ys ++ [z], by rw [List.length_append, ly]; rfl, fun y hy => ?_, by rw [List.map_append]; exact upd_same, pen_off P4 Dp Dc, ?_⟩
            · rcases List.mem_append.mp hy with e | e
              · exact gy y e
              · rw [List.mem_singleton.mp e]; exact ⟨wz, lz⟩
            · intro b o nb e
              have nbD : b ≠ D := fun e2 => by rw [e2, nD] at e; cases e
              rw [upd_ne nbD]
              exact b4 b o nb (bj b o nb e)
          · rintro H7 ⟨ys, ly, gy, hD, P7, b7⟩
            have g7 := b7 _ _ tp g0
            refine ⟨D, _, rfl, .inl ⟨SqL.of hD, fun t nt => ?_⟩⟩
            have s8 : Same H7 (upd H7 t (.tup (ys.map V.str))) := Same.new nt
            have g8 : (upd H7 t (.tup (ys.map V.str))) t = some (.tup (ys.map V.str)) := upd_same
            generalize upd H7 t (.tup (ys.map V.str)) = H8 at s8 g8 ⊢
            have lym : ys.length = m := ly.trans (by omega)
            have ysne : ys.map V.str ≠ [] := fun z => by
              have := congrArg List.length z
              rw [List.length_map] at this
              have : ys.length = 0 := this
              omega
            refine ⟨t0, t, _, ys.map V.str, rfl, rfl, SqT.of (s8 _ _ g7), SqT.of g8, by rw [List.length_map, ssz]; show 1 + ys.length ≤ _; omega, (fun z => nomatch z), fun _ e => absurd e ysne, fun _ _ q nq => gName_go (rr _ _ ?_)⟩
            have s9 : Same H8 (upd H8 q (.tup ([.str (Str.ofString "then")] ++ ys.map V.str))) := Same.new nq
            have s79 := s8.trans s9
            have kn7 := (knd.step Pd (.same s0)).step P0 (.but b7)
            have bk7 := (bkd.step Pd (.same s0)).step P0 (.but b7)
            have tab7 := tabs_pen (tabd.ext fun b o z => s0 b o z) P0 b7
            exact ⟨.ref q, .tuple (.str "then" :: ys.map PyData.str), rfl, P7.same s79 (by omega), tab7.ext (fun b o z => s79 b o z), kn7.step P7 (.same s79), bk7.step P7 (.same s79), .tup (SqT.of upd_same) (.cons (.str _) (pls_strs ys)), grow0 gy (by omega)⟩
        rintro σ He ⟨v0, d0, rfl, Pe, tabe, kne, bke, hv0, g0⟩
        clear Pd tabd knd bkd hld
        -- the plan
        refine seq_cutS (fun σ Hf => ∃ (v : V) (d : PyData) (j : Nat), σ = [some (V.ref sc), some (.ref p), some (.int (0 + (i : Int))), some (.ref l), some (.int (m : Int)), some v0, x6, x7, none, none, some (.ref bk), some (.ref td), some v, x13, none, none] ∧ PenAt Hf p cp (30 * i + 25) ∧ LamX.Tabs [(Pt, qL)] Hf ∧ Kn CT Hf td a1 a2 ∧ Bk K CB CT Hf bk (.str "a") ∧ Pl K Hf v d ∧ Grow j d ∧ j ≤ 5) ?_ ?_
        · intro NX rr
          refine ⟨_, rfl, _, rfl, _, rfl, p, cp, 30 * i + 19, 6, rfl, Pe, by omega, by decide, by decide, fun q H3 q0 q1 P3 b3 => ?_⟩
          obtain ⟨j, rfl⟩ : ∃ j : Nat, q = (j : Int) := ⟨q.toNat, by omega⟩
          refine ⟨p, cp, 30 * i + 20, v0, d0, j, rfl, P3, by omega, by omega, hv0.keep (KeepT.pen' Pe b3), g0, fun v d H4 P4 b4 hv g => gName_go (rr _ _ ?_)⟩
          exact ⟨v, d, j, rfl, P4.same (Same.refl _) (by omega), tabs_pen (tabs_pen tabe Pe b3) P3 b4, (kne.step Pe (.but b3)).step P3 (.but b4), (bke.step Pe (.but b3)).step P3 (.but b4), hv, g, by omega⟩
        rintro σ Hf ⟨v, d, j, rfl, Pf, tabf, knf, bkf, hv, g, j5⟩
        clear Pe tabe kne bke hv0 g0
        have wh := g.whole j5
        obtain ⟨rt, sh, hn8, hw, few⟩ := id wh
        have rt7 : Rt 7 false d := g.rt.up (by omega)
        obtain ⟨o, du, hb⟩ := due_some ns0 wh
        have dsh := due_shaped du
        have deq : (!PyData.eqv (dueD o) (dueD o)) = false := by
          rw [SeqAt.eqv_refl (dueD o) (Bool.and_eq_true_iff.mp dsh).1]
          rfl
        -- what is due
        refine seq_cutS (fun σ Hg => ∃ r : V, σ = [some (V.ref sc), some (.ref p), some (.int (0 + (i : Int))), some (.ref l), some (.int (m : Int)), some v0, some r, x7, none, none, some (.ref bk), some (.ref td), some v, x13, none, none] ∧ Sc K CB CT [(Pt, qL)] p cp (30 * i + 25) td a1 a2 bk (.str "a") d v r o Hg ∧ (o = .fine → r = .non) ∧ (o ≠ .fine → ∃ a, r = .ref a)) ?_ ?_
        · intro NX rr
          refine ⟨_, rfl, _, rfl, v, d, td, _, o, rfl, knf.ht, hv, du, hb, fun r H' s' dp e1 e2 => gName_go (rr _ _ ⟨r, rfl, ?_, e1, e2⟩)⟩
          exact ⟨Pf.same s' (Nat.le_refl _), tabf.ext fun b o z => s' b o z, knf.step Pf (.same s'), bkf.step Pf (.same s'), hv.same s', dp⟩
        rintro σ Hg ⟨r, rfl, scg, r1, r2⟩
        clear Pf tabf knf bkf hv
        have gdv : ∀ {H : Hp}, Pl K H v d → Gd K H v d := fun h => h.gd rt.short
        -- in a new book
        refine seq_cutS (fun σ Hh => σ = [some (V.ref sc), some (.ref p), some (.int (0 + (i : Int))), some (.ref l), some (.int (m : Int)), some v0, some r, x7, none, none, some (.ref bk), some (.ref td), some v, x13, none, none] ∧ Sc K CB CT [(Pt, qL)] p cp (30 * i + 25) td a1 a2 bk (.str "a") d v r o Hh) ?_ ?_
        · intro NX rr
          refine ⟨scg.tab, fun H3 e3 t3 => told_go ?_⟩
          have sc3 := scg.ext e3 t3
          refine bk_make A.G (i := 11) (te := tVar 12) (by rfl) sc3.kn (fun _ _ h => ⟨_, rfl, h⟩) ⟨gdv sc3.pl, fun _ => sc3.pl⟩ du (fun H' s' => told_due du hb fun _ rt' H4 s4 dp4 => ?_) fun fine bk' H' s' hbk' => ?_
          · have sc4 := sc3.same (s'.trans s4)
            refine ⟨_, rfl, dueD o, dueD o, dp4, sc4.dp, dsh, dsh, _, rfl, ?_⟩
            rw [deq]
            exact iteF (rr _ _ ⟨rfl, sc4⟩)
          · have sc4 := sc3.same s'
            have dn : Dp K H' .non (dueD o) := by rw [fine]; exact .non
            refine ⟨_, rfl, dueD o, dueD o, dn, sc4.dp, dsh, dsh, _, rfl, ?_⟩
            rw [deq]
            exact iteF (rr _ _ ⟨rfl, sc4⟩)
        rintro σ Hh ⟨rfl, sch⟩
        clear scg
        -- in the book
        refine seq_cutS (fun σ Hj => σ = [some (V.ref sc), some (.ref p), some (.int (0 + (i : Int))), some (.ref l), some (.int (m : Int)), some v0, some r, x7, none, none, some (.ref bk), some (.ref td), some v, x13, none, none] ∧ Sc K CB CT [(Pt, qL)] p cp (30 * i + 25) td a1 a2 bk (planD o d) d v r o Hj) ?_ ?_
        · intro NX rr
          refine ⟨sch.tab, fun H3 e3 t3 => told_go ?_⟩
          have sc3 := sch.ext e3 t3
          obtain ⟨n1, n2, ks, us, bw, lk1, lu2, hus⟩ := sc3.bk
          obtain ⟨dx, k1, t1, pl, ha, hk, kt, ht, ta, hp⟩ := id bw
          refine ⟨_, rfl, bk, dx, _, rfl, ha, rfl, _, rfl, bk, v, n1, n2, ks, us, .str "a", d, o, rfl, bw, ⟨gdv sc3.pl, fun _ => sc3.pl⟩, du.congr fun y => (hus y).symm, fun H' s' => told_due du hb fun nf' rt' H4 s4 dp4 => ?_, fun fine H' ext bw' => ?_⟩
          · have sc4 := sc3.same (s'.trans s4)
            refine ⟨_, rfl, dueD o, dueD o, dp4, sc4.dp, dsh, dsh, _, rfl, ?_⟩
            rw [deq]
            have epl : planD o d = .str "a" := by
              cases o with
              | fine => exact absurd rfl nf'
              | bad _ => rfl
              | many _ => rfl
              | odd _ => rfl
            exact iteF (rr _ _ ⟨rfl, by rw [epl]; exact sc4⟩)
          · subst fine
            have sc4 := sc3.set ext ha (by simp [fldB]) ⟨n1, n2, ks, us, bw', lk1, lu2, hus⟩
            refine ⟨_, rfl, dueD .fine, dueD .fine, .non, sc4.dp, dsh, dsh, _, rfl, ?_⟩
            rw [deq]
            exact iteF (rr _ _ ⟨rfl, sc4⟩)
        rintro σ Hj ⟨rfl, scj⟩
        clear sch
        -- its plan
        refine seq_cutS (fun σ Hm => σ = [some (V.ref sc), some (.ref p), some (.int (0 + (i : Int))), some (.ref l), some (.int (m : Int)), some v0, some r, x7, none, none, some (.ref bk), some (.ref td), some v, x13, none, none] ∧ Sc K CB CT [(Pt, qL)] p cp (30 * i + 25) td a1 a2 bk (planD o d) d v r o Hm) ?_ ?_
        · intro NX rr
          obtain ⟨n1, n2, ks, us, bw, lk1, lu2, hus⟩ := scj.bk
          obtain ⟨dx, k1, t1, pl, ha, hk, kt, ht, ta, hp⟩ := id bw
          have wn := w_nf 8 d
          have rpn : Rp (nf 8 d) := fine_one (sh_nf sh) (by decide) (by omega)
          have rpa : Rp (.str "a") := ⟨rfl, by decide +kernel, by rw [ssz]; decide +kernel⟩
          refine ⟨_, rfl, bk, dx, _, rfl, ha, bk, dx, _, pl, rfl, ha, rfl, pl, planD o d, rfl, hp.db, ?_, ?_⟩
          · cases o with
            | fine => exact rpn
            | bad _ => exact rpa
            | many _ => exact rpa
            | odd _ => exact rpa
          generalize efo : (planD o d).shown = fo
          by_cases hf : o = .fine
          · subst hf
            obtain rfl := r1 rfl
            refine ⟨_, rfl, false, rfl, iteF ⟨_, rfl, v, d, rfl, scj.pl, sh, by omega, by omega, fun x H' s' hx => ⟨x, nf 8 d, rfl, hx.db, rpn, ?_⟩⟩⟩
            rw [show (nf 8 d).shown = fo from efo]
            exact ⟨rfl, _, rfl, iteNS rfl (rr _ _ ⟨rfl, scj.same s'⟩)⟩
          · obtain ⟨ra, rfl⟩ := r2 hf
            have epl : planD o d = .str "a" := by
              cases o with
              | fine => exact absurd rfl hf
              | bad _ => rfl
              | many _ => rfl
              | odd _ => rfl
            rw [epl] at efo
            refine ⟨_, rfl, true, rfl, iteT ⟨.str (Str.ofString "a"), .str "a", rfl, .str _, rpa, ?_⟩⟩
            rw [show (PyData.str (Str.ofString "a")).shown = fo from efo]
            exact ⟨rfl, _, rfl, iteNS rfl (rr _ _ ⟨rfl, scj⟩)⟩
        rintro σ Hm ⟨rfl, scm⟩
        clear scj
        -- a value that is no plan
        refine seq_cutS (fun σ Hn => ∃ (y : V) (e : PyData), σ = [some (V.ref sc), some (.ref p), some (.int (0 + (i : Int))), some (.ref l), some (.int (m : Int)), some v0, some r, some y, none, none, some (.ref bk), some (.ref td), some v, x13, none, none] ∧ e ∈ wrongs ∧ Gd K Hn y e ∧ Sc K CB CT [(Pt, qL)] p cp (30 * i + 26) td a1 a2 bk (planD o d) d v r o Hn) ?_ ?_
        · intro NX rr
          refine ⟨_, rfl, (show 0 ≤ sizeLine by decide), fun t1 n1 => ?_⟩
          have s1 : Same Hm (upd Hm t1 (.tup [])) := Same.new n1
          have g1 : (upd Hm t1 (.tup [])) t1 = some (.tup []) := upd_same
          generalize upd Hm t1 (.tup []) = Ha at s1 g1 ⊢
          refine ⟨(show 1 ≤ sizeLine by decide), fun t2 n2 => ?_⟩
          have s2 : Same Ha (upd Ha t2 (.lst [.str (Str.ofString "a")])) := Same.new n2
          have g2 : (upd Ha t2 (.lst [.str (Str.ofString "a")])) t2 = some (.lst [.str (Str.ofString "a")]) := upd_same
          generalize upd Ha t2 (.lst [.str (Str.ofString "a")]) = Hb at s2 g2 ⊢
          refine ⟨(show 1 ≤ sizeLine by decide), fun t3 n3 => ?_⟩
          have s3 : Same Hb (upd Hb t3 (.tup [.str (Str.ofString "any")])) := Same.new n3
          have g3 : (upd Hb t3 (.tup [.str (Str.ofString "any")])) t3 = some (.tup [.str (Str.ofString "any")]) := upd_same
          generalize upd Hb t3 (.tup [.str (Str.ofString "any")]) = Hd at s3 g3 ⊢
          refine ⟨(show 4 ≤ sizeLine by decide), fun lq nlq => ?_⟩
          have s4 : Same Hd (upd Hd lq (.lst [.int 5, .ref t1, .ref t2, .ref t3])) := Same.new nlq
          have g4 : (upd Hd lq (.lst [.int 5, .ref t1, .ref t2, .ref t3])) lq = some (.lst [.int 5, .ref t1, .ref t2, .ref t3]) := upd_same
          generalize upd Hd lq (.lst [.int 5, .ref t1, .ref t2, .ref t3]) = He at s4 g4 ⊢
          have s34 := s3.trans s4
          have s24 := s2.trans s34
          have sce := scm.same (s1.trans s24)
          have all : ∀ x ∈ [V.int 5, .ref t1, .ref t2, .ref t3], ∃ e ∈ wrongs, Gd K He x e := fun x hx => by
            simp only [List.mem_cons, List.not_mem_nil, or_false] at hx
            rcases hx with rfl | rfl | rfl | rfl
            · exact ⟨_, List.mem_cons_self, .int 5⟩
            · exact ⟨.tuple [], by simp [wrongs], .tup (SqT.of (s24 _ _ g1)) .nil⟩
            · exact ⟨.list [.str "a"], by simp [wrongs], .lst (s34 _ _ g2) (.cons (.str _ (by decide +kernel)) .nil)⟩
            · exact ⟨.tuple [.str "any"], by simp [wrongs], .tup (SqT.of (s4 _ _ g3)) (.cons (.str _ (by decide +kernel)) .nil)⟩
          refine ⟨p, cp, 30 * i + 25, lq, _, rfl, sce.pen, by omega, g4, (show 1 ≤ 4 by decide), (show 4 ≤ 1000 by decide), fun q x H4 gx P4 b4 => gName_go ?_⟩
          obtain ⟨e, he, ge⟩ := all x (List.mem_of_getElem? gx)
          have sp : StepP p He H4 := .but b4
          exact rr _ _ ⟨x, e, rfl, he, wrong_step sce.pen sp e he ge, P4, tabs_pen sce.tab sce.pen b4, sce.kn.step sce.pen sp, sce.bk.step sce.pen sp, sce.pl.keep (sp.keepT sce.pen), dp_due (sp.keepT sce.pen) sce.dp⟩
        rintro σ Hn ⟨y, e, rfl, he, gy, scn⟩
        clear scm
        have gstep : ∀ {H H' : Hp}, PenAt H p cp (30 * i + 26) → StepP p H H' → Gd K H y e → Gd K H' y e := fun P s g => wrong_step P s e he g
        -- the spoilt plan
        refine seq_cutS (fun σ Hq => ∃ t : Addr, σ = [some (V.ref sc), some (.ref p), some (.int (0 + (i : Int))), some (.ref l), some (.int (m : Int)), some v0, some r, some y, none, none, some (.ref bk), some (.ref td), some v, some (.ref t), none, none] ∧ Hq t = some (.tup [.str "then", v, y]) ∧ Gd K Hq y e ∧ Sc K CB CT [(Pt, qL)] p cp (30 * i + 26) td a1 a2 bk (planD o d) d v r o Hq) ?_ ?_
        · intro NX rr
          refine ⟨_, rfl, _, rfl, (show 3 ≤ sizeLine by decide), fun t nt => gName_go (rr _ _ ⟨t, rfl, upd_same, ?_, ?_⟩)⟩
          · exact gstep scn.pen (.same (Same.new nt)) gy
          · exact scn.same (Same.new nt)
        rintro σ Hq ⟨t, rfl, ht, gyq, scq⟩
        clear scn gy
        -- it is refused
        refine ⟨scq.tab, fun H3 e3 t3 => told_go ?_⟩
        have sc3 := scq.ext e3 t3
        have gy3 := gstep scq.pen (.ext e3) gyq
        have ht3 := e3 _ _ ht fun _ z => nomatch z
        obtain ⟨n1, n2, ks, us, bw, lk1, lu2, hus⟩ := sc3.bk
        obtain ⟨dx, k1, t1, pl, ha, hk, kt, htt, ta, hp⟩ := id bw
        refine ⟨_, rfl, bk, dx, _, rfl, ha, rfl, _, rfl, bk, .ref t, n1, n2, ks, us, planD o d, .tuple [.str "then", d, e], .bad e, rfl, bw, ⟨.tup (SqT.of ht3) (.cons (.str _ (by decide +kernel)) (.cons (gdv sc3.pl) (.cons gy3 .nil))), fun z => absurd rfl (z _)⟩, .bad (spoilt_chk rt7 (wrong_chk e he)), fun H' s' v' dd gv hd => ?_, fun z => nomatch z⟩
        refine .inl ⟨rfl, dd, v', e, rfl, hd, wrong_db e he gv, wrong_rp e he, fun t4 nt4 => ?_⟩
        have s4 : Same H' (upd H' t4 (.tup [.str (Str.ofString "plan"), .str e.shown])) := Same.new nt4
        have g4 : (upd H' t4 (.tup [.str (Str.ofString "plan"), .str e.shown])) t4 = some (.tup [.str (Str.ofString "plan"), .str e.shown]) := upd_same
        generalize upd H' t4 (.tup [.str (Str.ofString "plan"), .str e.shown]) = H4 at s4 g4 ⊢
        have s34 := s'.trans s4
        refine ⟨_, rfl, y, e, rfl, wrong_db e he (gstep sc3.pen (.same s34) gy3), wrong_rp e he, (show 2 ≤ sizeLine by decide), fun t5 nt5 => ?_⟩
        have s5 : Same H4 (upd H4 t5 (.tup [.str (Str.ofString "plan"), .str e.shown])) := Same.new nt5
        refine ⟨.tuple [.str "plan", .str e.shown], .tuple [.str "plan", .str e.shown], .tup (SqT.of (s5 _ _ g4)) (.cons (.str _) (.cons (.str _) .nil)), .tup (SqT.of upd_same) (.cons (.str _) (.cons (.str _) .nil)), wrong_shaped e he, wrong_shaped e he, _, rfl, ?_⟩
        have wsh := wrong_shaped e he
        rw [SeqAt.eqv_refl _ (Bool.and_eq_true_iff.mp wsh).1]
        have sc5 := sc3.same (s34.trans s5)
        exact iteF ⟨_, _, _, _, _, _, _, _, _, rfl, sc5.pen.same (Same.refl _) (by omega), sc5.tab, sc5.kn⟩
      · rintro σ H2 ⟨x2, x3, x4, x5, x6, x7, x10, x12, x13, rfl, P2, tab2, kn2⟩
        -- the long plan
        with_reducible conv => whnf
        refine seq_cutS (fun σ Ha => ∃ v : V, σ = [some (V.ref sc), some (.ref p), x2, x3, x4, x5, x6, x7, some v, none, x10, some (.ref td), x12, x13, none, none] ∧ Kn CT Ha td a1 a2 ∧ Pl K Ha v longD) ?_ ?_
        · intro NX rr
          refine ⟨(show 1 ≤ sizeLine by decide), fun t1 n1 => ?_⟩
          have s1 : Same H2 (upd H2 t1 (.tup [.str (Str.ofString "then")])) := Same.new n1
          have g1 : (upd H2 t1 (.tup [.str (Str.ofString "then")])) t1 = some (.tup [.str (Str.ofString "then")]) := upd_same
          generalize upd H2 t1 (.tup [.str (Str.ofString "then")]) = Ha at s1 g1 ⊢
          refine ⟨(show 1 ≤ sizeLine by decide), fun t2 n2 => ?_⟩
          have s2 : Same Ha (upd Ha t2 (.tup [.str (Str.ofString "a")])) := Same.new n2
          have g2 : (upd Ha t2 (.tup [.str (Str.ofString "a")])) t2 = some (.tup [.str (Str.ofString "a")]) := upd_same
          generalize upd Ha t2 (.tup [.str (Str.ofString "a")]) = Hb at s2 g2 ⊢
          refine ⟨t2, 16, _, rfl, rfl, SqT.of g2, (fun z => nomatch z), by decide, by decide, (show 1 ≤ 1000 by decide), fun t3 n3 => ?_⟩
          have e16 : (List.replicate (16 : Int).toNat [V.str (Str.ofString "a")]).flatten = (List.replicate 16 (Str.ofString "a")).map V.str := rfl
          rw [e16]
          have s3 : Same Hb (upd Hb t3 (.tup ((List.replicate 16 (Str.ofString "a")).map V.str))) := Same.new n3
          have g3 : (upd Hb t3 (.tup ((List.replicate 16 (Str.ofString "a")).map V.str))) t3 = some (.tup ((List.replicate 16 (Str.ofString "a")).map V.str)) := upd_same
          generalize upd Hb t3 (.tup ((List.replicate 16 (Str.ofString "a")).map V.str)) = Hd at s3 g3 ⊢
          refine ⟨t1, t3, _, _, rfl, rfl, SqT.of (s3 _ _ (s2 _ _ g1)), SqT.of g3, (by rw [ssz]; decide), (fun z => nomatch z), (fun _ z => nomatch z), fun _ _ t4 n4 => ?_⟩
          have s4 : Same Hd (upd Hd t4 (.tup ([.str (Str.ofString "then")] ++ (List.replicate 16 (Str.ofString "a")).map V.str))) := Same.new n4
          have g4 : (upd Hd t4 (.tup ([.str (Str.ofString "then")] ++ (List.replicate 16 (Str.ofString "a")).map V.str))) t4 = some (.tup ([.str (Str.ofString "then")] ++ (List.replicate 16 (Str.ofString "a")).map V.str)) := upd_same
          generalize upd Hd t4 (.tup ([.str (Str.ofString "then")] ++ (List.replicate 16 (Str.ofString "a")).map V.str)) = He at s4 g4 ⊢
          refine ⟨(show 2 ≤ sizeLine by decide), fun t5 n5 => gName_go (rr _ _ ⟨.ref t5, rfl, ?_, ?_⟩)⟩
          · exact kn2.step P2 (.same ((s1.trans (s2.trans (s3.trans s4))).trans (Same.new n5)))
          · exact .tup (SqT.of upd_same) (.cons (.str _) (.cons (.tup (SqT.of ((Same.new n5) _ _ g4)) (.cons (.str _) (pls_strs (List.replicate 16 (Str.ofString "a"))))) .nil))
        rintro σ Ha ⟨v, rfl, kna, hva⟩
        clear P2 tab2 kn2
        -- what is left of it
        refine seq_cutS (fun σ Hb => ∃ z : V, σ = [some (V.ref sc), some (.ref p), x2, x3, x4, x5, x6, x7, some v, some z, x10, some (.ref td), x12, x13, none, none] ∧ Pl K Hb z leftD) ?_ ?_
        · intro NX rr
          have avl : AskV K Ha v longD .fine := ⟨hva.gd long_rt.short, fun _ => hva⟩
          delta tAsg
          refine tOp_go ?_
          refine tCall_go ?_
          refine tCons_go ?_
          refine tProp_go ?_
          refine bk_make A.G (i := 11) (te := tVar 8) (by rfl) kna (fun _ _ h => ⟨_, rfl, h⟩) avl long_due (fun _ _ => trivial) fun _ bk Hb sb hbk => ?_
          obtain ⟨n1, n2, ks, us, ⟨dx, k1, t1, pl, ha, hk, kt, ht, ta, hp⟩, lk1, lu2, hus⟩ := hbk
          rw [long_nf] at hp
          refine ⟨bk, dx, _, rfl, ha, bk, dx, _, pl, rfl, ha, rfl, pl, longD, rfl, ⟨hp, long_rt.up (by decide), long_sh.up (by decide), by decide, by rw [long_w]; decide⟩, fun l xs H' s' nl hl px => ?_⟩
          rw [long_nf, long_choices] at px
          obtain ⟨z1, z2, rfl, p2⟩ := two_pls px
          exact ⟨l, _, 1, z2, rfl, rfl, SqL.of hl, atI_nat rfl, gName_go (rr _ _ ⟨z2, rfl, p2⟩)⟩
        rintro σ Hb ⟨z, rfl, hz⟩
        refine ⟨_, rfl, z, leftD, rfl, hz, left_sh.up (by decide), by rw [left_w]; decide, fun l H' s' nl hl => ?_⟩
        refine ⟨l, _, rfl, .inl (SqL.of hl), rfl, true, congrArg V.bl (decide_eq_true (by rw [List.length_map, left_names]; rfl)), iteT ?_⟩
        refine ⟨_, rfl, z, leftD, rfl, ⟨hz.same s', left_rt.up (by decide), left_sh.up (by decide), by decide, by rw [left_w]; decide⟩, fun x H3 s3 hx => ?_⟩
        rw [left_nf] at hx
        refine ⟨x, leftD, rfl, hx.db, left_rp, ?_⟩
        generalize efo : leftD.shown = fo
        refine ⟨_, rfl, z, leftD, rfl, (hz.same (s'.trans s3)).db, left_rp, ?_⟩
        rw [efo]
        refine ⟨rfl, ?_⟩
        rw [decide_eq_true rfl]
        exact k _
end
end Fp6
set_option Elab.async false
set_option linter.all false
set_option maxRecDepth 100000
set_option maxHeartbeats 4000000
/-! FyD: a head by facts with classes, getters and tables with text keys; a table of ints told at every text -/
namespace FhY
open PySem PySem.Spec PyProof.Rows L2 Fh
open PySem.W (Frag)
abbrev AlYT : Type := AlY × List (Option (List (Option (Str × Int))))
def obsKT (fa : List He.Fa) (fn : List He.DefD) (gs : List GDef) (ts : List He.Tab) (ex : Frag → Bool) (K : Frag) : AlYT := (obsK fa fn gs ex K, ts.map fun t => He.dicW K (t.1 K))
def valYT (fn : List He.DefD) (gs : List GDef) (ts : List He.Tab) (w : World) : AlYT := (valY fn gs, ts.map fun t => some (He.keysIn w.params t.2))
section
variable {fa : List He.Fa} {fn : List He.DefD} {gs : List GDef} {ts : List He.Tab} {ex : Frag → Bool} {K : Frag} {w : World}
theorem saysT_y (c : obsKT fa fn gs ts ex K = valYT fn gs ts w) : obsK fa fn gs ex K = valY fn gs := congrArg (fun z : AlYT => z.1) c
theorem saysT_tab (c : obsKT fa fn gs ts ex K = valYT fn gs ts w) (i : Nat) {t : He.Tab} (h : ts[i]? = some t := by rfl) : ∃ es n, KDict K w (t.1 K) es n := by
  have e : ts.map (fun t => He.dicW K (t.1 K)) = ts.map fun t => some (He.keysIn w.params t.2) := congrArg (fun z : AlYT => z.2) c
  have e2 : (ts.map fun t => He.dicW K (t.1 K))[i]? = (ts.map fun t => some (He.keysIn w.params t.2))[i]? := by rw [e]
  rw [List.getElem?_map, List.getElem?_map, h] at e2
  exact He.dicW_ok (Option.some.inj e2)
end
/-! ### a table of ints, at every text -/
def intEnt (e : DictEntry) : Option (Str × Int) := match e.key, e.val with
  | .str x _, .int i _ => some (x, i)
  | _, _ => none
def tabI (K : Frag) (a : Addr) (kvs : List (Str × Int)) : Bool := match K.lookup a with
  | some ⟨_, _, .dict es _, _⟩ => decide (es.toList.map intEnt = kvs.map some)
  | _ => false
def lookI (kvs : List (Str × Int)) (z : Str) : Option Int := (kvs.find? fun q => q.1 == z).map (·.2)
theorem intEnt_some {e : DictEntry} {q : Str × Int} (h : intEnt e = some q) : (∃ t, e.key = .str q.1 t) ∧ ∃ t, e.val = .int q.2 t := by
  unfold intEnt at h
  split at h
  · rename_i x tx i ti hk hv
    have h2 := Option.some.inj h
    subst h2
    exact ⟨⟨tx, hk⟩, ti, hv⟩
  · cases h
theorem find_ent (z : Str) : ∀ {l : List DictEntry} {kvs : List (Str × Int)}, l.map intEnt = kvs.map some →
    (l.any (·.refKey) = false) ∧ (match l.find? (·.key.isStr z) with
      | some e => ∃ i t, lookI kvs z = some i ∧ e.val = .int i t
      | none => lookI kvs z = none)
  | [], [], _ => ⟨rfl, rfl⟩
  | [], _ :: _, h => by cases h
  | _ :: _, [], h => by cases h
  | e :: r, q :: kvs, h => by
    have h1 : intEnt e :: r.map intEnt = some q :: kvs.map some := h
    injection h1 with h2 h3
    obtain ⟨⟨t, hk⟩, u, hv⟩ := intEnt_some h2
    obtain ⟨i1, i2⟩ := find_ent z h3
    have er : e.refKey = false := by
      unfold DictEntry.refKey
      rw [hk]
    have es : e.key.isStr z = (q.1 == z) := by
      rw [hk]
      rfl
    refine ⟨by rw [List.any_cons, er, i1]; rfl, ?_⟩
    have el : lookI (q :: kvs) z = if (q.1 == z) = true then some q.2 else lookI kvs z := by
      unfold lookI
      rw [List.find?_cons]
      cases q.1 == z <;> rfl
    rw [List.find?_cons, es, el]
    cases hq : q.1 == z with
    | true => exact ⟨q.2, u, rfl, hv⟩
    | false => exact i2
theorem tabI_ok {K : Frag} {a : Addr} {kvs : List (Str × Int)} (h : tabI K a kvs = true) (z : Str) : ∃ r, PySem.W.nsIn K a z = some r ∧ match lookI kvs z with
    | none => r = none
    | some i => ∃ t, r = some (.int i t) := by
  unfold tabI at h
  unfold PySem.W.nsIn
  split at h
  · rename_i es n sl e
    rw [e]
    have h2 := of_decide_eq_true h
    obtain ⟨i1, i2⟩ := find_ent z h2
    cases hf : es.toList.find? (·.key.isStr z) with
    | none =>
      rw [hf] at i2
      have i3 : lookI kvs z = none := i2
      rw [i3]
      refine ⟨none, ?_, rfl⟩
      show (match es.toList.find? (·.key.isStr z) with | some e => some (some e.val) | none => if es.toList.any (·.refKey) then none else some none) = some none
      rw [hf, i1]
      rfl
    | some e =>
      rw [hf] at i2
      obtain ⟨i, t, j1, j2⟩ := i2
      rw [j1]
      refine ⟨some e.val, ?_, t, by rw [j2]⟩
      show (match es.toList.find? (·.key.isStr z) with | some e => some (some e.val) | none => if es.toList.any (·.refKey) then none else some none) = _
      rw [hf]
  · cases h
end FhY
set_option Elab.async false
set_option linter.all false
set_option maxRecDepth 100000
set_option maxHeartbeats 4000000
/-! FyE: the hook of FyD that looks at sys.modules, too -/
namespace FhY
open PySem PySem.Spec PyProof.Rows L2 Fh
open PySem.W (Frag)
end FhY
set_option Elab.async false
set_option linter.all false
set_option maxRecDepth 100000
set_option maxHeartbeats 4000000
/-! FyF: the hook of FyE with tables of code objects -/
namespace FhY
open PySem PySem.Spec PyProof.Rows L2 Fh
open PySem.W (Frag)
abbrev AlYX : Type := AlYT × Bool
def obsKX (fa : List He.Fa) (fn : List He.DefD) (gs : List GDef) (ts : List He.Tab) (tf : List He.Defn) (ex : Frag → Bool) (g : Addr → Option Obj) (K : Frag) : AlYX := (obsKT fa fn gs ts ex K, He.tabsB g tf K)
structure SaysYX (fa : List He.Fa) (fn : List He.DefD) (gs : List GDef) (ts : List He.Tab) (tf : List He.Defn) (ex : Frag → Bool) (w : World) (h : Heap) (K : Frag) : Prop where
  t : obsKT fa fn gs ts ex K = valYT fn gs ts w
  hd : ∀ p ∈ tf, PySem.W.codeHdIn K (He.cT K p).1 (He.cT K p).2 = true
  out : ∀ p ∈ tf, K.lookup (He.cT K p).2 = none
  empty : ∀ p ∈ tf, h.get? (He.cT K p).2 = some { cls := .none, data := .fields #[] }
/-- the tables of defs, each with the name of its lambdas -/
theorem tabs_start {K : Frag} {tq : List (He.Defn × Str)} {H : Hp} (h : ∀ p ∈ tq.map (fun p => He.cT K p.1), H p.2 = some (.tbl #[])) : LamX.Tabs (tq.map fun p => ((He.cT K p.1).2, p.2)) H := fun x hx => by
  obtain ⟨p, hp, rfl⟩ := List.mem_map.mp hx
  exact LamX.TabS.nil (h _ (List.mem_map.mpr ⟨p, hp, rfl⟩))
end FhY
set_option Elab.async false
set_option linter.all false
set_option maxRecDepth 100000
set_option maxHeartbeats 4000000
/-! FyG: the hook of FyE that looks its objects up off a tree (for o_head, whose heap is a list) -/
namespace FhY
open PySem PySem.Spec PyProof.Rows L2 Fh
open PySem.W (Frag)
noncomputable section
/-- a state's objects, off a tree -/
def lkS (s : Shared) : Addr → Option Obj := match HandSHeadRun.putAll s.heap.objs.toList .nil 0 with
  | some (t, n) => HandSHeadRun.getT ⟨t, n, s.heap.life, s.gens, s.drawn, s.toks, s.os⟩
  | none => s.heap.get?
theorem lkS_eq (s : Shared) : lkS s = s.heap.get? := by
  funext a
  unfold lkS
  cases e : HandSHeadRun.putAll s.heap.objs.toList .nil 0 with
  | none => rfl
  | some r =>
    obtain ⟨t, n⟩ := r
    show HandSHeadRun.getT _ a = _
    rw [HandSHeadRun.getT_eq]
    show (PySem.W.absHeap t n s.heap.life).get? a = _
    rw [HandSHeadRun.putAll_heap e]
/-- a set of addresses -/
inductive NT where
  | nil
  | node (b : Bool) (l r : NT)
def NT.has : Nat → NT → Nat → Bool
  | 0, _, _ => false
  | _, .nil, _ => false
  | f + 1, .node b l r, a => match Nat.beq a 0 with
    | true => b
    | false => match Nat.beq (a % 2) 1 with
      | true => NT.has f l (a / 2)
      | false => NT.has f r (a / 2 - 1)
def NT.put : Nat → NT → Nat → NT
  | 0, t, _ => t
  | f + 1, .nil, a => match Nat.beq a 0 with
    | true => .node true .nil .nil
    | false => match Nat.beq (a % 2) 1 with
      | true => .node false (NT.put f .nil (a / 2)) .nil
      | false => .node false .nil (NT.put f .nil (a / 2 - 1))
  | f + 1, .node b l r, a => match Nat.beq a 0 with
    | true => .node true l r
    | false => match Nat.beq (a % 2) 1 with
      | true => .node b (NT.put f l (a / 2)) r
      | false => .node b l (NT.put f r (a / 2 - 1))
/-- those not seen yet -/
def addG : List Addr → NT → List Addr → NT × List Addr
  | [], t, new => (t, new)
  | a :: r, t, new => match NT.has 40 t a with
    | true => addG r t new
    | false => addG r (NT.put 40 t a) (a :: new)
/-- what is reached in n levels, each once -/
def asG (g : Addr → Option Obj) : Nat → NT → List Addr → List Addr
  | 0, _, _ => []
  | n + 1, t, fr => match addG fr t [] with
    | (t', new) => new ++ asG g n t' (new.flatMap fun a => match g a with
      | some o => He.refsD o
      | none => [])
end
end FhY
set_option Elab.async false
set_option linter.all false
set_option maxRecDepth 100000
set_option maxHeartbeats 4000000
/-! FyH: the hook of FyG with tables of code objects -/
namespace FhY
open PySem PySem.Spec PyProof.Rows L2 Fh
open PySem.W (Frag)
theorem saysYX_any {as : List Addr} {fa : List He.Fa} {fn : List He.DefD} {gs : List GDef} {ts : List He.Tab} {tf : List He.Defn} {ex : Frag → Bool} {w : World} {h : Heap} (e : obsKX fa fn gs ts tf ex h.get? (He.frT h.get? as) = (valYT fn gs ts w, true)) : SaysYX fa fn gs ts tf ex w h (He.frT h.get? as) := by
  have e1 : obsKT fa fn gs ts ex (He.frT h.get? as) = valYT fn gs ts w := congrArg (fun z : AlYX => z.1) e
  have h2 : He.tabsB h.get? tf (He.frT h.get? as) = true := congrArg (fun z : AlYX => z.2) e
  have key : ∀ p ∈ tf, PySem.W.codeHdIn (He.frT h.get? as) (He.cT (He.frT h.get? as) p).1 (He.cT (He.frT h.get? as) p).2 = true ∧ ∃ o, h.get? (He.cT (He.frT h.get? as) p).2 = some o ∧ He.emptyTab o = true := fun p hp => by
    obtain ⟨h3, h4⟩ := He.ba (List.all_eq_true.mp h2 p hp)
    refine ⟨h3, ?_⟩
    cases q : h.get? (He.cT (He.frT h.get? as) p).2 with
    | none =>
      rw [q] at h4
      cases h4
    | some o =>
      rw [q] at h4
      exact ⟨o, rfl, h4⟩
  exact ⟨e1, fun p hp => (key p hp).1, fun p hp => by
    obtain ⟨_, o, q, z⟩ := key p hp
    exact He.frT_none q z, fun p hp => by
    obtain ⟨_, o, q, z⟩ := key p hp
    rw [q, He.emptyTab_eq z]⟩
noncomputable section
def asYG (n : Nat) (g : Addr → Option Obj) : List Addr := sysModules :: cStatics :: asG g (n + 1) .nil [mainGlobals]
def obsYGX (n : Nat) (fa : List He.Fa) (fn : List He.DefD) (gs : List GDef) (ts : List He.Tab) (tf : List He.Defn) (ex : Frag → Bool) (g : Addr → Option Obj) : AlYX := obsKX fa fn gs ts tf ex g (He.frT g (asYG n g))
def hookYGX (n : Nat) (fa : List He.Fa) (fn : List He.DefD) (gs : List GDef) (ts : List He.Tab) (tf : List He.Defn) (ex : Frag → Bool) : PySem.W.Hook where
  α := AlYX
  obs := fun s => obsYGX n fa fn gs ts tf ex (lkS s)
  val := fun w => (valYT fn gs ts w, true)
  says := fun w h => ∃ K : Frag, K.In h ∧ SaysYX fa fn gs ts tf ex w h K
  of := fun w s e => by
    have e : obsYGX n fa fn gs ts tf ex (lkS s) = (valYT fn gs ts w, true) := e
    rw [lkS_eq s] at e
    exact ⟨_, He.frT_in, saysYX_any e⟩
  keeps := fun _ _ _ ⟨K, hK, c⟩ k => ⟨K, PySem.W.Frag.In.keeps hK k, ⟨c.t, c.hd, c.out, fun p hp => k _ _ (c.empty p hp)⟩⟩
end
end FhY
set_option Elab.async false
set_option linter.all false
set_option maxRecDepth 100000
set_option maxHeartbeats 0
namespace Fp6
open PySem PySem.Spec PyProof.Rows L2 Fh Fs FhY
open PySem.W (Frag)
abbrev sErrI : Stmt := inClass (top 12) 0
abbrev sErrP : Stmt := inClass (top 11) 0
abbrev sErrM : Stmt := inClass (top 16) 0
abbrev sErrU : Stmt := inClass (top 15) 0
def fewestL : List (Str × Int) := [("then", 0), ("either", 1), ("any", 1), ("again", 1), ("beside", 2)]
def mostL : List (Str × Int) := [("again", 1), ("beside", 2)]
theorem fewest_eq (z : Str) : lookI fewestL z = fewest z := by
  unfold lookI fewest fewestL
  simp only [List.find?_cons, List.find?_nil]
  by_cases h1 : z = "then"
  · subst h1; rfl
  by_cases h2 : z = "either"
  · subst h2; rfl
  by_cases h3 : z = "any"
  · subst h3; rfl
  by_cases h4 : z = "again"
  · subst h4; rfl
  by_cases h5 : z = "beside"
  · subst h5; rfl
  rw [if_neg h1, if_neg h2, if_neg h3, if_neg h4, if_neg h5, beq_eq_false_iff_ne.mpr (Ne.symm h1), beq_eq_false_iff_ne.mpr (Ne.symm h2), beq_eq_false_iff_ne.mpr (Ne.symm h3), beq_eq_false_iff_ne.mpr (Ne.symm h4), beq_eq_false_iff_ne.mpr (Ne.symm h5)]
  rfl
theorem most_eq (z : Str) : lookI mostL z = most z := by
  unfold lookI most mostL
  simp only [List.find?_cons, List.find?_nil]
  by_cases h4 : z = "again"
  · subst h4; rfl
  by_cases h5 : z = "beside"
  · subst h5; rfl
  rw [if_neg h4, if_neg h5, beq_eq_false_iff_ne.mpr (Ne.symm h4), beq_eq_false_iff_ne.mpr (Ne.symm h5)]
  rfl
def tq : List (He.Defn × Str) := [(("law", none), qL)]
def tf : List He.Defn := tq.map (·.1)
def ownB (K : Frag) (C : Addr) : Bool := He.eqO (PySem.W.findIn K (.ref C) "__class__") (some (some (.builtin "object.__class__"))) && (He.eqO (PySem.W.specialIn K (.builtin "object.__class__") "__get__") (some (some (.builtin "getset_descriptor.__get__"))) &&
  (decide (PySem.W.takesIn K (.builtin "object.__class__") = some true) && (decide (PySem.W.mroIn K C (.type "object") = some true) && (decide (PySem.W.kitOne K (.ref C) (.ref C) = some true) &&
  (decide (PySem.W.kitOne K (.type "NoneType") (.ref C) = some false) && (decide (PySem.W.kitOne K (.type "tuple") (.ref C) = some false) && decide (PySem.W.kitOne K (.type "str") (.ref C) = some false)))))))
theorem ownB_ok {K : Frag} {mg : Str → Option Value} {nm : Str} {C : Addr} (gC : mg nm = some (.ref C)) (cl : Cls K C) (h : ownB K C = true) : OwnC K mg nm C := by
  obtain ⟨h1, h⟩ := He.ba h
  obtain ⟨h2, h⟩ := He.ba h
  obtain ⟨h3, h⟩ := He.ba h
  obtain ⟨h4, h⟩ := He.ba h
  obtain ⟨h5, h⟩ := He.ba h
  obtain ⟨h6, h⟩ := He.ba h
  obtain ⟨h7, h8⟩ := He.ba h
  exact ⟨gC, cl, He.eqO_ok h1, He.eqO_ok h2, of_decide_eq_true h3, of_decide_eq_true h4, of_decide_eq_true h5, of_decide_eq_true h6, of_decide_eq_true h7, of_decide_eq_true h8⟩
def empB (K : Frag) (a : Addr) : Bool := match K.lookup a with
  | some ⟨.type c, _, .seq its _, _⟩ => decide (c = "tuple") && decide (its.toList = [])
  | _ => false
theorem empB_ok {K : Frag} {a : Addr} (h : empB K a = true) (H : Hp) : SqT K H a [] := by
  unfold empB at h
  cases q : K.lookup a with
  | none => rw [q] at h; cases h
  | some o =>
    obtain ⟨oc, od, dt, osl⟩ := o
    rw [q] at h
    cases oc with
    | type c =>
      cases dt with
      | seq its n =>
        obtain ⟨h1, h2⟩ := He.ba (show (decide (c = "tuple") && decide (its.toList = [])) = true from h)
        have h3 := of_decide_eq_true h2
        have h4 : its.size ≤ sizeLine := by
          have e : its.toList.length = its.size := Array.length_toList
          rw [h3] at e
          have e2 : its.size = 0 := e.symm
          rw [e2]
          exact Nat.zero_le _
        exact .inr ⟨_, its, n, q, congrArg Value.type (of_decide_eq_true h1), rfl, h4, by rw [h3]; exact .nil⟩
      | _ => cases h
    | _ => cases dt <;> cases h
def exB (K : Frag) : Bool := clB K ("InvalidText", .ve, ["index"]) && (tabI K (He.ga K "FEWEST") fewestL && (tabI K (He.ga K "MOST") mostL && (clB K ("InvalidPlan", .ve, ["value"]) && (He.tupB K "DONE" [.str "then"] && ((K.lookup sysModules).isSome && (clB K ("TooMany", .oe, ["limit"]) && (clB K ("UnknownTask", .le, ["value"]) && (decide ((tq.map fun p => (He.cT K p.1).2).Nodup) && (ownB K (He.ga K "Task") && (propB K (He.ga K "Task") "role" && (propB K (He.ga K "Task") "many" && (propB K (He.ga K "Task") "other" && (propB K (He.ga K "Task") "same" && (propB K (He.ga K "Task") "takes" && (propB K (He.ga K "Task") "forgets" && (He.eqO (PySem.W.findIn K (.ref (He.ga K "Task")) "__ne__") (some (some (.builtin "object.__ne__"))) && (decide (PySem.W.subIn K (.ref (He.ga K "Task")) (.type "object") = some true) && (PySem.W.notFirst K (He.ga K "Task") (.type "tuple") && (PySem.W.notFirst K (He.ga K "Task") (.type "str") && (PySem.W.notFirst K (He.ga K "Task") (.type "NoneType") && (decide (PySem.W.kitOne K (.type "str") (.ref (He.ga K "Task")) = some false) && (decide (PySem.W.kitOne K (.type "NoneType") (.ref (He.ga K "Task")) = some false) && (decide (PySem.W.kitOne K (.type "tuple") (.ref (He.ga K "Task")) = some false) && (empB K (kwAt "other" K) && (empB K (kwAt "same" K) && (empB K (kwAt "takes" K) && (empB K (kwAt "forgets" K) && (ownB K (He.ga K "Book") && (propB K (He.ga K "Book") "plan" && (decide (PySem.W.exmOne K (.ref (He.ga K "TooMany")) (.ref (He.ga K "InvalidPlan")) = some false) && (decide (PySem.W.exmOne K (.ref (He.ga K "UnknownTask")) (.ref (He.ga K "InvalidPlan")) = some false) && (decide (PySem.W.exmOne K (.ref (He.ga K "UnknownTask")) (.ref (He.ga K "TooMany")) = some false)))))))))))))))))))))))))))))))))
def ts : List He.Tab := [(fun K => He.ga K "FEWEST", fewestL.map (·.1)), (fun K => He.ga K "MOST", mostL.map (·.1))]
def ckD : He.DefD := ⟨("check_plan", none), "check_plan", "check_plan", defArgs sCk, defBody sCk, defScope sCk, [.bl false], []⟩
def dTk : He.DefD := ⟨("Task", some "__init__"), "__init__", "Task.__init__", defArgs sTkI, defBody sTkI, defScope sTkI, [.non], [("many", .int 1), ("other", .adr (kwAt "other")), ("same", .adr (kwAt "same")), ("takes", .adr (kwAt "takes")), ("forgets", .adr (kwAt "forgets"))]⟩
def gs : List GDef := [gDef "Task" "role" "Task.role" "property" sG1, gDef "Task" "many" "Task.many" "property" sG2, gDef "Task" "other" "Task.other" "property" sG3, gDef "Task" "same" "Task.same" "property" sG4, gDef "Task" "takes" "Task.takes" "property" sG5, gDef "Task" "forgets" "Task.forgets" "property" sG6, gDef "Book" "plan" "Book.plan" "property" sBp]
def fn : List He.DefD := [dDef "is_word_of_plans" sIwp, dDef "has_right_number" sHrn, dDef "_word_end" sWe, dDef "_next_part" sNp, dDef "_read_parts" sRps, dDef "read_part" sRp, dDef "read_plan" sRd, ckD, dDef "_is_right_alone" sAl, dDef "is_word" sWord, dDef "normal_form" sNf, dDef "in_turn" sTurn, dDef "side_by_side" sSide, dDef "fronts" sFr, dDef "_is_choice" sCh, dDef "_replaced" sRe, dDef "_branches" sBr, dDef "_picks" sPi, dDef "ways_of" sWy, dDef "normal" sNo, dDef "names_inside" sNi, dDef "are_words" sAre, dDef "is_whole" sWhole, dDef "_ascending" sAsc, dDef "are_roles" sRol, dDef "_are_kinds" sAks, dDef "checked_kinds" sCks, dDef "are_tasks" sAts, dDef "checked_tasks" sCts, dDef "checked_plan" sCp, dDef "levels" sLv, dDef "remembered_names" sRn, dDef "width_of" sWo, dDef "check_memory" sCm, dDef "_law_pen" sPen, dDef "_law_draw" sDraw, dDef "_law_pick" sPick, dDef "_law_form" sLform, dDef "_law_row" sLrow, dDef "_law_two" sLtwo, dDef "_law_names" sLn, dDef "_law_levels" sLl, dDef "_law_due" sDue, dDef "_law_tall" sTall, dDef "choices" sChs, dDef "_law_told" sTold, dDef "law" sLaw, dMeth "InvalidText" "__init__" "InvalidText.__init__" sErrI, dMeth "InvalidPlan" "__init__" "InvalidPlan.__init__" sErrP, dMeth "TooMany" "__init__" "TooMany.__init__" sErrM, dMeth "UnknownTask" "__init__" "UnknownTask.__init__" sErrU, dMeth "Task" "__eq__" "Task.__eq__" sEq, dMeth "Book" "__init__" "Book.__init__" sBkI, dMeth "Book" "set_plan" "Book.set_plan" sBs, dMeth "Book" "_forget" "Book._forget" sBf, dTk]
def fa : List He.Fa := [.glo "is_word_of_plans", .glo "has_right_number", .glo "_word_end", .glo "_next_part", .glo "_read_parts", .glo "read_part", .glo "read_plan", .glo "check_plan", .glo "_is_right_alone", .glo "is_word", .glo "normal_form", .glo "in_turn", .glo "side_by_side", .glo "fronts", .glo "_is_choice", .glo "_replaced", .glo "_branches", .glo "_picks", .glo "ways_of", .glo "normal", .glo "names_inside", .glo "are_words", .glo "is_whole", .glo "_ascending", .glo "are_roles", .glo "_are_kinds", .glo "checked_kinds", .glo "are_tasks", .glo "checked_tasks", .glo "checked_plan", .glo "levels", .glo "remembered_names", .glo "width_of", .glo "check_memory", .glo "_law_pen", .glo "_law_draw", .glo "_law_pick", .glo "_law_form", .glo "_law_row", .glo "_law_two", .glo "_law_names", .glo "_law_levels", .glo "_law_due", .glo "_law_tall", .glo "choices", .glo "_law_told", .glo "law", .free "isinstance", .free "str", .free "len", .free "all", .free "tuple", .free "any", .free "enumerate", .free "list", .free "set", .free "sorted", .free "int", .free "bool", .free "dict", .free "max", .free "sum", .free "range", .free "min", .free "repr", .free "OverflowError", .free "LookupError", .int "LONGEST" 8, .str "LETTERS" "abcdefghijklmnopqrstuvwxyz", .glo "InvalidText", .glo "InvalidPlan", .glo "TooMany", .glo "UnknownTask", .glo "FEWEST", .glo "MOST", .glo "DONE", .int "MANY" 3, .int "KINDS" 3, .int "ROLES" 4, .int "TASKS" 8, .int "REMEMBERED" 3, .int "WIDTH" 5, .int "NAMES" 16, .int "LEVELS" 5, .glo "Task", .cls "Task", .noat "Task" "_role", .noat "Task" "_many", .noat "Task" "_other", .noat "Task" "_same", .noat "Task" "_takes", .noat "Task" "_forgets", .mkr "Task", .meth "Task" "__eq__", .glo "Book", .cls "Book", .noat "Book" "_kinds", .noat "Book" "_tasks", .noat "Book" "_plan", .noat "Book" "_steps", .noat "Book" "_survey", .mkr "Book", .meth "Book" "set_plan", .meth "Book" "_forget"]
def names : List Str := (["_wall", "__name__", "LETTERS", "LONGEST", "is_word", "are_words", "is_whole", "InvalidTask", "InvalidKinds", "InvalidTasks", "InvalidPlan", "InvalidText", "Clash", "NotSameKinds", "UnknownTask", "TooMany", "DONE", "FEWEST", "MOST", "is_word_of_plans"] : List Str) ++ (["has_right_number", "_is_right_alone", "check_plan", "in_turn", "side_by_side", "normal_form", "names_inside", "levels", "KINDS", "ROLES", "TASKS", "REMEMBERED", "WIDTH", "MANY", "NAMES", "LEVELS", "_ascending", "Task", "are_roles", "_are_kinds"] : List Str) ++ (["checked_kinds", "are_tasks", "checked_tasks", "checked_plan", "remembered_names", "_most_doers", "width_of", "check_memory", "text_of", "_word_end", "_next_part", "_read_parts", "read_part", "fronts", "_is_choice", "_replaced", "_branches", "_picks", "ways_of", "normal"] : List Str) ++ (["choices", "plan_text", "read_plan", "_FIELDS", "_DIGITS", "_kind_line", "_task_line", "book_text", "_read_kind", "_fields_of", "_task_of", "_read_task", "_read_plan", "_can_be_remembered", "_read_kinds", "_read_tasks", "read_book", "Book", "_law_pen", "_law_draw"] : List Str) ++ (["_law_pick", "_law_row", "_law_two", "_law_form", "_law_names", "_law_told", "_law_levels", "_law_due", "_law_tall"] : List Str)
abbrev L : PySem.W.OpenLaw := PySem.Challenge.rw_fewhands_k26_plans_that_books_refuse
abbrev R : PySem.W.OpenRow := PySem.W.OpenLaw.row L
abbrev hk : PySem.W.Hook := hookYGX 7 fa fn gs ts tf exB
section
variable {P : Program} {w : World} {K : Frag} {h : Heap} {mg : Str → Option Value}
theorem relI_of {o : Option Int} {r : Option Value} (h : match o with
    | none => r = none
    | some i => ∃ t, r = some (.int i t)) : relI o r := by
  cases o with
  | none => exact h
  | some i => exact h
/-- a def with its code object and table -/
theorem funL {p : He.Defn} {x : Str} {st : Stmt} {fd : FuncData} (F : Fun K x x st (He.fAd K p) fd) : FunC K x x st (He.fAd K p) (He.cT K p).1 fd := FunC.of F
theorem facts {f : Addr} (X : K.In h) (G : h.Ns mainGlobals mg) (hfa : mg ("law" : Str) = some (.ref f)) (c0 : SaysYX fa fn gs ts tf exB w h K) : FhG.LawAtG L w K CX0 24 63 "_law_script" mg f h := by
  have c := c0.t
  have cy := saysT_y c
  have d := says_d cy
  obtain ⟨bT, m⟩ := He.ba (says_more cy)
  obtain ⟨bF, m⟩ := He.ba m
  obtain ⟨bM, m⟩ := He.ba m
  obtain ⟨bP, m⟩ := He.ba m
  obtain ⟨bD, m⟩ := He.ba m
  obtain ⟨bS, m⟩ := He.ba m
  obtain ⟨bTM, m⟩ := He.ba m
  obtain ⟨bTU, m⟩ := He.ba m
  obtain ⟨bN, m⟩ := He.ba m
  obtain ⟨bO, m⟩ := He.ba m
  obtain ⟨bp0, m⟩ := He.ba m
  obtain ⟨bp1, m⟩ := He.ba m
  obtain ⟨bp2, m⟩ := He.ba m
  obtain ⟨bp3, m⟩ := He.ba m
  obtain ⟨bp4, m⟩ := He.ba m
  obtain ⟨bp5, m⟩ := He.ba m
  obtain ⟨bne, m⟩ := He.ba m
  obtain ⟨bsu, m⟩ := He.ba m
  obtain ⟨bf0, m⟩ := He.ba m
  obtain ⟨bf1, m⟩ := He.ba m
  obtain ⟨bf2, m⟩ := He.ba m
  obtain ⟨bk0, m⟩ := He.ba m
  obtain ⟨bk1, m⟩ := He.ba m
  obtain ⟨bk2, m⟩ := He.ba m
  obtain ⟨be0, m⟩ := He.ba m
  obtain ⟨be1, m⟩ := He.ba m
  obtain ⟨be2, m⟩ := He.ba m
  obtain ⟨be3, m⟩ := He.ba m
  obtain ⟨bB, m⟩ := He.ba m
  obtain ⟨bbp0, m⟩ := He.ba m
  obtain ⟨x1, m⟩ := He.ba m
  obtain ⟨x2, x3⟩ := He.ba m
  have D1 := saysT_tab c 0
  have D2 := saysT_tab c 1
  obtain ⟨fd0, F0⟩ := funT d 0 (x := "is_word_of_plans") (st := sIwp) rfl
  obtain ⟨fd1, F1⟩ := funT d 1 (x := "has_right_number") (st := sHrn) rfl
  obtain ⟨fd2, F2⟩ := funT d 2 (x := "_word_end") (st := sWe) rfl
  obtain ⟨fd3, F3⟩ := funT d 3 (x := "_next_part") (st := sNp) rfl
  obtain ⟨fd4, F4⟩ := funT d 4 (x := "_read_parts") (st := sRps) rfl
  obtain ⟨fd5, F5⟩ := funT d 5 (x := "read_part") (st := sRp) rfl
  obtain ⟨fd6, F6⟩ := funT d 6 (x := "read_plan") (st := sRd) rfl
  obtain ⟨fd7, F7⟩ : ∃ fd, FunCk K (He.ga K "check_plan") fd := by
    obtain ⟨fd, F⟩ := d.def_ 7 (d := ckD) rfl
    exact ⟨fd, F⟩
  obtain ⟨fd8, F8⟩ := funT d 8 (x := "_is_right_alone") (st := sAl) rfl
  obtain ⟨fd9, F9⟩ := funT d 9 (x := "is_word") (st := sWord) rfl
  obtain ⟨fd10, F10⟩ := funT d 10 (x := "normal_form") (st := sNf) rfl
  obtain ⟨fd11, F11⟩ := funT d 11 (x := "in_turn") (st := sTurn) rfl
  obtain ⟨fd12, F12⟩ := funT d 12 (x := "side_by_side") (st := sSide) rfl
  obtain ⟨fd13, F13⟩ := funT d 13 (x := "fronts") (st := sFr) rfl
  obtain ⟨fd14, F14⟩ := funT d 14 (x := "_is_choice") (st := sCh) rfl
  obtain ⟨fd15, F15⟩ := funT d 15 (x := "_replaced") (st := sRe) rfl
  obtain ⟨fd16, F16⟩ := funT d 16 (x := "_branches") (st := sBr) rfl
  obtain ⟨fd17, F17⟩ := funT d 17 (x := "_picks") (st := sPi) rfl
  obtain ⟨fd18, F18⟩ := funT d 18 (x := "ways_of") (st := sWy) rfl
  obtain ⟨fd19, F19⟩ := funT d 19 (x := "normal") (st := sNo) rfl
  obtain ⟨fd20, F20⟩ := funT d 20 (x := "names_inside") (st := sNi) rfl
  obtain ⟨fd21, F21⟩ := funT d 21 (x := "are_words") (st := sAre) rfl
  obtain ⟨fd22, F22⟩ := funT d 22 (x := "is_whole") (st := sWhole) rfl
  obtain ⟨fd23, F23⟩ := funT d 23 (x := "_ascending") (st := sAsc) rfl
  obtain ⟨fd24, F24⟩ := funT d 24 (x := "are_roles") (st := sRol) rfl
  obtain ⟨fd25, F25⟩ := funT d 25 (x := "_are_kinds") (st := sAks) rfl
  obtain ⟨fd26, F26⟩ := funT d 26 (x := "checked_kinds") (st := sCks) rfl
  obtain ⟨fd27, F27⟩ := funT d 27 (x := "are_tasks") (st := sAts) rfl
  obtain ⟨fd28, F28⟩ := funT d 28 (x := "checked_tasks") (st := sCts) rfl
  obtain ⟨fd29, F29⟩ := funT d 29 (x := "checked_plan") (st := sCp) rfl
  obtain ⟨fd30, F30⟩ := funT d 30 (x := "levels") (st := sLv) rfl
  obtain ⟨fd31, F31⟩ := funT d 31 (x := "remembered_names") (st := sRn) rfl
  obtain ⟨fd32, F32⟩ := funT d 32 (x := "width_of") (st := sWo) rfl
  obtain ⟨fd33, F33⟩ := funT d 33 (x := "check_memory") (st := sCm) rfl
  obtain ⟨fd34, F34⟩ := funT d 34 (x := "_law_pen") (st := sPen) rfl
  obtain ⟨fd35, F35⟩ := funT d 35 (x := "_law_draw") (st := sDraw) rfl
  obtain ⟨fd36, F36⟩ := funT d 36 (x := "_law_pick") (st := sPick) rfl
  obtain ⟨fd37, F37⟩ := funT d 37 (x := "_law_form") (st := sLform) rfl
  obtain ⟨fd38, F38⟩ := funT d 38 (x := "_law_row") (st := sLrow) rfl
  obtain ⟨fd39, F39⟩ := funT d 39 (x := "_law_two") (st := sLtwo) rfl
  obtain ⟨fd40, F40⟩ := funT d 40 (x := "_law_names") (st := sLn) rfl
  obtain ⟨fd41, F41⟩ := funT d 41 (x := "_law_levels") (st := sLl) rfl
  obtain ⟨fd42, F42⟩ := funT d 42 (x := "_law_due") (st := sDue) rfl
  obtain ⟨fd43, F43⟩ := funT d 43 (x := "_law_tall") (st := sTall) rfl
  obtain ⟨fd44, F44⟩ := funT d 44 (x := "choices") (st := sChs) rfl
  obtain ⟨fd45, F45⟩ := funT d 45 (x := "_law_told") (st := sTold) rfl
  obtain ⟨fd46, F46⟩ := funT d 46 (x := "law") (st := sLaw) rfl
  have g0 := (He.glo_ok X G (d.fact 0 (f := .glo "is_word_of_plans") rfl))
  have g1 := (He.glo_ok X G (d.fact 1 (f := .glo "has_right_number") rfl))
  have g2 := (He.glo_ok X G (d.fact 2 (f := .glo "_word_end") rfl))
  have g3 := (He.glo_ok X G (d.fact 3 (f := .glo "_next_part") rfl))
  have g4 := (He.glo_ok X G (d.fact 4 (f := .glo "_read_parts") rfl))
  have g5 := (He.glo_ok X G (d.fact 5 (f := .glo "read_part") rfl))
  have g6 := (He.glo_ok X G (d.fact 6 (f := .glo "read_plan") rfl))
  have g7 := (He.glo_ok X G (d.fact 7 (f := .glo "check_plan") rfl))
  have g8 := (He.glo_ok X G (d.fact 8 (f := .glo "_is_right_alone") rfl))
  have g9 := (He.glo_ok X G (d.fact 9 (f := .glo "is_word") rfl))
  have g10 := (He.glo_ok X G (d.fact 10 (f := .glo "normal_form") rfl))
  have g11 := (He.glo_ok X G (d.fact 11 (f := .glo "in_turn") rfl))
  have g12 := (He.glo_ok X G (d.fact 12 (f := .glo "side_by_side") rfl))
  have g13 := (He.glo_ok X G (d.fact 13 (f := .glo "fronts") rfl))
  have g14 := (He.glo_ok X G (d.fact 14 (f := .glo "_is_choice") rfl))
  have g15 := (He.glo_ok X G (d.fact 15 (f := .glo "_replaced") rfl))
  have g16 := (He.glo_ok X G (d.fact 16 (f := .glo "_branches") rfl))
  have g17 := (He.glo_ok X G (d.fact 17 (f := .glo "_picks") rfl))
  have g18 := (He.glo_ok X G (d.fact 18 (f := .glo "ways_of") rfl))
  have g19 := (He.glo_ok X G (d.fact 19 (f := .glo "normal") rfl))
  have g20 := (He.glo_ok X G (d.fact 20 (f := .glo "names_inside") rfl))
  have g21 := (He.glo_ok X G (d.fact 21 (f := .glo "are_words") rfl))
  have g22 := (He.glo_ok X G (d.fact 22 (f := .glo "is_whole") rfl))
  have g23 := (He.glo_ok X G (d.fact 23 (f := .glo "_ascending") rfl))
  have g24 := (He.glo_ok X G (d.fact 24 (f := .glo "are_roles") rfl))
  have g25 := (He.glo_ok X G (d.fact 25 (f := .glo "_are_kinds") rfl))
  have g26 := (He.glo_ok X G (d.fact 26 (f := .glo "checked_kinds") rfl))
  have g27 := (He.glo_ok X G (d.fact 27 (f := .glo "are_tasks") rfl))
  have g28 := (He.glo_ok X G (d.fact 28 (f := .glo "checked_tasks") rfl))
  have g29 := (He.glo_ok X G (d.fact 29 (f := .glo "checked_plan") rfl))
  have g30 := (He.glo_ok X G (d.fact 30 (f := .glo "levels") rfl))
  have g31 := (He.glo_ok X G (d.fact 31 (f := .glo "remembered_names") rfl))
  have g32 := (He.glo_ok X G (d.fact 32 (f := .glo "width_of") rfl))
  have g33 := (He.glo_ok X G (d.fact 33 (f := .glo "check_memory") rfl))
  have g34 := (He.glo_ok X G (d.fact 34 (f := .glo "_law_pen") rfl))
  have g35 := (He.glo_ok X G (d.fact 35 (f := .glo "_law_draw") rfl))
  have g36 := (He.glo_ok X G (d.fact 36 (f := .glo "_law_pick") rfl))
  have g37 := (He.glo_ok X G (d.fact 37 (f := .glo "_law_form") rfl))
  have g38 := (He.glo_ok X G (d.fact 38 (f := .glo "_law_row") rfl))
  have g39 := (He.glo_ok X G (d.fact 39 (f := .glo "_law_two") rfl))
  have g40 := (He.glo_ok X G (d.fact 40 (f := .glo "_law_names") rfl))
  have g41 := (He.glo_ok X G (d.fact 41 (f := .glo "_law_levels") rfl))
  have g42 := (He.glo_ok X G (d.fact 42 (f := .glo "_law_due") rfl))
  have g43 := (He.glo_ok X G (d.fact 43 (f := .glo "_law_tall") rfl))
  have g44 := (He.glo_ok X G (d.fact 44 (f := .glo "choices") rfl))
  have g45 := (He.glo_ok X G (d.fact 45 (f := .glo "_law_told") rfl))
  have g46 := (He.glo_ok X G (d.fact 46 (f := .glo "law") rfl))
  obtain ⟨fdEI, FEI⟩ := funM d 47 (cn := "InvalidText") (m := "__init__") (q := "InvalidText.__init__") (st := sErrI) rfl
  have CII := clB_one bT
  have eiI : EK K (He.ga K "InvalidText") .ve := CII.ei
  have ETI : PySem.ErrN.ErrNxt K mg (He.ga K "InvalidText") (He.ma K (He.ga K "InvalidText") "__init__") := errN_of (He.glo_ok X G (d.fact 69 (f := .glo "InvalidText") rfl)) eiI (CII.no "index" List.mem_cons_self) CII.iC CII.tI (by
    obtain ⟨oc, od, kV, doc, pm, an, cdv, ct, osl, e, lk, hcd⟩ := FEI.ex
    refine ⟨oc, od, kV, doc, pm, an, cdv, ct, osl, ⟨38, 17, 38, 21⟩, ⟨38, 23, 38, 28⟩, ⟨39, 8, 39, 12⟩, ⟨39, 8, 39, 18⟩, ⟨39, 21, 39, 26⟩, ⟨39, 8, 39, 26⟩, ?_, hcd⟩
    rw [lk, e]
    rfl)
  obtain ⟨fdEP, FEP⟩ := funM d 48 (cn := "InvalidPlan") (m := "__init__") (q := "InvalidPlan.__init__") (st := sErrP) rfl
  have CIP := clB_one bP
  have eiP : EK K (He.ga K "InvalidPlan") .ve := CIP.ei
  have ETP : PySem.ErrP.ErrPxt K mg (He.ga K "InvalidPlan") (He.ma K (He.ga K "InvalidPlan") "__init__") := errP_of (He.glo_ok X G (d.fact 70 (f := .glo "InvalidPlan") rfl)) eiP (CIP.no "value" List.mem_cons_self) CIP.iC CIP.tI (by
    obtain ⟨oc, od, kV, doc, pm, an, cdv, ct, osl, e, lk, hcd⟩ := FEP.ex
    refine ⟨oc, od, kV, doc, pm, an, cdv, ct, osl, ⟨34, 17, 34, 21⟩, ⟨34, 23, 34, 28⟩, ⟨35, 8, 35, 12⟩, ⟨35, 8, 35, 18⟩, ⟨35, 21, 35, 26⟩, ⟨35, 8, 35, 26⟩, ?_, hcd⟩
    rw [lk, e]
    rfl)
  obtain ⟨fdEM, FEM⟩ := funM d 49 (cn := "TooMany") (m := "__init__") (q := "TooMany.__init__") (st := sErrM) rfl
  have CIM := clB_one bTM
  have eiM : EK K (He.ga K "TooMany") .oe := CIM.ei
  have ETM : PySem.ErrM.ErrMxt K mg (He.ga K "TooMany") (He.ma K (He.ga K "TooMany") "__init__") := errM_of (He.glo_ok X G (d.fact 71 (f := .glo "TooMany") rfl)) eiM (CIM.no "limit" List.mem_cons_self) CIM.iC CIM.tI (by
    obtain ⟨oc, od, kV, doc, pm, an, cdv, ct, osl, e, lk, hcd⟩ := FEM.ex
    refine ⟨oc, od, kV, doc, pm, an, cdv, ct, osl, ⟨52, 17, 52, 21⟩, ⟨52, 23, 52, 28⟩, ⟨53, 8, 53, 12⟩, ⟨53, 8, 53, 18⟩, ⟨53, 21, 53, 26⟩, ⟨53, 8, 53, 26⟩, ?_, hcd⟩
    rw [lk, e]
    rfl)
  obtain ⟨fdEU, FEU⟩ := funM d 50 (cn := "UnknownTask") (m := "__init__") (q := "UnknownTask.__init__") (st := sErrU) rfl
  have CIU := clB_one bTU
  have eiU : EK K (He.ga K "UnknownTask") .le := CIU.ei
  have ETU : PySem.ErrU.ErrUxt K mg (He.ga K "UnknownTask") (He.ma K (He.ga K "UnknownTask") "__init__") := errU_of (He.glo_ok X G (d.fact 72 (f := .glo "UnknownTask") rfl)) eiU (CIU.no "value" List.mem_cons_self) CIU.iC CIU.tI (by
    obtain ⟨oc, od, kV, doc, pm, an, cdv, ct, osl, e, lk, hcd⟩ := FEU.ex
    refine ⟨oc, od, kV, doc, pm, an, cdv, ct, osl, ⟨48, 17, 48, 21⟩, ⟨48, 23, 48, 28⟩, ⟨49, 8, 49, 12⟩, ⟨49, 8, 49, 18⟩, ⟨49, 21, 49, 26⟩, ⟨49, 8, 49, 26⟩, ?_, hcd⟩
    rw [lk, e]
    rfl)
  have T : TxtR K mg w (He.ga K "FEWEST") (He.ga K "MOST") (He.ga K "DONE") (He.ga K "InvalidText") (He.ma K (He.ga K "InvalidText") "__init__") := ⟨(He.free_ok X G (d.fact 47 (f := .free "isinstance") rfl)), (He.free_ok X G (d.fact 48 (f := .free "str") rfl)), (He.free_ok X G (d.fact 49 (f := .free "len") rfl)), (He.str_ok X G (d.fact 68 (f := .str "LETTERS" "abcdefghijklmnopqrstuvwxyz") rfl)), (He.int_ok X G (d.fact 67 (f := .int "LONGEST" 8) rfl)), (He.glo_ok X G (d.fact 73 (f := .glo "FEWEST") rfl)), (He.glo_ok X G (d.fact 74 (f := .glo "MOST") rfl)), (He.glo_ok X G (d.fact 75 (f := .glo "DONE") rfl)), fun H => He.tupB_ok bD H, D1, D2,
    fun z => by
      obtain ⟨r, h1, h2⟩ := tabI_ok bF z
      rw [fewest_eq] at h2
      exact ⟨r, h1, relI_of h2⟩,
    fun z => by
      obtain ⟨r, h1, h2⟩ := tabI_ok bM z
      rw [most_eq] at h2
      exact ⟨r, h1, relI_of h2⟩, ETI⟩
  have R : Rdr K mg w (He.ga K "FEWEST") (He.ga K "MOST") (He.ga K "DONE") (He.ga K "InvalidText") (He.ma K (He.ga K "InvalidText") "__init__") (He.ga K "is_word_of_plans") (He.ga K "has_right_number") (He.ga K "_word_end") (He.ga K "_next_part") (He.ga K "_read_parts") (He.ga K "read_part") (He.ga K "read_plan") fd0 fd1 fd2 fd3 fd4 fd5 fd6 := ⟨T, errC_of eiI, F0, F1, F2, F3, F4, F5, F6, g0, g1, g2, g3, g4, g5, g6⟩
  have C : CkG K mg w (He.ga K "FEWEST") (He.ga K "MOST") (He.ga K "DONE") (He.ga K "InvalidText") (He.ma K (He.ga K "InvalidText") "__init__") (He.ga K "InvalidPlan") (He.ma K (He.ga K "InvalidPlan") "__init__") (He.ga K "check_plan") (He.ga K "_is_right_alone") (He.ga K "is_word") (He.ga K "is_word_of_plans") (He.ga K "has_right_number") fd7 fd8 fd9 fd0 fd1 := ⟨T, ⟨(He.free_ok X G (d.fact 50 (f := .free "all") rfl)), (He.free_ok X G (d.fact 51 (f := .free "tuple") rfl))⟩, ETP, F7, F8, F9, F0, F1, g7, g8, g9, g0, g1⟩
  have TN : TxtN mg := ⟨(He.free_ok X G (d.fact 52 (f := .free "any") rfl)), (He.free_ok X G (d.fact 53 (f := .free "enumerate") rfl)), (He.free_ok X G (d.fact 54 (f := .free "list") rfl)), (He.free_ok X G (d.fact 55 (f := .free "set") rfl)), (He.free_ok X G (d.fact 56 (f := .free "sorted") rfl))⟩
  have PG : PlG K mg w (He.ga K "FEWEST") (He.ga K "MOST") (He.ga K "DONE") (He.ga K "InvalidText") (He.ma K (He.ga K "InvalidText") "__init__") (He.ga K "InvalidPlan") (He.ma K (He.ga K "InvalidPlan") "__init__") (He.ga K "check_plan") (He.ga K "_is_right_alone") (He.ga K "is_word") (He.ga K "is_word_of_plans") (He.ga K "has_right_number") (He.ga K "normal_form") (He.ga K "in_turn") (He.ga K "side_by_side") (He.ga K "fronts") (He.ga K "_is_choice") 0 (He.ga K "_replaced") (He.ga K "_branches") (He.ga K "_picks") (He.ga K "ways_of") (He.ga K "normal") (He.ga K "names_inside") fd7 fd8 fd9 fd0 fd1 fd10 fd11 fd12 fd13 fd14 fd19 fd15 fd16 fd17 fd18 fd19 fd20 := ⟨C, TN, F10, F11, F12, F13, F14, F15, F16, F17, F18, F19, F20, g10, g11, g12, g13, g14, g15, g16, g17, g18, g19, g20⟩
  have TB : TxtB mg := ⟨(He.free_ok X G (d.fact 57 (f := .free "int") rfl)), (He.free_ok X G (d.fact 58 (f := .free "bool") rfl)), (He.free_ok X G (d.fact 54 (f := .free "list") rfl)), (He.free_ok X G (d.fact 56 (f := .free "sorted") rfl)), (He.free_ok X G (d.fact 55 (f := .free "set") rfl)), (He.free_ok X G (d.fact 59 (f := .free "dict") rfl)), (He.free_ok X G (d.fact 60 (f := .free "max") rfl)), (He.free_ok X G (d.fact 61 (f := .free "sum") rfl)), (He.int_ok X G (d.fact 76 (f := .int "MANY" 3) rfl)), (He.int_ok X G (d.fact 77 (f := .int "KINDS" 3) rfl)), (He.int_ok X G (d.fact 78 (f := .int "ROLES" 4) rfl)), (He.int_ok X G (d.fact 79 (f := .int "TASKS" 8) rfl)), (He.int_ok X G (d.fact 80 (f := .int "REMEMBERED" 3) rfl)), (He.int_ok X G (d.fact 81 (f := .int "WIDTH" 5) rfl)), (He.int_ok X G (d.fact 82 (f := .int "NAMES" 16) rfl)), (He.int_ok X G (d.fact 83 (f := .int "LEVELS" 5) rfl))⟩
  have OT : OwnC K mg "Task" (He.ga K "Task") := ownB_ok (He.glo_ok X G (d.fact 84 (f := .glo "Task") rfl)) (He.cls_ok (d.fact 85 (f := .cls "Task") rfl)) bO
  have OB : OwnC K mg "Book" (He.ga K "Book") := ownB_ok (He.glo_ok X G (d.fact 94 (f := .glo "Book") rfl)) (He.cls_ok (d.fact 95 (f := .cls "Book") rfl)) bB
  obtain ⟨fdB0, FB0⟩ := funM d 51 (cn := "Task") (m := "__eq__") (q := "Task.__eq__") (st := sEq) rfl
  obtain ⟨fdB1, FB1⟩ := funM d 52 (cn := "Book") (m := "__init__") (q := "Book.__init__") (st := sBkI) rfl
  obtain ⟨fdB2, FB2⟩ := funM d 53 (cn := "Book") (m := "set_plan") (q := "Book.set_plan") (st := sBs) rfl
  obtain ⟨fdB3, FB3⟩ := funM d 54 (cn := "Book") (m := "_forget") (q := "Book._forget") (st := sBf) rfl
  obtain ⟨fdT, FT⟩ := d.def_ 55 (d := dTk) rfl
  obtain ⟨fe0, E0⟩ := funG cy 0 (cn := "Task") (m := "role") (q := "Task.role") (T := "property") (st := sG1) rfl
  obtain ⟨fe1, E1⟩ := funG cy 1 (cn := "Task") (m := "many") (q := "Task.many") (T := "property") (st := sG2) rfl
  obtain ⟨fe2, E2⟩ := funG cy 2 (cn := "Task") (m := "other") (q := "Task.other") (T := "property") (st := sG3) rfl
  obtain ⟨fe3, E3⟩ := funG cy 3 (cn := "Task") (m := "same") (q := "Task.same") (T := "property") (st := sG4) rfl
  obtain ⟨fe4, E4⟩ := funG cy 4 (cn := "Task") (m := "takes") (q := "Task.takes") (T := "property") (st := sG5) rfl
  obtain ⟨fe5, E5⟩ := funG cy 5 (cn := "Task") (m := "forgets") (q := "Task.forgets") (T := "property") (st := sG6) rfl
  obtain ⟨ge0, EB0⟩ := funG cy 6 (cn := "Book") (m := "plan") (q := "Book.plan") (T := "property") (st := sBp) rfl
  have mM0 := (He.meth_ok (d.fact 102 (f := .meth "Book" "set_plan") rfl))
  have mM1 := (He.meth_ok (d.fact 103 (f := .meth "Book" "_forget") rfl))
  have emp : ∀ q ∈ (kwT K).drop 1, ∃ b, q.2 = .ref b ∧ ∀ H : Hp, SqT K H b [] := by
    intro q hq
    simp only [kwT, List.drop_succ_cons, List.drop_zero, List.mem_cons, List.not_mem_nil, or_false] at hq
    rcases hq with z | z | z | z <;> rw [z]
    · exact ⟨_, rfl, empB_ok be0⟩
    · exact ⟨_, rfl, empB_ok be1⟩
    · exact ⟨_, rfl, empB_ok be2⟩
    · exact ⟨_, rfl, empB_ok be3⟩
  have ME := (He.meth_ok (d.fact 93 (f := .meth "Task" "__eq__") rfl))
  have GK : Pkg K mg w (He.ga K "FEWEST") (He.ga K "MOST") (He.ga K "DONE") (He.ga K "InvalidText") (He.ma K (He.ga K "InvalidText") "__init__") (He.ga K "Task") (He.ga K "is_word") (He.ga K "are_words") (He.ga K "is_whole") (He.ga K "_ascending") (He.ma K (He.ga K "Task") "__init__") fd9 fd21 fd22 fd23 fdT := ⟨T, ⟨(He.free_ok X G (d.fact 50 (f := .free "all") rfl)), (He.free_ok X G (d.fact 51 (f := .free "tuple") rfl))⟩, TB, OT, (He.mkr_ok (d.fact 92 (f := .mkr "Task") rfl)), FT, (He.noat_ok (d.fact 86 (f := .noat "Task" "_role") rfl)), (He.noat_ok (d.fact 87 (f := .noat "Task" "_many") rfl)), (He.noat_ok (d.fact 88 (f := .noat "Task" "_other") rfl)), (He.noat_ok (d.fact 89 (f := .noat "Task" "_same") rfl)), (He.noat_ok (d.fact 90 (f := .noat "Task" "_takes") rfl)), (He.noat_ok (d.fact 91 (f := .noat "Task" "_forgets") rfl)), emp, F9, F21, F22, F23, g9, g21, g22, g23⟩
  have M : Mets K (He.ga K "Task") (He.ma K (He.ga K "Task") "__eq__") (getA K "property" (He.ma K (He.ga K "Task") "role")) (getA K "property" (He.ma K (He.ga K "Task") "many")) (getA K "property" (He.ma K (He.ga K "Task") "other")) (getA K "property" (He.ma K (He.ga K "Task") "same")) (getA K "property" (He.ma K (He.ga K "Task") "takes")) (getA K "property" (He.ma K (He.ga K "Task") "forgets")) (He.ma K (He.ga K "Task") "role") (He.ma K (He.ga K "Task") "many") (He.ma K (He.ga K "Task") "other") (He.ma K (He.ga K "Task") "same") (He.ma K (He.ga K "Task") "takes") (He.ma K (He.ga K "Task") "forgets") fdB0 fe0 fe1 fe2 fe3 fe4 fe5 := ⟨propB_ok bp0, E0, propB_ok bp1, E1, propB_ok bp2, E2, propB_ok bp3, E3, propB_ok bp4, E4, propB_ok bp5, E5, ME.at_, ME.fn, FB0, He.eqO_ok bne, of_decide_eq_true bsu, bf0, bf1, bf2, of_decide_eq_true bk0, of_decide_eq_true bk1, of_decide_eq_true bk2⟩
  have CG : CpG K mg w (He.ga K "FEWEST") (He.ga K "MOST") (He.ga K "DONE") (He.ga K "InvalidText") (He.ma K (He.ga K "InvalidText") "__init__") (He.ga K "InvalidPlan") (He.ma K (He.ga K "InvalidPlan") "__init__") (He.ga K "check_plan") (He.ga K "_is_right_alone") (He.ga K "is_word") (He.ga K "is_word_of_plans") (He.ga K "has_right_number") (He.ga K "normal_form") (He.ga K "in_turn") (He.ga K "side_by_side") (He.ga K "names_inside") (He.ga K "levels") fd7 fd8 fd9 fd0 fd1 fd10 fd11 fd12 fd20 fd30 := ⟨C, F10, F11, F12, F20, F30, g10, g11, g12, g20, g30⟩
  have BB : BkG K mg (He.ga K "Book") (He.ga K "checked_kinds") (He.ga K "_are_kinds") (He.ga K "are_roles") (He.ga K "checked_plan") (He.ga K "checked_tasks") (He.ga K "are_tasks") (He.ga K "check_memory") (He.ga K "remembered_names") (He.ga K "width_of") fd26 fd25 fd24 fd29 fd28 fd27 fd33 fd31 fd32 := ⟨OB, (He.noat_ok (d.fact 96 (f := .noat "Book" "_kinds") rfl)), (He.noat_ok (d.fact 97 (f := .noat "Book" "_tasks") rfl)), (He.noat_ok (d.fact 98 (f := .noat "Book" "_plan") rfl)), (He.noat_ok (d.fact 99 (f := .noat "Book" "_steps") rfl)), (He.noat_ok (d.fact 100 (f := .noat "Book" "_survey") rfl)), F26, F25, F24, F29, F28, F27, F33, F31, F32, g26, g25, g24, g29, g28, g27, g33, g31, g32⟩
  have mkB : Mk K (He.ga K "Book") (He.ma K (He.ga K "Book") "__init__") := (He.mkr_ok (d.fact 101 (f := .mkr "Book") rfl))
  have Z : Defs K mg (He.ga K "_law_pen") (He.ga K "_law_draw") (He.ga K "_law_pick") (He.ga K "_law_form") (He.ga K "_law_row") (He.ga K "_law_two") (He.ga K "_law_names") (He.ga K "_law_levels") (He.ga K "_law_due") (He.ga K "_law_tall") (He.ga K "choices") (He.ga K "_law_told") fd34 fd35 fd36 fd37 fd38 fd39 fd40 fd41 fd42 fd43 fd44 fd45 := ⟨F34, F35, F36, F37, F38, F39, F40, F41, F42, F43, F44, F45, g34, g35, g36, g37, g38, g39, g40, g41, g42, g43, g44, g45⟩
  have TP : TxtP mg := ⟨(He.free_ok X G (d.fact 54 (f := .free "list") rfl)), (He.free_ok X G (d.fact 57 (f := .free "int") rfl)), (He.free_ok X G (d.fact 49 (f := .free "len") rfl))⟩
  have TQ : TxtQ mg := ⟨(He.free_ok X G (d.fact 62 (f := .free "range") rfl)), (He.free_ok X G (d.fact 63 (f := .free "min") rfl)), (He.free_ok X G (d.fact 64 (f := .free "repr") rfl)), (He.free_ok X G (d.fact 65 (f := .free "OverflowError") rfl)), (He.free_ok X G (d.fact 66 (f := .free "LookupError") rfl))⟩
  have TL : TxtL mg := ⟨(He.free_ok X G (d.fact 47 (f := .free "isinstance") rfl)), (He.free_ok X G (d.fact 48 (f := .free "str") rfl)), (He.free_ok X G (d.fact 49 (f := .free "len") rfl)), (He.free_ok X G (d.fact 54 (f := .free "list") rfl)), (He.free_ok X G (d.fact 51 (f := .free "tuple") rfl))⟩
  have TD : TxtD mg := ⟨TL, (He.free_ok X G (d.fact 60 (f := .free "max") rfl)), (He.free_ok X G (d.fact 56 (f := .free "sorted") rfl)), (He.free_ok X G (d.fact 55 (f := .free "set") rfl))⟩
  have E3 : Err3 K mg (He.ga K "InvalidPlan") (He.ma K (He.ga K "InvalidPlan") "__init__") (He.ga K "TooMany") (He.ma K (He.ga K "TooMany") "__init__") (He.ga K "UnknownTask") (He.ma K (He.ga K "UnknownTask") "__init__") := ⟨ETP, ETM, ETU, errC_ofM eiM, errC_ofL eiU, ETP.te, of_decide_eq_true x1, of_decide_eq_true x2, of_decide_eq_true x3, errB_ofM eiM, errB_ofU eiU⟩
  have e := hfa.symm.trans g46
  cases e
  have b : ∀ (s : Shared) (v : Value), BindsTo s fd46 ⟨[v], []⟩ [("_law_script", v)] := by
    obtain ⟨oc, od, kV, doc, pm, an, cdv, ct, osl, e, _, _⟩ := F46.ex
    intro s v
    rw [e]
    exact .of_eq rfl
  have ND := of_decide_eq_true bN
  have TFm : ∀ p ∈ tq.map (fun p => He.cT K p.1), ∃ q ∈ tf, He.cT K q = p := fun p hp => by
    obtain ⟨q, hq, rfl⟩ := List.mem_map.mp hp
    exact ⟨q.1, List.mem_map.mpr ⟨q, hq, rfl⟩, rfl⟩
  have E : ∀ p ∈ tq.map (fun p => He.cT K p.1), h.get? p.2 = some { cls := .none, data := .fields #[] } := fun p hp => by
    obtain ⟨q, hq, rfl⟩ := TFm p hp
    exact c0.empty q hq
  have O : ∀ p ∈ tq.map (fun p => He.cT K p.1), K.lookup p.2 = none := fun p hp => by
    obtain ⟨q, hq, rfl⟩ := TFm p hp
    exact c0.out q hq
  have C9 : ∀ p ∈ tq.map (fun p => He.cT K p.1), PySem.W.CodeHd h p.1 p.2 := fun p hp => by
    obtain ⟨q, hq, rfl⟩ := TFm p hp
    exact PySem.W.codeHd_of_K X (c0.hd q hq)
  refine ⟨fd46, tq.map (fun p => He.cT K p.1), spLaw K (tq.map fun p => ((He.cT K p.1).2, p.2)), E, O, C9, b, fun H a ns hl hT hS => ⟨a, ns, rfl, hS, hl, tabs_start hT, fun _ => rfl⟩, fun base KB GB hTB => ?_⟩
  have mq0 : ((("law", none), qL) : He.Defn × Str) ∈ tq := List.Mem.head _
  exact ok_law (funL (p := ("law", none)) F46) (hTB (He.cT K ("law", none)) (List.mem_map.mpr ⟨_, mq0, rfl⟩)) ⟨PG, CG, GK, M, BB, mkB, FB1, mM0, FB2, mM1, FB3, propB_ok bbp0, EB0, E3⟩ Z TP TQ TD bS
end
end Fp6
set_option Elab.async false
set_option linter.all false
set_option maxRecDepth 100000
set_option maxHeartbeats 0
open PySem PySem.W PySem.Calls PyProof.Rows
def PySem.W.Fast.tw3861959927051742091 : Unit := ()
def PySem.W.Fast.tw9766867754859281917 : Unit := ()
def PySem.W.Fast.tw14080705800258297760 : Unit := ()
def PySem.W.Fast.tw4474321244639258046 : Unit := ()
def PySem.W.Fast.tw16786619131167354436 : Unit := ()
def PySem.W.Fast.tw17326949480169126316 : Unit := ()
def PySem.W.Fast.tw4967510556966759927 : Unit := ()
def PySem.W.Fast.tw15497440968802740144 : Unit := ()
def PySem.W.Fast.tw12739118061677828663 : Unit := ()
def PySem.W.Fast.tw17856242718526229353 : Unit := ()
def PySem.W.Fast.tw2931392594580312698 : Unit := ()
theorem PySem.Challenge.cw_fewhands_k26_plans_that_books_refuse_holds : PySem.Challenge.rw_fewhands_k26_plans_that_books_refuse.Holds := by
  w_on; o_law
  o_head Fp6.hk
  case hw => w_witness2
  case hc =>
    refine FhG.walk_ofTG (l := PySem.Challenge.rw_fewhands_k26_plans_that_books_refuse) (n := 63) (k := 24) (x := "_law_script") (CX := L2.CX0) rfl (by decide) (by kernel_rfl) ⟨rfl, by decide, by decide⟩ ?F (fun _ _ _ _ z => z)
    intro w mg fa h Y G hmg0
    obtain ⟨K, KX, c⟩ := Y
    have hmg : mg ("law" : PySem.Str) = some (.ref fa) := by
      have e : (HandSHeadRun.topDef (OpenLaw.row PySem.Challenge.rw_fewhands_k26_plans_that_books_refuse).prog 100).name = ("law" : PySem.Str) := by kernel_rfl
      rw [← e]
      exact hmg0
    exact ⟨K, KX, Fp6.facts KX G hmg c⟩
