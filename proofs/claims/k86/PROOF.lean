import PyProof.Rows.All
import Wide.All
import OpenK.AllK
import Wide.FinOn
import HandS.ForMost
import HandS.Wide
import HandS.Style
import HandS.TupAny
import HandS.IsInst
import HandS.Evl
import HandS.TupMul
import KE.GoesMore
import KE.GoesEnum
import HandS.SetKeys
import HandS.Walk
import HandS.DictComp
import HandS.Conv
import HandS.DictTup
import KE.KDictDisplayH
import KE.KDictCopyH
import KE.KEqDict
import HandS.DictEq
import HandS.Zip
import HandS.SortRule
import KE.KSortTupAny
import HandS.Exc
import HandS.ExcInit
import HandS.ExcField
import HandS.ExcIs
import HandS.ExcOwn
import HandS.WordsExc
import KE.KExcIs
import HandS.More
import HandS.SetFor
import HandS.StrMore
import HandS.Small
import HandS.RaiseMore
import KE.KeyNested
import KE.SortData
import HandS.TupSets
import HandS.Deep
import PyProof.Rows.StrMeet
import HandS.Rev
import HandS.Star
import HandS.Defaults
import HandS.ExcValue
import KE.KExcInit
import PyProof.ExcBaseAll.LookupError
import PySem.Challenge.RW_roundcalls_k86_errors
set_option Elab.async false
set_option linter.all false
set_option maxRecDepth 100000
set_option maxHeartbeats 4000000
namespace KD
open PySem PySem.Spec PyProof.Rows L2

/-! A def's promise where it is known that no repr runs around the call. -/
abbrev Quiet (A : Around) : Prop := A.guards = some []

structure FnG (P : Program) (w : World) (K : PySem.W.Frag) (mg : Str → Option Value) (base : Heap) (CX : CXT)
    (k : Nat) (f : Addr) (fd : FuncData) (ps : List Str) (sp : Sp) : Prop where
  len : ∀ vs H Q E, sp vs H Q E → vs.length = ps.length
  run : ∀ (A : Around) (out : List Env) (s : Shared) (H : Hp) (args : Args) (us : List Value) (vs : List V) (Q : VK) (E : XK),
    Room k A → Quiet A → Env0 P w K mg base A out s H → BindsTo s fd args (ps.zip us) → Vals vs us →
    sp vs H Q E → codeAny (model P w) A (.call (.ref f) args) (CR CX out P w H s Q E) s

section
variable {P : Program} {w : World} {K : PySem.W.Frag} {mg : Str → Option Value} {base : Heap} {CX : CXT}
theorem FnG.mono {i k : Nat} {f : Addr} {fd : FuncData} {ps : List Str} {sp : Sp}
    (F : FnG P w K mg base CX i f fd ps sp) (le : i ≤ k) : FnG P w K mg base CX k f fd ps sp :=
  ⟨F.len, fun A out s H args us vs Q E hr => F.run A out s H args us vs Q E (hr.mono le)⟩
/-- a def that needs no quiet -/
theorem FnG.of {k : Nat} {f : Addr} {fd : FuncData} {ps : List Str} {sp : Sp}
    (F : FnOk P w K mg base CX k f fd ps sp) : FnG P w K mg base CX k f fd ps sp :=
  ⟨F.len, fun A out s H args us vs Q E hr _ => F.run A out s H args us vs Q E hr⟩
theorem FnG.imp {k : Nat} {f : Addr} {fd : FuncData} {ps : List Str} {sp sp' : Sp}
    (F : FnG P w K mg base CX k f fd ps sp) (h : ∀ vs H Q E, sp' vs H Q E → sp vs H Q E) :
    FnG P w K mg base CX k f fd ps sp' :=
  ⟨fun vs H Q E q => F.len vs H Q E (h _ _ _ _ q),
   fun A out s H args us vs Q E hr hq he hb hv hs => F.run A out s H args us vs Q E hr hq he hb hv (h _ _ _ _ hs)⟩

/-- a def of the text, by its body -/
theorem fnG_of {k : Nat} {f : Addr} {name qual : Str} {params : Arguments} {body : List Stmt} {scope : Scope}
    {dV kV doc pm cdv ct oc : Value} {an od : Option Addr} {osl : Array (Option Value)} {N ps : List Str} {sp : Sp}
    (lk : K.lookup f = some ⟨oc, od, .func (PySem.W.fnOf name qual params body scope dV kV doc pm an cdv ct), osl⟩)
    (hcd : PySem.W.codeIn K cdv qual = true) (S : FnScope N ps scope)
    (hlen : ∀ vs H Q E, sp vs H Q E → vs.length = ps.length)
    (hbody : ∀ (A : Around) (out : List Env) (s : Shared) (H : Hp) (vs : List V) (Q : VK) (E : XK),
      Room k (A.deeper (envOfC qual scope s.heap.objs.size f cdv)) →
      Quiet (A.deeper (envOfC qual scope s.heap.objs.size f cdv)) → sp vs H Q E →
      ∃ t, PSs (cxOf CX P w K mg base N qual scope f cdv A out s H E) body t ∧
        t { nx := fun _ H' => Q .non H', rt := Q } (start N vs) H) :
    FnG P w K mg base CX (k + 1) f (PySem.W.fnOf name qual params body scope dV kV doc pm an cdv ct) ps sp := by
  refine ⟨hlen, fun A out s H args us vs Q E hr hq e0 hb rv hsp => ?_⟩
  have lv := hlen _ _ _ _ hsp
  have inK : K.In s.heap := e0.mod.kin.keeps fun c u z => (e0.bs c u z).1
  have noLim : s.heap.NoLimit := e0.mod.nolimit.keeps fun c u z => (e0.bs c u z).1
  have kinds : ∀ y ∈ ps.zip us, scope.names.lookup y.1 = some .local ∨
      (scope.names.lookup y.1 = some .cell ∧
        ((cellsFrom (s.heap.objs.size + 1) scope.names []).lookup y.1).isSome = true) := by
    rintro ⟨n, v⟩ hy
    rcases S.par n (List.of_mem_zip hy).1 with z | z
    · exact .inl z
    · exact .inr ⟨z, PySem.W.cellsFrom_some _ _ _ (.inl z)⟩
  refine codeAny_call_function hr.depth (inK _ _ lk) rfl S.co S.gen rfl
    (PySem.W.codeRec_of inK hcd) (hb _ _ _ _ ?_)
  refine wpAny_newFunctionEnv_cells S.kind kinds fun env he s1 x => ?_
  subst he
  refine ⟨noLim.keeps x.toInCall.keep, codeAny_func ?_⟩
  obtain ⟨t, ht, hq'⟩ := hbody A out s H vs Q E (hr.deeper _) hq hsp
  have I := inv_start (CX := CX) (E := E) (w := w) S hr.hd e0 lv rv x
  refine wpAny_mono (ht.run [] s1 (start N vs) H _ I hq') (fun fl s' hs => ?_) fun _ _ z => z
  cases fl with
  | brk => obtain ⟨_, _, _, z⟩ := hs; exact False.elim z
  | cont => obtain ⟨_, _, _, z⟩ := hs; exact False.elim z
  | next =>
    obtain ⟨σ', H', J, z⟩ := hs
    exact ⟨V.non, H', J.os, J.bare, J.base, J.hok, rfl, z⟩
  | ret u =>
    obtain ⟨v, σ', H', J, rv', z⟩ := hs
    exact ⟨v, H', J.os, J.bare, J.base, J.hok, rv', z⟩

/-- no exception leaves it -/
theorem okG {x qual : Str} {st : Stmt} {f : Addr} {fd : FuncData} {N ps : List Str} {k : Nat} {sp : Sp}
    (F : Fun K x qual st f fd) (S : FnScope N ps (defScope st)) (hlen : ∀ vs H Q E, sp vs H Q E → vs.length = ps.length)
    (hbody : ∀ (cdv : Value) (A : Around) (out : List Env) (s : Shared) (H : Hp) (vs : List V) (Q : VK) (E : XK),
      Room k (A.deeper (envOfC qual (defScope st) s.heap.objs.size f cdv)) →
      Quiet (A.deeper (envOfC qual (defScope st) s.heap.objs.size f cdv)) → sp vs H Q E →
      ∃ t, PSs (cxOf CX0 P w K mg base N qual (defScope st) f cdv A out s H E).nox (defBody st) t ∧
        t { nx := fun _ H' => Q .non H', rt := Q } (start N vs) H) : FnG P w K mg base CX0 (k + 1) f fd ps sp := by
  obtain ⟨oc, od, kV, doc, pm, an, cdv, ct, osl, rfl, lk, hcd⟩ := F.ex
  refine fnG_of lk hcd S hlen fun A out s H vs Q E hr hg hsp => ?_
  obtain ⟨t, h, q⟩ := hbody cdv A out s H vs Q E hr hg hsp
  exact ⟨t, h.nox, q⟩
end

section
variable {X : Cx} {CX : CXT} {k : Nat} {f C : Addr} {fd : FuncData} {ps : List Str} {sp : Sp} {dvs : List V}
  {ds : List Value} {E : XK} {x m : Str} {p pos apos : Pos} {e o : Expr} {es : List Expr} {ta : TE} {t : TA}
theorem run_g {pins : List (Addr × Obj)} {σ : L2.St} {H : Hp} {s : Shared} {Q : VK} {us : List Value} {vs : List V}
    (F : FnG X.prog X.w X.K X.mg X.base CX k f fd ps sp) (hr : Room k X.A) (hq : Quiet X.A) (hb : Binds X.K fd ps ds)
    (hd : Vals dvs ds) (hx : Passes CX X E) (I : Inv X pins σ H s) (r : Vals vs us) (h : sp (vs ++ dvs) H Q E) :
    wpAny (model X.prog X.w) X.A (call (.ref f) us) (EP X pins σ Q) X.xe s := by
  have rr : Vals (vs ++ dvs) (us ++ ds) := r.append hd
  have ll : (us ++ ds).length = ps.length := by rw [← rr.length]; exact F.len _ _ _ _ h
  have run := F.run X.A X.stack s H ⟨us, []⟩ (us ++ ds) (vs ++ dvs) Q E hr hq I.env0 (hb s us I.kIn ll) rr h
  refine wpAny_call (codeAny_mono run fun r s' hq' => ?_)
  match r, hq' with
  | .error e, z => exact hx pins σ H s e s' I z
  | .ok (.ret u), z => exact I.after z
  | .ok .next, z => exact False.elim z
  | .ok .brk, z => exact False.elim z
  | .ok .cont, z => exact False.elim z
theorem pe_g (F : FnG X.prog X.w X.K X.mg X.base CX k f fd ps sp) (hr : Room k X.A) (hq : Quiet X.A) (hg : Gl X x)
    (hm : X.mg x = some (.ref f)) (hk : PySem.W.keepIn X.K (.ref f) = true) (hb : Binds X.K fd ps ds) (hd : Vals dvs ds)
    (hx : Passes CX X E) (ha : PA X (e :: es) t) (hdb : (x == ("__debug__" : Str)) = false := by decide)
    (he : starEach (e :: es) X.env = (false, eval e X.env) :: starEach es X.env := by rfl)
    (hpl : (backTo pos (starEach es X.env)).any (·.1) = false := by rfl) :
    PE X (.Call (.Name x p) (e :: es) [] pos) (tCall sp dvs E t) := by
  constructor
  intro pins s σ H Q I h
  refine wpAny_Call_Name_kw (ld_glob I hg hm ?_ hdb)
  have args := ha.run pos pins s σ H _ I h
  refine PySem.W.callWith_K (h₀ := X.base) I.ok.mod.kin hk (thn args ?_) he hpl
  rintro us s1 ⟨vs, H1, I1, r, q⟩
  exact ⟨I1.kIn, run_g F hr hq hb hd hx I1 r q⟩
theorem pe_g0 (F : FnG X.prog X.w X.K X.mg X.base CX k f fd ps sp) (hr : Room k X.A) (hq : Quiet X.A) (hg : Gl X x)
    (hm : X.mg x = some (.ref f)) (hk : PySem.W.keepIn X.K (.ref f) = true) (hb : Binds X.K fd ps ds) (hd : Vals dvs ds)
    (hx : Passes CX X E) (hdb : (x == ("__debug__" : Str)) = false := by decide) :
    PE X (.Call (.Name x p) [] [] pos) (tCall sp dvs E tNil) := by
  constructor
  intro pins s σ H Q I h
  refine wpAny_Call_Name_kw (ld_glob I hg hm ?_ hdb)
  exact PySem.W.callWith_K0 I.kIn hk (run_g (us := []) F hr hq hb hd hx I .nil h)
end
end KD
set_option Elab.async false
set_option linter.all false
set_option maxRecDepth 100000
set_option maxHeartbeats 4000000
namespace KD
open PySem PySem.Spec PyProof.Rows L2

/-! ### data that stands in the abstract heap, dicts (keys: ints, texts) among it -/
def keyD : Key → PyData
  | .inl i => .int i
  | .inr x => .str x
mutual
inductive Da (K : PySem.W.Frag) (H : Hp) : V → PyData → Prop
  | non : Da K H .non .none
  | bl (b : Bool) : Da K H (.bl b) (.bool b)
  | int (i : Int) : Da K H (.int i) (.int i)
  | str (x : Str) : Da K H (.str x) (.str x)
  | lst {a : Addr} {xs : List V} {ds : List PyData} : H a = some (.lst xs) → DaAll K H xs ds → Da K H (.ref a) (.list ds)
  | tup {a : Addr} {xs : List V} {ds : List PyData} : H a = some (.tup xs) → DaAll K H xs ds → Da K H (.ref a) (.tuple ds)
  | dic {a : Addr} {kvs : List (Key × V)} {ds : List (PyData × PyData)} :
      H a = some (.dK kvs) → DaKv K H kvs ds → Da K H (.ref a) (.dict ds)
inductive DaAll (K : PySem.W.Frag) (H : Hp) : List V → List PyData → Prop
  | nil : DaAll K H [] []
  | cons {v : V} {vs : List V} {d : PyData} {ds : List PyData} : Da K H v d → DaAll K H vs ds → DaAll K H (v :: vs) (d :: ds)
inductive DaKv (K : PySem.W.Frag) (H : Hp) : List (Key × V) → List (PyData × PyData) → Prop
  | nil : DaKv K H [] []
  | cons {k : Key} {v : V} {vs : List (Key × V)} {d : PyData} {ds : List (PyData × PyData)} :
      Da K H v d → DaKv K H vs ds → DaKv K H ((k, v) :: vs) ((keyD k, d) :: ds)
end

mutual
theorem Da.mono {K : PySem.W.Frag} {H H' : Hp} (e : ∀ a o, H a = some o → H' a = some o) : ∀ (d : PyData) {v : V}, Da K H v d → Da K H' v d
  | .none, _, h => by cases h; exact .non
  | .bool b, _, h => by cases h; exact .bl b
  | .int i, _, h => by cases h; exact .int i
  | .str x, _, h => by cases h; exact .str x
  | .list ds, _, h => by
    cases h with
    | lst h1 h2 => exact .lst (e _ _ h1) (DaAll.mono e ds h2)
  | .tuple ds, _, h => by
    cases h with
    | tup h1 h2 => exact .tup (e _ _ h1) (DaAll.mono e ds h2)
  | .dict ds, _, h => by
    cases h with
    | dic h1 h2 => exact .dic (e _ _ h1) (DaKv.mono e ds h2)
theorem DaAll.mono {K : PySem.W.Frag} {H H' : Hp} (e : ∀ a o, H a = some o → H' a = some o) : ∀ (ds : List PyData) {vs : List V}, DaAll K H vs ds → DaAll K H' vs ds
  | [], _, h => by cases h; exact .nil
  | d :: ds, _, h => by
    cases h with
    | cons h1 h2 => exact .cons (Da.mono e d h1) (DaAll.mono e ds h2)
theorem DaKv.mono {K : PySem.W.Frag} {H H' : Hp} (e : ∀ a o, H a = some o → H' a = some o) : ∀ (ds : List (PyData × PyData)) {vs : List (Key × V)}, DaKv K H vs ds → DaKv K H' vs ds
  | [], _, h => by cases h; exact .nil
  | (_, d) :: ds, _, h => by
    cases h with
    | cons h1 h2 => exact .cons (Da.mono e d h1) (DaKv.mono e ds h2)
end

section
variable {K : PySem.W.Frag} {H : Hp}
theorem DaAll.length : ∀ {vs : List V} {ds : List PyData}, DaAll K H vs ds → vs.length = ds.length
  | [], _, h => by cases h; rfl
  | _ :: vs, _, h => by
    cases h with
    | cons h1 h2 => rw [List.length_cons, List.length_cons, DaAll.length h2]
theorem DaAll.get : ∀ {vs : List V} {ds : List PyData} {i : Nat} {v : V}, DaAll K H vs ds → vs[i]? = some v → ∃ d, ds[i]? = some d ∧ Da K H v d
  | [], _, _, _, h, e => by simp at e
  | v :: vs, _, 0, w, h, e => by
    cases h with
    | cons h1 h2 =>
      simp at e; subst e
      exact ⟨_, rfl, h1⟩
  | v :: vs, _, i + 1, w, h, e => by
    cases h with
    | cons h1 h2 =>
      obtain ⟨d, q, r⟩ := DaAll.get (i := i) (v := w) h2 (by simpa using e)
      exact ⟨d, by simpa using q, r⟩
theorem DaAll.at : ∀ {vs : List V} {ds : List PyData} {i : Nat} {d : PyData}, DaAll K H vs ds → ds[i]? = some d → ∃ v, vs[i]? = some v ∧ Da K H v d
  | [], _, _, _, h, e => by cases h; simp at e
  | v :: vs, _, 0, w, h, e => by
    cases h with
    | cons h1 h2 =>
      simp at e; subst e
      exact ⟨_, rfl, h1⟩
  | v :: vs, _, i + 1, w, h, e => by
    cases h with
    | cons h1 h2 =>
      obtain ⟨d, q, r⟩ := DaAll.at (i := i) (d := w) h2 (by simpa using e)
      exact ⟨d, by simpa using q, r⟩
theorem DaAll.append : ∀ {vs ws : List V} {ds es : List PyData}, DaAll K H vs ds → DaAll K H ws es → DaAll K H (vs ++ ws) (ds ++ es)
  | [], _, _, _, h, h' => by cases h; exact h'
  | _ :: vs, _, _, _, h, h' => by
    cases h with
    | cons h1 h2 => exact .cons h1 (DaAll.append h2 h')
theorem DaAll.take : ∀ {vs : List V} {ds : List PyData} (n : Nat), DaAll K H vs ds → DaAll K H (vs.take n) (ds.take n)
  | _, _, 0, _ => .nil
  | [], _, _ + 1, h => by cases h; exact .nil
  | _ :: vs, _, n + 1, h => by
    cases h with
    | cons h1 h2 => exact .cons h1 (DaAll.take n h2)
theorem DaAll.drop : ∀ {vs : List V} {ds : List PyData} (n : Nat), DaAll K H vs ds → DaAll K H (vs.drop n) (ds.drop n)
  | _, _, 0, h => h
  | [], _, _ + 1, h => by cases h; exact .nil
  | _ :: vs, _, n + 1, h => by
    cases h with
    | cons h1 h2 => exact DaAll.drop n h2
theorem DaAll.rev : ∀ {vs : List V} {ds : List PyData}, DaAll K H vs ds → DaAll K H vs.reverse ds.reverse
  | [], _, h => by cases h; exact .nil
  | _ :: vs, _, h => by
    cases h with
    | cons h1 h2 =>
      rw [List.reverse_cons, List.reverse_cons]
      exact DaAll.append (DaAll.rev h2) (.cons h1 .nil)
end

/-! ### to the library's reading of a value -/
mutual
def noList : PyData → Bool
  | .none | .bool _ | .int _ | .str _ => true
  | .list _ => false
  | .tuple xs => noListAll xs
  | .dict kvs => noListKv kvs
def noListAll : List PyData → Bool
  | [] => true
  | x :: xs => noList x && noListAll xs
def noListKv : List (PyData × PyData) → Bool
  | [] => true
  | (_, v) :: r => noList v && noListKv r
end
section
variable {X : Cx} {pins : List (Addr × Obj)} {σ : L2.St} {H : Hp} {s : Shared}
theorem keyD_reads {h : Heap} : ∀ {k : Key} {v : Value}, keyIs k v = true → Reads h v (keyD k) []
  | .inl i, v, e => by
    obtain ⟨t, rfl⟩ := Value.isInt_shape (k := i) (v := v) e
    exact .int i t
  | .inr x, v, e => by
    obtain ⟨t, rfl⟩ := Value.isStrOf_shape (x := x) (v := v) e
    exact .str x t
/-! the addresses of the reading: none of them sysModules where no list is in it -/
mutual
theorem Da.reads (I : Inv X pins σ H s) : ∀ (d : PyData) (v : V) (u : Value), Da X.K H v d → RelV v u →
    ∃ as, Reads s.heap u d as ∧ (noList d = true → sysModules ∉ as)
  | .none, _, _, h, r => by
    cases h; cases r
    exact ⟨_, Reads.none, fun _ => by simp⟩
  | .bool b, _, _, h, r => by
    cases h; cases r
    exact ⟨_, Reads.bool b, fun _ => by simp⟩
  | .int i, _, _, h, r => by
    cases h
    obtain ⟨t, rfl⟩ := r
    exact ⟨_, Reads.int i t, fun _ => by simp⟩
  | .str x, _, _, h, r => by
    cases h
    obtain ⟨t, rfl⟩ := r
    exact ⟨_, Reads.str x t, fun _ => by simp⟩
  | .list ds, _, _, h, r => by
    cases h with
    | lst hs ha =>
      cases r
      obtain ⟨_, its, n, rv, ho⟩ := I.hok _ _ hs
      obtain ⟨as, hr, _⟩ := Da.readsAll I ds _ its ha rv
      exact ⟨_, Reads.list ho rfl rfl hr, fun z => by simp [noList] at z⟩
  | .tuple ds, _, _, h, r => by
    cases h with
    | tup hs ha =>
      cases r
      obtain ⟨_, its, rv, o, ho, hc, n, hd⟩ := I.hok _ _ hs
      obtain ⟨as, hr, hz⟩ := Da.readsAll I ds _ its ha rv
      exact ⟨_, Reads.tuple ho hc hd hr, fun z => hz (by simpa [noList] using z)⟩
  | .dict ds, _, _, h, r => by
    cases h with
    | dic hs ha =>
      cases r
      obtain ⟨_, hsys, vs, rv, o, es, ep, ho, hex, hd, _, hp, _⟩ := I.hok _ _ hs
      obtain ⟨bs, h1, h2, hz⟩ := Da.readsKv I ds _ vs es.toList ha rv hp
      refine ⟨_, Reads.dict ho hex.1 hd h1 h2, fun z => ?_⟩
      have hz' := hz (by simpa [noList] using z)
      intro hm
      rcases List.mem_append.mp hm with hm | hm
      · have e := List.mem_singleton.mp hm
        rw [← e] at hsys; simp at hsys
      · exact hz' hm
theorem Da.readsAll (I : Inv X pins σ H s) : ∀ (ds : List PyData) (vs : List V) (us : List Value), DaAll X.K H vs ds → Vals vs us →
    ∃ as, ReadsAll s.heap us ds as ∧ (noListAll ds = true → sysModules ∉ as)
  | [], _, _, h, r => by
    cases h; cases r
    exact ⟨_, ReadsAll.nil, fun _ => by simp⟩
  | d :: ds, _, _, h, r => by
    cases h with
    | cons h1 h2 =>
      cases r with
      | cons r1 r2 =>
        obtain ⟨as, q1, z1⟩ := Da.reads I d _ _ h1 r1
        obtain ⟨bs, q2, z2⟩ := Da.readsAll I ds _ _ h2 r2
        refine ⟨_, ReadsAll.cons q1 q2, fun z => ?_⟩
        have zz : noList d = true ∧ noListAll ds = true := by simpa [noListAll] using z
        simp only [List.mem_append, not_or]
        exact ⟨z1 zz.1, z2 zz.2⟩
theorem Da.readsKv (I : Inv X pins σ H s) : ∀ (ds : List (PyData × PyData)) (kvs : List (Key × V)) (vs : List (Key × Value)) (es : List DictEntry),
    DaKv X.K H kvs ds → KV kvs vs → PySem.Pairs (mixKind X.prog X.w) es vs →
    ∃ bs, ReadsAll s.heap (es.map (·.key)) (ds.map (·.1)) [] ∧ ReadsAll s.heap (es.map (·.val)) (ds.map (·.2)) bs ∧ (noListKv ds = true → sysModules ∉ bs)
  | [], _, _, _, h, r, p => by
    cases h; cases r; cases p
    exact ⟨_, ReadsAll.nil, ReadsAll.nil, fun _ => by simp⟩
  | d :: ds, _, _, _, h, r, p => by
    cases h with
    | cons h1 h2 =>
      cases r with
      | cons r1 r2 =>
        cases p with
        | cons p1 p2 p3 =>
          obtain ⟨as, q1, z1⟩ := Da.reads I _ _ _ h1 r1.2
          obtain ⟨bs, q2, q3, z2⟩ := Da.readsKv I ds _ _ _ h2 r2 p3
          refine ⟨_, ReadsAll.cons (as := []) ?_ q2, ReadsAll.cons (by show Reads _ (DictEntry.val _) _ _; rw [p2]; exact q1) q3, fun z => ?_⟩
          · have e := r1.1
            simp only at e
            rw [← e] at p1
            exact keyD_reads p1
          · have zz := Bool.and_eq_true_iff.mp (show (noList _ && noListKv ds) = true from z)
            simp only [List.mem_append, not_or]
            exact ⟨z1 zz.1, z2 zz.2⟩
end
end

/-! ### repr(x) -/
/-- what repr may be asked of -/
def repOk (d : PyData) : Bool := d.showable && (noList d || !d.hasDict) && decide (d.depth ≤ 40) && decide (d.shown.length ≤ 16000000)
def rRepr (K : PySem.W.Frag) : List V → Hp → VK → Prop := fun vs H Q => ∃ x d, vs = [x] ∧ Da K H x d ∧ repOk d = true ∧ Q (.str d.shown) H
section
variable {X : Cx}
theorem call_repr (hq : Quiet X.A) (hu : X.A.units + 64 < cLine) : CallR X (.builtin "repr") (rRepr X.K) := by
  intro pins s σ H xs us Q I r h
  obtain ⟨x, d, rfl, hd, hok, q⟩ := h
  obtain ⟨u, rfl, rx⟩ := vals1 r
  simp only [repOk, Bool.and_eq_true, decide_eq_true_eq, Bool.or_eq_true] at hok
  obtain ⟨⟨⟨hs, hnl⟩, hdp⟩, hsz⟩ := hok
  have hsz' : d.shown.length ≤ sizeLine := Nat.le_trans hsz (by decide)
  have key : ∀ a, u = .ref a → wpAny (model X.prog X.w) X.A (call (.builtin "repr") [u]) (EP X pins σ Q) X.xe s := by
    rintro a rfl
    obtain ⟨as, hr, hz⟩ := Da.reads I d _ _ hd rx
    refine repr_of_reads' (h₀ := s.heap) hr hs (fun hh hm => ?_) hq (by omega) (fun b o e => e) (fun h' u' tk hk => ?_) hsz'
    · rcases hnl with z | z
      · exact hz z hm
      · rw [hh] at z; simp at z
    · exact ⟨.str d.shown, H, I.kept hk, ⟨u', rfl⟩, q⟩
  cases hd with
  | non => cases rx; exact PySem.P.repr_of_none ⟨.str _, H, I.tok _, ⟨_, rfl⟩, q⟩
  | bl b => cases rx; exact PySem.P.repr_of_bool ⟨.str _, H, I.tok _, ⟨_, rfl⟩, by cases b <;> exact q⟩
  | int i =>
    obtain ⟨t, rfl⟩ := rx
    exact PySem.P.repr_of_int (by simpa [PyData.showable] using hs) ⟨.str _, H, I.tok _, ⟨_, rfl⟩, q⟩
  | str y =>
    obtain ⟨t, rfl⟩ := rx
    exact PySem.P.repr_of_str ⟨.str _, H, I.tok _, ⟨_, rfl⟩, q⟩ hsz'
  | lst _ _ => exact key _ rx
  | tup _ _ => exact key _ rx
  | dic _ _ => exact key _ rx
end
end KD
set_option Elab.async false
set_option linter.all false
set_option maxRecDepth 100000
set_option maxHeartbeats 4000000
namespace KD
open PySem PySem.Spec PyProof.Rows L2
/-! ### t[::-1] of a tuple -/
section
variable {prog : Program} {w : World} {A : Around} {E : Value → Shared → Prop} {s : Shared}
theorem applied_back {sl : Addr} {vk : Value} {n : Nat} {Q : Int × Int × Nat → Shared → Prop}
    (hs : s.heap.IsSliceOf sl .none .none vk) (pk : IsPart vk (some (-1))) (h : Q ((n : Int) - 1, -1, n) s) :
    wpAny (model prog w) A (Builtin.Slice.sliceApplied (.ref sl) (pure (n : Int))) Q E s := by
  obtain ⟨os, hos, hcs, hds⟩ := id hs
  unfold Builtin.Slice.sliceApplied Builtin.Slice.sliceFields
  refine wpAny_bind (wpAny_bind (wpAny_field hos hds (x := .none) rfl ?_))
  refine wpAny_bind (wpAny_field hos hds (x := .none) rfl ?_)
  refine wpAny_bind (wpAny_field hos hds (x := vk) rfl (wpAny_pure ?_))
  refine wpAny_bind (HT.slicePart_ pk ?_)
  show wpAny _ _ (if ((-1 : Int) == 0) = true then _ else _) _ _ s
  rw [if_neg (by decide)]
  refine wpAny_bind (HT.slicePart_ .none (wpAny_bind (HT.slicePart_ .none (wpAny_bind (wpAny_pure ?_)))))
  have e : Builtin.Slice.sliceAdjust none none (-1) (n : Int) = ((n : Int) - 1, -1) := by
    unfold Builtin.Slice.sliceAdjust
    simp
  have e2 : Builtin.Slice.slicePlaces ((n : Int) - 1) (-1) (-1) = n := by
    unfold Builtin.Slice.slicePlaces
    have h1 : ¬ ((-1 : Int) > 0) := by decide
    simp only [h1, if_false]
    split
    · rw [show (- -1 : Int) = 1 by decide, Int.ediv_one]; omega
    · omega
  show wpAny _ _ (match Builtin.Slice.sliceAdjust none none (-1) (n : Int) with
    | (lo, hi) => pure (lo, (-1 : Int), Builtin.Slice.slicePlaces lo hi (-1))) _ _ s
  rw [e]
  show wpAny _ _ (pure ((n : Int) - 1, (-1 : Int), Builtin.Slice.slicePlaces ((n : Int) - 1) (-1) (-1))) _ _ s
  rw [e2]
  exact wpAny_pure h
theorem pick_back (xs : Array Value) :
    ((List.range xs.size).filterMap fun (m : Nat) => xs[(((xs.size : Int) - 1) + (m : Int) * (-1)).toNat]?).toArray = xs.toList.reverse.toArray := by
  have e : ((List.range xs.size).filterMap fun (m : Nat) => xs[(((xs.size : Int) - 1) + (m : Int) * (-1)).toNat]?) =
      ((List.range xs.size).map fun k => xs.size - 1 - k).filterMap (xs[·]?) := by
    rw [List.filterMap_map]
    have go : ∀ l : List Nat, (∀ m ∈ l, m < xs.size) →
        (l.filterMap fun (m : Nat) => xs[(((xs.size : Int) - 1) + (m : Int) * (-1)).toNat]?) = l.filterMap ((fun x => xs[x]?) ∘ fun k => xs.size - 1 - k) := by
      intro l
      induction l with
      | nil => intro _; rfl
      | cons m r ih =>
        intro hm
        have h1 := hm m List.mem_cons_self
        have h2 : (((xs.size : Int) - 1) + (m : Int) * (-1)).toNat = xs.size - 1 - m := by omega
        rw [List.filterMap_cons, List.filterMap_cons, ih fun b hb => hm b (List.mem_cons_of_mem _ hb), h2]
        rfl
    exact go _ fun m hm => List.mem_range.mp hm
  rw [e, PySem.W.krv_range, List.filterMap_reverse, PySem.W.krv_all]
theorem getItem_tuple_back {t sl : Addr} {items : Array Value} {vk : Value} {Q : Value → Shared → Prop} (ht : IsTup s.heap t items)
    (hs : s.heap.IsSliceOf sl .none .none vk) (pk : IsPart vk (some (-1)))
    (h : Q (.ref s.heap.objs.size) { s with heap := s.heap.push { cls := .type "tuple", data := .seq items.toList.reverse.toArray } })
    (hsz : items.size ≤ sizeLine) : wpAny (model prog w) A (getItem (.ref t) (.ref sl)) Q E s := by
  have hok : sizeOk (.seq items.toList.reverse.toArray) := by
    show items.toList.reverse.toArray.size ≤ sizeLine
    rw [List.size_toArray, List.length_reverse, Array.length_toList]; exact hsz
  have isSlice : s.TypeIs (.ref sl) "slice" := hs.elim fun o e => ⟨o, e.1, e.2.1⟩
  have isTuple := ht.typeIs
  unfold getItem
  first
    | refine wpAny_bind (wpAny_sequenceKey isTuple (by decide) ?_)
    | refine wpAny_holding (wpAny_bind (wpAny_sequenceKey isTuple (by decide) ?_))
    | refine wpAny_bind (wpAny_pure (wpAny_bind (wpAny_sequenceKey isTuple (by decide) ?_)))
  refine wpAny_bind (wpAny_callSpecial?_slot (name := Str.ofString "__getitem__") isTuple PyProof.Rows.slot_tuple_getitem
    (wpAny_call_entry PyProof.Rows.slot_tuple_getitem isTuple entry_tuple_getitem ?_ (args_tuple_getitem _ _)))
  change wpAny _ _ (Builtin.Tuple.tupleItemsOf _ >>= _) _ _ _
  apply wpAny_bind
  apply tupleItemsOf_ ht
  apply wpAny_bind
  refine wpAny_typeOf isSlice ?_
  rw [if_pos (by decide)]
  apply wpAny_bind
  refine applied_back (n := items.size) hs pk ?_
  have hno : ¬ ((((items.size : Int) - 1) == 0 && (-1 : Int) == 1 && items.size == items.size) = true) := by
    simp
  show wpAny _ _ (if (((items.size : Int) - 1) == 0 && (-1 : Int) == 1 && items.size == items.size) = true then _ else _) _ _ s
  rw [if_neg hno, pick_back]
  first
    | exact wpAny_bind (m := Builtin.Tuple.tupleExact _) (wpAny_newObj_type (wpAny_pure ⟨_, rfl, wpAny_pure h⟩) hok)
    | exact wpAny_bind (m := Builtin.Tuple.tupleExact _) (wpAny_newObj_type (wpAny_bind (wpAny_pure (wpAny_pure ⟨_, rfl, wpAny_pure h⟩))) hok)
    | exact wpAny_bind (wpAny_bind (m := Builtin.Tuple.tupleExact _) (wpAny_newObj_type (wpAny_pure (wpAny_pure ⟨_, rfl, wpAny_pure h⟩)) hok))
    | exact wpAny_bind (wpAny_bind (m := Builtin.Tuple.tupleExact _) (wpAny_newObj_type (wpAny_pure ⟨_, rfl, wpAny_pure h⟩) hok))
end
section
variable {X : Cx}
def tRevT (K : PySem.W.Frag) (te : TE) : TE := fun σ H Q => te σ H fun x H1 => ∃ a xs, x = .ref a ∧ SqT K H1 a xs ∧
  ∀ p, H1 p = none → Q (.ref p) (upd H1 p (.tup xs.reverse))
theorem pe_revT {e : Expr} {te : TE} {k : Nat} {p1 p2 p3 pos : Pos} (he : PE X e te) :
    PE X (.Subscript e (.Slice none none (some (.UnaryOp .USub (.Constant (.int 1) k p1) p2)) p3) pos) (tRevT X.K te) := by
  constructor
  intro pins s σ H Q I h
  refine Subscript_ (thn (he.run pins s σ H _ I h) ?_)
  rintro v s1 ⟨x, H1, I1, r1, a, xs, rfl, hx, q⟩
  cases r1
  have hst := po_some (pe_un un_neg (pe_int (X := X) (i := 1) (j := k) (pos := p1)) (pos := p2))
  refine wpAny_Slice (thn (po_none.run pins s1 σ H1 (fun o H2 => o = none ∧ H2 = H1) I1 ⟨rfl, rfl⟩) ?_)
  rintro vl s2 ⟨l, H2, I2, pl, rfl, rfl⟩
  refine thn (po_none.run pins s2 σ H2 (fun o H3 => o = none ∧ H3 = H2) I2 ⟨rfl, rfl⟩) ?_
  rintro vu s3 ⟨u, H3, I3, pu, rfl, rfl⟩
  refine thn (hst.run pins s3 σ H3 (fun o H4 => o = some (-1) ∧ H4 = H3) I3 ⟨1, rfl, -1, rfl, rfl, rfl⟩) ?_
  rintro vk s4 ⟨o, H4, I4, ps, rfl, rfl⟩
  have I5 := I4.kept (h' := s4.heap.push { cls := .type "slice", data := .fields #[vl, vu, vk] }) (t' := s4.toks)
    fun b ob q => Heap.get?_push_of_some _ q
  obtain ⟨its, r, ht, hz⟩ := I5.tuple hx
  have hlen := r.length
  have evl : vl = .none := by cases pl; rfl
  have evu : vu = .none := by cases pu; rfl
  subst evl evu
  show wpAny (model X.prog X.w) X.A (subscriptTail e (.Slice none none (some (.UnaryOp .USub (.Constant (.int 1) k p1) p2)) p3) (.ref a)
    (.ref s4.heap.objs.size)) (EP X pins σ Q) X.xe { s4 with heap := s4.heap.push { cls := .type "slice", data := .fields #[.none, .none, vk] } }
  refine tail_any (ops := [.ref a, .ref s4.heap.objs.size]) ht.typeIs PyProof.Rows.slot_tuple_getitem.lookup ?_ (by with_unfolding_all rfl)
  refine getItem_tuple_back ht (Heap.IsSliceOf.new _ _ _ vk) ps ?_ (by rw [List.size_toArray]; omega)
  refine ⟨.ref _, _, I5.laid (t' := s4.toks) (o := .tup xs.reverse) (fun b ob q => Heap.get?_push_of_some _ q) (Nat.le_refl _) ?_, rfl,
    q _ (I5.hok.fresh (Nat.le_refl _))⟩
  exact ⟨by rw [List.length_reverse]; exact hz, _, r.reverse, IsTup.new _ _⟩

/-! ### text * int -/
def rMulS : R2 := fun x y H Q => ∃ (z : Str) (n : Int), x = .str z ∧ y = .int n ∧ MulOk z n ∧ Q (.str (Txt.mul z n)) H
theorem op_mulS : OpR X (binaryOp .Mult) rMulS := by
  intro pins s σ H x y v u Q I rx ry h
  obtain ⟨z, n, rfl, rfl, hok, q⟩ := h
  obtain ⟨t, rfl⟩ := rx
  obtain ⟨t', rfl⟩ := ry
  exact SB.mul hok fun t2 k => ⟨.str _, H, I.tok _, ⟨_, rfl⟩, q⟩

/-! ### == of data: of any shape without dicts, or of two lists of unlike lengths -/
def flatD : PyData → Bool
  | .none | .bool _ | .int _ | .str _ => true
  | _ => false
def cmpOk : PyData → PyData → Bool
  | .list xs, .list ys => ((SeqAt.shaped (.list xs) && SeqAt.shaped (.list ys)) || xs.length != ys.length) || (xs.all flatD && ys.all flatD)
  | d, e => SeqAt.shaped d && SeqAt.shaped e
theorem cmpOk_of {d e : PyData} (h1 : SeqAt.shaped d = true) (h2 : SeqAt.shaped e = true) : cmpOk d e = true := by
  unfold cmpOk
  split <;> simp [h1, h2]
theorem cmpOk_cases {d e : PyData} (h : cmpOk d e = true) : (SeqAt.shaped d = true ∧ SeqAt.shaped e = true) ∨
    ∃ xs ys, d = .list xs ∧ e = .list ys ∧ (xs.length ≠ ys.length ∨ (xs.length = ys.length ∧ xs.all flatD = true ∧ ys.all flatD = true)) := by
  unfold cmpOk at h
  split at h
  · rename_i xs ys
    by_cases hl : xs.length = ys.length
    · rcases Bool.or_eq_true_iff.mp h with h | h
      · rcases Bool.or_eq_true_iff.mp h with h | h
        · exact .inl (Bool.and_eq_true_iff.mp h)
        · exact absurd hl (by simpa using h)
      · have := Bool.and_eq_true_iff.mp h
        exact .inr ⟨_, _, rfl, rfl, .inr ⟨hl, this.1, this.2⟩⟩
    · exact .inr ⟨_, _, rfl, rfl, .inl hl⟩
  · exact .inl (Bool.and_eq_true_iff.mp h)
def rEqDa (K : PySem.W.Frag) : R2 := fun x y H Q => ∃ d e, Da K H x d ∧ Da K H y e ∧ cmpOk d e = true ∧ Q (.bl (PyData.eqv d e)) H
def rNeDa (K : PySem.W.Frag) : R2 := fun x y H Q => ∃ d e, Da K H x d ∧ Da K H y e ∧ cmpOk d e = true ∧ Q (.bl (!PyData.eqv d e)) H
theorem eqv_lengths {xs ys : List PyData} (h : xs.length ≠ ys.length) : PyData.eqv (.list xs) (.list ys) = false := by
  show PyData.eqvAll xs ys = false
  exact SeqAt.eqvAll_other_length h
theorem eqAt_flat {A : Around} {K : PySem.W.Frag} {H : Hp} {s : Shared} {x y : V} {u v : Value} {d e : PyData} (hd : Da K H x d) (he : Da K H y e) (fd : flatD d = true) (fe : flatD e = true)
    (rx : RelV x u) (ry : RelV y v) : SeqAt.EqAt A s u v (PyData.eqv d e) := by
  cases hd <;> first | (cases fd; done) | skip
  all_goals (cases he <;> first | (cases fe; done) | skip)
  all_goals first
    | (obtain ⟨t, rfl⟩ := rx)
    | (cases rx)
  all_goals first
    | (obtain ⟨t', rfl⟩ := ry)
    | (cases ry)
  · exact SeqAt.EqAt.same _
  · exact SeqAt.EqAt.none_bool _
  · exact SeqAt.EqAt.none_int _ _
  · exact SeqAt.EqAt.none_str _ _
  · exact SeqAt.EqAt.bool_none _
  · exact SeqAt.EqAt.bool_bool _ _
  · exact SeqAt.EqAt.bool_int _ _ _
  · exact SeqAt.EqAt.bool_str _ _ _
  · exact SeqAt.EqAt.int_none _ _
  · exact SeqAt.EqAt.int_bool _ _ _
  · exact SeqAt.EqAt.int_int _ _ _ _
  · exact SeqAt.EqAt.int_str _ _ _ _
  · exact SeqAt.EqAt.str_none _ _
  · exact SeqAt.EqAt.str_bool _ _ _
  · exact SeqAt.EqAt.str_int _ _ _ _
  · exact SeqAt.EqAt.str_str _ _ _ _
theorem eqAt_items {A : Around} {K : PySem.W.Frag} {H : Hp} {s : Shared} : ∀ {xs ys : List V} {us vs : List Value} {ds es : List PyData}, DaAll K H xs ds → DaAll K H ys es → ds.all flatD = true → es.all flatD = true →
    Vals xs us → Vals ys vs → ∀ j (h1 : j < us.length) (h2 : j < vs.length), SeqAt.EqAt A s us[j] vs[j] (SeqAt.pairEq ds es j) := by
  intro xs ys us vs ds es hd he fd fe rx ry j h1 h2
  have l1 := rx.length; have l2 := ry.length; have l3 := hd.length; have l4 := he.length
  have j1 : j < ds.length := by omega
  have j2 : j < es.length := by omega
  obtain ⟨x, hx, dx⟩ := hd.at (List.getElem?_eq_getElem j1)
  obtain ⟨y, hy, dy⟩ := he.at (List.getElem?_eq_getElem j2)
  obtain ⟨u, hu, ru⟩ := rx.get hx
  obtain ⟨v, hv, rv⟩ := ry.get hy
  rw [List.getElem?_eq_getElem h1] at hu; cases hu
  rw [List.getElem?_eq_getElem h2] at hv; cases hv
  have e : SeqAt.pairEq ds es j = PyData.eqv ds[j] es[j] := by
    unfold SeqAt.pairEq
    simp [List.getElem?_eq_getElem j1, List.getElem?_eq_getElem j2, j1, j2]
  rw [e]
  exact eqAt_flat dx dy (List.all_eq_true.mp fd _ (List.getElem_mem j1)) (List.all_eq_true.mp fe _ (List.getElem_mem j2)) ru rv
theorem op_eqDa (hu : X.A.units + 64 < cLine) : OpR X (compareOp .Eq) (rEqDa X.K) := by
  intro pins s σ H x y v u Q I rx ry h
  obtain ⟨d, e, hd, he, hc, q⟩ := h
  rcases cmpOk_cases hc with ⟨sd, se⟩ | ⟨xs, ys, rfl, rfl, hne | ⟨hl, fd, fe⟩⟩
  · obtain ⟨as, r1, _⟩ := Da.reads I d x v hd rx
    obtain ⟨bs, r2, _⟩ := Da.reads I e y u he ry
    exact SeqAt.compareEq_shaped r1 r2 sd se hu ⟨.bl _, H, I, rfl, q⟩
  · cases hd with
    | lst h1 a1 => cases he with
      | lst h2 a2 =>
        cases rx; cases ry
        obtain ⟨_, its, n, rv, ho⟩ := I.hok _ _ h1
        obtain ⟨_, its2, n2, rv2, ho2⟩ := I.hok _ _ h2
        refine SeqAt.eq_list_lengthsAt ⟨_, ho, rfl, _, rfl⟩ ⟨_, ho2, rfl, _, rfl⟩ ?_ (by omega) ⟨.bl _, H, I, rfl, ?_⟩
        · have e1 := rv.length; have e2 := rv2.length; have e3 := a1.length; have e4 := a2.length
          simp only [List.size_toArray, bne_iff_ne, ne_eq]
          omega
        · rw [eqv_lengths hne] at q; exact q
  · cases hd with
    | lst h1 a1 => cases he with
      | lst h2 a2 =>
        cases rx; cases ry
        obtain ⟨_, its, n, rv, ho⟩ := I.hok _ _ h1
        obtain ⟨_, its2, n2, rv2, ho2⟩ := I.hok _ _ h2
        have e1 := rv.length; have e2 := rv2.length; have e3 := a1.length; have e4 := a2.length
        refine SeqAt.eq_listAt ⟨_, ho, rfl, _, rfl⟩ ⟨_, ho2, rfl, _, rfl⟩ (by simp only [List.size_toArray]; omega) (by omega) (e := SeqAt.pairEq xs ys) (fun j j1 j2 => ?_) ⟨.bl _, H, I, rfl, ?_⟩
        · simpa using eqAt_items (A := X.A.in1) (s := s) a1 a2 fd fe rv rv2 j (by simpa using j1) (by simpa using j2)
        · rw [List.size_toArray, show its.length = xs.length by omega, SeqAt.eqvAll_same_length hl]; exact q
theorem op_neDa (hu : X.A.units + 64 < cLine) : OpR X (compareOp .NotEq) (rNeDa X.K) := by
  intro pins s σ H x y v u Q I rx ry h
  obtain ⟨d, e, hd, he, hc, q⟩ := h
  rcases cmpOk_cases hc with ⟨sd, se⟩ | ⟨xs, ys, rfl, rfl, hne | ⟨hl, fd, fe⟩⟩
  · obtain ⟨as, r1, _⟩ := Da.reads I d x v hd rx
    obtain ⟨bs, r2, _⟩ := Da.reads I e y u he ry
    exact SeqAt.compareNe_shaped r1 r2 sd se hu ⟨.bl _, H, I, rfl, q⟩
  · cases hd with
    | lst h1 a1 => cases he with
      | lst h2 a2 =>
        cases rx; cases ry
        obtain ⟨_, its, n, rv, ho⟩ := I.hok _ _ h1
        obtain ⟨_, its2, n2, rv2, ho2⟩ := I.hok _ _ h2
        have hz : (its.toArray.size != its2.toArray.size) = true := by
          have e1 := rv.length; have e2 := rv2.length; have e3 := a1.length; have e4 := a2.length
          simp only [List.size_toArray, bne_iff_ne, ne_eq]
          omega
        refine SeqAt.RcNeAt.lists_lengths ⟨_, ho, rfl, _, rfl⟩ ⟨_, ho2, rfl, _, rfl⟩ hz (by omega) X.prog X.w X.xe _ ⟨.bl _, H, I, rfl, ?_⟩
        rw [eqv_lengths hne] at q; exact q
  · cases hd with
    | lst h1 a1 => cases he with
      | lst h2 a2 =>
        cases rx; cases ry
        obtain ⟨_, its, n, rv, ho⟩ := I.hok _ _ h1
        obtain ⟨_, its2, n2, rv2, ho2⟩ := I.hok _ _ h2
        have e1 := rv.length; have e2 := rv2.length; have e3 := a1.length; have e4 := a2.length
        refine SeqAt.RcNeAt.lists (e := SeqAt.pairEq xs ys) ⟨_, ho, rfl, _, rfl⟩ ⟨_, ho2, rfl, _, rfl⟩ (by simp only [List.size_toArray]; omega) (by omega) (fun j j1 j2 => ?_) X.prog X.w X.xe _ ⟨.bl _, H, I, rfl, ?_⟩
        · simpa using eqAt_items (A := X.A.in1) (s := s) a1 a2 fd fe rv rv2 j (by simpa using j1) (by simpa using j2)
        · rw [List.size_toArray, show its.length = xs.length by omega, SeqAt.eqvAll_same_length hl]; exact q

/-! ### f(k = v, ..) -/
variable {CX : CXT} {k : Nat} {f C : Addr} {fd : FuncData} {ps ks : List Str} {sp : Sp} {E : XK} {x m : Str} {p pos : Pos} {kws : List Keyword} {tk : TA}
  {g : List Value → List Value → List Value} {gV : List V → List V → List V}
theorem pe_kw (F : FnG X.prog X.w X.K X.mg X.base CX k f fd ps sp) (hr : Room k X.A) (hq : Quiet X.A) (hg : Gl X x)
    (hm : X.mg x = some (.ref f)) (hk : PySem.W.keepIn X.K (.ref f) = true) (hb : KBinds X.K fd ps ks g gV) (hx : Passes CX X E)
    (hkw : PK X kws tk) (hall : (backToKw pos (keywordEach kws X.env)).all (·.1.isSome) = true := by rfl)
    (hks : (backToKw pos (keywordEach kws X.env)).filterMap (·.1) = ks := by rfl)
    (hdb : (x == ("__debug__" : Str)) = false := by decide)
    (hpl : ((backTo pos (starEach [] X.env)).any (·.1) || (backToKw pos (keywordEach kws X.env)).any (·.1.isNone)) = false := by rfl) :
    PE X (.Call (.Name x p) [] kws pos) (tCallK sp gV E tNil tk) := by
  constructor
  intro pins s σ H Q I h
  refine wpAny_Call_Name_kw (ld_glob I hg hm ?_ hdb)
  refine PySem.W.callWith_KW0 (h₀ := X.base) I.ok.mod.kin hk hall (thn (hkw.run pos pins s σ H _ I h) ?_) hpl
  rintro ws s2 ⟨zs, H2, I2, rz, q2⟩
  refine ⟨I2.kIn, ?_⟩
  rw [hks]
  have r2 := hb.rel (.nil : Vals [] []) rz
  have hl : (g [] ws).length = ps.length := by rw [← r2.length]; exact F.len _ _ _ _ q2
  have run := F.run X.A X.stack s2 H2 ⟨[], ks.zip ws⟩ (g [] ws) (gV [] zs) Q E hr hq I2.env0 (hb.to s2 [] ws I2.kIn hl) r2 q2
  refine wpAny_call (codeAny_mono run fun r s' hq' => ?_)
  match r, hq' with
  | .error e, z => exact hx pins σ H2 s2 e s' I2 z
  | .ok (.ret u), z => exact I2.after z
  | .ok .next, z => exact False.elim z
  | .ok .brk, z => exact False.elim z
  | .ok .cont, z => exact False.elim z
end
/-- every parameter by its name, in their order, none by place -/
def kwG {α : Type} : List α → List α → List α
  | [], ws => ws
  | _ :: _, _ => []
theorem kb_all {K : PySem.W.Frag} {fd : FuncData} {p0 : Str} {ps : List Str}
    (h : ∀ ws : List Value, ws.length = (p0 :: ps).length → bindArgs fd ⟨[], (p0 :: ps).zip ws⟩ = pure ((p0 :: ps).zip ws)) :
    KBinds K fd (p0 :: ps) (p0 :: ps) kwG kwG := by
  refine ⟨fun s us ws _ hl => ?_, fun {vs us zs ws} r1 r2 => ?_⟩
  · cases us with
    | nil => exact .of_eq (h ws hl)
    | cons u r => exact absurd hl (by simp [kwG])
  · cases r1 with
    | nil => exact r2
    | cons _ _ => exact .nil
end KD
set_option Elab.async false
set_option linter.all false
set_option maxRecDepth 100000
set_option maxHeartbeats 4000000
namespace KD
open PySem PySem.Spec PyProof.Rows L2
/-! ### the law's own call: quiet around it -/
theorem callG {P : Program} {w : World} {K : PySem.W.Frag} {mg mb : Str → Option Value} {CX : CXT} {k : Nat} {fa a : Addr} {fd : FuncData} {x : Str}
    {sp : Sp} {s1 : Shared} {vs : List Value} {ns : List Int} (KX : K.In s1.heap) (hns : s1.heap.Ns mainGlobals mg) (hb : s1.heap.Ns builtinsNs mb)
    (hbb : ∀ x : Str, x ≠ "__name__" → mb x = bootBuiltins x) (hlim : s1.heap.NoLimit) (hg : s1.gens = #[])
    (ha : s1.heap.get? a = some { cls := .type "list", data := .seq vs.toArray }) (hi : IntsAre vs ns) (hl : ns.length ≤ sizeLine) (hr : Room k callerA)
    (F : ∀ base : Heap, K.In base → base.Ns mainGlobals mg → FnG P w K mg base CX k fa fd [x] sp)
    (hbind : ∀ (s : Shared) (u : Value), BindsTo s fd ⟨[u], []⟩ [(x, u)])
    (hsp : ∀ H : Hp, Only H → SqL K H a (ns.map V.int) → sp [.ref a] H (fun v _ => v = .bl true) fun _ _ _ => False)
    (hCX : ∀ H e s', CX [] H s1 (fun _ _ _ => False) e s' → False) :
    codeAny (model P w) callerA (.call (.ref fa) ⟨[.ref a], []⟩)
      (fun r s' => r = .ok (.ret (.bool true)) ∧ OldK s1.heap s'.heap ∧ s'.os = s1.os ∧ AllBare s'.gens) s1 := by
  have rv := vals_ints hi
  have lenV := hi.length
  have core : ∀ H : Hp, Only H → SqL K H a (ns.map V.int) → HOk P w H s1.heap → (∀ b, H b ≠ none → b = a) → (H a ≠ none → K.lookup a = none) →
      codeAny (model P w) callerA (.call (.ref fa) ⟨[.ref a], []⟩)
        (fun r s' => r = .ok (.ret (.bool true)) ∧ OldK s1.heap s'.heap ∧ s'.os = s1.os ∧ AllBare s'.gens) s1 := by
    intro H hO hS hok hA hK
    have some_a : ∀ {b : Addr} {u : HO}, H b = some u → b = a := fun {b u} q => hA b (by rw [q]; simp)
    have stays : ∀ {b : Addr} {m : Str → Option Value}, s1.heap.Ns b m → (hidT s1.heap H).Ns b m := by
      rintro b m ⟨o, es, ep, e, d, r⟩
      refine ⟨o, es, ep, hidT_get e ?_, d, r⟩
      cases q : H b with
      | none => rfl
      | some u =>
        have z := some_a q
        subst z
        rw [ha] at e; cases e
        cases (show Data.seq vs.toArray _ = Data.dict es ep from d)
    have inb : K.In (hidT s1.heap H) := by
      intro b o e
      refine hidT_get (KX b o e) ?_
      cases q : H b with
      | none => rfl
      | some u =>
        have z := some_a q
        subst z
        rw [hK (by rw [q]; simp)] at e; cases e
    have hM : Mod K mg (hidT s1.heap H) :=
      ⟨inb, stays hns, ⟨mb, stays hb, hbb⟩, let ⟨mc, h1, h2⟩ := hlim; ⟨mc, stays h1, h2⟩⟩
    have e0 : Env0 P w K mg (hidT s1.heap H) callerA [] s1 H :=
      ⟨rfl, hM, fun b o e => of_hidT e, Nat.le_of_eq (hidT_size _ _), trivial,
        fun b z => absurd (show b ∈ ([] : List Addr) from z) (by simp), hok, .of_eq hg⟩
    have run := (F _ inb (stays hns)).run callerA [] s1 H ⟨[.ref a], []⟩ [.ref a] [.ref a] _ _ hr rfl e0
      (hbind s1 (.ref a)) (.cons rfl .nil) (hsp H hO hS)
    refine codeAny_mono run fun r s' h => ?_
    match r, h with
    | .error e, h => exact (hCX H e s' h).elim
    | .ok .next, h => exact False.elim h
    | .ok .brk, h => exact False.elim h
    | .ok .cont, h => exact False.elim h
    | .ok (.ret u), ⟨v, H', os, bare, un, hok', r', q⟩ =>
      obtain rfl : v = .bl true := q
      obtain rfl : u = Value.bool true := r'
      have lasts : ∀ b o, s1.heap.get? b = some o → s'.heap.get? b = some o := fun b o at_b => by
        rcases hO b with free | ⟨ob, xs, held⟩
        · exact un.keep b o at_b free (fun z => nomatch (show b ∈ ([] : List Addr) from z)) (List.not_mem_nil)
        · have before := (hok b _ held).1
          rw [at_b] at before
          rw [Option.some.inj before]
          exact (hok' b _ (un.frzs b ob _ held)).1
      exact ⟨rfl, OldK.of_keep lasts, os, bare⟩
  cases hk : K.lookup a with
  | some o =>
    have e := KX a o hk
    rw [ha] at e
    cases e
    refine core (fun _ => none) (fun _ => .inl rfl) (.inr ⟨_, vs.toArray, _, hk, rfl, rfl, rfl, ?_, by simpa using rv⟩)
      (fun b u z => nomatch (show (none : Option HO) = some u from z)) (fun b z => absurd rfl z) fun z => absurd rfl z
    rw [List.size_toArray, lenV]; exact hl
  | none =>
    have at_a : ∀ {b : Addr} {u : HO}, (if b = a then some (HO.frz { cls := .type "list", data := .seq vs.toArray } (.lst (ns.map V.int))) else none) = some u →
        b = a ∧ u = HO.frz { cls := .type "list", data := .seq vs.toArray } (.lst (ns.map V.int)) := by
      intro b u z
      by_cases h : b = a
      · rw [if_pos h] at z; exact ⟨h, (Option.some.inj z).symm⟩
      · rw [if_neg h] at z; cases z
    refine core (fun b => if b = a then some (.frz { cls := .type "list", data := .seq vs.toArray } (.lst (ns.map V.int))) else none)
      (fun b => ?_) (.inl (.inr ⟨{ cls := .type "list", data := .seq vs.toArray }, if_pos rfl⟩)) (fun b u z => ?_) (fun b z => ?_) fun _ => hk
    · by_cases h : b = a
      · exact .inr ⟨_, _, if_pos h⟩
      · exact .inl (if_neg h)
    · obtain ⟨h, e⟩ := at_a z
      subst h e
      exact ⟨ha, by rw [List.length_map]; exact hl, vs, _, rv, ha⟩
    · by_cases h : b = a
      · exact h
      · exact absurd (if_neg h) z
theorem walkG {l : PySem.W.OpenLaw} {n k : Nat} {q : Program} {loose : List Str} {XP : (Str → Option Value) → Heap → Prop} {YP : World → Heap → Prop}
    {d : DefRec} {K : Params → PySem.W.Frag} {CX : World → CXT} {sp : World → Sp} {x : Str}
    (hn : l.most = some n) (hn2 : n ≤ sizeLine) (hdf : d.params.defaults = []) (hr : Room k callerA)
    (hY : ∀ (w : World) (h : Heap), YP w h → (K w.params).In h)
    (F : ∀ (w : World) (mg : Str → Option Value) (fa : Addr) (h : Heap), (K w.params).In h → h.Ns mainGlobals mg → mg d.name = some (.ref fa) →
      ∃ fd : FuncData, (∀ (s : Shared) (u : Value), BindsTo s fd ⟨[u], []⟩ [(x, u)]) ∧
        ∀ base : Heap, (K w.params).In base → base.Ns mainGlobals mg → FnG l.prog w (K w.params) mg base (CX w) k fa fd [x] (sp w))
    (hsp : ∀ (w : World) (H : Hp) (a : Addr) (ns : List Int), ns.length ≤ n → Only H → SqL (K w.params) H a (ns.map V.int) →
      sp w [.ref a] H (fun v _ => v = .bl true) fun _ _ _ => False)
    (hCX : ∀ (w : World) (H : Hp) (s : Shared) (e : Value) (s' : Shared), CX w [] H s (fun _ _ _ => False) e s' → False) :
    PySem.W.WalkO q loose XP YP l.row.toRowW d [] (fun f vs => PySem.call f vs) := by
  refine Att.attach_call hn hdf ?_
  intro w s0 s1 mg mb fa o pm cd doc a vs ns G Y ho hd hcd hmg hobj hints hlen hg
  have KX := hY w _ Y
  obtain ⟨fd, hb, hF⟩ := F w mg fa _ KX G.T.g hmg
  exact callG KX G.T.g G.T.b G.T.builtins G.T.nolimit hg hobj hints (Nat.le_trans hlen hn2) hr hF hb
    (fun H hO hS => hsp w H a ns hlen hO hS) fun H e s' => hCX w H s1 e s'
end KD
set_option Elab.async false
set_option linter.all false
set_option maxRecDepth 100000
set_option maxHeartbeats 4000000
namespace KD
open PySem PySem.Spec PyProof.Rows L2

/-! ### pure pieces: a frozen part G of the heap H bears the data; what is new is laid on both -/
abbrev Ex (H H' : Hp) : Prop := ∀ a o, H a = some o → H' a = some o
theorem Ex.rf (H : Hp) : Ex H H := fun _ _ h => h
theorem Ex.tr {H H1 H2 : Hp} (a : Ex H H1) (b : Ex H1 H2) : Ex H H2 := fun x o h => b x o (a x o h)
theorem Ex.fresh {G H : Hp} (e : Ex G H) {p : Addr} (h : H p = none) : G p = none := by
  cases q : G p with
  | none => rfl
  | some o => rw [e p o q] at h; cases h
theorem Ex.up {G : Hp} {p : Addr} {o : HO} (h : G p = none) : Ex G (upd G p o) := fun a u e => by
  rw [upd_ne (ne_of_none e h)]; exact e
theorem Ex.both {G H : Hp} (e : Ex G H) (p : Addr) (o : HO) : Ex (upd G p o) (upd H p o) := fun a u q => by
  by_cases h : a = p
  · subst h; rw [upd_same] at q ⊢; exact q
  · rw [upd_ne h] at q ⊢; exact e a u q
structure Up (G H G' H' : Hp) : Prop where
  g : Ex G G'
  h : Ex G' H'
  m : Ex H H'
  n : ∀ b, H b ≠ none → G b = none → G' b = none
theorem Up.rf {G H : Hp} (e : Ex G H) : Up G H G H := ⟨Ex.rf G, e, Ex.rf H, fun _ _ h => h⟩
theorem Up.tr {G H G1 H1 G2 H2 : Hp} (a : Up G H G1 H1) (b : Up G1 H1 G2 H2) : Up G H G2 H2 where
  g := a.g.tr b.g
  h := b.h
  m := a.m.tr b.m
  n := fun c h1 h2 => b.n c (fun z => by
    cases q : H c with
    | none => exact h1 q
    | some o => rw [a.m c o q] at z; cases z) (a.n c h1 h2)
theorem Up.new {G H : Hp} (e : Ex G H) {p : Addr} (hp : H p = none) (o : HO) : Up G H (upd G p o) (upd H p o) :=
  ⟨Ex.up (e.fresh hp), e.both p o, Ex.up hp, fun b h1 h2 => by rw [upd_ne (fun z => h1 (by rw [z]; exact hp))]; exact h2⟩

def EvE (K : PySem.W.Frag) (σ : L2.St) (F : Hp) (te : TE) (d : PyData) : Prop :=
  ∀ G H, Ex F G → Ex G H → ∀ Q : VK, (∀ v G' H', Up G H G' H' → Da K G' v d → Q v H') → te σ H Q
def EvA (K : PySem.W.Frag) (σ : L2.St) (F : Hp) (ta : TA) (ds : List PyData) : Prop :=
  ∀ G H, Ex F G → Ex G H → ∀ Q : List V → Hp → Prop, (∀ vs G' H', Up G H G' H' → DaAll K G' vs ds → Q vs H') → ta σ H Q
def EvT (σ : L2.St) (F : Hp) (tt : TT) (b : Bool) : Prop :=
  ∀ G H, Ex F G → Ex G H → ∀ Q : Bool → Hp → Prop, (∀ G' H', Up G H G' H' → Q b H') → tt σ H Q
def EvO (σ : L2.St) (F : Hp) (to : TO) (o : Option Int) : Prop :=
  ∀ G H, Ex F G → Ex G H → ∀ Q : Option Int → Hp → Prop, (∀ G' H', Up G H G' H' → Q o H') → to σ H Q
/-- an operation on values -/
def OpD (K : PySem.W.Frag) (r : R2) (x y z : PyData) : Prop :=
  ∀ (G H : Hp) (v u : V), Ex G H → Da K G v x → Da K G u y → ∀ Q : VK, (∀ w G' H', Up G H G' H' → Da K G' w z → Q w H') → r v u H Q
/-- a call on values -/
def CaD (K : PySem.W.Frag) (r : List V → Hp → VK → Prop) (xs : List PyData) (z : PyData) : Prop :=
  ∀ (G H : Hp) (vs : List V), Ex G H → DaAll K G vs xs → ∀ Q : VK, (∀ w G' H', Up G H G' H' → Da K G' w z → Q w H') → r vs H Q

section
variable {K : PySem.W.Frag} {σ : L2.St} {F F' : Hp} {ta tb tc te to : TE} {tt tu : TT} {x y z d : PyData} {r r' : R2} {v : V} {as : TA} {ds : List PyData}
theorem EvE.mono (e : Ex F F') (h : EvE K σ F te d) : EvE K σ F' te d := fun G H a b Q q => h G H (e.tr a) b Q q
theorem EvT.mono {b : Bool} (e : Ex F F') (h : EvT σ F tt b) : EvT σ F' tt b := fun G H a c Q q => h G H (e.tr a) c Q q
theorem EvA.mono (e : Ex F F') (h : EvA K σ F as ds) : EvA K σ F' as ds := fun G H a b Q q => h G H (e.tr a) b Q q
theorem EvE.is {d' : PyData} (h : EvE K σ F te d) (e : d = d') : EvE K σ F te d' := e ▸ h
theorem EvT.is {b b' : Bool} (h : EvT σ F tt b) (e : b = b') : EvT σ F tt b' := e ▸ h
theorem e_var {i : Nat} (h : σ[i]? = some (some v)) (hd : Da K F v d) : EvE K σ F (tVar i) d :=
  fun G H a b Q q => ⟨v, h, q v G H (Up.rf b) (hd.mono a)⟩
theorem e_int {i : Int} : EvE K σ F (tC (.int i)) (.int i) := fun G H _ b Q q => q _ G H (Up.rf b) (.int i)
theorem e_str {s : Str} : EvE K σ F (tC (.str s)) (.str s) := fun G H _ b Q q => q _ G H (Up.rf b) (.str s)
theorem e_bl {b : Bool} : EvE K σ F (tC (.bl b)) (.bool b) := fun G H _ e Q q => q _ G H (Up.rf e) (.bl b)
theorem e_non : EvE K σ F (tC .non) .none := fun G H _ b Q q => q _ G H (Up.rf b) .non
theorem e_op (ha : EvE K σ F ta x) (hb : EvE K σ F tb y) (ho : OpD K r x y z) : EvE K σ F (tOp r ta tb) z :=
  fun G H a b Q q => ha G H a b _ fun v G1 H1 u1 d1 => hb G1 H1 (a.tr u1.g) u1.h _ fun u G2 H2 u2 d2 =>
    ho G2 H2 v u u2.h (d1.mono u2.g) d2 Q fun w G3 H3 u3 d3 => q w G3 H3 ((u1.tr u2).tr u3) d3
theorem e_un {ru : V → Hp → VK → Prop} (ha : EvE K σ F ta x)
    (ho : ∀ (G H : Hp) (v : V), Ex G H → Da K G v x → ∀ Q : VK, (∀ w G' H', Up G H G' H' → Da K G' w z → Q w H') → ru v H Q) : EvE K σ F (tUn ru ta) z :=
  fun G H a b Q q => ha G H a b _ fun v G1 H1 u1 d1 => ho G1 H1 v u1.h d1 Q fun w G3 H3 u3 d3 => q w G3 H3 (u1.tr u3) d3
theorem a_nil : EvA K σ F tNil [] := fun G H _ b Q q => q [] G H (Up.rf b) .nil
theorem a_cons (h : EvE K σ F te d) (hr : EvA K σ F as ds) : EvA K σ F (tCons te as) (d :: ds) :=
  fun G H a b Q q => h G H a b _ fun v G1 H1 u1 d1 => hr G1 H1 (a.tr u1.g) u1.h _ fun vs G2 H2 u2 d2 =>
    q (v :: vs) G2 H2 (u1.tr u2) (.cons (d1.mono u2.g) d2)
theorem e_tup (h : EvA K σ F as ds) (hl : ds.length ≤ 100000) : EvE K σ F (tTup as) (.tuple ds) :=
  fun G H a b Q q => h G H a b _ fun vs G1 H1 u1 d1 => ⟨by rw [d1.length]; exact Nat.le_trans hl (by decide), fun p hp =>
    q _ _ _ (u1.tr (Up.new u1.h hp _)) (.tup upd_same (d1.mono (Ex.up (u1.h.fresh hp))))⟩
theorem e_lst (h : EvA K σ F as ds) (hl : ds.length ≤ 100000) : EvE K σ F (tLst as) (.list ds) :=
  fun G H a b Q q => h G H a b _ fun vs G1 H1 u1 d1 => ⟨by rw [d1.length]; exact Nat.le_trans hl (by decide), fun p hp =>
    q _ _ _ (u1.tr (Up.new u1.h hp _)) (.lst upd_same (d1.mono (Ex.up (u1.h.fresh hp))))⟩
theorem e_cb {rc : List V → Hp → VK → Prop} (h : EvA K σ F as ds) (hc : CaD K rc ds z) : EvE K σ F (tCB rc as) z :=
  fun G H a b Q q => h G H a b _ fun vs G1 H1 u1 d1 => hc G1 H1 vs u1.h d1 Q fun w G3 H3 u3 d3 => q w G3 H3 (u1.tr u3) d3
theorem e_and {a b : Bool} (h1 : EvE K σ F ta (.bool a)) (h2 : a = true → EvE K σ F tb (.bool b)) : EvE K σ F (tAndV ta tb) (.bool (a && b)) :=
  fun G H e1 e2 Q q => h1 G H e1 e2 _ fun v G1 H1 u1 d1 => by
    cases d1
    refine ⟨a, rfl, ?_⟩
    cases a with
    | true => exact iteT (h2 rfl G1 H1 (e1.tr u1.g) u1.h Q fun w G2 H2 u2 d2 => q w G2 H2 (u1.tr u2) d2)
    | false => exact iteF (q _ G1 H1 u1 (.bl false))
theorem e_or {a b : Bool} (h1 : EvE K σ F ta (.bool a)) (h2 : a = false → EvE K σ F tb (.bool b)) : EvE K σ F (tOrV ta tb) (.bool (a || b)) :=
  fun G H e1 e2 Q q => h1 G H e1 e2 _ fun v G1 H1 u1 d1 => by
    cases d1
    refine ⟨a, rfl, ?_⟩
    cases a with
    | true => exact iteT (q _ G1 H1 u1 (.bl true))
    | false => exact iteF (h2 rfl G1 H1 (e1.tr u1.g) u1.h Q fun w G2 H2 u2 d2 => q w G2 H2 (u1.tr u2) d2)
theorem e_not {a : Bool} (h1 : EvE K σ F ta (.bool a)) : EvE K σ F (tNotV ta) (.bool (!a)) :=
  fun G H e1 e2 Q q => h1 G H e1 e2 _ fun v G1 H1 u1 d1 => by
    cases d1
    exact ⟨a, rfl, q _ G1 H1 u1 (.bl _)⟩
theorem e_if {b : Bool} (h : EvT σ F tt b) (h1 : b = true → EvE K σ F ta x) (h2 : b = false → EvE K σ F tb y) : EvE K σ F (tIf tt ta tb) (bif b then x else y) :=
  fun G H e1 e2 Q q => h G H e1 e2 _ fun G1 H1 u1 => by
    cases b with
    | true => exact iteT (h1 rfl G1 H1 (e1.tr u1.g) u1.h Q fun w G2 H2 u2 d2 => q w G2 H2 (u1.tr u2) d2)
    | false => exact iteF (h2 rfl G1 H1 (e1.tr u1.g) u1.h Q fun w G2 H2 u2 d2 => q w G2 H2 (u1.tr u2) d2)
theorem e_chain {a b : Bool} (ha : EvE K σ F ta x) (hb : EvE K σ F tb y) (h1 : OpD K r x y (.bool a)) (hc : a = true → EvE K σ F tc z)
    (h2 : a = true → OpD K r' y z (.bool b)) : EvE K σ F (tChain r r' ta tb tc) (.bool (a && b)) :=
  fun G H e1 e2 Q q => ha G H e1 e2 _ fun v G1 H1 u1 d1 => hb G1 H1 (e1.tr u1.g) u1.h _ fun u G2 H2 u2 d2 =>
    h1 G2 H2 v u u2.h (d1.mono u2.g) d2 _ fun w G3 H3 u3 d3 => by
      cases d3
      refine ⟨a, rfl, ?_⟩
      cases a with
      | false => exact iteF (q _ G3 H3 ((u1.tr u2).tr u3) (.bl false))
      | true => exact iteT (hc rfl G3 H3 (((e1.tr u1.g).tr u2.g).tr u3.g) u3.h _ fun w' G4 H4 u4 d4 =>
          h2 rfl G4 H4 u w' u4.h ((d2.mono u3.g).mono u4.g) d4 Q fun w2 G5 H5 u5 d5 => q w2 G5 H5 ((((u1.tr u2).tr u3).tr u4).tr u5) d5)
/-! tests -/
theorem t_test {b : Bool} (h : EvE K σ F te (.bool b)) : EvT σ F (tTest te) b :=
  fun G H e1 e2 Q q => h G H e1 e2 _ fun v G1 H1 u1 d1 => by cases d1; exact ⟨b, rfl, q G1 H1 u1⟩
theorem t_val {b : Bool} (h : EvE K σ F te (.bool b)) : EvT σ F (tB te) b :=
  fun G H e1 e2 Q q => h G H e1 e2 _ fun v G1 H1 u1 d1 => by cases d1; exact ⟨b, rfl, q G1 H1 u1⟩
theorem t_not {b : Bool} (h : EvT σ F tt b) : EvT σ F (tNot tt) (!b) := fun G H e1 e2 Q q => h G H e1 e2 _ fun G1 H1 u1 => q G1 H1 u1
theorem t_and {a b : Bool} (h1 : EvT σ F tt a) (h2 : a = true → EvT σ F tu b) : EvT σ F (tAnd tt tu) (a && b) :=
  fun G H e1 e2 Q q => h1 G H e1 e2 _ fun G1 H1 u1 => by
    cases a with
    | true => exact iteT (h2 rfl G1 H1 (e1.tr u1.g) u1.h Q fun G2 H2 u2 => q G2 H2 (u1.tr u2))
    | false => exact iteF (q G1 H1 u1)
theorem t_or {a b : Bool} (h1 : EvT σ F tt a) (h2 : a = false → EvT σ F tu b) : EvT σ F (tOr tt tu) (a || b) :=
  fun G H e1 e2 Q q => h1 G H e1 e2 _ fun G1 H1 u1 => by
    cases a with
    | true => exact iteT (q G1 H1 u1)
    | false => exact iteF (h2 rfl G1 H1 (e1.tr u1.g) u1.h Q fun G2 H2 u2 => q G2 H2 (u1.tr u2))
theorem t_yes : EvT σ F tYes true := fun G H _ e2 Q q => q G H (Up.rf e2)

/-! operations on data -/
theorem o_I0 {g : Int → Int → V} {i j : Int} (hz : ∀ G, Da K G (g i j) z) : OpD K (rI0 g) (.int i) (.int j) z := fun G H v u e d1 d2 Q q => by
  cases d1; cases d2
  exact ⟨i, j, rfl, rfl, q _ G H (Up.rf e) (hz G)⟩
theorem o_I {C : Int → Int → Prop} {g : Int → Int → V} {i j : Int} (hc : C i j) (hz : ∀ G, Da K G (g i j) z) : OpD K (rI C g) (.int i) (.int j) z := fun G H v u e d1 d2 Q q => by
  cases d1; cases d2
  exact ⟨i, j, rfl, rfl, hc, q _ G H (Up.rf e) (hz G)⟩
theorem o_addS {a b : Str} (hz : a.length + b.length ≤ 1000000) :
    OpD K (fun x y H Q => ∃ i j, x = .str i ∧ y = .str j ∧ i.length + j.length ≤ sizeLine ∧ Q (.str (i ++ j)) H) (.str a) (.str b) (.str (a ++ b)) := fun G H v u e d1 d2 Q q => by
  cases d1; cases d2
  exact ⟨a, b, rfl, rfl, Nat.le_trans hz (by decide), q _ G H (Up.rf e) (.str _)⟩
theorem o_mulS {a : Str} {n : Int} (h : MulOk a n) : OpD K rMulS (.str a) (.int n) (.str (Txt.mul a n)) := fun G H v u e d1 d2 Q q => by
  cases d1; cases d2
  exact ⟨a, n, rfl, rfl, h, q _ G H (Up.rf e) (.str _)⟩
theorem o_cat {xs ys : List PyData} (hz : xs.length + ys.length ≤ 100000) : OpD K rCat (.list xs) (.list ys) (.list (xs ++ ys)) := fun G H v u e d1 d2 Q q => by
  cases d1 with
  | lst h1 a1 =>
    cases d2 with
    | lst h2 a2 =>
      refine ⟨_, _, _, _, rfl, rfl, e _ _ h1, e _ _ h2, ?_, fun p hp => ?_⟩
      · rw [a1.length, a2.length]; exact Nat.le_trans hz (by decide)
      · exact q _ _ _ (Up.new e hp _) (.lst upd_same ((a1.append a2).mono (Ex.up (e.fresh hp))))
theorem o_catT {xs ys : List PyData} (hz : xs.length + ys.length ≤ 100000) : OpD K (rCatA K) (.tuple xs) (.tuple ys) (.tuple (xs ++ ys)) := fun G H v u e d1 d2 Q q => by
  cases d1 with
  | tup h1 a1 =>
    cases d2 with
    | tup h2 a2 =>
      refine ⟨_, _, _, _, rfl, rfl, SqT.of (e _ _ h1), SqT.of (e _ _ h2), ?_, fun e0 => ?_, fun n0 e0 => ?_, fun n0 n1 p hp => ?_⟩
      · rw [a1.length, a2.length]; exact Nat.le_trans hz (by decide)
      · subst e0
        cases a1
        exact q _ G H (Up.rf e) (.tup h2 a2)
      · subst e0
        cases a2
        refine q _ G H (Up.rf e) (.tup h1 ?_)
        rw [List.append_nil]; exact a1
      · exact q _ _ _ (Up.new e hp _) (.tup upd_same ((a1.append a2).mono (Ex.up (e.fresh hp))))
theorem o_rep {xs : List PyData} {n : Nat} (hz : xs.length * n ≤ 100000) (hn : n ≤ 100000) :
    OpD K rRep (.list xs) (.int n) (.list (List.replicate n xs).flatten) := fun G H v u e d1 d2 Q q => by
  cases d1 with
  | lst h1 a1 =>
    cases d2
    refine ⟨_, _, _, rfl, rfl, e _ _ h1, by omega, by omega, ?_, ?_⟩
    · rw [a1.length]; exact Nat.le_trans (by simpa using hz) (by decide)
    · have rep : ∀ k, ∀ G : Hp, ∀ ws : List V, DaAll K G ws xs → DaAll K G (List.replicate k ws).flatten (List.replicate k xs).flatten := by
        intro k G ws h
        induction k with
        | zero => exact .nil
        | succ k ih =>
          rw [List.replicate_succ, List.replicate_succ, List.flatten_cons, List.flatten_cons]
          exact h.append ih
      intro p hp
      refine q _ _ _ (Up.new e hp _) (.lst upd_same ?_)
      exact (rep n G _ a1).mono (Ex.up (e.fresh hp))
theorem atI_map {α β : Type} {xs : List α} {ys : List β} (hl : xs.length = ys.length) {i : Int} {y : β} (h : atI ys i = some y) :
    ∃ k : Nat, ys[k]? = some y ∧ ∀ x, xs[k]? = some x → atI xs i = some x := by
  unfold atI at h ⊢
  rw [hl]
  cases q : ixN ys.length i with
  | none => rw [q] at h; cases h
  | some k => rw [q] at h; exact ⟨k, h, fun x hx => hx⟩
theorem o_ixL {xs : List PyData} {i : Int} (h : atI xs i = some z) : OpD K (rIxL K) (.list xs) (.int i) z := fun G H v u e d1 d2 Q q => by
  cases d1 with
  | lst h1 a1 =>
    cases d2
    obtain ⟨k, hk, hx⟩ := atI_map a1.length h
    obtain ⟨w, hw, dw⟩ := a1.at hk
    exact ⟨_, _, i, w, rfl, rfl, SqL.of (e _ _ h1), hx w hw, q w G H (Up.rf e) dw⟩
theorem o_ixT {xs : List PyData} {i : Int} (h : atI xs i = some z) : OpD K (rIxT K) (.tuple xs) (.int i) z := fun G H v u e d1 d2 Q q => by
  cases d1 with
  | tup h1 a1 =>
    cases d2
    obtain ⟨k, hk, hx⟩ := atI_map a1.length h
    obtain ⟨w, hw, dw⟩ := a1.at hk
    exact ⟨_, _, i, w, rfl, rfl, SqT.of (e _ _ h1), hx w hw, q w G H (Up.rf e) dw⟩
theorem o_ixS {a : Str} {i : Int} {c : Nat} (hl : a.length ≤ 1000000) (h : atI a.cps.toList i = some c) : OpD K rIxS (.str a) (.int i) (.str ⟨#[c]⟩) := fun G H v u e d1 d2 Q q => by
  cases d1; cases d2
  exact ⟨a, i, c, rfl, rfl, Nat.le_trans hl (by decide), h, q _ G H (Up.rf e) (.str _)⟩
def scalD : PyData → PyData → Bool
  | .none, .none | .none, .int _ | .int _, .none | .none, .bool _ | .bool _, .none | .none, .str _ | .str _, .none | .int _, .int _ | .bool _, .bool _ | .str _, .str _ => true
  | _, _ => false
def eqD : PyData → PyData → Bool
  | .none, .none => true
  | .int i, .int j => decide (i = j)
  | .bool a, .bool b => decide (a = b)
  | .str a, .str b => decide (a = b)
  | _, _ => false
theorem o_eq (h : scalD x y = true) : OpD K rEq x y (.bool (eqD x y)) := fun G H v u e d1 d2 Q q => by
  have := q (.bl (eqD x y)) G H (Up.rf e) (.bl _)
  cases d1 <;> cases d2 <;> first | (simp [scalD] at h; done) | (refine ⟨rfl, ?_⟩; simpa [eqD] using this)
theorem o_ne (h : scalD x y = true) : OpD K rNe x y (.bool (!eqD x y)) := fun G H v u e d1 d2 Q q => by
  have := q (.bl (!eqD x y)) G H (Up.rf e) (.bl _)
  cases d1 <;> cases d2 <;> first | (simp [scalD] at h; done) | (refine ⟨rfl, ?_⟩; simpa [eqD] using this)
theorem o_eqDa (h1 : cmpOk x y = true) : OpD K (rEqDa K) x y (.bool (PyData.eqv x y)) :=
  fun G H v u e d1 d2 Q q => ⟨x, y, d1.mono e, d2.mono e, h1, q _ G H (Up.rf e) (.bl _)⟩
theorem o_neDa (h1 : cmpOk x y = true) : OpD K (rNeDa K) x y (.bool (!PyData.eqv x y)) :=
  fun G H v u e d1 d2 Q q => ⟨x, y, d1.mono e, d2.mono e, h1, q _ G H (Up.rf e) (.bl _)⟩
theorem o_ltS {a b : Str} : OpD K (fun x y H Q => ∃ i j, x = .str i ∧ y = .str j ∧ Q (.bl (decide (i.cps.toList < j.cps.toList))) H) (.str a) (.str b) (.bool (decide (a.cps.toList < b.cps.toList))) :=
  fun G H v u e d1 d2 Q q => by cases d1; cases d2; exact ⟨a, b, rfl, rfl, q _ G H (Up.rf e) (.bl _)⟩
theorem o_inS {c : Nat} {b : Str} : OpD K (fun x y H Q => ∃ (c : Nat) (z : Str), x = .str ⟨#[c]⟩ ∧ y = .str z ∧ Q (.bl (decide (c ∈ z.cps.toList))) H) (.str ⟨#[c]⟩) (.str b) (.bool (decide (c ∈ b.cps.toList))) :=
  fun G H v u e d1 d2 Q q => by cases d1; cases d2; exact ⟨c, b, rfl, rfl, q _ G H (Up.rf e) (.bl _)⟩
/-! calls -/
theorem c_lenS {a : Str} (h : a.length ≤ 1000000) : CaD K (fun xs H Q => ∃ z, xs = [.str z] ∧ z.length ≤ sizeLine ∧ Q (.int z.length) H) [.str a] (.int a.length) :=
  fun G H vs e d Q q => by
    cases d with
    | cons d1 d2 => cases d1; cases d2; exact ⟨a, rfl, Nat.le_trans h (by decide), q _ G H (Up.rf e) (.int _)⟩
theorem c_lenL {xs : List PyData} : CaD K (fun ws H Q => ∃ p ys, ws = [.ref p] ∧ (SqL K H p ys ∨ SqT K H p ys) ∧ Q (.int ys.length) H) [.list xs] (.int xs.length) :=
  fun G H vs e d Q q => by
    cases d with
    | cons d1 d2 =>
      cases d2
      cases d1 with
      | lst h1 a1 => exact ⟨_, _, rfl, .inl (SqL.of (e _ _ h1)), by rw [a1.length]; exact q _ G H (Up.rf e) (.int _)⟩
theorem c_lenT {xs : List PyData} : CaD K (fun ws H Q => ∃ p ys, ws = [.ref p] ∧ (SqL K H p ys ∨ SqT K H p ys) ∧ Q (.int ys.length) H) [.tuple xs] (.int xs.length) :=
  fun G H vs e d Q q => by
    cases d with
    | cons d1 d2 =>
      cases d2
      cases d1 with
      | tup h1 a1 => exact ⟨_, _, rfl, .inr (SqT.of (e _ _ h1)), by rw [a1.length]; exact q _ G H (Up.rf e) (.int _)⟩
theorem c_repr (h : repOk x = true) : CaD K (rRepr K) [x] (.str x.shown) := fun G H vs e d Q q => by
  cases d with
  | cons d1 d2 => cases d2; exact ⟨_, x, rfl, d1.mono e, h, q _ G H (Up.rf e) (.str _)⟩
/-- a datum's class -/
def clsD : PyData → String
  | .none => "NoneType"
  | .bool _ => "bool"
  | .int _ => "int"
  | .str _ => "str"
  | .list _ => "list"
  | .tuple _ => "tuple"
  | .dict _ => "dict"
theorem tyX_of {G H : Hp} (e : Ex G H) {v : V} {d : PyData} (h : Da K G v d) : TyX K H v (.type (clsD d)) := by
  cases h with
  | non => exact .base .non
  | bl b => exact .base (.bl b)
  | int i => exact .base (.int i)
  | str a => exact .base (.str a)
  | lst h1 _ => exact .base (.lst (e _ _ h1))
  | tup h1 _ => exact .base (.tup (e _ _ h1))
  | dic h1 _ => exact .base (.dK (e _ _ h1))
/-- isinstance(x, T) -/
theorem e_isi {T : String} {b : Bool} (h : EvE K σ F ta x) (hk : kitB (clsD x) T = some b) : EvE K σ F (tCB (rIsi K) (tCons ta (tCons (tC (.ty T)) tNil))) (.bool b) :=
  fun G H e1 e2 Q q => h G H e1 e2 _ fun v G1 H1 u1 d1 => ⟨v, .ty T, .type (clsD x), .type T, b, rfl, .ty T, tyX_of u1.h d1, kit_ty hk, q _ G1 H1 u1 (.bl b)⟩
theorem c_all {bs : List Bool} : CaD K (rAll K) [.list (bs.map .bool)] (.bool (bs.all id)) := fun G H vs e d Q q => by
  cases d with
  | cons d1 d2 =>
    cases d2
    cases d1 with
    | lst h1 a1 =>
      have ev : ∀ (bs : List Bool) (xs : List V), DaAll K G xs (bs.map .bool) → xs = bs.map V.bl := by
        intro bs
        induction bs with
        | nil => intro xs h; cases h; rfl
        | cons b r ih =>
          intro xs h
          cases h with
          | cons h2 h3 => cases h2; rw [ih _ h3]; rfl
      rw [ev bs _ a1] at h1
      exact ⟨_, bs, rfl, SqL.of (e _ _ h1), q _ G H (Up.rf e) (.bl _)⟩
theorem c_any {bs : List Bool} : CaD K (rAny K) [.list (bs.map .bool)] (.bool (bs.any id)) := fun G H vs e d Q q => by
  cases d with
  | cons d1 d2 =>
    cases d2
    cases d1 with
    | lst h1 a1 =>
      have ev : ∀ (bs : List Bool) (xs : List V), DaAll K G xs (bs.map .bool) → xs = bs.map V.bl := by
        intro bs
        induction bs with
        | nil => intro xs h; cases h; rfl
        | cons b r ih =>
          intro xs h
          cases h with
          | cons h2 h3 => cases h2; rw [ih _ h3]; rfl
      rw [ev bs _ a1] at h1
      exact ⟨_, bs, rfl, SqL.of (e _ _ h1), q _ G H (Up.rf e) (.bl _)⟩
theorem c_listL {xs : List PyData} : CaD K (fun ws H Q => ∃ p ys, ws = [.ref p] ∧ (SqL K H p ys ∨ SqT K H p ys) ∧ ∀ l, H l = none → Q (.ref l) (upd H l (.lst ys))) [.list xs] (.list xs) := fun G H vs e d Q q => by
  cases d with
  | cons d1 d2 =>
    cases d2
    cases d1 with
    | lst h1 a1 => exact ⟨_, _, rfl, .inl (SqL.of (e _ _ h1)), fun l hl => q _ _ _ (Up.new e hl _) (.lst upd_same (a1.mono (Ex.up (e.fresh hl))))⟩
theorem c_listT {xs : List PyData} : CaD K (fun ws H Q => ∃ p ys, ws = [.ref p] ∧ (SqL K H p ys ∨ SqT K H p ys) ∧ ∀ l, H l = none → Q (.ref l) (upd H l (.lst ys))) [.tuple xs] (.list xs) := fun G H vs e d Q q => by
  cases d with
  | cons d1 d2 =>
    cases d2
    cases d1 with
    | tup h1 a1 => exact ⟨_, _, rfl, .inr (SqT.of (e _ _ h1)), fun l hl => q _ _ _ (Up.new e hl _) (.lst upd_same (a1.mono (Ex.up (e.fresh hl))))⟩
theorem c_tupL {xs : List PyData} : CaD K (fun ws H Q => ∃ p ys, ws = [.ref p] ∧ ((SqL K H p ys ∧ ∀ l, H l = none → Q (.ref l) (upd H l (.tup ys))) ∨ (SqT K H p ys ∧ Q (.ref p) H))) [.list xs] (.tuple xs) := fun G H vs e d Q q => by
  cases d with
  | cons d1 d2 =>
    cases d2
    cases d1 with
    | lst h1 a1 => exact ⟨_, _, rfl, .inl ⟨SqL.of (e _ _ h1), fun l hl => q _ _ _ (Up.new e hl _) (.tup upd_same (a1.mono (Ex.up (e.fresh hl))))⟩⟩
theorem c_tupT {xs : List PyData} : CaD K (fun ws H Q => ∃ p ys, ws = [.ref p] ∧ ((SqL K H p ys ∧ ∀ l, H l = none → Q (.ref l) (upd H l (.tup ys))) ∨ (SqT K H p ys ∧ Q (.ref p) H))) [.tuple xs] (.tuple xs) := fun G H vs e d Q q => by
  cases d with
  | cons d1 d2 =>
    cases d2
    cases d1 with
    | tup h1 a1 => exact ⟨_, _, rfl, .inr ⟨SqT.of (e _ _ h1), q _ G H (Up.rf e) (.tup h1 a1)⟩⟩
theorem c_strI {i : Int} (h : i.natAbs.log2 < 1920) : CaD K (fun xs H Q => ∃ i, xs = [.int i] ∧ i.natAbs.log2 < 1920 ∧ Q (.str (toString i)) H) [.int i] (.str (toString i)) := fun G H vs e d Q q => by
  cases d with
  | cons d1 d2 => cases d2; cases d1; exact ⟨i, rfl, h, q _ G H (Up.rf e) (.str _)⟩
/-! texts' methods -/
theorem e_m1 {rm : V → List V → Hp → VK → Prop} {a : Str} (h1 : EvE K σ F to (.str a)) (h2 : EvE K σ F te y)
    (hr : ∀ (G H : Hp) (u : V), Ex G H → Da K G u y → ∀ Q : VK, (∀ w G' H', Up G H G' H' → Da K G' w z → Q w H') → rm (.str a) [u] H Q) : EvE K σ F (tM1 rm to te) z :=
  fun G H e1 e2 Q q => h1 G H e1 e2 _ fun v G1 H1 u1 d1 => by
    cases d1
    exact ⟨⟨a, rfl⟩, h2 G1 H1 (e1.tr u1.g) u1.h _ fun u G2 H2 u2 d2 => hr G2 H2 u u2.h d2 Q fun w G3 H3 u3 d3 => q w G3 H3 ((u1.tr u2).tr u3) d3⟩
theorem e_m0 {rm : V → List V → Hp → VK → Prop} {a : Str} (h1 : EvE K σ F to (.str a))
    (hr : ∀ (G H : Hp), Ex G H → ∀ Q : VK, (∀ w G' H', Up G H G' H' → Da K G' w z → Q w H') → rm (.str a) [] H Q) : EvE K σ F (tM0 rm to) z :=
  fun G H e1 e2 Q q => h1 G H e1 e2 _ fun v G1 H1 u1 d1 => by
    cases d1
    exact ⟨⟨a, rfl⟩, hr G1 H1 u1.h Q fun w G3 H3 u3 d3 => q w G3 H3 (u1.tr u3) d3⟩
theorem e_find {a b : Str} (h1 : EvE K σ F to (.str a)) (h2 : EvE K σ F te (.str b)) :
    EvE K σ F (tM1 (fun x xs H Q => ∃ a b, x = .str a ∧ xs = [.str b] ∧ Q (.int (Txt.find a b)) H) to te) (.int (Txt.find a b)) :=
  e_m1 h1 h2 fun G H u e d Q q => by cases d; exact ⟨a, b, rfl, rfl, q _ G H (Up.rf e) (.int _)⟩
theorem e_upper {a : Str} (h1 : EvE K σ F to (.str a)) (hl : a.length ≤ 1000000) :
    EvE K σ F (tM0 (fun x xs H Q => ∃ a, x = .str a ∧ xs = [] ∧ a.length ≤ 5592405 ∧ Q (.str (Txt.upper a)) H) to) (.str (Txt.upper a)) :=
  e_m0 h1 fun G H e Q q => ⟨a, rfl, rfl, by omega, q _ G H (Up.rf e) (.str _)⟩
theorem daAll_strs {G : Hp} : ∀ ys : List Str, DaAll K G (ys.map V.str) (ys.map .str)
  | [] => .nil
  | y :: ys => .cons (.str y) (daAll_strs ys)
theorem e_split {a b : Str} (h1 : EvE K σ F to (.str a)) (h2 : EvE K σ F te (.str b)) (hb : (b.length == 0) = false) (ha : a.length ≤ 1000000) :
    EvE K σ F (tM1 (fun x xs H Q => ∃ a b, x = .str a ∧ xs = [.str b] ∧ (b.length == 0) = false ∧ a.length + 2 ≤ sizeLine ∧ rNewStrs (Txt.split a b) H Q) to te) (.list ((Txt.split a b).map .str)) :=
  e_m1 h1 h2 fun G H u e d Q q => by
    cases d
    exact ⟨a, b, rfl, rfl, hb, Nat.le_trans (Nat.add_le_add_right ha 2) (by decide), fun p hp => q _ _ _ (Up.new e hp _) (.lst upd_same (daAll_strs _))⟩
/-! slices -/
theorem oo_none : EvO σ F tNoPart none := fun G H _ e2 Q q => q G H (Up.rf e2)
theorem oo_some {i : Int} (h : EvE K σ F te (.int i)) : EvO σ F (tPart te) (some i) := fun G H e1 e2 Q q => h G H e1 e2 _ fun v G1 H1 u1 d1 => by
  cases d1; exact ⟨i, rfl, q G1 H1 u1⟩
def cutD (xs : List PyData) (lo hi : Option Int) : List PyData := (xs.drop (HT.sIx xs.length 0 lo)).take (HT.sIx xs.length xs.length hi - HT.sIx xs.length 0 lo)
theorem DaAll.cut {G : Hp} {vs : List V} {xs : List PyData} (h : DaAll K G vs xs) (lo hi : Option Int) : DaAll K G (cutV vs lo hi) (cutD xs lo hi) := by
  unfold cutV cutD
  rw [h.length]
  exact (h.drop _).take _
theorem e_slL {tl th : TO} {xs : List PyData} {lo hi : Option Int} (h : EvE K σ F te (.list xs)) (h1 : EvO σ F tl lo) (h2 : EvO σ F th hi) :
    EvE K σ F (tSl (rSlL K) te tl th) (.list (cutD xs lo hi)) := fun G H e1 e2 Q q => h G H e1 e2 _ fun v G1 H1 u1 d1 =>
  h1 G1 H1 (e1.tr u1.g) u1.h _ fun G2 H2 u2 => h2 G2 H2 ((e1.tr u1.g).tr u2.g) u2.h _ fun G3 H3 u3 => by
    cases d1 with
    | lst h1 a1 =>
      exact ⟨_, _, rfl, SqL.of (u3.h _ _ (u3.g _ _ (u2.g _ _ h1))), fun p hp =>
        q _ _ _ (((u1.tr u2).tr u3).tr (Up.new u3.h hp _)) (.lst upd_same ((((a1.cut lo hi).mono u2.g).mono u3.g).mono (Ex.up (u3.h.fresh hp))))⟩
theorem e_slT {tl th : TO} {xs : List PyData} {lo hi : Option Int} (h : EvE K σ F te (.tuple xs)) (h1 : EvO σ F tl lo) (h2 : EvO σ F th hi) :
    EvE K σ F (tSl (rSlA K) te tl th) (.tuple (cutD xs lo hi)) := fun G H e1 e2 Q q => h G H e1 e2 _ fun v G1 H1 u1 d1 =>
  h1 G1 H1 (e1.tr u1.g) u1.h _ fun G2 H2 u2 => h2 G2 H2 ((e1.tr u1.g).tr u2.g) u2.h _ fun G3 H3 u3 => by
    cases d1 with
    | tup h1 a1 =>
      refine ⟨_, _, rfl, SqT.of (u3.h _ _ (u3.g _ _ (u2.g _ _ h1))), fun hw => ?_, fun _ p hp => ?_⟩
      · refine q _ G3 H3 ((u1.tr u2).tr u3) (.tup (u3.g _ _ (u2.g _ _ h1)) ?_)
        have := ((a1.cut lo hi).mono u2.g).mono u3.g
        have e : cutD xs lo hi = xs := by
          unfold cutD
          rw [a1.length] at hw
          rw [hw.1, hw.2, List.drop_zero, Nat.sub_zero, List.take_length]
        rw [e]
        exact ((a1.mono u2.g)).mono u3.g
      · exact q _ _ _ (((u1.tr u2).tr u3).tr (Up.new u3.h hp _)) (.tup upd_same ((((a1.cut lo hi).mono u2.g).mono u3.g).mono (Ex.up (u3.h.fresh hp))))
theorem e_slS {tl th : TO} {a : Str} {lo hi : Option Int} (h : EvE K σ F te (.str a)) (h1 : EvO σ F tl lo) (h2 : EvO σ F th hi) (hl : a.length ≤ 1000000) :
    EvE K σ F (tSl rSlS te tl th) (.str (cutS a lo hi)) := fun G H e1 e2 Q q => h G H e1 e2 _ fun v G1 H1 u1 d1 =>
  h1 G1 H1 (e1.tr u1.g) u1.h _ fun G2 H2 u2 => h2 G2 H2 ((e1.tr u1.g).tr u2.g) u2.h _ fun G3 H3 u3 => by
    cases d1
    exact ⟨a, rfl, Nat.le_trans hl (by decide), q _ G3 H3 ((u1.tr u2).tr u3) (.str _)⟩
theorem e_revL {xs : List PyData} (h : EvE K σ F te (.list xs)) : EvE K σ F (tRevL K te) (.list xs.reverse) := fun G H e1 e2 Q q => h G H e1 e2 _ fun v G1 H1 u1 d1 => by
  cases d1 with
  | lst h1 a1 => exact ⟨_, _, rfl, SqL.of (u1.h _ _ h1), fun p hp => q _ _ _ (u1.tr (Up.new u1.h hp _)) (.lst upd_same (a1.rev.mono (Ex.up (u1.h.fresh hp))))⟩
theorem e_revT {xs : List PyData} (h : EvE K σ F te (.tuple xs)) : EvE K σ F (tRevT K te) (.tuple xs.reverse) := fun G H e1 e2 Q q => h G H e1 e2 _ fun v G1 H1 u1 d1 => by
  cases d1 with
  | tup h1 a1 => exact ⟨_, _, rfl, SqT.of (u1.h _ _ h1), fun p hp => q _ _ _ (u1.tr (Up.new u1.h hp _)) (.tup upd_same (a1.rev.mono (Ex.up (u1.h.fresh hp))))⟩
end
end KD
set_option Elab.async false
set_option linter.all false
set_option maxRecDepth 100000
set_option maxHeartbeats 4000000
namespace KD
open PySem PySem.Spec PyProof.Rows L2

/-! ### what is walked, as data -/
def Wk (K : PySem.W.Frag) (J : It) (G : Hp) (ds : List PyData) : Prop := ∀ (i : Nat) (G1 H1 : Hp), Ex G G1 → Ex G1 H1 →
  (∀ d, ds[i]? = some d → J.go i H1 ∧ ∀ x H', J.yld i H1 x H' → ∃ G', Up G1 H1 G' H' ∧ Da K G' x d) ∧ (i = ds.length → J.stop i H1)
def EvI (K : PySem.W.Frag) (σ : L2.St) (F : Hp) (wi : TI) (ds : List PyData) : Prop :=
  ∀ G H, Ex F G → Ex G H → ∀ R : It → Hp → Prop, (∀ J G' H', Up G H G' H' → Wk K J G' ds → R J H') → wi σ H R
section
variable {K : PySem.W.Frag} {σ : L2.St} {F F' : Hp} {ta tb tl te : TE} {ds es : List PyData} {as : TA} {d : PyData}
theorem EvI.is {wi : TI} {ds' : List PyData} (h : EvI K σ F wi ds) (e : ds = ds') : EvI K σ F wi ds' := e ▸ h
theorem i_list (h : EvE K σ F tl (.list ds)) : EvI K σ F (iList K tl) ds := fun G H e1 e2 R q => h G H e1 e2 _ fun v G1 H1 u1 d1 => by
  cases d1 with
  | @lst a xs _ h1 a1 =>
    refine ⟨a, rfl, ⟨xs, SqL.of (u1.h _ _ h1)⟩, q _ G1 H1 u1 fun i G2 H2 e3 e4 => ⟨fun d hd => ?_, fun hi => ?_⟩⟩
    · obtain ⟨x, hx, dx⟩ := a1.at hd
      have hs : SqL K H2 a xs := SqL.of (e4 _ _ (e3 _ _ h1))
      refine ⟨⟨xs, x, hs, hx⟩, ?_⟩
      rintro y H' ⟨rfl, hy⟩
      have e := hy xs hs
      rw [hx] at e; cases e
      exact ⟨G2, Up.rf e4, dx.mono e3⟩
    · have hi := Nat.le_of_eq hi.symm
      exact ⟨xs, SqL.of (e4 _ _ (e3 _ _ h1)), by rw [a1.length]; exact hi⟩
theorem i_tup (h : EvE K σ F tl (.tuple ds)) : EvI K σ F (iTup K tl) ds := fun G H e1 e2 R q => h G H e1 e2 _ fun v G1 H1 u1 d1 => by
  cases d1 with
  | @tup a xs _ h1 a1 =>
    refine ⟨a, rfl, ⟨xs, SqT.of (u1.h _ _ h1)⟩, q _ G1 H1 u1 fun i G2 H2 e3 e4 => ⟨fun d hd => ?_, fun hi => ?_⟩⟩
    · obtain ⟨x, hx, dx⟩ := a1.at hd
      have hs : SqT K H2 a xs := SqT.of (e4 _ _ (e3 _ _ h1))
      refine ⟨⟨xs, x, hs, hx⟩, ?_⟩
      rintro y H' ⟨rfl, hy⟩
      have e := hy xs hs
      rw [hx] at e; cases e
      exact ⟨G2, Up.rf e4, dx.mono e3⟩
    · have hi := Nat.le_of_eq hi.symm
      exact ⟨xs, SqT.of (e4 _ _ (e3 _ _ h1)), by rw [a1.length]; exact hi⟩
def sgns (z : Str) : List PyData := z.cps.toList.map fun c => .str ⟨#[c]⟩
theorem i_str {z : Str} (h : EvE K σ F tl (.str z)) : EvI K σ F (iStr tl) (sgns z) := fun G H e1 e2 R q => h G H e1 e2 _ fun v G1 H1 u1 d1 => by
  cases d1
  refine ⟨z, rfl, q _ G1 H1 u1 fun i G2 H2 e3 e4 => ⟨fun d hd => ?_, fun hi => ?_⟩⟩
  · unfold sgns at hd
    rw [List.getElem?_map] at hd
    obtain ⟨c, hc, rfl⟩ := Option.map_eq_some_iff.mp hd
    have hc' : z.cps[i]? = some c := by rw [← Array.getElem?_toList]; exact hc
    refine ⟨?_, ?_⟩
    · obtain ⟨hi, _⟩ := Array.getElem?_eq_some_iff.mp hc'
      exact hi
    · rintro y H' ⟨rfl, c', hy, rfl⟩
      rw [hc'] at hy; cases hy
      exact ⟨G2, Up.rf e4, .str _⟩
  · have hi := Nat.le_of_eq hi.symm
    show z.cps.size ≤ i
    simpa [sgns] using hi
def nums (lo : Int) (n : Nat) : List PyData := (List.range n).map fun i => .int (lo + (i : Nat))
theorem nums_get {lo : Int} {n i : Nat} {d : PyData} (h : (nums lo n)[i]? = some d) : i < n ∧ d = .int (lo + (i : Nat)) := by
  unfold nums at h
  rw [List.getElem?_map] at h
  obtain ⟨c, hc, rfl⟩ := Option.map_eq_some_iff.mp h
  obtain ⟨hi, e⟩ := List.getElem?_eq_some_iff.mp hc
  rw [List.getElem_range] at e
  subst e
  exact ⟨by simpa using hi, rfl⟩
theorem wk_range {lo : Int} {n : Nat} {G : Hp} : Wk K (Itr lo n) G (nums lo n) := fun i G2 H2 e3 e4 => ⟨fun d hd => by
    obtain ⟨hi, rfl⟩ := nums_get hd
    refine ⟨hi, ?_⟩
    rintro y H' ⟨rfl, rfl⟩
    exact ⟨G2, Up.rf e4, .int _⟩, fun hi => by
    have hi := Nat.le_of_eq hi.symm
    show n ≤ i
    simpa [nums] using hi⟩
theorem i_range1 {j : Int} (h : EvA K σ F as [.int j]) (h1 : -(2 ^ 62) ≤ j) (h2 : j < 2 ^ 62) : EvI K σ F (iRng1 as) (nums 0 j.toNat) := fun G H e1 e2 R q => h G H e1 e2 _ fun vs G1 H1 u1 d1 => by
  cases d1 with
  | cons da db => cases db; cases da; exact ⟨j, rfl, h1, h2, q _ G1 H1 u1 wk_range⟩
theorem i_range2 {i j : Int} (h : EvA K σ F as [.int i, .int j]) (h1 : -(2 ^ 62) ≤ i ∧ i < 2 ^ 62 ∧ -(2 ^ 62) ≤ j ∧ j < 2 ^ 62) : EvI K σ F (iRng2 as) (nums i (j - i).toNat) :=
  fun G H e1 e2 R q => h G H e1 e2 _ fun vs G1 H1 u1 d1 => by
    cases d1 with
    | cons da db => cases db with
      | cons db dc => cases dc; cases da; cases db; exact ⟨i, j, rfl, h1, q _ G1 H1 u1 wk_range⟩
def enumD (ds : List PyData) : List PyData := ds.zipIdx.map fun p => .tuple [.int (p.2 : Nat), p.1]
theorem enumD_get {i : Nat} {d : PyData} (h : (enumD ds)[i]? = some d) : ∃ x, ds[i]? = some x ∧ d = .tuple [.int (i : Nat), x] := by
  unfold enumD at h
  rw [List.getElem?_map, List.getElem?_zipIdx] at h
  obtain ⟨c, hc, rfl⟩ := Option.map_eq_some_iff.mp h
  obtain ⟨x, hx, rfl⟩ := Option.map_eq_some_iff.mp hc
  exact ⟨x, hx, by simp⟩
theorem enumD_length : (enumD ds).length = ds.length := by simp [enumD]
theorem i_enum (h : EvA K σ F as [.list ds]) : EvI K σ F (iEnum K as) (enumD ds) := fun G H e1 e2 R q => h G H e1 e2 _ fun vs G1 H1 u1 d1 => by
  cases d1 with
  | cons da db =>
    cases db
    cases da with
    | @lst a xs _ h1 a1 =>
      refine ⟨a, xs, rfl, SqL.of (u1.h _ _ h1), q _ G1 H1 u1 fun i G2 H2 e3 e4 => ⟨fun d hd => ?_, fun hi => ?_⟩⟩
      · obtain ⟨x0, h0, rfl⟩ := enumD_get hd
        obtain ⟨x, hx, dx⟩ := a1.at h0
        have hs : SqL K H2 a xs := SqL.of (e4 _ _ (e3 _ _ h1))
        refine ⟨⟨xs, x, hs, hx⟩, ?_⟩
        rintro y H' ⟨T, x', rfl, nT, rfl, hy⟩
        have e := hy xs hs
        rw [hx] at e; cases e
        exact ⟨_, Up.new e4 nT _, .tup upd_same (.cons (.int _) (.cons ((dx.mono e3).mono (Ex.up (e4.fresh nT))) .nil))⟩
      · have hi := Nat.le_of_eq hi.symm
        exact ⟨xs, SqL.of (e4 _ _ (e3 _ _ h1)), by rw [a1.length]; rw [enumD_length] at hi; exact hi⟩
def zipD (ds es : List PyData) : List PyData := (ds.zip es).map fun p => .tuple [p.1, p.2]
theorem zipD_get {i : Nat} {d : PyData} (h : (zipD ds es)[i]? = some d) : ∃ x y, ds[i]? = some x ∧ es[i]? = some y ∧ d = .tuple [x, y] := by
  unfold zipD at h
  rw [List.getElem?_map] at h
  obtain ⟨c, hc, rfl⟩ := Option.map_eq_some_iff.mp h
  obtain ⟨h1, h2⟩ := List.getElem?_zip_eq_some.mp hc
  exact ⟨c.1, c.2, h1, h2, rfl⟩
theorem i_zip (h : EvA K σ F as [.list ds, .list es]) : EvI K σ F (iZip K as) (zipD ds es) := fun G H e1 e2 R q => h G H e1 e2 _ fun vs G1 H1 u1 d1 => by
  cases d1 with
  | cons da db =>
    cases db with
    | cons db dc =>
      cases dc
      cases da with
      | @lst a xs _ h1 a1 =>
        cases db with
        | @lst b ys _ h2 a2 =>
          refine ⟨a, b, xs, ys, rfl, SqL.of (u1.h _ _ h1), SqL.of (u1.h _ _ h2), q _ G1 H1 u1 fun i G2 H2 e3 e4 => ⟨fun d hd => ?_, fun hi => ?_⟩⟩
          · obtain ⟨x0, y0, hx0, hy0, rfl⟩ := zipD_get hd
            obtain ⟨x, hx, dx⟩ := a1.at hx0
            obtain ⟨y, hy, dy⟩ := a2.at hy0
            have hs : SqL K H2 a xs := SqL.of (e4 _ _ (e3 _ _ h1))
            have ht : SqL K H2 b ys := SqL.of (e4 _ _ (e3 _ _ h2))
            refine ⟨⟨xs, ys, x, y, hs, ht, hx, hy⟩, ?_⟩
            rintro z H' ⟨T, x', y', rfl, nT, rfl, hx', hy'⟩
            have e := hx' xs hs
            rw [hx] at e; cases e
            have e := hy' ys ht
            rw [hy] at e; cases e
            exact ⟨_, Up.new e4 nT _, .tup upd_same (.cons ((dx.mono e3).mono (Ex.up (e4.fresh nT))) (.cons ((dy.mono e3).mono (Ex.up (e4.fresh nT))) .nil))⟩
          · have hi := Nat.le_of_eq hi.symm
            refine ⟨xs, ys, SqL.of (e4 _ _ (e3 _ _ h1)), SqL.of (e4 _ _ (e3 _ _ h2)), ?_⟩
            rw [a1.length, a2.length]
            simp [zipD] at hi
            omega
end

/-! ### targets -/
def Tg (K : PySem.W.Frag) (g : TG) (σ : L2.St) (d : PyData) (P : Hp → L2.St → Prop) : Prop :=
  ∀ (G H : Hp) (x : V), Ex G H → Da K G x d → ∀ Q : L2.St → Hp → Prop, (∀ σ', P G σ' → Q σ' H) → g x σ H Q
section
variable {K : PySem.W.Frag} {σ : L2.St} {F F' : Hp} {d d1 d2 d3 : PyData} {i j l : Nat}
theorem g_name : Tg K (gName i) σ d (fun G σ' => ∃ v, Da K G v d ∧ σ' = σ.set i (some v)) := fun G H x e h Q q => q _ ⟨x, h, rfl⟩
theorem g_tup2 : Tg K (gTup K 2 (gCons (gName i) (gCons (gName j) gNil))) σ (.tuple [d1, d2])
    (fun G σ' => ∃ v w, Da K G v d1 ∧ Da K G w d2 ∧ σ' = (σ.set i (some v)).set j (some w)) := fun G H x e h Q q => by
  cases h with
  | tup h1 a1 =>
    cases a1 with
    | cons da a2 => cases a2 with
      | cons db a3 => cases a3; exact ⟨_, _, rfl, SqT.of (e _ _ h1), rfl, _, _, rfl, _, _, rfl, rfl, q _ ⟨_, _, da, db, rfl⟩⟩
theorem g_tup12 : Tg K (gTup K 2 (gCons (gName i) (gCons (gTup K 2 (gCons (gName j) (gCons (gName l) gNil))) gNil))) σ (.tuple [d1, .tuple [d2, d3]])
    (fun G σ' => ∃ v w z, Da K G v d1 ∧ Da K G w d2 ∧ Da K G z d3 ∧ σ' = ((σ.set i (some v)).set j (some w)).set l (some z)) := fun G H x e h Q q => by
  cases h with
  | tup h1 a1 =>
    cases a1 with
    | cons da a2 => cases a2 with
      | cons db a3 =>
        cases a3
        cases db with
        | tup h2 b1 =>
          cases b1 with
          | cons db b2 => cases b2 with
            | cons dc b3 =>
              cases b3
              exact ⟨_, _, rfl, SqT.of (e _ _ h1), rfl, _, _, rfl, _, _, rfl, ⟨_, _, rfl, SqT.of (e _ _ h2), rfl, _, _, rfl, _, _, rfl, rfl, rfl, q _ ⟨_, _, _, da, db, dc, rfl⟩⟩⟩
end

/-! ### list comprehensions -/
section
variable {K : PySem.W.Frag} {σ : L2.St} {F : Hp}
theorem e_lc {wi : TI} {g : TG} {tt : TT} {te : TE} {vs : List Nat} {ds : List PyData} {p : PyData → Bool} {f : PyData → PyData} (hi : EvI K σ F wi ds) (hz : ds.length ≤ 100000)
    (ht : ∀ d ∈ ds, ∃ P, Tg K g (wipe σ vs) d P ∧ ∀ F' σ', Ex F F' → P F' σ' →
      wipe σ' vs = wipe σ vs ∧ EvT σ' F' tt (p d) ∧ (p d = true → EvE K σ' F' te (f d))) :
    EvE K σ F (tLc wi g tt te vs) (.list ((ds.filter p).map f)) := fun G H e1 e2 Q q => hi G H e1 e2 _ fun J G1 H1 u1 wk => by
  intro D hD
  refine ⟨fun i m H2 => m = ds.length - i ∧ i ≤ ds.length ∧ ∃ (G2 : Hp) (acc : List V), Ex G1 G2 ∧ Ex G2 H2 ∧ Ex H1 H2 ∧ (∀ b, H1 b ≠ none → G1 b = none → G2 b = none) ∧
      H2 D = some (.lst acc) ∧ G2 D = none ∧ DaAll K G2 acc (((ds.take i).filter p).map f),
    ⟨_, rfl, Nat.zero_le _, G1, [], Ex.rf _, u1.h.tr (Ex.up hD), Ex.up hD, fun _ _ h => h, upd_same, u1.h.fresh hD, .nil⟩, ?_⟩
  rintro i m H2 ⟨rfl, hi', G2, acc, eg, eh, em, en, hd, gd, ha⟩
  obtain ⟨w1, w2⟩ := wk i G2 H2 eg eh
  by_cases hlt : i < ds.length
  · obtain ⟨hgo, hy⟩ := w1 _ (List.getElem?_eq_getElem hlt)
    have hm : ds[i] ∈ ds := List.getElem_mem hlt
    have tk : (ds.take (i + 1)) = ds.take i ++ [ds[i]] := by rw [List.take_add_one, List.getElem?_eq_getElem hlt]; rfl
    refine .inr ⟨hgo, fun H3 => ∃ (G3 : Hp) (acc : List V), Ex G1 G3 ∧ Ex G3 H3 ∧ Ex H1 H3 ∧ (∀ b, H1 b ≠ none → G1 b = none → G3 b = none) ∧
      H3 D = some (.lst acc) ∧ G3 D = none ∧ DaAll K G3 acc (((ds.take (i + 1)).filter p).map f), ?_, ?_⟩
    · rintro H3 ⟨G3, acc3, r⟩
      exact ⟨ds.length - (i + 1), by omega, rfl, hlt, G3, acc3, r⟩
    · intro x H3 hyl
      obtain ⟨G3, u3, dx⟩ := hy x H3 hyl
      obtain ⟨P, tg, body⟩ := ht _ hm
      refine tg G3 H3 x u3.h dx _ fun σ' hP => ?_
      obtain ⟨hw, hT, hE⟩ := body G3 σ' ((e1.tr u1.g).tr (eg.tr u3.g)) hP
      refine ⟨hw, hT G3 H3 (Ex.rf _) u3.h _ fun G4 H4 u4 => ?_⟩
      have u34 := u3.tr u4
      have ne : H2 D ≠ none := by rw [hd]; simp
      by_cases hp : p ds[i] = true
      · rw [hp]
        refine iteT (hE hp G4 H4 u4.g u4.h _ fun y G5 H5 u5 dy => ?_)
        have u := u34.tr u5
        refine ⟨acc, u.m _ _ hd, ?_, G5, acc ++ [y], eg.tr u.g, ?_, ?_, fun b h1 h2 => u.n b (fun z => ?_) (en b h1 h2), upd_same, u.n D ne gd, ?_⟩
        · have := ha.length
          rw [List.length_map] at this
          have l2 : ((ds.take i).filter p).length ≤ ds.length := Nat.le_trans (List.length_filter_le _ _) (by rw [List.length_take]; omega)
          exact Nat.lt_of_le_of_lt (by omega : acc.length ≤ 100000) (by decide)
        · intro a o e
          rw [upd_ne (ne_of_none e (u.n D ne gd))]
          exact u.h a o e
        · intro a o e
          rw [upd_ne (ne_of_none e hD)]
          exact u.m a o (em a o e)
        · cases e : H1 b with
          | none => exact h1 e
          | some o => rw [em b o e] at z; cases z
        · rw [tk, List.filter_append, List.map_append]
          refine (ha.mono u.g).append ?_
          rw [List.filter_cons, if_pos hp]
          exact .cons dy .nil
      · have hp' : p ds[i] = false := by simpa using hp
        rw [hp']
        refine iteF ⟨G4, acc, eg.tr u34.g, u34.h, em.tr u34.m, fun b h1 h2 => u34.n b (fun z => ?_) (en b h1 h2), u34.m _ _ hd, u34.n D ne gd, ?_⟩
        · cases e : H1 b with
          | none => exact h1 e
          | some o => rw [em b o e] at z; cases z
        · rw [tk, List.filter_append, List.filter_cons, if_neg (by rw [hp']; simp), List.filter_nil, List.append_nil]
          exact ha.mono u34.g
  · have hle : ds.length ≤ i := by omega
    refine .inl ⟨w2 (by omega), q _ (upd G2 D (.lst acc)) H2 (u1.tr ⟨eg.tr (Ex.up gd), ?_, em, fun b h1 h2 => ?_⟩) (.lst upd_same ?_)⟩
    · intro a o e
      by_cases h : a = D
      · subst h; rw [upd_same] at e; rw [hd]; exact e
      · rw [upd_ne h] at e; exact eh a o e
    · rw [upd_ne (fun z => h1 (by rw [z]; exact hD))]; exact en b h1 h2
    · rw [List.take_of_length_le hle] at ha
      exact ha.mono (Ex.up gd)
end

/-! ### statements -/
def RetE (K : PySem.W.Frag) (σ : L2.St) (F : Hp) (t : TS) (d : PyData) : Prop :=
  ∀ G H, Ex F G → Ex G H → ∀ D : Ends, (∀ v G' H', Up G H G' H' → Da K G' v d → D.rt v H') → t D σ H
section
variable {K : PySem.W.Frag} {σ : L2.St} {F : Hp} {te : TE} {tt : TT} {t u : TS} {d x y d1 d2 d3 : PyData} {i j l : Nat} {as : TA}
theorem RetE.is {d' : PyData} (h : RetE K σ F t d) (e : d = d') : RetE K σ F t d' := e ▸ h
theorem r_ret (h : EvE K σ F te d) : RetE K σ F (tRet te) d := fun G H e1 e2 D q => h G H e1 e2 _ q
theorem r_if {b : Bool} (h : EvT σ F tt b) (h1 : b = true → RetE K σ F t x) (h2 : b = false → RetE K σ F u y) : RetE K σ F (tIfS tt t u) (bif b then x else y) :=
  fun G H e1 e2 D q => h G H e1 e2 _ fun G1 H1 u1 => by
    cases b with
    | true => exact iteT (h1 rfl G1 H1 (e1.tr u1.g) u1.h D fun w G2 H2 u2 d2 => q w G2 H2 (u1.tr u2) d2)
    | false => exact iteF (h2 rfl G1 H1 (e1.tr u1.g) u1.h D fun w G2 H2 u2 d2 => q w G2 H2 (u1.tr u2) d2)
/-- if c: return .. ahead of the rest -/
theorem r_guard {b : Bool} (h : EvT σ F tt b) (h1 : b = true → RetE K σ F t x) (h2 : b = false → RetE K σ F u y) : RetE K σ F (tSeq (tIfS tt t tNext) u) (bif b then x else y) :=
  fun G H e1 e2 D q => h G H e1 e2 _ fun G1 H1 u1 => by
    cases b with
    | true => exact iteT (h1 rfl G1 H1 (e1.tr u1.g) u1.h _ fun w G2 H2 u2 d2 => q w G2 H2 (u1.tr u2) d2)
    | false => exact iteF (h2 rfl G1 H1 (e1.tr u1.g) u1.h _ fun w G2 H2 u2 d2 => q w G2 H2 (u1.tr u2) d2)
theorem r_set (h : EvE K σ F te d) (hu : ∀ v F', Ex F F' → Da K F' v d → RetE K (σ.set i (some v)) F' u y) : RetE K σ F (tSeq (tAsg te (gName i)) u) y :=
  fun G H e1 e2 D q => h G H e1 e2 _ fun v G1 H1 u1 dv => hu v G1 (e1.tr u1.g) dv G1 H1 (Ex.rf _) u1.h _ fun w G2 H2 u2 d2 => q w G2 H2 (u1.tr u2) d2
theorem r_tup2 (h : EvE K σ F te (.tuple [d1, d2])) (hu : ∀ v w F', Ex F F' → Da K F' v d1 → Da K F' w d2 → RetE K ((σ.set i (some v)).set j (some w)) F' u y) :
    RetE K σ F (tSeq (tAsg te (gTup K 2 (gCons (gName i) (gCons (gName j) gNil)))) u) y :=
  fun G H e1 e2 D q => h G H e1 e2 _ fun v G1 H1 u1 dv => g_tup2 G1 H1 v u1.h dv _ fun σ' ⟨v, w, da, db, e⟩ => by
    subst e
    exact hu v w G1 (e1.tr u1.g) da db G1 H1 (Ex.rf _) u1.h _ fun w G2 H2 u2 d2 => q w G2 H2 (u1.tr u2) d2
theorem r_par (h : EvA K σ F as [d1, d2]) (hu : ∀ v w F', Ex F F' → Da K F' v d1 → Da K F' w d2 → RetE K ((σ.set i (some v)).set j (some w)) F' u y) :
    RetE K σ F (tSeq (tPar i j as) u) y :=
  fun G H e1 e2 D q => h G H e1 e2 _ fun vs G1 H1 u1 dv => by
    cases dv with
    | cons da dv => cases dv with
      | cons db dv =>
        cases dv
        exact ⟨_, _, rfl, hu _ _ G1 (e1.tr u1.g) da db G1 H1 (Ex.rf _) u1.h _ fun w G2 H2 u2 d2 => q w G2 H2 (u1.tr u2) d2⟩
end

/-! ### a pure def: the answer is fn of the arguments -/
def spP (K : PySem.W.Frag) (n : Nat) (pre : List PyData → Prop) (fn : List PyData → PyData) : Sp := fun vs H Q _ => vs.length = n ∧
  ∃ G ds, Ex G H ∧ DaAll K G vs ds ∧ pre ds ∧ ∀ v G' H', Up G H G' H' → Da K G' v (fn ds) → Q v H'
section
variable {P : Program} {w : World} {K : PySem.W.Frag} {mg : Str → Option Value} {base : Heap}
theorem okP {x qual : Str} {st : Stmt} {f : Addr} {fd : FuncData} {N ps : List Str} {k n : Nat} {pre : List PyData → Prop} {fn : List PyData → PyData}
    (F : Fun K x qual st f fd) (S : FnScope N ps (defScope st)) (hn : ps.length = n)
    (hbody : ∀ (cdv : Value) (A : Around) (out : List Env) (s : Shared) (H : Hp) (vs : List V) (E : XK) (G : Hp) (ds : List PyData),
      Room k (A.deeper (envOfC qual (defScope st) s.heap.objs.size f cdv)) →
      Quiet (A.deeper (envOfC qual (defScope st) s.heap.objs.size f cdv)) → vs.length = n → DaAll K G vs ds → pre ds →
      ∃ t, PSs (cxOf CX0 P w K mg base N qual (defScope st) f cdv A out s H E).nox (defBody st) t ∧ RetE K (start N vs) G t (fn ds)) :
    FnG P w K mg base CX0 (k + 1) f fd ps (spP K n pre fn) := by
  refine okG F S (fun vs H Q E h => h.1.trans hn.symm) fun cdv A out s H vs Q E hr hq h => ?_
  obtain ⟨hl, G, ds, eg, da, hp, q⟩ := h
  obtain ⟨t, ht, hR⟩ := hbody cdv A out s H vs E G ds hr hq hl da hp
  exact ⟨t, ht, hR G H (Ex.rf _) eg _ q⟩
variable {σ : L2.St} {F : Hp} {as : TA} {ds : List PyData} {n : Nat} {pre : List PyData → Prop} {fn : List PyData → PyData} {E : XK}
theorem e_call (h : EvA K σ F as ds) (hn : ds.length = n) (hp : pre ds) : EvE K σ F (tCall (spP K n pre fn) [] E as) (fn ds) :=
  fun G H e1 e2 Q q => h G H e1 e2 _ fun vs G1 H1 u1 d1 =>
    ⟨by rw [List.append_nil, d1.length]; exact hn, G1, ds, u1.h, by rw [List.append_nil]; exact d1, hp, fun v G2 H2 u2 d2 => q v G2 H2 (u1.tr u2) d2⟩
theorem e_kw (h : EvA K σ F as ds) (hn : ds.length = n) (hp : pre ds) : EvE K σ F (tCallK (spP K n pre fn) kwG E tNil as) (fn ds) :=
  fun G H e1 e2 Q q => h G H e1 e2 _ fun vs G1 H1 u1 d1 =>
    ⟨by show vs.length = n; rw [d1.length]; exact hn, G1, ds, u1.h, d1, hp, fun v G2 H2 u2 d2 => q v G2 H2 (u1.tr u2) d2⟩
end
end KD
set_option Elab.async false
set_option linter.all false
set_option maxRecDepth 100000
set_option maxHeartbeats 4000000
namespace KD
open PySem PySem.Spec PyProof.Rows L2
/-! ### isinstance of data -/
def isStrD : PyData → Bool | .str _ => true | _ => false
def isTupD : PyData → Bool | .tuple _ => true | _ => false
def isListD : PyData → Bool | .list _ => true | _ => false
def isDictD : PyData → Bool | .dict _ => true | _ => false
def isBoolD : PyData → Bool | .bool _ => true | _ => false
def isIntD : PyData → Bool | .int _ | .bool _ => true | _ => false
def isNumD : PyData → Bool | .int _ => true | _ => false
theorem k_str (d : PyData) : kitB (clsD d) "str" = some (isStrD d) := by
  cases d <;> simp only [clsD, isStrD, isTupD, isListD, isDictD, isBoolD, isIntD] <;> decide +kernel
theorem k_tuple (d : PyData) : kitB (clsD d) "tuple" = some (isTupD d) := by
  cases d <;> simp only [clsD, isStrD, isTupD, isListD, isDictD, isBoolD, isIntD] <;> decide +kernel
theorem k_list (d : PyData) : kitB (clsD d) "list" = some (isListD d) := by
  cases d <;> simp only [clsD, isStrD, isTupD, isListD, isDictD, isBoolD, isIntD] <;> decide +kernel
theorem k_dict (d : PyData) : kitB (clsD d) "dict" = some (isDictD d) := by
  cases d <;> simp only [clsD, isStrD, isTupD, isListD, isDictD, isBoolD, isIntD] <;> decide +kernel
theorem k_bool (d : PyData) : kitB (clsD d) "bool" = some (isBoolD d) := by
  cases d <;> simp only [clsD, isStrD, isTupD, isListD, isDictD, isBoolD, isIntD] <;> decide +kernel
theorem k_int (d : PyData) : kitB (clsD d) "int" = some (isIntD d) := by
  cases d <;> simp only [clsD, isStrD, isTupD, isListD, isDictD, isBoolD, isIntD] <;> decide +kernel
theorem of_isStr {d : PyData} (h : isStrD d = true) : ∃ s, d = .str s := by cases d <;> first | exact ⟨_, rfl⟩ | cases h
theorem of_isTup {d : PyData} (h : isTupD d = true) : ∃ s, d = .tuple s := by cases d <;> first | exact ⟨_, rfl⟩ | cases h
theorem of_isNum {d : PyData} (h : isNumD d = true) : ∃ s, d = .int s := by cases d <;> first | exact ⟨_, rfl⟩ | cases h
/-! ### sizes -/
mutual
def fit : PyData → Bool
  | .str x => decide (x.length ≤ 100000)
  | .list xs | .tuple xs => decide (xs.length ≤ 10000) && fitAll xs
  | _ => true
def fitAll : List PyData → Bool
  | [] => true
  | x :: xs => fit x && fitAll xs
end
theorem fit_of_mem : ∀ {xs : List PyData} {x : PyData}, fitAll xs = true → x ∈ xs → fit x = true
  | y :: ys, x, h, hm => by
    have hh := Bool.and_eq_true_iff.mp (show (fit y && fitAll ys) = true from h)
    rcases List.mem_cons.mp hm with rfl | hm
    · exact hh.1
    · exact fit_of_mem hh.2 hm
theorem fit_tuple {xs : List PyData} (h : fit (.tuple xs) = true) : xs.length ≤ 10000 ∧ fitAll xs = true := by
  have := Bool.and_eq_true_iff.mp (show (decide (xs.length ≤ 10000) && fitAll xs) = true from by simpa [fit] using h)
  exact ⟨of_decide_eq_true this.1, this.2⟩
theorem fit_str {s : Str} (h : fit (.str s) = true) : s.length ≤ 100000 := by simpa [fit] using h
/-! one item of each sign -/
theorem mem_sgns {z : Str} {d : PyData} (h : d ∈ sgns z) : ∃ c, c ∈ z.cps.toList ∧ d = .str ⟨#[c]⟩ := by
  unfold sgns at h
  obtain ⟨c, hc, rfl⟩ := List.mem_map.mp h
  exact ⟨c, hc, rfl⟩
theorem sgns_length {z : Str} : (sgns z).length = z.length := by
  unfold sgns
  rw [List.length_map, Array.length_toList]; rfl
/-- a wiped slot, stored and wiped -/
theorem wipe1 {σ : L2.St} {i : Nat} {v : Option V} : wipe ((wipe σ [i]).set i v) [i] = wipe σ [i] := by
  show ((σ.set i none).set i v).set i none = σ.set i none
  rw [List.set_set, List.set_set]
/-! ### what is known already -/
section
variable {K : PySem.W.Frag} {σ : L2.St} {F : Hp} {te ta tb : TE} {tt tu : TT} {t u : TS} {d x y : PyData}
theorem t_or1 (h : EvT σ F tt true) : EvT σ F (tOr tt tu) true := fun G H e1 e2 Q q => h G H e1 e2 _ fun G1 H1 u1 => iteT (q G1 H1 u1)
theorem t_or0 {b : Bool} (h : EvT σ F tt false) (h2 : EvT σ F tu b) : EvT σ F (tOr tt tu) b := (t_or h fun _ => h2).is (by simp)
theorem t_and0 (h : EvT σ F tt false) : EvT σ F (tAnd tt tu) false := fun G H e1 e2 Q q => h G H e1 e2 _ fun G1 H1 u1 => iteF (q G1 H1 u1)
theorem t_and1 {b : Bool} (h : EvT σ F tt true) (h2 : EvT σ F tu b) : EvT σ F (tAnd tt tu) b := (t_and h fun _ => h2).is (by simp)
theorem e_and0 (h : EvE K σ F ta (.bool false)) : EvE K σ F (tAndV ta tb) (.bool false) := (e_and (b := false) h fun z => nomatch z).is (by simp)
theorem e_and1 {b : Bool} (h : EvE K σ F ta (.bool true)) (h2 : EvE K σ F tb (.bool b)) : EvE K σ F (tAndV ta tb) (.bool b) := (e_and h fun _ => h2).is (by simp)
theorem r_guard1 (h : EvT σ F tt true) (h1 : RetE K σ F t x) : RetE K σ F (tSeq (tIfS tt t tNext) u) x := (r_guard (y := x) h (fun _ => h1) fun z => nomatch z).is rfl
theorem r_guard0 (h : EvT σ F tt false) (h1 : RetE K σ F u x) : RetE K σ F (tSeq (tIfS tt t tNext) u) x := (r_guard (x := x) h (fun z => nomatch z) fun _ => h1).is rfl
/-- [e for x in ..], x in slot i, e pure -/
theorem e_lc1 {wi : TI} {i : Nat} {ds : List PyData} {f : PyData → PyData} (hi : EvI K σ F wi ds) (hz : ds.length ≤ 100000)
    (ht : ∀ d ∈ ds, ∀ F' v, Ex F F' → Da K F' v d → EvE K ((wipe σ [i]).set i (some v)) F' te (f d)) :
    EvE K σ F (tLc wi (gName i) tYes te [i]) (.list (ds.map f)) :=
  (e_lc (p := fun _ => true) (f := f) hi hz fun d hd => ⟨_, g_name, fun F' σ' ef hP => by
    obtain ⟨v, dv, rfl⟩ := hP
    exact ⟨wipe1, t_yes, fun _ => ht d hd F' v ef dv⟩⟩).is (by rw [List.filter_eq_self.mpr (fun _ _ => rfl)])
/-- [e for x in .. if t] -/
theorem e_lc1f {wi : TI} {i : Nat} {ds : List PyData} {p : PyData → Bool} {f : PyData → PyData} (hi : EvI K σ F wi ds) (hz : ds.length ≤ 100000)
    (ht : ∀ d ∈ ds, ∀ F' v, Ex F F' → Da K F' v d → EvT ((wipe σ [i]).set i (some v)) F' tt (p d) ∧ (p d = true → EvE K ((wipe σ [i]).set i (some v)) F' te (f d))) :
    EvE K σ F (tLc wi (gName i) tt te [i]) (.list ((ds.filter p).map f)) :=
  e_lc hi hz fun d hd => ⟨_, g_name, fun F' σ' ef hP => by
    obtain ⟨v, dv, rfl⟩ := hP
    exact ⟨wipe1, ht d hd F' v ef dv⟩⟩
/-- all([b for x in ..]) -/
theorem e_all1 {wi : TI} {i : Nat} {ds : List PyData} {f : PyData → Bool} (hi : EvI K σ F wi ds) (hz : ds.length ≤ 100000)
    (ht : ∀ d ∈ ds, ∀ F' v, Ex F F' → Da K F' v d → EvE K ((wipe σ [i]).set i (some v)) F' te (.bool (f d))) :
    EvE K σ F (tCB (rAll K) (tCons (tLc wi (gName i) tYes te [i]) tNil)) (.bool (ds.all f)) := by
  have h := e_lc1 (f := fun d => .bool (f d)) hi hz ht
  have e : ds.map (fun d => PyData.bool (f d)) = (ds.map f).map .bool := by rw [List.map_map]; rfl
  rw [e] at h
  refine (e_cb (a_cons h a_nil) c_all).is ?_
  rw [List.all_map]; rfl
end
theorem eqv_nil {xs : List PyData} : PyData.eqv (.list xs) (.list []) = xs.isEmpty := by
  cases xs <;> rfl
theorem cmpOk_nil {xs : List PyData} : cmpOk (.list xs) (.list []) = true := by
  cases xs with
  | nil => rfl
  | cons x r => simp [cmpOk]
end KD
set_option Elab.async false
set_option linter.all false
set_option maxRecDepth 100000
set_option maxHeartbeats 4000000
namespace KD
open PySem PySem.Spec PyProof.Rows L2
/-! ### the rules that speak of the written part, by its name (so that they serve within a comprehension's block) -/
section
variable (K : PySem.W.Frag) {X : Cx}
theorem ix_listK (h : X.K = K := by rfl) : IxR X (rIxL K) := h ▸ ix_list
theorem ix_tupK (h : X.K = K := by rfl) : IxR X (rIxT K) := h ▸ ix_tup
theorem call_isiK' (h : X.K = K := by rfl) : CallR X (.builtin "isinstance") (rIsi K) := h ▸ call_isi
theorem cr_allK (hc : X.calm = true) (h : X.K = K := by rfl) : CallR X (.builtin "all") (rAll K) := h ▸ cr_all hc
theorem cr_anyK (hc : X.calm = true) (h : X.K = K := by rfl) : CallR X (.builtin "any") (rAny K) := h ▸ cr_any hc
theorem call_reprK (hq : Quiet X.A) (hu : X.A.units + 64 < cLine) (h : X.K = K := by rfl) : CallR X (.builtin "repr") (rRepr K) := h ▸ call_repr hq hu
theorem op_eqDaK (hu : X.A.units + 64 < cLine) (h : X.K = K := by rfl) : OpR X (compareOp .Eq) (rEqDa K) := h ▸ op_eqDa hu
theorem op_neDaK (hu : X.A.units + 64 < cLine) (h : X.K = K := by rfl) : OpR X (compareOp .NotEq) (rNeDa K) := h ▸ op_neDa hu
theorem sl_listK (h : X.K = K := by rfl) : SlR X (rSlL K) := h ▸ sl_list
theorem sl_tupAK (h : X.K = K := by rfl) : SlR X (rSlA K) := h ▸ sl_tupA
theorem op_catAK (h : X.K = K := by rfl) : OpR X (binaryOp .Add) (rCatA K) := h ▸ op_catA
theorem cr_sortedSK (h : X.K = K := by rfl) : CallR X (.builtin "sorted") (rSortedS K) := h ▸ cr_sortedS
def rLenQ : List V → Hp → VK → Prop := fun xs H Q => ∃ p ys, xs = [.ref p] ∧ (SqL K H p ys ∨ SqT K H p ys) ∧ Q (.int ys.length) H
def rListQ : List V → Hp → VK → Prop := fun xs H Q => ∃ p ys, xs = [.ref p] ∧ (SqL K H p ys ∨ SqT K H p ys) ∧ ∀ l, H l = none → Q (.ref l) (upd H l (.lst ys))
def rTupQ : List V → Hp → VK → Prop := fun xs H Q => ∃ p ys, xs = [.ref p] ∧ ((SqL K H p ys ∧ ∀ l, H l = none → Q (.ref l) (upd H l (.tup ys))) ∨ (SqT K H p ys ∧ Q (.ref p) H))
theorem call_lenK (h : X.K = K := by rfl) : CallR X (.builtin "len") (rLenQ K) := h ▸ call_len_seq
theorem call_listK (h : X.K = K := by rfl) : CallR X (.type "list") (rListQ K) := h ▸ call_list_of
theorem call_tupK (h : X.K = K := by rfl) : CallR X (.type "tuple") (rTupQ K) := h ▸ call_tuple_of
def rDictQ : List V → Hp → VK → Prop := fun xs H Q => ∃ (a : Addr) (ps : List Addr) (kvs : List (Key × V)), xs = [.ref a] ∧ SqL K H a (ps.map V.ref) ∧
  Paired (fun p kv => SqT K H p [kV kv.1, kv.2]) ps kvs ∧ ∀ p, H p = none → Q (.ref p) (upd H p (.dK (mergeK [] kvs)))
theorem call_dictK (hc : X.calm = true) (h : X.K = K := by rfl) : CallR X (.type "dict") (rDictQ K) := h ▸ call_dictP hc
theorem pe_revLK {e : Expr} {te : TE} {k : Nat} {p1 p2 p3 pos : Pos} (he : PE X e te) (h : X.K = K := by rfl) :
    PE X (.Subscript e (.Slice none none (some (.UnaryOp .USub (.Constant (.int 1) k p1) p2)) p3) pos) (tRevL K te) := h ▸ pe_revL he
theorem pe_revTK {e : Expr} {te : TE} {k : Nat} {p1 p2 p3 pos : Pos} (he : PE X e te) (h : X.K = K := by rfl) :
    PE X (.Subscript e (.Slice none none (some (.UnaryOp .USub (.Constant (.int 1) k p1) p2)) p3) pos) (tRevT K te) := h ▸ pe_revT he
theorem pi_listK {tg l : Expr} {tl : TE} (hl : PE X l tl) (h : X.K = K := by rfl) : PI X tg l (iList K tl) := h ▸ pi_list hl
theorem pi_tupK {tg l : Expr} {tl : TE} (hl : PE X l tl) (h : X.K = K := by rfl) : PI X tg l (iTup K tl) := h ▸ pi_tup hl
theorem pi_enumK {e : Expr} {ta : TA} {p pos tpos : Pos} {elts : List Expr} {kk : Nat} (hg : Gl X "enumerate") (hm : X.mg "enumerate" = none) (ha : PA X [e] ta)
    (h : X.K = K := by rfl) (hs : starEach [e] X.env = [(false, eval e X.env)] := by rfl) :
    PI X (.Tuple elts kk tpos) (.Call (.Name "enumerate" p) [e] [] pos) (iEnum K ta) := h ▸ pi_enum hg hm ha hs
theorem pi_zipK {e e2 : Expr} {ta : TA} {p pos tpos : Pos} {elts : List Expr} {kk : Nat} (hg : Gl X "zip") (hm : X.mg "zip" = none) (ha : PA X [e, e2] ta)
    (h : X.K = K := by rfl) (hs : starEach [e, e2] X.env = (false, eval e X.env) :: starEach [e2] X.env := by rfl)
    (hpl : (backTo pos (starEach [e2] X.env)).any (·.1) = false := by rfl) :
    PI X (.Tuple elts kk tpos) (.Call (.Name "zip" p) [e, e2] [] pos) (iZip K ta) := h ▸ pi_zip hg hm ha hs hpl
theorem pg_tupK {es : List Expr} {k : Nat} {pos : Pos} {n : Nat} {t : TGs} (hc : X.calm = true) (hs : PGs X es t) (h : X.K = K := by rfl)
    (hn : (assignEach es X.env).length = n := by rfl) (hst : (assignEach es X.env).findIdx? (·.1) = none := by rfl) :
    PG X (.Tuple es k pos) (gTup K n t) := h ▸ pg_tup hc hs hn hst
theorem pt_truthK {a : Expr} {ta : TE} (ha : PE X a ta) (he : ∀ whole, isTrue a X.env whole = (do let v ← whole; standAt a.pos; holding [v] (truthy v))) (h : X.K = K := by rfl) :
    PT X a (fun σ H Q => ta σ H fun x H' => ∃ k, TruV K x H' k ∧ Q k H') := h ▸ pt_truth ha he
end
section
variable {K : PySem.W.Frag}
theorem q_lenL {xs : List PyData} : CaD K (rLenQ K) [.list xs] (.int xs.length) := c_lenL
theorem q_lenT {xs : List PyData} : CaD K (rLenQ K) [.tuple xs] (.int xs.length) := c_lenT
theorem q_listL {xs : List PyData} : CaD K (rListQ K) [.list xs] (.list xs) := c_listL
theorem q_listT {xs : List PyData} : CaD K (rListQ K) [.tuple xs] (.list xs) := c_listT
theorem q_tupL {xs : List PyData} : CaD K (rTupQ K) [.list xs] (.tuple xs) := c_tupL
theorem q_tupT {xs : List PyData} : CaD K (rTupQ K) [.tuple xs] (.tuple xs) := c_tupT
end
end KD
set_option Elab.async false
set_option linter.all false
set_option maxRecDepth 100000
set_option maxHeartbeats 4000000
namespace KD
open PySem PySem.Spec PyProof.Rows L2
/-! ### the deck: the law's source of draws, a list that changes -/
structure Deck (G H : Hp) (dk cl : Addr) (m : Nat) : Prop where
  ne : dk ≠ cl
  gd : G dk = none
  gc : G cl = none
  ex : ∃ (cs : List Int) (t n : Int), H dk = some (.lst [.ref cl, .int t, .int n]) ∧ H cl = some (.lst (cs.map V.int)) ∧ cs.length ≤ 63 ∧
    0 ≤ n ∧ n ≤ m ∧ 0 ≤ t ∧ t < 4294967296
/-- what was tracked stays, but for the deck; what is new in G was not tracked -/
structure UpM (dk cl : Addr) (G H G' H' : Hp) : Prop where
  g : Ex G G'
  h : Ex G' H'
  m : ∀ b o, b ≠ dk → b ≠ cl → H b = some o → H' b = some o
  n : ∀ b, H b ≠ none → G b = none → G' b = none
  t : ∀ b, H b ≠ none → H' b ≠ none
section
variable {dk cl : Addr} {G H G1 H1 G2 H2 : Hp} {m k : Nat}
theorem UpM.tr (a : UpM dk cl G H G1 H1) (b : UpM dk cl G1 H1 G2 H2) : UpM dk cl G H G2 H2 where
  g := a.g.tr b.g
  h := b.h
  m := fun c o h1 h2 e => b.m c o h1 h2 (a.m c o h1 h2 e)
  n := fun c h1 h2 => b.n c (a.t c h1) (a.n c h1 h2)
  t := fun c h => b.t c (a.t c h)
theorem Up.toM (a : Up G H G1 H1) : UpM dk cl G H G1 H1 where
  g := a.g
  h := a.h
  m := fun c o _ _ e => a.m c o e
  n := a.n
  t := fun c h z => by
    cases q : H c with
    | none => exact h q
    | some o => rw [a.m c o q] at z; cases z
theorem UpM.rf (e : Ex G H) : UpM dk cl G H G H := (Up.rf e).toM
theorem Deck.dn (d : Deck G H dk cl m) : H dk ≠ none := by
  obtain ⟨_, _, _, e, _⟩ := d.ex
  rw [e]; simp
theorem Deck.cn (d : Deck G H dk cl m) : H cl ≠ none := by
  obtain ⟨_, _, _, _, e, _⟩ := d.ex
  rw [e]; simp
theorem Deck.up (d : Deck G H dk cl m) (u : Up G H G1 H1) : Deck G1 H1 dk cl m := by
  obtain ⟨cs, t, n, e1, e2, r⟩ := d.ex
  exact ⟨d.ne, u.n _ d.dn d.gd, u.n _ d.cn d.gc, cs, t, n, u.m _ _ e1, u.m _ _ e2, r⟩
theorem Deck.mono (d : Deck G H dk cl m) (h : m ≤ k) : Deck G H dk cl k := by
  obtain ⟨cs, t, n, e1, e2, h1, h2, h3, r⟩ := d.ex
  exact ⟨d.ne, d.gd, d.gc, cs, t, n, e1, e2, h1, h2, by omega, r⟩
end
/-- a list that is being made: at L, not yet in G -/
structure ListAt (K : PySem.W.Frag) (L : Addr) (ds : List PyData) (G H : Hp) : Prop where
  gl : G L = none
  ex : ∃ acc, H L = some (.lst acc) ∧ DaAll K G acc ds
section
variable {K : PySem.W.Frag} {L dk cl : Addr} {ds : List PyData} {G H G1 H1 : Hp}
theorem ListAt.ln (l : ListAt K L ds G H) : H L ≠ none := by
  obtain ⟨_, e, _⟩ := l.ex
  rw [e]; simp
theorem ListAt.up (l : ListAt K L ds G H) (u : Up G H G1 H1) : ListAt K L ds G1 H1 := by
  obtain ⟨acc, e, a⟩ := l.ex
  exact ⟨u.n _ l.ln l.gl, acc, u.m _ _ e, a.mono u.g⟩
theorem ListAt.upM (l : ListAt K L ds G H) (h1 : L ≠ dk) (h2 : L ≠ cl) (u : UpM dk cl G H G1 H1) : ListAt K L ds G1 H1 := by
  obtain ⟨acc, e, a⟩ := l.ex
  exact ⟨u.n _ l.ln l.gl, acc, u.m _ _ h1 h2 e, a.mono u.g⟩
/-- it is finished: it joins G -/
theorem ListAt.done (l : ListAt K L ds G H) (e : Ex G H) : ∃ G', Ex G G' ∧ Ex G' H ∧ Da K G' (.ref L) (.list ds) ∧ (∀ b, b ≠ L → G' b = G b) := by
  obtain ⟨acc, h, a⟩ := l.ex
  refine ⟨upd G L (.lst acc), Ex.up l.gl, fun b o q => ?_, .lst upd_same (a.mono (Ex.up l.gl)), fun b hb => upd_ne hb⟩
  by_cases hb : b = L
  · subst hb; rw [upd_same] at q; rw [h]; exact q
  · rw [upd_ne hb] at q; exact e b o q
end

/-! ### what draws -/
def spDraw : Sp := fun vs H Q _ => vs.length = 2 ∧ ∃ (dk cl : Addr) (lim : Int) (G : Hp) (m : Nat), vs = [.ref dk, .int lim] ∧ Ex G H ∧ Deck G H dk cl m ∧ m ≤ 1000000000 ∧ 0 < lim ∧ lim < 1000000000 ∧
  ∀ (i : Int) (H' : Hp), 0 ≤ i → i < lim → UpM dk cl G H G H' → Deck G H' dk cl (m + 1) → Q (.int i) H'
def spPick (K : PySem.W.Frag) : Sp := fun vs H Q _ => vs.length = 2 ∧ ∃ (dk cl a : Addr) (ds : List PyData) (G : Hp) (m : Nat), vs = [.ref dk, .ref a] ∧ Ex G H ∧ Deck G H dk cl m ∧ m ≤ 1000000000 ∧
  Da K G (.ref a) (.list ds) ∧ 0 < ds.length ∧ ds.length < 100000 ∧ ∀ (v : V) (d : PyData) (H' : Hp), d ∈ ds → Da K G v d → UpM dk cl G H G H' → Deck G H' dk cl (m + 1) → Q v H'
def EvN (K : PySem.W.Frag) (dk cl : Addr) (σ : L2.St) (F : Hp) (m : Nat) (te : TE) (m' : Nat) (P : PyData → Prop) : Prop :=
  ∀ G H, Ex F G → Ex G H → Deck G H dk cl m → ∀ Q : VK, (∀ v d G' H', UpM dk cl G H G' H' → Deck G' H' dk cl m' → P d → Da K G' v d → Q v H') → te σ H Q
def AvN (K : PySem.W.Frag) (dk cl : Addr) (σ : L2.St) (F : Hp) (m : Nat) (ta : TA) (m' : Nat) (P : List PyData → Prop) : Prop :=
  ∀ G H, Ex F G → Ex G H → Deck G H dk cl m → ∀ Q : List V → Hp → Prop, (∀ vs ds G' H', UpM dk cl G H G' H' → Deck G' H' dk cl m' → P ds → DaAll K G' vs ds → Q vs H') → ta σ H Q
section
variable {K : PySem.W.Frag} {dk cl : Addr} {σ : L2.St} {F : Hp} {m m1 m2 m' : Nat} {ta tb te : TE} {as : TA} {r : R2} {P P1 : PyData → Prop} {P2 : PyData → PyData → Prop} {PA : List PyData → Prop}
theorem n_pure {d : PyData} (h : EvE K σ F te d) : EvN K dk cl σ F m te m (fun x => x = d) := fun G H e1 e2 hD Q q =>
  h G H e1 e2 Q fun v G' H' u dv => q v d G' H' u.toM (hD.up u) rfl dv
theorem EvN.imp {P' : PyData → Prop} (h : EvN K dk cl σ F m te m' P) (hi : ∀ d, P d → P' d) : EvN K dk cl σ F m te m' P' := fun G H e1 e2 hD Q q =>
  h G H e1 e2 hD Q fun v d G' H' u hD' p dv => q v d G' H' u hD' (hi d p) dv
theorem n_draw {i0 : Nat} {E : XK} {lim : Int} (hs : σ[i0]? = some (some (.ref dk))) (hl : EvE K σ F te (.int lim)) (h0 : 0 < lim) (h1 : lim < 1000000000) (hm : m ≤ 1000000000) :
    EvN K dk cl σ F m (tCall spDraw [] E (tCons (tVar i0) (tCons te tNil))) (m + 1) (fun d => ∃ i, d = .int i ∧ 0 ≤ i ∧ i < lim) := fun G H e1 e2 hD Q q => by
  refine ⟨.ref dk, hs, hl G H e1 e2 _ fun v G1 H1 u1 d1 => ?_⟩
  cases d1
  refine ⟨rfl, dk, cl, lim, G1, m, rfl, u1.h, hD.up u1, hm, h0, h1, fun i H' hi0 hi1 u hD' => ?_⟩
  exact q _ _ _ _ (u1.toM.tr u) hD' ⟨i, rfl, hi0, hi1⟩ (.int i)
theorem n_pick {i0 : Nat} {E : XK} {ds : List PyData} (hs : σ[i0]? = some (some (.ref dk))) (hl : EvE K σ F te (.list ds)) (h0 : 0 < ds.length) (h1 : ds.length < 100000) (hm : m ≤ 1000000000) :
    EvN K dk cl σ F m (tCall (spPick K) [] E (tCons (tVar i0) (tCons te tNil))) (m + 1) (fun d => d ∈ ds) := fun G H e1 e2 hD Q q => by
  refine ⟨.ref dk, hs, hl G H e1 e2 _ fun v G1 H1 u1 d1 => ?_⟩
  obtain ⟨a, rfl⟩ : ∃ a, v = .ref a := by cases d1 with | lst h _ => exact ⟨_, rfl⟩
  refine ⟨rfl, dk, cl, a, ds, G1, m, rfl, u1.h, hD.up u1, hm, d1, h0, h1, fun v d H' hd dv u hD' => ?_⟩
  exact q _ _ _ _ (u1.toM.tr u) hD' hd dv
theorem n_op {f : PyData → PyData → PyData} (ha : EvN K dk cl σ F m ta m1 P1) (hb : ∀ x, P1 x → EvN K dk cl σ F m1 tb m2 (P2 x)) (ho : ∀ x y, P1 x → P2 x y → OpD K r x y (f x y)) :
    EvN K dk cl σ F m (tOp r ta tb) m2 (fun z => ∃ x y, P1 x ∧ P2 x y ∧ z = f x y) := fun G H e1 e2 hD Q q =>
  ha G H e1 e2 hD _ fun v x G1 H1 u1 hD1 p1 d1 => hb x p1 G1 H1 (e1.tr u1.g) u1.h hD1 _ fun w y G2 H2 u2 hD2 p2 d2 =>
    ho x y p1 p2 G2 H2 v w u2.h (d1.mono u2.g) d2 Q fun z G3 H3 u3 d3 => q z _ G3 H3 ((u1.tr u2).tr u3.toM) (hD2.up u3) ⟨x, y, p1, p2, rfl⟩ d3
theorem an_nil : AvN K dk cl σ F m tNil m (fun ds => ds = []) := fun G H e1 e2 hD Q q => q [] [] G H (UpM.rf e2) hD rfl .nil
theorem an_cons {PA : PyData → List PyData → Prop} (h : EvN K dk cl σ F m te m1 P1) (hr : ∀ x, P1 x → AvN K dk cl σ F m1 as m2 (PA x)) :
    AvN K dk cl σ F m (tCons te as) m2 (fun ds => ∃ x r, P1 x ∧ PA x r ∧ ds = x :: r) := fun G H e1 e2 hD Q q =>
  h G H e1 e2 hD _ fun v x G1 H1 u1 hD1 p1 d1 => hr x p1 G1 H1 (e1.tr u1.g) u1.h hD1 _ fun vs xs G2 H2 u2 hD2 p2 d2 =>
    q (v :: vs) (x :: xs) G2 H2 (u1.tr u2) hD2 ⟨x, xs, p1, p2, rfl⟩ (.cons (d1.mono u2.g) d2)
theorem an_pure {ds : List PyData} (h : EvA K σ F as ds) : AvN K dk cl σ F m as m (fun x => x = ds) := fun G H e1 e2 hD Q q =>
  h G H e1 e2 Q fun v G' H' u dv => q v ds G' H' u.toM (hD.up u) rfl dv
theorem AvN.imp {P' : List PyData → Prop} (h : AvN K dk cl σ F m as m' PA) (hi : ∀ d, PA d → P' d) : AvN K dk cl σ F m as m' P' := fun G H e1 e2 hD Q q =>
  h G H e1 e2 hD Q fun v d G' H' u hD' p dv => q v d G' H' u hD' (hi d p) dv
theorem n_tup (h : AvN K dk cl σ F m as m' PA) (hl : ∀ ds, PA ds → ds.length ≤ 100000) : EvN K dk cl σ F m (tTup as) m' (fun d => ∃ ds, PA ds ∧ d = .tuple ds) := fun G H e1 e2 hD Q q =>
  h G H e1 e2 hD _ fun vs ds G1 H1 u1 hD1 p d1 => ⟨by rw [d1.length]; exact Nat.le_trans (hl ds p) (by decide), fun a ha =>
    q _ _ _ _ (u1.tr (Up.new u1.h ha _).toM) (hD1.up (Up.new u1.h ha _)) ⟨ds, p, rfl⟩ (.tup upd_same (d1.mono (Ex.up (u1.h.fresh ha))))⟩
theorem n_lst (h : AvN K dk cl σ F m as m' PA) (hl : ∀ ds, PA ds → ds.length ≤ 100000) : EvN K dk cl σ F m (tLst as) m' (fun d => ∃ ds, PA ds ∧ d = .list ds) := fun G H e1 e2 hD Q q =>
  h G H e1 e2 hD _ fun vs ds G1 H1 u1 hD1 p d1 => ⟨by rw [d1.length]; exact Nat.le_trans (hl ds p) (by decide), fun a ha =>
    q _ _ _ _ (u1.tr (Up.new u1.h ha _).toM) (hD1.up (Up.new u1.h ha _)) ⟨ds, p, rfl⟩ (.lst upd_same (d1.mono (Ex.up (u1.h.fresh ha))))⟩
theorem n_cb {rc : List V → Hp → VK → Prop} {f : List PyData → PyData} (h : AvN K dk cl σ F m as m' PA) (hc : ∀ ds, PA ds → CaD K rc ds (f ds)) :
    EvN K dk cl σ F m (tCB rc as) m' (fun d => ∃ ds, PA ds ∧ d = f ds) := fun G H e1 e2 hD Q q =>
  h G H e1 e2 hD _ fun vs ds G1 H1 u1 hD1 p d1 => hc ds p G1 H1 vs u1.h d1 Q fun w G3 H3 u3 d3 => q w _ G3 H3 (u1.tr u3.toM) (hD1.up u3) ⟨ds, p, rfl⟩ d3
/-- a pure def with drawn arguments -/
theorem n_call {n : Nat} {pre : List PyData → Prop} {fn : List PyData → PyData} {E : XK} (h : AvN K dk cl σ F m as m' PA) (hn : ∀ ds, PA ds → ds.length = n) (hp : ∀ ds, PA ds → pre ds) :
    EvN K dk cl σ F m (tCall (spP K n pre fn) [] E as) m' (fun d => ∃ ds, PA ds ∧ d = fn ds) := fun G H e1 e2 hD Q q =>
  h G H e1 e2 hD _ fun vs ds G1 H1 u1 hD1 p d1 =>
    ⟨by rw [List.append_nil, d1.length]; exact hn ds p, G1, ds, u1.h, by rw [List.append_nil]; exact d1, hp ds p, fun v G2 H2 u2 d2 => q v _ _ _ (u1.tr u2.toM) (hD1.up u2) ⟨ds, p, rfl⟩ d2⟩
/-- [e for x in ..], e draws c times at most -/
theorem n_lc1 {wi : TI} {i c : Nat} {ds : List PyData} {P : PyData → PyData → Prop} (hi : EvI K σ F wi ds) (hz : ds.length ≤ 100000)
    (ht : ∀ (k : Nat) (d : PyData), ds[k]? = some d → ∀ F' v, Ex F F' → Da K F' v d → EvN K dk cl ((wipe σ [i]).set i (some v)) F' (m + c * k) te (m + c * k + c) (P d)) :
    EvN K dk cl σ F m (tLc wi (gName i) tYes te [i]) (m + c * ds.length) (fun x => ∃ rs : List PyData, x = .list rs ∧ rs.length = ds.length ∧ ∀ (k : Nat) (d r : PyData), ds[k]? = some d → rs[k]? = some r → P d r) := fun G H e1 e2 hD Q q =>
  hi G H e1 e2 _ fun J G1 H1 u1 wk => by
  intro D hD0
  have hDk := hD.up u1
  have nd : D ≠ dk := fun z => hDk.dn (by rw [← z]; exact hD0)
  have nc : D ≠ cl := fun z => hDk.cn (by rw [← z]; exact hD0)
  refine ⟨fun k μ H2 => μ = ds.length - k ∧ k ≤ ds.length ∧ ∃ (G2 : Hp) (rs : List PyData), UpM dk cl G1 H1 G2 H2 ∧ Deck G2 H2 dk cl (m + c * k) ∧ ListAt K D rs G2 H2 ∧ rs.length = k ∧
      ∀ (j : Nat) (d r : PyData), ds[j]? = some d → rs[j]? = some r → P d r, ⟨_, rfl, Nat.zero_le _, G1, [], ?_, ?_, ?_, rfl, ?_⟩, ?_⟩
  · exact ⟨Ex.rf _, u1.h.tr (Ex.up hD0), fun b o _ _ e => Ex.up hD0 b o e, fun _ _ h => h, fun b h => by
      rw [upd_ne (fun z => h (by rw [z]; exact hD0))]; exact h⟩
  · have := hDk
    obtain ⟨cs, t, n, a1, a2, a3⟩ := this.ex
    exact ⟨this.ne, this.gd, this.gc, cs, t, n, by rw [upd_ne (ne_of_none a1 hD0)]; exact a1, by rw [upd_ne (ne_of_none a2 hD0)]; exact a2, by simpa using a3⟩
  · exact ⟨u1.h.fresh hD0, [], upd_same, .nil⟩
  · intro j d r _ hr; simp at hr
  rintro k μ H2 ⟨rfl, hk, G2, rs, u2, hD2, hL, hlen, hP⟩
  obtain ⟨w1, w2⟩ := wk k G2 H2 u2.g u2.h
  by_cases hlt : k < ds.length
  · obtain ⟨hgo, hy⟩ := w1 _ (List.getElem?_eq_getElem hlt)
    refine .inr ⟨hgo, fun H3 => ∃ (G3 : Hp) (rs : List PyData), UpM dk cl G1 H1 G3 H3 ∧ Deck G3 H3 dk cl (m + c * (k + 1)) ∧ ListAt K D rs G3 H3 ∧ rs.length = k + 1 ∧
      ∀ (j : Nat) (d r : PyData), ds[j]? = some d → rs[j]? = some r → P d r, ?_, ?_⟩
    · rintro H3 ⟨G3, rs3, r⟩
      exact ⟨ds.length - (k + 1), by omega, rfl, hlt, G3, rs3, r⟩
    · intro x H3 hyl
      obtain ⟨G3, u3, dx⟩ := hy x H3 hyl
      refine ⟨wipe1, ?_⟩
      unfold tYes
      dsimp only
      rw [if_pos rfl]
      refine ht k _ (List.getElem?_eq_getElem hlt) G3 x ((e1.tr u1.g).tr (u2.g.tr u3.g)) dx G3 H3 (Ex.rf _) u3.h (hD2.up u3) _ fun y dy G4 H4 u4 hD4 py dvy => ?_
      have hL4 := (hL.up u3).upM nd nc u4
      obtain ⟨acc, ea, ha⟩ := hL4.ex
      have gl := hL4.gl
      have up4 := (u2.tr u3.toM).tr u4
      refine ⟨acc, ea, ?_, G4, rs ++ [dy], ⟨up4.g, fun a o e => ?_, fun b o hb1 hb2 e => ?_, up4.n, fun b hb => ?_⟩, ?_, ⟨gl, acc ++ [y], upd_same, ha.append (.cons dvy .nil)⟩, by simp [hlen], ?_⟩
      · have := ha.length
        exact Nat.lt_of_le_of_lt (by omega : acc.length ≤ 100000) (by decide)
      · rw [upd_ne (ne_of_none e gl)]; exact up4.h a o e
      · have hbD : b ≠ D := fun z => by rw [z, hD0] at e; cases e
        rw [upd_ne hbD]; exact up4.m b o hb1 hb2 e
      · by_cases hbD : b = D
        · subst hbD; rw [upd_same]; simp
        · rw [upd_ne hbD]; exact up4.t b hb
      · obtain ⟨cs, t, n, a1, a2, a3⟩ := hD4.ex
        exact ⟨hD4.ne, hD4.gd, hD4.gc, cs, t, n, by rw [upd_ne nd.symm]; exact a1, by rw [upd_ne nc.symm]; exact a2, by
          rw [Nat.mul_add, Nat.mul_one, ← Nat.add_assoc]; exact a3⟩
      · intro j d r hd hr
        by_cases hj : j < k
        · exact hP j d r hd (by rw [List.getElem?_append_left (by omega)] at hr; exact hr)
        · have hjk : j = k := by
            have := (List.getElem?_eq_some_iff.mp hr).1
            simp [hlen] at this
            omega
          subst hjk
          rw [List.getElem?_append_right (by omega), hlen] at hr
          simp at hr
          subst hr
          rw [List.getElem?_eq_getElem hlt] at hd; cases hd
          exact py
  · have hle : ds.length ≤ k := by omega
    have hkk : k = ds.length := by omega
    obtain ⟨G3, g1, g2, g3, g4⟩ := hL.done u2.h
    refine .inl ⟨w2 (by omega), q _ (.list rs) G3 H2 (u1.toM.tr ⟨u2.g.tr g1, g2, u2.m, fun b h1 h2 => ?_, u2.t⟩) ?_ ⟨rs, rfl, by omega, hP⟩ g3⟩
    · have hbD : b ≠ D := fun z => h1 (by rw [z]; exact hD0)
      rw [g4 b hbD]
      exact u2.n b h1 h2
    · obtain ⟨cs, t, n, a1, a2, a3⟩ := hD2.ex
      exact ⟨hD2.ne, by rw [g4 _ nd.symm]; exact hD2.gd, by rw [g4 _ nc.symm]; exact hD2.gc, cs, t, n, a1, a2, by rw [← hkk]; exact a3⟩
end
end KD
set_option Elab.async false
set_option linter.all false
set_option maxRecDepth 100000
set_option maxHeartbeats 4000000
namespace KD
open PySem PySem.Spec PyProof.Rows L2
/-! ### the deck's own defs, whatever their written numbers are -/
abbrev oAdd : TE → TE → TE := tOp (rI0 fun i j => .int (i + j))
abbrev oMul : TE → TE → TE := tOp (rI CMul fun i j => .int (i * j))
abbrev oMod : TE → TE → TE := tOp (rI (fun _ j => 0 < j) fun i j => .int (i % j))
abbrev oDiv : TE → TE → TE := tOp (rI CDiv fun i j => .int (i / j))
abbrev nI (i : Int) : TE := tC (.int i)
def spDeck (K : PySem.W.Frag) : Sp := fun vs H Q _ => vs.length = 1 ∧ ∃ (a : Addr) (ns : List Int) (G : Hp), vs = [.ref a] ∧ SqL K H a (ns.map V.int) ∧ ns.length ≤ 63 ∧ Ex G H ∧
  ∀ dk cl H', Ex H H' → H dk = none → H cl = none → Deck G H' dk cl 0 → Q (.ref dk) H'
section
variable {K : PySem.W.Frag}
theorem pos64 {b : Int} (h : 0 ≤ b) (h2 : b < 2 ^ 64) : -(2 ^ 64) < b ∧ b < 2 ^ 64 := ⟨by omega, h2⟩
theorem tSeq_def (t u : TS) (D : Ends) (σ : L2.St) (H : Hp) : tSeq t u D σ H = t { D with nx := u D } σ H := rfl
/-- cells, total = list(script[:63]), A; for cell in cells: total = (total * B + cell % C + E) % M; return [cells[::-1], total, 0] -/
abbrev tsDeck (K : PySem.W.Frag) (A B C E M : Int) : TS :=
  tSeq (tPar 1 2 (tCons (tCB (rListQ K) (tCons (tSl (rSlL K) (tVar 0) tNoPart (tPart (nI 63))) tNil)) (tCons (nI A) tNil)))
    (tSeq (tFor (iList K (tVar 1)) (gName 3) (tAsg (oMod (oAdd (oAdd (oMul (tVar 2) (nI B)) (oMod (tVar 3) (nI C))) (nI E)) (nI M)) (gName 2)))
      (tRet (tLst (tCons (tRevL K (tVar 1)) (tCons (tVar 2) (tCons (nI 0) tNil))))))
theorem deck_read {A B C E M : Int} (hA : 0 ≤ A ∧ A < 4294967296) (hB : -(2 ^ 64) < B ∧ B < 2 ^ 64) (hC : 0 < C) (hM : 0 < M ∧ M < 4294967296) {vs : List V} {H : Hp} {Q : VK} {E0 : XK} (h : spDeck K vs H Q E0) :
    tsDeck K A B C E M { nx := fun _ H' => Q .non H', rt := Q } (vs.map some ++ [none, none, none]) H := by
  obtain ⟨_, a, ns, G, rfl, hS, hl, eg, q⟩ := h
  show tsDeck K A B C E M { nx := fun _ H' => Q .non H', rt := Q } [some (.ref a), none, none, none] H
  refine ⟨.ref a, rfl, 63, rfl, a, ns.map V.int, rfl, hS, fun p hp => ⟨p, _, rfl, .inl (SqL.of upd_same), fun l hl' => ⟨_, _, rfl, ?_⟩⟩⟩
  have nlp : l ≠ p := fun e => by rw [e, upd_same] at hl'; cases hl'
  have hl0 : H l = none := by rw [upd_ne nlp] at hl'; exact hl'
  have cut : cutV (ns.map V.int) none (some 63) = ns.map V.int := by
    unfold cutV
    show List.take (min 63 (ns.map V.int).length - 0) _ = _
    rw [HT.sIx_none, List.drop_zero, Nat.sub_zero, Nat.min_eq_right (by rw [List.length_map]; exact hl), List.take_length]
  rw [cut] at hl' ⊢
  generalize hH1 : upd (upd H p (.lst (ns.map V.int))) l (.lst (ns.map V.int)) = H1
  have eH1 : Ex H H1 := by rw [← hH1]; exact (Ex.up hp).tr (Ex.up hl')
  have hl1 : H1 l = some (.lst (ns.map V.int)) := by rw [← hH1]; exact upd_same
  show tSeq _ _ _ [some (.ref a), some (.ref l), some (.int A), none] H1
  refine ⟨.ref l, rfl, l, rfl, ⟨_, SqL.of hl1⟩, ?_⟩
  refine for_list (K := K) (a := l) (xs := ns.map V.int) (fun _ σ H2 => ∃ t v3, σ = [some (.ref a), some (.ref l), some (.int t), v3] ∧ 0 ≤ t ∧ t < 4294967296 ∧ H2 = H1)
    ⟨A, none, rfl, hA.1, hA.2, rfl⟩ (fun i σ H2 _ ⟨_, _, _, _, _, e⟩ => by rw [e]; exact SqL.of hl1) (fun i x σ H2 hx ⟨t, v3, e, h1, h2, e2⟩ => ?_) (fun σ H2 ⟨t, v3, e, h1, h2, e2⟩ => ?_)
  · subst e e2
    obtain ⟨n, _, rfl⟩ : ∃ n, ns[i]? = some n ∧ V.int n = x := by
      rw [List.getElem?_map] at hx
      exact Option.map_eq_some_iff.mp hx
    refine ⟨_, rfl, _, _, rfl, rfl, .inr hB, _, rfl, _, _, rfl, rfl, hC, _, _, rfl, rfl, _, _, rfl, rfl, _, _, rfl, rfl, hM.1, ?_⟩
    exact ⟨_, _, rfl, Int.emod_nonneg _ (by omega), Int.lt_trans (Int.emod_lt_of_pos _ hM.1) hM.2, rfl⟩
  · subst e e2
    refine ⟨.ref l, rfl, l, _, rfl, SqL.of hl1, fun c hc => ⟨_, rfl, by show 3 ≤ sizeLine; decide, fun d hd => ?_⟩⟩
    have ndc : d ≠ c := fun z => by rw [z, upd_same] at hd; cases hd
    have hd0 : H2 d = none := by rw [upd_ne ndc] at hd; exact hd
    have nc : H c = none := eH1.fresh hc
    have nd : H d = none := eH1.fresh hd0
    refine q d c _ (eH1.tr ((Ex.up hc).tr (Ex.up hd))) nd nc ⟨ndc, eg.fresh nd, eg.fresh nc, ns.reverse, t, 0, upd_same, ?_, by rw [List.length_reverse]; exact hl, by omega, by omega, h1, h2⟩
    rw [upd_ne ndc.symm, upd_same, List.map_reverse]
abbrev oPow : TE → TE → TE := tOp (rI CPow fun i j => .int (i ^ j.toNat))
abbrev dAt (K : PySem.W.Frag) (i : Int) : TE := tOp (rIxL K) (tVar 0) (nI i)
/-- the draw, whatever comes last -/
abbrev tsDraw (K : PySem.W.Frag) (rest : TS) : TS :=
  tSeq (tAsg (oAdd (dAt K 2) (nI 1)) (gSub (tVar 0) (nI 2) rSetL)) (tSeq (tAsg (dAt K 1) (gName 2))
    (tSeq (tIfS (tTest (tOp (rNeDa K) (dAt K 0) (tLst tNil)))
      (tSeq (tAsg (tBM0 K "list" rPop (dAt K 0)) (gName 2))
        (tSeq (tIfS (tTest (tOp (rI0 fun i j => .bl (decide (j ≤ i))) (tVar 2) (oPow (nI 10) (nI 18))))
          (tSeq (tDrop (tBM K "list" rAppend (dAt K 0) (tCons (oDiv (tVar 2) (tVar 1)) tNil))) (tRet (oMod (tVar 2) (tVar 1)))) tNext)
          (tAsg (oAdd (tVar 2) (dAt K 1)) (gName 2)))) tNext) rest))
abbrev tsLast1 (K : PySem.W.Frag) (a b c d e f g h i j k : Int) : TS :=
  tSeq (tAsg (oMod (oMul (oAdd (oAdd (oMod (tVar 2) (nI a)) (oMul (oMul (nI b) (dAt K 2)) (dAt K 2))) (nI c)) (nI d)) (nI e)) (gName 3))
    (tSeq (tAsg (oMod (oAdd (oAdd (oMul (tVar 3) (tVar 3)) (oMul (nI f) (dAt K 2))) (nI g)) (nI h)) (gName 3))
      (tRet (oMod (oDiv (oMod (oAdd (oMul (tVar 3) (tVar 3)) (oMul (nI i) (tVar 3))) (nI j)) (nI k)) (tVar 1))))
abbrev tsLast2 (K : PySem.W.Frag) (a b c d e f g h i j k : Int) : TS :=
  tSeq (tAsg (oMod (oMul (oAdd (oAdd (oMod (tVar 2) (nI a)) (oMul (oMul (nI b) (dAt K 2)) (dAt K 2))) (nI c)) (nI d)) (nI e)) (gName 3))
    (tSeq (tAsg (oMod (oAdd (oAdd (oMul (tVar 3) (tVar 3)) (oMul (nI f) (dAt K 2))) (nI g)) (nI h)) (gName 3))
      (tRet (oMod (oDiv (oMod (oMul (tVar 3) (nI i)) (nI j)) (nI k)) (tVar 1))))
/-- what the last rows must do: give a number below the limit, from any cell -/
def LastOk (K : PySem.W.Frag) (rest : TS) : Prop := ∀ (dk cl : Addr) (lim t n c : Int) (x3 : Option V) (H : Hp) (D : Ends), 0 < lim → lim < 1000000000 → 0 ≤ n → n < 2 ^ 40 →
  H dk = some (.lst [.ref cl, .int t, .int n]) → (∀ i, 0 ≤ i → i < lim → D.rt (.int i) H) → rest D [some (.ref dk), some (.int lim), some (.int c), x3] H
theorem at2 {a b c : V} : atI [a, b, c] 2 = some c := rfl
theorem at1 {a b c : V} : atI [a, b, c] 1 = some b := rfl
theorem at0 {a b c : V} : atI [a, b, c] 0 = some a := rfl
theorem last1 {a b c d e f g h i j k : Int} (ha : 0 < a) (hb : -(2 ^ 64) < b ∧ b < 2 ^ 64) (hd : -(2 ^ 64) < d ∧ d < 2 ^ 64) (he : 0 < e ∧ e < 2 ^ 32) (hf : -(2 ^ 64) < f ∧ f < 2 ^ 64) (hh : 0 < h ∧ h < 2 ^ 32)
    (hi : -(2 ^ 64) < i ∧ i < 2 ^ 64) (hj : 0 < j) (hk : 0 < k ∧ k < 1073741824) : LastOk K (tsLast1 K a b c d e f g h i j k) := by
  intro dk cl lim t n cell x3 H D h0 h1 n0 n1 hd0 q
  have hs := SqL.of (K := K) hd0
  have nb : -(2 ^ 64) < n ∧ n < 2 ^ 64 := ⟨by omega, by omega⟩
  refine ⟨_, rfl, _, _, rfl, rfl, ha, .ref dk, rfl, dk, _, 2, _, rfl, rfl, hs, at2, _, _, rfl, rfl, .inl hb, .ref dk, rfl, dk, _, 2, _, rfl, rfl, hs, at2, _, _, rfl, rfl, .inr nb, _, _, rfl, rfl, _, _, rfl, rfl,
    _, _, rfl, rfl, .inr hd, _, _, rfl, rfl, he.1, ?_⟩
  show tSeq _ _ D [some (.ref dk), some (.int lim), some (.int cell), some (.int (((cell % a + b * n * n + c) * d) % e))] H
  generalize hv : (((cell % a + b * n * n + c) * d) % e : Int) = v
  have v0 : 0 ≤ v := by rw [← hv]; exact Int.emod_nonneg _ (by omega)
  have v1 : v < 2 ^ 32 := by rw [← hv]; exact Int.lt_trans (Int.emod_lt_of_pos _ he.1) he.2
  refine ⟨.int v, rfl, .int v, rfl, _, _, rfl, rfl, .inl ⟨by omega, by omega⟩, .ref dk, rfl, dk, _, 2, _, rfl, rfl, hs, at2, _, _, rfl, rfl, .inl hf, _, _, rfl, rfl, _, _, rfl, rfl, _, _, rfl, rfl, hh.1, ?_⟩
  show tRet (oMod (oDiv (oMod (oAdd (oMul (tVar 3) (tVar 3)) (oMul (nI i) (tVar 3))) (nI j)) (nI k)) (tVar 1)) D [some (.ref dk), some (.int lim), some (.int cell), some (.int ((v * v + f * n + g) % h))] H
  generalize hw : ((v * v + f * n + g) % h : Int) = w
  have w0 : 0 ≤ w := by rw [← hw]; exact Int.emod_nonneg _ (by omega)
  have w1 : w < 2 ^ 32 := by rw [← hw]; exact Int.lt_trans (Int.emod_lt_of_pos _ hh.1) hh.2
  refine ⟨.int w, rfl, .int w, rfl, _, _, rfl, rfl, .inl ⟨by omega, by omega⟩, .int w, rfl, _, _, rfl, rfl, .inl hi, _, _, rfl, rfl, _, _, rfl, rfl, hj, _, _, rfl, rfl, hk, .int lim, rfl, _, _, rfl, rfl, h0, ?_⟩
  exact q _ (Int.emod_nonneg _ (by omega)) (Int.emod_lt_of_pos _ h0)
theorem last2 {a b c d e f g h i j k : Int} (ha : 0 < a) (hb : -(2 ^ 64) < b ∧ b < 2 ^ 64) (hd : -(2 ^ 64) < d ∧ d < 2 ^ 64) (he : 0 < e ∧ e < 2 ^ 32) (hf : -(2 ^ 64) < f ∧ f < 2 ^ 64) (hh : 0 < h ∧ h < 2 ^ 32)
    (hi : -(2 ^ 64) < i ∧ i < 2 ^ 64) (hj : 0 < j) (hk : 0 < k ∧ k < 1073741824) : LastOk K (tsLast2 K a b c d e f g h i j k) := by
  intro dk cl lim t n cell x3 H D h0 h1 n0 n1 hd0 q
  have hs := SqL.of (K := K) hd0
  have nb : -(2 ^ 64) < n ∧ n < 2 ^ 64 := ⟨by omega, by omega⟩
  refine ⟨_, rfl, _, _, rfl, rfl, ha, .ref dk, rfl, dk, _, 2, _, rfl, rfl, hs, at2, _, _, rfl, rfl, .inl hb, .ref dk, rfl, dk, _, 2, _, rfl, rfl, hs, at2, _, _, rfl, rfl, .inr nb, _, _, rfl, rfl, _, _, rfl, rfl,
    _, _, rfl, rfl, .inr hd, _, _, rfl, rfl, he.1, ?_⟩
  show tSeq _ _ D [some (.ref dk), some (.int lim), some (.int cell), some (.int (((cell % a + b * n * n + c) * d) % e))] H
  generalize hv : (((cell % a + b * n * n + c) * d) % e : Int) = v
  have v0 : 0 ≤ v := by rw [← hv]; exact Int.emod_nonneg _ (by omega)
  have v1 : v < 2 ^ 32 := by rw [← hv]; exact Int.lt_trans (Int.emod_lt_of_pos _ he.1) he.2
  refine ⟨.int v, rfl, .int v, rfl, _, _, rfl, rfl, .inl ⟨by omega, by omega⟩, .ref dk, rfl, dk, _, 2, _, rfl, rfl, hs, at2, _, _, rfl, rfl, .inl hf, _, _, rfl, rfl, _, _, rfl, rfl, _, _, rfl, rfl, hh.1, ?_⟩
  show tRet (oMod (oDiv (oMod (oMul (tVar 3) (nI i)) (nI j)) (nI k)) (tVar 1)) D [some (.ref dk), some (.int lim), some (.int cell), some (.int ((v * v + f * n + g) % h))] H
  generalize hw : ((v * v + f * n + g) % h : Int) = w
  have w0 : 0 ≤ w := by rw [← hw]; exact Int.emod_nonneg _ (by omega)
  have w1 : w < 2 ^ 32 := by rw [← hw]; exact Int.lt_trans (Int.emod_lt_of_pos _ hh.1) hh.2
  refine ⟨.int w, rfl, _, _, rfl, rfl, .inr hi, _, _, rfl, rfl, hj, _, _, rfl, rfl, hk, .int lim, rfl, _, _, rfl, rfl, h0, ?_⟩
  exact q _ (Int.emod_nonneg _ (by omega)) (Int.emod_lt_of_pos _ h0)
theorem daAll_ints {G : Hp} : ∀ ns : List Int, DaAll K G (ns.map V.int) (ns.map .int)
  | [] => .nil
  | n :: ns => .cons (.int n) (daAll_ints ns)
theorem draw_read {rest : TS} (hr : LastOk K rest) {vs : List V} {H : Hp} {Q : VK} {E0 : XK} (h : spDraw vs H Q E0) :
    tsDraw K rest { nx := fun _ H' => Q .non H', rt := Q } (vs.map some ++ [none, none]) H := by
  obtain ⟨_, dk, cl, lim, G, m, rfl, eg, hD, hm, h0, h1, q⟩ := h
  obtain ⟨cs, t, n, e1, e2, hcs, n0, n1, t0, t1⟩ := hD.ex
  show tsDraw K rest { nx := fun _ H' => Q .non H', rt := Q } [some (.ref dk), some (.int lim), none, none] H
  refine ⟨.ref dk, rfl, dk, _, 2, _, rfl, rfl, SqL.of e1, at2, _, _, rfl, rfl, .ref dk, rfl, dk, _, 2, 2, rfl, rfl, e1, rfl, ?_⟩
  generalize hH1 : upd H dk (.lst (([V.ref cl, V.int t, V.int n] : List V).set 2 (V.int (n + 1)))) = H1
  have f1 : H1 dk = some (.lst [.ref cl, .int t, .int (n + 1)]) := by rw [← hH1]; exact upd_same
  have f2 : H1 cl = some (.lst (cs.map V.int)) := by rw [← hH1, upd_ne hD.ne.symm]; exact e2
  have f3 : ∀ b, b ≠ dk → H1 b = H b := fun b hb => by rw [← hH1, upd_ne hb]
  -- what any later heap must show
  have fin : ∀ (cs' : List Int) (H2 : Hp) (i : Int), H2 dk = some (.lst [.ref cl, .int t, .int (n + 1)]) → H2 cl = some (.lst (cs'.map V.int)) → cs'.length ≤ 63 →
      (∀ b o, b ≠ dk → b ≠ cl → H1 b = some o → H2 b = some o) → 0 ≤ i → i < lim → Q (.int i) H2 := by
    intro cs' H2 i g1 g2 g3 g4 i0 i1
    refine q i H2 i0 i1 ⟨Ex.rf _, fun b o e => ?_, fun b o hb1 hb2 e => g4 b o hb1 hb2 (by rw [f3 b hb1]; exact e), fun _ _ h => h, fun b hb => ?_⟩
      ⟨hD.ne, hD.gd, hD.gc, cs', t, n + 1, g1, g2, g3, by omega, by omega, t0, t1⟩
    · have hb1 : b ≠ dk := fun z => by rw [z, hD.gd] at e; cases e
      have hb2 : b ≠ cl := fun z => by rw [z, hD.gc] at e; cases e
      exact g4 b o hb1 hb2 (by rw [f3 b hb1]; exact eg b o e)
    · by_cases hb1 : b = dk
      · rw [hb1, g1]; simp
      · by_cases hb2 : b = cl
        · rw [hb2, g2]; simp
        · cases e : H b with
          | none => exact absurd e hb
          | some o => rw [g4 b o hb1 hb2 (by rw [f3 b hb1]; exact e)]; simp
  refine ⟨.ref dk, rfl, dk, _, 1, _, rfl, rfl, SqL.of f1, at1, ?_⟩
  refine ⟨.ref dk, rfl, dk, _, 0, _, rfl, rfl, SqL.of f1, at0, Nat.zero_le _, fun p hp => ?_⟩
  have np1 : dk ≠ p := fun z => by rw [← z, f1] at hp; cases hp
  have np2 : cl ≠ p := fun z => by rw [← z, f2] at hp; cases hp
  generalize hH2 : upd H1 p (.lst []) = H2
  have k1 : H2 dk = some (.lst [.ref cl, .int t, .int (n + 1)]) := by rw [← hH2, upd_ne np1]; exact f1
  have k2 : H2 cl = some (.lst (cs.map V.int)) := by rw [← hH2, upd_ne np2]; exact f2
  have k3 : ∀ b o, b ≠ dk → b ≠ cl → H1 b = some o → H2 b = some o := fun b o _ _ e => by rw [← hH2, upd_ne (ne_of_none e hp)]; exact e
  refine ⟨.list (cs.map .int), .list [], .lst k2 (daAll_ints cs), .lst (by rw [← hH2]; exact upd_same) .nil, cmpOk_nil, _, rfl, ?_⟩
  rw [eqv_nil]
  cases hc : cs with
  | nil =>
    refine iteF ?_
    refine hr dk cl lim t (n + 1) t none H2 _ h0 h1 (by omega) (by omega) k1 fun i i0 i1 => ?_
    exact fin cs H2 i k1 k2 hcs k3 i0 i1
  | cons x r =>
    refine iteT ?_
    rw [hc] at k2
    obtain ⟨y, hy⟩ : ∃ y, (x :: r)[(x :: r).length - 1]? = some y := ⟨_, List.getElem?_eq_getElem (by simp)⟩
    refine ⟨.ref dk, rfl, dk, _, 0, _, rfl, rfl, SqL.of k1, at0, .inl ⟨rfl, _, SqL.of k2⟩, cl, _, V.int y, rfl, rfl, k2, ?_, ?_⟩
    · rw [List.length_map, List.getElem?_map, hy]; rfl
    have dl : ((x :: r).map V.int).dropLast = (x :: r).dropLast.map V.int := List.map_dropLast.symm
    rw [dl]
    generalize hH3 : upd H2 cl (.lst ((x :: r).dropLast.map V.int)) = H3
    have l1 : H3 dk = some (.lst [.ref cl, .int t, .int (n + 1)]) := by rw [← hH3, upd_ne hD.ne]; exact k1
    have l2 : H3 cl = some (.lst ((x :: r).dropLast.map V.int)) := by rw [← hH3]; exact upd_same
    have l3 : ∀ b o, b ≠ dk → b ≠ cl → H1 b = some o → H3 b = some o := fun b o h1 h2 e => by rw [← hH3, upd_ne h2]; exact k3 b o h1 h2 e
    have len : (x :: r).dropLast.length + 1 ≤ 63 := by
      rw [List.length_dropLast]
      rw [hc] at hcs
      simp only [List.length_cons] at hcs ⊢
      omega
    refine ⟨.int y, rfl, _, _, rfl, rfl, ⟨by decide, by decide, by decide⟩, _, _, rfl, rfl, _, rfl, ite2 (fun e => ?_) (fun e => ?_)⟩
    · refine ⟨.ref dk, rfl, dk, _, 0, _, rfl, rfl, SqL.of l1, at0, .inl ⟨rfl, _, SqL.of l2⟩, .int y, rfl, .int lim, rfl, _, _, rfl, rfl, ⟨h0, by omega⟩, cl, _, _, rfl, rfl, l2, ?_, ?_⟩
      · rw [List.length_map]
        exact Nat.lt_of_lt_of_le (by omega : _ < 64) (by decide)
      refine ⟨.int y, rfl, .int lim, rfl, _, _, rfl, rfl, h0, ?_⟩
      refine fin ((x :: r).dropLast ++ [y / lim]) _ _ (by rw [upd_ne hD.ne]; exact l1) (by rw [upd_same, List.map_append]; rfl) (by rw [List.length_append]; exact len)
        (fun b o h1 h2 e => by rw [upd_ne h2]; exact l3 b o h1 h2 e) (Int.emod_nonneg _ (by omega)) (Int.emod_lt_of_pos _ h0)
    · refine ⟨.int y, rfl, .ref dk, rfl, dk, _, 1, _, rfl, rfl, SqL.of l1, at1, _, _, rfl, rfl, ?_⟩
      refine hr dk cl lim t (n + 1) (y + t) none H3 _ h0 h1 (by omega) (by omega) l1 fun i i0 i1 => ?_
      exact fin _ H3 i l1 l2 (by omega) l3 i0 i1
/-- items[draw(deck, len(items))] -/
abbrev tsPick (K : PySem.W.Frag) (E : XK) : TS := tRet (tOp (rIxL K) (tVar 1) (tCall spDraw [] E (tCons (tVar 0) (tCons (tCB (rLenQ K) (tCons (tVar 1) tNil)) tNil))))
theorem pick_read {E E0 : XK} {vs : List V} {H : Hp} {Q : VK} (h : spPick K vs H Q E0) : tsPick K E { nx := fun _ H' => Q .non H', rt := Q } (vs.map some) H := by
  obtain ⟨_, dk, cl, a, ds, G, m, rfl, eg, hD, hm, hda, h0, h1, q⟩ := h
  obtain ⟨xs, ha, ax⟩ : ∃ xs, G a = some (.lst xs) ∧ DaAll K G xs ds := by cases hda with | lst h1 h2 => exact ⟨_, h1, h2⟩
  have hl := ax.length
  show tsPick K E _ [some (.ref dk), some (.ref a)] H
  refine ⟨.ref a, rfl, .ref dk, rfl, .ref a, rfl, a, xs, rfl, .inl (SqL.of (eg _ _ ha)), rfl, dk, cl, xs.length, G, m, rfl, eg, hD, hm, by omega, by omega, fun i H' i0 i1 u hD' => ?_⟩
  have hx : i.toNat < xs.length := by omega
  obtain ⟨d, hd, dd⟩ := ax.get (List.getElem?_eq_getElem hx)
  refine ⟨a, xs, i, xs[i.toNat], rfl, rfl, SqL.of (u.h _ _ ha), ?_, q _ d H' (List.mem_of_getElem? hd) dd u hD'⟩
  have e := atI_nat (List.getElem?_eq_getElem hx)
  rw [Int.toNat_of_nonneg i0] at e
  exact e
end
end KD
set_option Elab.async false
set_option linter.all false
set_option maxRecDepth 100000
set_option maxHeartbeats 4000000
namespace KD
open PySem PySem.Spec PyProof.Rows L2
/-! ### sizes: what is small enough to be shown -/
/-- w: weight, k: depth -/
def sml (w k : Nat) (d : PyData) : Bool := (((d.leavesShort 60 && d.showable) && (!d.hasDict && fit d)) && decide (d.depth ≤ k)) && decide (d.weight ≤ w)
structure Sml (w k : Nat) (d : PyData) : Prop where
  s : d.leavesShort 60 = true
  h : d.showable = true
  n : d.hasDict = false
  f : fit d = true
  p : d.depth ≤ k
  w : d.weight ≤ w
theorem sml_iff {w k : Nat} {d : PyData} : sml w k d = true ↔ Sml w k d := by
  unfold sml
  simp only [Bool.and_eq_true, decide_eq_true_eq, Bool.not_eq_true']
  exact ⟨fun ⟨⟨⟨⟨a, b⟩, c, e⟩, f⟩, g⟩ => ⟨a, b, c, e, f, g⟩, fun h => ⟨⟨⟨⟨h.s, h.h⟩, h.n, h.f⟩, h.p⟩, h.w⟩⟩
theorem Sml.mono {w k w' k' : Nat} {d : PyData} (h : Sml w k d) (hw : w ≤ w') (hk : k ≤ k') : Sml w' k' d := ⟨h.s, h.h, h.n, h.f, Nat.le_trans h.p hk, Nat.le_trans h.w hw⟩
theorem Sml.repOk {w k : Nat} {d : PyData} (h : Sml w k d) (hw : w ≤ 100000) (hk : k ≤ 40) : repOk d = true := by
  unfold KD.repOk
  have hs := PyData.shown_le 60 (by decide) d h.s
  have := h.w
  have hd := h.p
  simp only [Bool.and_eq_true, decide_eq_true_eq, Bool.or_eq_true, h.h, h.n, Bool.not_false, or_true, true_and, and_true]
  refine ⟨by omega, Nat.le_trans hs ?_⟩
  have : (60 + 2) * d.weight ≤ 62 * 100000 := Nat.mul_le_mul (by decide) (by omega)
  omega
theorem sml_all {w k : Nat} : ∀ {xs : List PyData}, (∀ x ∈ xs, Sml w k x) → PyData.leavesShortAll 60 xs = true ∧ PyData.showableAll xs = true ∧ PyData.hasDictAll xs = false ∧ fitAll xs = true ∧
    PyData.depthAll xs ≤ k ∧ PyData.weightAll xs ≤ (w + 1) * xs.length
  | [], _ => ⟨rfl, rfl, rfl, rfl, Nat.zero_le _, Nat.zero_le _⟩
  | x :: xs, h => by
    obtain ⟨a, b, c, d, e, f⟩ := sml_all (xs := xs) fun y hy => h y (List.mem_cons_of_mem _ hy)
    have hx := h x List.mem_cons_self
    refine ⟨?_, ?_, ?_, ?_, ?_, ?_⟩
    · show (x.leavesShort 60 && _) = true
      rw [hx.s, a]; rfl
    · show (x.showable && _) = true
      rw [hx.h, b]; rfl
    · show (x.hasDict || _) = false
      rw [hx.n, c]; rfl
    · show (fit x && _) = true
      rw [hx.f, d]; rfl
    · show max x.depth _ ≤ k
      exact Nat.max_le.mpr ⟨hx.p, e⟩
    · show x.weight + 1 + PyData.weightAll xs ≤ _
      have := hx.w
      rw [List.length_cons, Nat.mul_add, Nat.mul_one]
      omega
theorem Sml.tup {w k n : Nat} {xs : List PyData} (h : ∀ x ∈ xs, Sml w k x) (hl : xs.length ≤ n) (hn : n ≤ 10000) : Sml ((w + 1) * n) (k + 1) (.tuple xs) := by
  obtain ⟨a, b, c, d, e, f⟩ := sml_all h
  refine ⟨a, by simpa [PyData.showable] using b, by simpa [PyData.hasDict] using c, ?_, ?_, ?_⟩
  · show (decide (xs.length ≤ 10000) && fitAll xs) = true
    rw [d, decide_eq_true (by omega : xs.length ≤ 10000)]; rfl
  · show PyData.depthAll xs + 1 ≤ k + 1
    omega
  · exact Nat.le_trans f (Nat.mul_le_mul_left _ hl)
theorem Sml.lst {w k n : Nat} {xs : List PyData} (h : ∀ x ∈ xs, Sml w k x) (hl : xs.length ≤ n) (hn : n ≤ 10000) : Sml ((w + 1) * n) (k + 1) (.list xs) := by
  obtain ⟨a, b, c, d, e, f⟩ := sml_all h
  refine ⟨a, by simpa [PyData.showable] using b, by simpa [PyData.hasDict] using c, ?_, ?_, ?_⟩
  · show (decide (xs.length ≤ 10000) && fitAll xs) = true
    rw [d, decide_eq_true (by omega : xs.length ≤ 10000)]; rfl
  · show PyData.depthAll xs + 1 ≤ k + 1
    omega
  · exact Nat.le_trans f (Nat.mul_le_mul_left _ hl)
theorem sml_str {s : Str} {n : Nat} (hl : s.length ≤ n) (hn : n ≤ 100000) (hc : ∀ c ∈ s.cps.toList, c < 16 ^ 8) : Sml n 0 (.str s) :=
  ⟨by show (s.cps.toList.all fun c => decide (c < 16 ^ 8)) = true
      exact List.all_eq_true.mpr fun c h => decide_eq_true (hc c h),
   rfl, rfl, by simp [fit]; omega, Nat.le_refl _, hl⟩
theorem sml_none : Sml 1 0 .none := ⟨rfl, rfl, rfl, rfl, by decide, by decide⟩
theorem sml_bool (b : Bool) : Sml 1 0 (.bool b) := ⟨rfl, rfl, rfl, rfl, Nat.le_refl _, Nat.zero_le _⟩
theorem log2_small {n : Nat} (h : n < 2 ^ 40) : n.log2 < 40 := by
  by_cases h0 : n = 0
  · subst h0; decide
  · exact (Nat.log2_lt h0).mpr h
theorem sml_int {i : Int} (h : i.natAbs < 10 ^ 12) : Sml 60 0 (.int i) := by
  have hl : i.natAbs.log2 < 40 := log2_small (Nat.lt_trans h (by decide))
  refine ⟨?_, ?_, rfl, rfl, Nat.le_refl _, ?_⟩
  · show decide ((PyData.shown (.int i)).length ≤ 60) = true
    exact decide_eq_true (Nat.le_trans (PyData.shown_int_le h) (by decide))
  · show decide (i.natAbs.log2 < 1920) = true
    exact decide_eq_true (by omega)
  · show (if i == 0 then 0 else i.natAbs.log2 + 1) ≤ 60
    split <;> omega
end KD
set_option Elab.async false
set_option linter.all false
set_option maxRecDepth 100000
set_option maxHeartbeats 1000000
namespace KD
open PySem PySem.Spec PyProof.Rows L2
/-! ### parts of law k01 that other laws use, too -/
abbrev letters : Str := "abcdefghijklmnopqrstuvwxyz"
def okD (d : PyData) : Bool := fit d && repOk d
theorem boolOk (b : Bool) : repOk (.bool b) = true := by cases b <;> decide +kernel
theorem eqv_three (a b : Str) : PyData.eqv (.list [.str a, .str a, .str b]) (.list [.str a, .str a, .str b]) = true := by
  simp [PyData.eqv, PyData.eqvAll]
section
variable {K : PySem.W.Frag}
/-! ### drawn names and signatures -/
structure SN (n : Nat) (s : Str) : Prop where
  l : s.length ≤ n
  c : ∀ c ∈ s.cps.toList, c < 128
theorem SN.mono {n m : Nat} {s : Str} (h : SN n s) (hm : n ≤ m) : SN m s := ⟨Nat.le_trans h.l hm, h.c⟩
theorem SN.app {n m : Nat} {s t : Str} (h : SN n s) (h2 : SN m t) : SN (n + m) (s ++ t) := by
  refine ⟨by rw [strLen_append]; exact Nat.add_le_add h.l h2.l, fun c hc => ?_⟩
  have e : (s ++ t).cps.toList = s.cps.toList ++ t.cps.toList := by
    show (s.cps ++ t.cps).toList = _
    rw [Array.toList_append]
  rw [e] at hc
  rcases List.mem_append.mp hc with hc | hc
  · exact h.c c hc
  · exact h2.c c hc
def snB (n : Nat) (s : Str) : Bool := decide (s.length ≤ n) && s.cps.toList.all fun c => decide (c < 128)
theorem SN.of {n : Nat} {s : Str} (h : snB n s = true) : SN n s := by
  have := Bool.and_eq_true_iff.mp h
  exact ⟨of_decide_eq_true this.1, fun c hc => of_decide_eq_true (List.all_eq_true.mp this.2 c hc)⟩
theorem SN.cut {n : Nat} {s : Str} (h : SN n s) (lo hi : Option Int) : SN n (cutS s lo hi) := by
  refine ⟨?_, fun c hc => h.c c ?_⟩
  · show (Array.size _) ≤ n
    rw [show (cutS s lo hi).cps = ((s.cps.toList.drop (HT.sIx s.length 0 lo)).take (HT.sIx s.length s.length hi - HT.sIx s.length 0 lo)).toArray from rfl, List.size_toArray, List.length_take, List.length_drop, Array.length_toList]
    have := h.l
    have e : s.cps.size = s.length := rfl
    omega
  · have e : (cutS s lo hi).cps.toList = (s.cps.toList.drop (HT.sIx s.length 0 lo)).take (HT.sIx s.length s.length hi - HT.sIx s.length 0 lo) := rfl
    rw [e] at hc
    exact List.mem_of_mem_drop (List.mem_of_mem_take hc)
theorem SN.sign {c : Nat} (h : c < 128) : SN 1 ⟨#[c]⟩ := ⟨Nat.le_refl _, fun d hd => by simp at hd; omega⟩
theorem SN.sml {n : Nat} {s : Str} (h : SN n s) (hn : n ≤ 100000) : Sml n 0 (.str s) := sml_str h.l hn fun c hc => Nat.lt_trans (h.c c hc) (by decide)
def spNames (K : PySem.W.Frag) : Sp := fun vs H Q _ => vs.length = 2 ∧ ∃ (dk cl : Addr) (many : Int) (G : Hp) (m : Nat), vs = [.ref dk, .int many] ∧ Ex G H ∧ Deck G H dk cl m ∧ m ≤ 999999000 ∧ 0 ≤ many ∧ many ≤ 6 ∧
  ∀ (v : V) (ss : List Str) (G' H' : Hp), UpM dk cl G H G' H' → Deck G' H' dk cl (m + 2) → ss.length = many.toNat → (∀ s ∈ ss, SN 9 s) → Da K G' v (.list (ss.map .str)) → Q v H'
theorem strs_of {G : Hp} : ∀ {ss : List Str} {acc : List V}, DaAll K G acc (ss.map .str) → acc = ss.map V.str
  | [], _, h => by cases h; rfl
  | s :: ss, _, h => by
    cases h with
    | cons h1 h2 => cases h1; rw [strs_of h2]; rfl
abbrev words : List Str := Txt.split "case part tag call ask same is not both either yes no and or none one root union take" " " ++ Txt.split "never number plus least most make test gather else rank tags voids" " "
theorem words_ok : (words.all (snB 9) && decide (words.length = 31)) = true := by decide +kernel
theorem letters_ok : (decide (letters.cps.toList.length = 26) && letters.cps.toList.all fun c => decide (c < 128)) = true := by decide +kernel
theorem at_some {α : Type} {xs : List α} {i : Int} (h0 : 0 ≤ i) (h1 : i < xs.length) : ∃ x, atI xs i = some x ∧ x ∈ xs := by
  have hi : i.toNat < xs.length := by omega
  refine ⟨xs[i.toNat], ?_, List.getElem_mem hi⟩
  have := atI_nat (List.getElem?_eq_getElem hi)
  rw [Int.toNat_of_nonneg h0] at this
  exact this
theorem tpar3_of {dk cl : Addr} {σ : L2.St} {F : Hp} {m m' : Nat} {ta : TA} {PA : List PyData → Prop} {i j l : Nat} {u : TS} {D : Ends} {G H : Hp} (h : AvN K dk cl σ F m ta m' PA) (e1 : Ex F G) (e2 : Ex G H) (hD : Deck G H dk cl m)
    (q : ∀ x y z ds G' H', UpM dk cl G H G' H' → Deck G' H' dk cl m' → PA ds → DaAll K G' [x, y, z] ds → u D (((σ.set i (some x)).set j (some y)).set l (some z)) H')
    (hn : ∀ ds, PA ds → ds.length = 3 := by rintro _ ⟨_, _, _, ⟨_, _, _, ⟨_, _, _, rfl, rfl⟩, rfl⟩, rfl⟩; rfl) :
    tSeq (tPar3 i j l ta) u D σ H := h G H e1 e2 hD _ fun vs ds G1 H1 u1 hD1 hp hd => by
  have hl : vs.length = 3 := by rw [hd.length]; exact hn ds hp
  match vs, hl with
  | [x, y, z], _ => exact ⟨x, y, z, rfl, q x y z ds G1 H1 u1 hD1 hp hd⟩
theorem ev_go {σ : L2.St} {G H : Hp} {te : TE} {d : PyData} {Q : VK} (h : EvE K σ G te d) (e : Ex G H) (q : ∀ v G' H', Up G H G' H' → Da K G' v d → Q v H') : te σ H Q :=
  h G H (Ex.rf _) e Q q
theorem UpM.put {dk cl L : Addr} {G H G' H' : Hp} {o : HO} (u : UpM dk cl G H G' H') (hL : H L = none) (gl : G' L = none) : UpM dk cl G H G' (upd H' L o) :=
  ⟨u.g, fun b p e => by rw [upd_ne (ne_of_none e gl)]; exact u.h b p e, fun b p h1 h2 e => by rw [upd_ne (ne_of_none e hL)]; exact u.m b p h1 h2 e, u.n, fun b hb => by
    by_cases z : b = L
    · rw [z, upd_same]; simp
    · rw [upd_ne z]; exact u.t b hb⟩
theorem Deck.put {dk cl L : Addr} {G H : Hp} {o : HO} {m : Nat} (d : Deck G H dk cl m) (h1 : L ≠ dk) (h2 : L ≠ cl) : Deck G (upd H L o) dk cl m := by
  obtain ⟨cs, t, n, a1, a2, a3⟩ := d.ex
  exact ⟨d.ne, d.gd, d.gc, cs, t, n, by rw [upd_ne h1.symm]; exact a1, by rw [upd_ne h2.symm]; exact a2, a3⟩
theorem ListAt.put {L : Addr} {ds : List PyData} {G H : Hp} {acc : List V} {v : V} {d : PyData} (l : ListAt K L ds G H) (_ : H L = some (.lst acc)) (da : DaAll K G acc ds) (h : Da K G v d) : ListAt K L (ds ++ [d]) G (upd H L (.lst (acc ++ [v]))) :=
  ⟨l.gl, _, upd_same, da.append (.cons h .nil)⟩
theorem small2 {a b x y : Nat} (h1 : x ≤ a) (h2 : y ≤ b) (h : a + b ≤ 1000000 := by decide) : x + y ≤ 1000000 := Nat.le_trans (Nat.add_le_add h1 h2) h
theorem elem_ix {σ : L2.St} {F : Hp} {te tj : TE} {ds : List PyData} {i : Int} (h1 : EvE K σ F te (.list ds)) (h2 : EvE K σ F tj (.int i)) (h0 : 0 ≤ i) (hi : i < ds.length)
    (hs : ∀ d ∈ ds, ∃ s, SN 9 s ∧ d = .str s) : ∃ s, SN 9 s ∧ EvE K σ F (tOp (rIxL K) te tj) (.str s) := by
  obtain ⟨d, hd, hm⟩ := at_some h0 hi
  obtain ⟨s, s9, rfl⟩ := hs d hm
  exact ⟨s, s9, e_op h1 h2 (o_ixL hd)⟩
theorem elem_of {σ : L2.St} {F G H : Hp} {te : TE} {Q : VK} (h : ∃ s, SN 9 s ∧ EvE K σ F te (.str s)) (e1 : Ex F G) (e2 : Ex G H)
    (q : ∀ s G' H', SN 9 s → Up G H G' H' → Q (.str s) H') : te σ H Q := by
  obtain ⟨s, s9, he⟩ := h
  exact he G H e1 e2 Q fun v G' H' u d => by cases d; exact q s G' H' s9 u
/-! ### drawn signatures -/
def TagD (d : PyData) : Prop := ∃ s c, d = .tuple [.str s, .int c] ∧ SN 9 s ∧ 0 ≤ c ∧ c ≤ 3
structure TagsD (ds : List PyData) : Prop where
  l : ds.length ≤ 6
  a : ∀ d ∈ ds, TagD d
def spTags (K : PySem.W.Frag) : Sp := fun vs H Q _ => vs.length = 1 ∧ ∃ (dk cl : Addr) (G : Hp) (m : Nat), vs = [.ref dk] ∧ Ex G H ∧ Deck G H dk cl m ∧ m ≤ 999990000 ∧
  ∀ (v : V) (ds : List PyData) (G' H' : Hp), UpM dk cl G H G' H' → Deck G' H' dk cl (m + 9) → TagsD ds → Da K G' v (.tuple ds) → Q v H'
def addD : PyData → PyData → PyData
  | .int a, .int b => .int (a + b)
  | _, _ => .none
def tupD : List PyData → PyData
  | [.list xs] => .tuple xs
  | _ => .none
/-! ### what a bent signature is made of -/
theorem up1_low : ∀ c, c < 128 → up1 c < 128 := by decide +kernel
theorem SN.upper {n : Nat} {s : Str} (h : SN n s) : SN n (Txt.upper s) := by
  rw [upper_ascii h.c]
  refine ⟨?_, fun c hc => ?_⟩
  · show (s.cps.map up1).size ≤ n
    rw [Array.size_map]; exact h.l
  · have hc' : c ∈ (s.cps.map up1).toList := hc
    rw [Array.toList_map] at hc'
    obtain ⟨x, hx, rfl⟩ := List.mem_map.mp hc'
    exact up1_low x (h.c x hx)
abbrev SI (d : PyData) : Prop := Sml 200 2 d
theorem SI.of {w k : Nat} {d : PyData} (h : Sml w k d) (hw : w ≤ 200 := by decide) (hk : k ≤ 2 := by decide) : SI d := h.mono hw hk
theorem SN.si {n : Nat} {s : Str} (h : SN n s) (hn : n ≤ 60 := by decide) : Sml 60 0 (.str s) := (h.sml (by omega)).mono hn (Nat.le_refl _)
theorem si_int {i : Int} (h : i.natAbs < 10 ^ 12 := by omega) : Sml 60 0 (.int i) := sml_int h
theorem si_two {k : Nat} {a b : PyData} (ha : Sml 60 k a) (hb : Sml 60 k b) : Sml 122 (k + 1) (.tuple [a, b]) :=
  Sml.tup (n := 2) (w := 60) (by intro x hx; rcases List.mem_cons.mp hx with rfl | hx; exact ha; rcases List.mem_cons.mp hx with rfl | hx; exact hb; cases hx) (Nat.le_refl _) (by decide)
theorem si_two' {k : Nat} {a b : PyData} (ha : Sml 140 k a) (hb : Sml 140 k b) : Sml 282 (k + 1) (.tuple [a, b]) :=
  Sml.tup (n := 2) (w := 140) (by intro x hx; rcases List.mem_cons.mp hx with rfl | hx; exact ha; rcases List.mem_cons.mp hx with rfl | hx; exact hb; cases hx) (Nat.le_refl _) (by decide)
theorem si_twoL {k : Nat} {a b : PyData} (ha : Sml 60 k a) (hb : Sml 60 k b) : Sml 122 (k + 1) (.list [a, b]) :=
  Sml.lst (n := 2) (w := 60) (by intro x hx; rcases List.mem_cons.mp hx with rfl | hx; exact ha; rcases List.mem_cons.mp hx with rfl | hx; exact hb; cases hx) (Nat.le_refl _) (by decide)
theorem si_one {k : Nat} {a : PyData} (ha : Sml 60 k a) : Sml 61 (k + 1) (.tuple [a]) :=
  Sml.tup (n := 1) (w := 60) (by intro x hx; rcases List.mem_cons.mp hx with rfl | hx; exact ha; cases hx) (Nat.le_refl _) (by decide)
theorem si_three {k : Nat} {a b c : PyData} (ha : Sml 60 k a) (hb : Sml 60 k b) (hc : Sml 60 k c) : Sml 183 (k + 1) (.tuple [a, b, c]) :=
  Sml.tup (n := 3) (w := 60) (by intro x hx; rcases List.mem_cons.mp hx with rfl | hx; exact ha; rcases List.mem_cons.mp hx with rfl | hx; exact hb; rcases List.mem_cons.mp hx with rfl | hx; exact hc; cases hx) (Nat.le_refl _) (by decide)
theorem TagD.si {d : PyData} (h : TagD d) : Sml 122 1 d := by
  obtain ⟨s, c, rfl, s9, c0, c3⟩ := h
  exact si_two s9.si (si_int)
/-- a tuple of at most n small items -/
def SL (n : Nat) (d : PyData) : Prop := ∃ xs, d = .tuple xs ∧ xs.length ≤ n ∧ ∀ x ∈ xs, Sml 300 2 x
theorem okD_of {w k : Nat} {d : PyData} (h : Sml w k d) (hw : w ≤ 100000) (hk : k ≤ 40) : okD d = true := by
  unfold okD
  rw [h.f, h.repOk hw hk]; rfl
theorem SL.ok {n : Nat} {d : PyData} (h : SL n d) (hn : n ≤ 30) : okD d = true := by
  obtain ⟨xs, rfl, hl, hx⟩ := h
  exact okD_of (Sml.tup hx (Nat.le_trans hl hn) (by decide)) (by decide) (by decide)
theorem TagsD.sl {ds : List PyData} (h : TagsD ds) : ∀ x ∈ ds, Sml 300 2 x := fun x hx => (h.a x hx).si.mono (by decide) (by decide)
theorem SL.cut {n : Nat} {xs : List PyData} (h : SL n (.tuple xs)) (lo hi : Option Int) : SL n (.tuple (KD.cutD xs lo hi)) := by
  obtain ⟨_, e, hl, hx⟩ := h
  cases e
  refine ⟨_, rfl, ?_, fun x hm => hx x (List.mem_of_mem_drop (List.mem_of_mem_take hm))⟩
  unfold KD.cutD
  rw [List.length_take, List.length_drop]; omega
theorem SL.rev {n : Nat} {xs : List PyData} (h : SL n (.tuple xs)) : SL n (.tuple xs.reverse) := by
  obtain ⟨_, e, hl, hx⟩ := h
  cases e
  exact ⟨_, rfl, by rw [List.length_reverse]; exact hl, fun x hm => hx x (List.mem_reverse.mp hm)⟩
theorem SL.app {n m : Nat} {xs ys : List PyData} (h : SL n (.tuple xs)) (h2 : SL m (.tuple ys)) : SL (n + m) (.tuple (xs ++ ys)) := by
  obtain ⟨_, e, hl, hx⟩ := h
  obtain ⟨_, e2, hl2, hx2⟩ := h2
  cases e; cases e2
  refine ⟨_, rfl, by rw [List.length_append]; omega, fun x hm => ?_⟩
  rcases List.mem_append.mp hm with h | h
  · exact hx x h
  · exact hx2 x h
/-! the dict of a signature's pairs -/
def vD : V → PyData
  | .int i => .int i
  | _ => .none
def kvOf : List PyData → List (Key × V)
  | .tuple [.str s, .int c] :: r => (.inr s, .int c) :: kvOf r
  | _ :: r => kvOf r
  | [] => []
def KvOk (kv : Key × V) : Prop := ∃ s c, kv = (.inr s, .int c) ∧ SN 9 s ∧ 0 ≤ c ∧ c ≤ 3
theorem kvOf_ok : ∀ {xs : List PyData}, (∀ d ∈ xs, TagD d) → (∀ kv ∈ kvOf xs, KvOk kv) ∧ (kvOf xs).length = xs.length
  | [], _ => ⟨fun _ h => (by cases h), rfl⟩
  | x :: xs, h => by
    obtain ⟨s, c, rfl, s9, c0, c3⟩ := h x List.mem_cons_self
    obtain ⟨a, b⟩ := kvOf_ok (xs := xs) fun d hd => h d (List.mem_cons_of_mem _ hd)
    refine ⟨fun kv hk => ?_, congrArg (· + 1) b⟩
    rcases List.mem_cons.mp hk with rfl | hk
    · exact ⟨s, c, rfl, s9, c0, c3⟩
    · exact a kv hk
theorem putK_ok {kvs : List (Key × V)} {k : Key} {v : V} (h : ∀ kv ∈ kvs, KvOk kv) (hk : KvOk (k, v)) : ∀ kv ∈ putK kvs k v, KvOk kv := by
  intro kv hm
  unfold putK at hm
  split at hm
  · obtain ⟨x, hx, rfl⟩ := List.mem_map.mp hm
    split
    · rename_i e; rw [e]; exact hk
    · exact h x hx
  · rcases List.mem_append.mp hm with h1 | h1
    · exact h kv h1
    · simp at h1; subst h1; exact hk
theorem mergeK_ok : ∀ {more kvs : List (Key × V)}, (∀ kv ∈ kvs, KvOk kv) → (∀ kv ∈ more, KvOk kv) → ∀ kv ∈ mergeK kvs more, KvOk kv
  | [], kvs, h, _ => h
  | (k, v) :: r, kvs, h, h2 => by
    show ∀ kv ∈ mergeK (putK kvs k v) r, KvOk kv
    exact mergeK_ok (putK_ok h (h2 _ List.mem_cons_self)) fun kv hk => h2 kv (List.mem_cons_of_mem _ hk)
def kvD : List (Key × V) → List (PyData × PyData)
  | [] => []
  | kv :: r => (keyD kv.1, vD kv.2) :: kvD r
theorem daKv_of {G : Hp} : ∀ {kvs : List (Key × V)}, (∀ kv ∈ kvs, KvOk kv) → DaKv K G kvs (kvD kvs)
  | [], _ => .nil
  | x :: r, h => by
    obtain ⟨s, c, rfl, _⟩ := h x List.mem_cons_self
    exact .cons (.int c) (daKv_of fun kv hk => h kv (List.mem_cons_of_mem _ hk))
theorem kv_all : ∀ {kvs : List (Key × V)}, (∀ kv ∈ kvs, KvOk kv) → PyData.leavesShortKv 60 (kvD kvs) = true ∧ PyData.showableKv (kvD kvs) = true ∧ noListKv (kvD kvs) = true ∧
    PyData.depthKv (kvD kvs) ≤ 0 ∧ PyData.weightKv (kvD kvs) ≤ 122 * kvs.length
  | [], _ => ⟨rfl, rfl, rfl, Nat.le_refl _, Nat.zero_le _⟩
  | x :: r, h => by
    obtain ⟨a, b, c, d, e⟩ := kv_all (kvs := r) fun kv hk => h kv (List.mem_cons_of_mem _ hk)
    obtain ⟨s, i, rfl, s9, i0, i3⟩ := h x List.mem_cons_self
    have hs : Sml 60 0 (.str s) := s9.si
    have hi : Sml 60 0 (.int i) := si_int
    refine ⟨?_, ?_, ?_, ?_, ?_⟩
    · show ((PyData.str s).leavesShort 60 && (PyData.int i).leavesShort 60 && _) = true
      rw [hs.s, hi.s, a]; rfl
    · show ((PyData.str s).showable && (PyData.int i).showable && _) = true
      rw [hs.h, hi.h, b]; rfl
    · show (noList (.int i) && _) = true
      rw [c]; rfl
    · show max (max (PyData.str s).depth (PyData.int i).depth) _ ≤ 0
      exact Nat.max_le.mpr ⟨Nat.max_le.mpr ⟨hs.p, hi.p⟩, d⟩
    · show (PyData.str s).weight + (PyData.int i).weight + 2 + _ ≤ _
      have h1 := hs.w
      have h2 := hi.w
      rw [List.length_cons, Nat.mul_add]
      omega
theorem okKv {kvs : List (Key × V)} (h : ∀ kv ∈ kvs, KvOk kv) (hl : kvs.length ≤ 100) : okD (.dict (kvD kvs)) = true := by
  obtain ⟨a, b, c, d, e⟩ := kv_all h
  have hs := PyData.shown_le 60 (by decide) (.dict (kvD kvs)) a
  have hw : (PyData.dict (kvD kvs)).weight ≤ 122 * 100 := Nat.le_trans e (Nat.mul_le_mul_left _ hl)
  have hd : (PyData.dict (kvD kvs)).depth ≤ 40 := Nat.le_trans (Nat.succ_le_succ d) (by decide)
  have h1 : (PyData.dict (kvD kvs)).showable = true := b
  have h2 : noList (.dict (kvD kvs)) = true := c
  unfold okD repOk
  rw [h1, h2, decide_eq_true hd, decide_eq_true (Nat.le_trans hs (by omega : _ ≤ 16000000))]
  rfl
def dictD : List PyData → PyData
  | [.list xs] => .dict (kvD (mergeK [] (kvOf xs)))
  | _ => .none
theorem pairs_of {G H : Hp} (eGH : Ex G H) : ∀ {vs : List V} {xs : List PyData}, (∀ d ∈ xs, TagD d) → DaAll K G vs xs → ∃ ps : List Addr, vs = ps.map V.ref ∧ Paired (fun p (kv : Key × V) => SqT K H p [kV kv.1, kv.2]) ps (kvOf xs)
  | _, [], _, h => by cases h; exact ⟨[], rfl, .nil⟩
  | _, x :: xs, ht, h => by
    obtain ⟨s, c, rfl, _⟩ := ht x List.mem_cons_self
    cases h with
    | cons h1 h2 =>
      obtain ⟨ps, rfl, hp⟩ := pairs_of eGH (fun d hd => ht d (List.mem_cons_of_mem _ hd)) h2
      cases h1 with
      | tup e a =>
        rename_i p _
        cases a with | cons a1 a => ?_
        cases a with | cons a2 a => ?_
        cases a; cases a1; cases a2
        exact ⟨p :: ps, rfl, .cons (SqT.of (eGH _ _ e)) hp⟩
theorem c_dictL {xs : List PyData} (ht : ∀ d ∈ xs, TagD d) : CaD K (rDictQ K) [.list xs] (dictD [.list xs]) := fun G H vs e d Q q => by
  cases d with
  | cons d1 d2 =>
    cases d2
    cases d1 with
    | lst h1 a1 =>
      rename_i a ws
      obtain ⟨ps, rfl, hp⟩ := pairs_of e ht a1
      refine ⟨_, ps, _, rfl, SqL.of (e _ _ h1), hp, fun p hf => ?_⟩
      exact q _ _ _ (Up.new e hf _) (.dic upd_same (daKv_of (mergeK_ok (by intro _ h; cases h) (kvOf_ok ht).1)))
/-! ### bent signatures -/
section
variable {dk cl : Addr} {σ : L2.St} {F : Hp} {m m1 m2 m' n a b : Nat} {te ta tb tj : TE} {as : TA} {R : PyData → Prop}
def catTD : PyData → PyData → PyData
  | .tuple a, .tuple b => .tuple (a ++ b)
  | _, _ => .none
def catLD : PyData → PyData → PyData
  | .list a, .list b => .list (a ++ b)
  | _, _ => .none
def repLD (n : Nat) : PyData → PyData → PyData
  | .list a, _ => .list (List.replicate n a).flatten
  | _, _ => .none
def ixLD (i : Int) : PyData → PyData → PyData
  | .list a, _ => (atI a i).getD .none
  | _, _ => .none
theorem nv_go {G H : Hp} {Q : VK} {P : PyData → Prop} (h : EvN K dk cl σ G m te m' P) (e : Ex G H) (hD : Deck G H dk cl m)
    (q : ∀ v d G' H', UpM dk cl G H G' H' → Deck G' H' dk cl m' → P d → Da K G' v d → Q v H') : te σ H Q := h G H (Ex.rf _) e hD Q q
theorem st_set {i : Nat} {u : TS} {D : Ends} {G H : Hp} {P : PyData → Prop} (h : EvN K dk cl σ G m te m' P) (e : Ex G H) (hD : Deck G H dk cl m)
    (q : ∀ v d G' H', UpM dk cl G H G' H' → Deck G' H' dk cl m' → P d → Da K G' v d → u D (σ.set i (some v)) H') : tSeq (tAsg te (gName i)) u D σ H :=
  h G H (Ex.rf _) e hD _ fun v d G' H' u hD' p dv => q v d G' H' u hD' p dv
theorem st_ret {D : Ends} {G H : Hp} {P : PyData → Prop} (h : EvN K dk cl σ G m te m' P) (e : Ex G H) (hD : Deck G H dk cl m)
    (q : ∀ v d G' H', UpM dk cl G H G' H' → Deck G' H' dk cl m' → P d → Da K G' v d → D.rt v H') : tRet te D σ H :=
  h G H (Ex.rf _) e hD _ fun v d G' H' u hD' p dv => q v d G' H' u hD' p dv
theorem s_pure {xs : List PyData} (h : EvE K σ F te (.tuple xs)) (hs : SL n (.tuple xs)) : EvN K dk cl σ F m te m (SL n) := (n_pure h).imp fun d e => e ▸ hs
theorem s_cat (h1 : EvN K dk cl σ F m ta m1 (SL a)) (h2 : EvN K dk cl σ F m1 tb m2 (SL b)) (hn : a + b ≤ 1000 := by decide) : EvN K dk cl σ F m (tOp (rCatA K) ta tb) m2 (SL (a + b)) :=
  (n_op (f := catTD) h1 (fun _ _ => h2) (by rintro _ _ ⟨xs, rfl, h, _⟩ ⟨ys, rfl, h', _⟩; exact o_catT (by omega))).imp
    (by rintro _ ⟨_, _, ⟨xs, rfl, hx⟩, ⟨ys, rfl, hy⟩, rfl⟩; exact SL.app ⟨xs, rfl, hx⟩ ⟨ys, rfl, hy⟩)
theorem s_one (h : EvN K dk cl σ F m te m' (fun d => Sml 300 2 d)) : EvN K dk cl σ F m (tTup (tCons te tNil)) m' (SL 1) :=
  (n_tup (an_cons h fun _ _ => an_nil) (by rintro _ ⟨_, _, _, rfl, rfl⟩; exact (show 1 ≤ 100000 by decide))).imp
    (by rintro _ ⟨_, ⟨x, _, hx, rfl, rfl⟩, rfl⟩; exact ⟨_, rfl, Nat.le_refl _, by intro y hy; rcases List.mem_cons.mp hy with rfl | hy; exact hx; cases hy⟩)
structure AllR (R : PyData → Prop) (n : Nat) (ds : List PyData) : Prop where
  l : ds.length = n
  a : ∀ d ∈ ds, R d
def NL (R : PyData → Prop) (n : Nat) (d : PyData) : Prop := ∃ xs, d = .list xs ∧ AllR R n xs
theorem ak_nil : AvN K dk cl σ F m tNil m (AllR R 0) := an_nil.imp fun _ e => e ▸ ⟨rfl, fun _ h => by cases h⟩
theorem ak_cons (h : EvN K dk cl σ F m te m1 R) (hr : AvN K dk cl σ F m1 as m2 (AllR R n)) : AvN K dk cl σ F m (tCons te as) m2 (AllR R (n + 1)) :=
  (an_cons h fun _ _ => hr).imp (by
    rintro _ ⟨x, r, hx, hr, rfl⟩
    exact ⟨congrArg (· + 1) hr.l, fun d hd => by
      rcases List.mem_cons.mp hd with rfl | hd
      · exact hx
      · exact hr.a d hd⟩)
theorem l_of (h : AvN K dk cl σ F m as m' (AllR R n)) (hn : n ≤ 1000 := by decide) : EvN K dk cl σ F m (tLst as) m' (NL R n) :=
  (n_lst h (by intro ds hd; have := hd.l; omega)).imp (by rintro _ ⟨ds, hd, rfl⟩; exact ⟨ds, rfl, hd⟩)
theorem l_cat (h1 : EvN K dk cl σ F m ta m1 (NL R a)) (h2 : EvN K dk cl σ F m1 tb m2 (NL R b)) (hn : a + b ≤ 1000 := by decide) : EvN K dk cl σ F m (tOp rCat ta tb) m2 (NL R (a + b)) :=
  (n_op (f := catLD) h1 (fun _ _ => h2) (by rintro _ _ ⟨xs, rfl, h, _⟩ ⟨ys, rfl, h', _⟩; exact o_cat (by omega))).imp
    (by
      rintro _ ⟨_, _, ⟨xs, rfl, hx⟩, ⟨ys, rfl, hy⟩, rfl⟩
      exact ⟨_, rfl, by rw [List.length_append, hx.l, hy.l], fun d hd => (List.mem_append.mp hd).elim (hx.a d) (hy.a d)⟩)
theorem l_rep (h1 : EvN K dk cl σ F m ta m1 (NL R 1)) : EvN K dk cl σ F m (tOp rRep ta (tC (.int 6))) m1 (NL R 6) :=
  (n_op (f := repLD 6) h1 (fun _ _ => n_pure (d := .int 6) e_int) (by rintro _ _ ⟨xs, rfl, h, _⟩ rfl; exact o_rep (n := 6) (by omega) (by decide))).imp
    (by
      rintro _ ⟨_, _, ⟨xs, rfl, hx⟩, rfl, rfl⟩
      refine ⟨_, rfl, ?_, fun d hd => ?_⟩
      · rw [List.length_flatten, List.map_replicate, hx.l]; rfl
      · obtain ⟨ys, hy, hd⟩ := List.mem_flatten.mp hd
        rw [List.mem_replicate] at hy
        rw [hy.2] at hd
        exact hx.a d hd)
theorem l_ix {i : Int} (h1 : EvN K dk cl σ F m ta m1 (NL R n)) (h2 : EvE K σ F tj (.int i)) (h0 : 0 ≤ i) (hi : i < n) : EvN K dk cl σ F m (tOp (rIxL K) ta tj) m1 R :=
  (n_op (f := ixLD i) h1 (fun _ _ => n_pure h2) (by
    rintro _ _ ⟨xs, rfl, h⟩ rfl
    obtain ⟨d, hd, hm⟩ := at_some (xs := xs) h0 (by rw [h.l]; exact hi)
    refine o_ixL ?_
    show _ = some ((atI xs i).getD .none)
    rw [hd]; rfl)).imp
    (by
      rintro _ ⟨_, _, ⟨xs, rfl, h⟩, rfl, rfl⟩
      obtain ⟨d, hd, hm⟩ := at_some (xs := xs) h0 (by rw [h.l]; exact hi)
      show R ((atI xs i).getD .none)
      rw [hd]
      exact h.a d hm)
abbrev R3 (d : PyData) : Prop := Sml 300 2 d
abbrev RO (d : PyData) : Prop := okD d = true
theorem i_of {w k : Nat} {d : PyData} (h : EvE K σ F te d) (hs : Sml w k d) (hw : w ≤ 300 := by decide) (hk : k ≤ 2 := by decide) : EvN K dk cl σ F m te m R3 :=
  (n_pure h).imp fun _ e => e ▸ hs.mono hw hk
theorem s_ok (h : EvN K dk cl σ F m te m' (SL n)) (hn : n ≤ 30 := by decide) : EvN K dk cl σ F m te m' RO := h.imp fun _ p => p.ok hn
theorem tpar2_of {PA : List PyData → Prop} {i j : Nat} {u : TS} {D : Ends} {G H : Hp} (h : AvN K dk cl σ F m as m' PA) (e1 : Ex F G) (e2 : Ex G H) (hD : Deck G H dk cl m)
    (q : ∀ x y ds G' H', UpM dk cl G H G' H' → Deck G' H' dk cl m' → PA ds → DaAll K G' [x, y] ds → u D ((σ.set i (some x)).set j (some y)) H')
    (hn : ∀ ds, PA ds → ds.length = 2 := by rintro _ ⟨_, _, _, ⟨_, _, _, rfl, rfl⟩, rfl⟩; rfl) :
    tSeq (tPar i j as) u D σ H := h G H e1 e2 hD _ fun vs ds G1 H1 u1 hD1 hp hd => by
  have hl : vs.length = 2 := by rw [hd.length]; exact hn ds hp
  match vs, hl with
  | [x, y], _ => exact ⟨x, y, rfl, q x y ds G1 H1 u1 hD1 hp hd⟩
/-! a pair of a name and a count -/
def PrE (K : PySem.W.Frag) (σ : L2.St) (F : Hp) (te : TE) : Prop := ∃ s c, (SN 9 s ∧ 0 ≤ c ∧ c ≤ 3) ∧ EvE K σ F te (.tuple [.str s, .int c])
theorem pr_if {tt : TT} {b : Bool} (h : EvT σ F tt b) (h1 : b = true → PrE K σ F ta) (h2 : PrE K σ F tb) : PrE K σ F (tIf tt ta tb) := by
  cases b with
  | true =>
    obtain ⟨s, c, hs, he⟩ := h1 rfl
    exact ⟨s, c, hs, (e_if (y := .none) h (fun _ => he) fun z => by cases z).is rfl⟩
  | false =>
    obtain ⟨s, c, hs, he⟩ := h2
    exact ⟨s, c, hs, (e_if (x := .none) h (fun z => by cases z) fun _ => he).is rfl⟩
theorem pr_go {G H : Hp} {Q : VK} (h : PrE K σ G te) (e : Ex G H)
    (q : ∀ s c v G' H', (SN 9 s ∧ 0 ≤ c ∧ c ≤ 3) → Up G H G' H' → Da K G' v (.tuple [.str s, .int c]) → Q v H') : te σ H Q := by
  obtain ⟨s, c, hs, he⟩ := h
  exact ev_go he e fun v G' H' u d => q s c v G' H' hs u d
end
/-! ### a list that is added to, and the deck beside it -/
structure Lp (K : PySem.W.Frag) (dk cl L : Addr) (R : PyData → Prop) (n : Nat) (ds : List PyData) (G H : Hp) (m : Nat) : Prop where
  e : Ex G H
  d : Deck G H dk cl m
  l : ListAt K L ds G H
  n1 : L ≠ dk
  n2 : L ≠ cl
  len : ds.length = n
  all : ∀ d ∈ ds, R d
section
variable {dk cl L : Addr} {σ : L2.St} {F : Hp} {m m1 m2 m' n a b : Nat} {te ta tb tj : TE} {as : TA} {R : PyData → Prop} {ds : List PyData} {G H G1 H1 : Hp}
theorem Lp.up (I : Lp K dk cl L R n ds G H m) (u : UpM dk cl G H G1 H1) (hD : Deck G1 H1 dk cl m') : Lp K dk cl L R n ds G1 H1 m' :=
  ⟨u.h, hD, I.l.upM I.n1 I.n2 u, I.n1, I.n2, I.len, I.all⟩
theorem Lp.upP (I : Lp K dk cl L R n ds G H m) (u : Up G H G1 H1) : Lp K dk cl L R n ds G1 H1 m := I.up u.toM (I.d.up u)
theorem Lp.put {acc : List V} {v : V} {d : PyData} (I : Lp K dk cl L R n ds G H m) (h1 : H L = some (.lst acc)) (h2 : DaAll K G acc ds) (hv : Da K G v d) (hr : R d) :
    Lp K dk cl L R (n + 1) (ds ++ [d]) G (upd H L (.lst (acc ++ [v]))) m :=
  ⟨fun b o e => by rw [upd_ne (ne_of_none e I.l.gl)]; exact I.e b o e, I.d.put I.n1 I.n2, I.l.put h1 h2 hv, I.n1, I.n2, by rw [List.length_append, I.len]; rfl, fun x hx => by
    rcases List.mem_append.mp hx with h | h
    · exact I.all x h
    · rcases List.mem_cons.mp h with rfl | h
      · exact hr
      · cases h⟩
theorem do_append {i : Nat} {D : Ends} (hv : σ[i]? = some (some (.ref L))) (I : Lp K dk cl L R n ds G H m) (h : EvN K dk cl σ G m te m' R) (hn : n ≤ 100000)
    (q : ∀ ds' G' H', Ex G G' → Lp K dk cl L R (n + 1) ds' G' H' m' → D.nx σ H') : tDrop (tBM K "list" rAppend (tVar i) (tCons te tNil)) D σ H := by
  obtain ⟨acc, ea, _⟩ := I.l.ex
  refine ⟨.ref L, hv, .inl ⟨rfl, acc, SqL.of ea⟩, h G H (Ex.rf _) I.e I.d _ fun v d G1 H1 u1 hD1 p dv => ?_⟩
  have I1 := I.up u1 hD1
  obtain ⟨acc1, ea1, da1⟩ := I1.l.ex
  refine ⟨L, acc1, v, rfl, rfl, ea1, ?_, q _ G1 _ u1.g (I1.put ea1 da1 dv p)⟩
  rw [da1.length, I.len]
  exact Nat.lt_of_le_of_lt hn (by decide)
theorem st_append {i : Nat} {u : TS} {D : Ends} (hv : σ[i]? = some (some (.ref L))) (I : Lp K dk cl L R n ds G H m) (h : EvN K dk cl σ G m te m' R) (hn : n ≤ 100000)
    (q : ∀ ds' G' H', Ex G G' → Lp K dk cl L R (n + 1) ds' G' H' m' → u D σ H') : tSeq (tDrop (tBM K "list" rAppend (tVar i) (tCons te tNil))) u D σ H :=
  do_append (D := { D with nx := u D }) hv I h hn q
/-- some = some + [..], the new list kept apart -/
theorem st_catL {i : Nat} {u : TS} {D : Ends} (h1 : EvN K dk cl σ G m ta m1 (NL R a)) (h2 : EvN K dk cl σ G m1 tb m2 (NL R b)) (e : Ex G H) (hD : Deck G H dk cl m) (hn : a + b ≤ 1000)
    (q : ∀ L ds G' H', Ex G G' → Lp K dk cl L R (a + b) ds G' H' m2 → u D (σ.set i (some (.ref L))) H') : tSeq (tAsg (tOp rCat ta tb) (gName i)) u D σ H := by
  refine h1 G H (Ex.rf _) e hD _ fun v d1 G1 H1 u1 hD1 p1 x1 => h2 G1 H1 u1.g u1.h hD1 _ fun w d2 G2 H2 u2 hD2 p2 x2 => ?_
  obtain ⟨l1, rfl, p1⟩ := p1
  obtain ⟨l2, rfl, p2⟩ := p2
  cases x1 with | lst k1 a1 => ?_
  cases x2 with | lst k2 a2 => ?_
  have k1' := u2.h _ _ (u2.g _ _ k1)
  refine ⟨_, _, _, _, rfl, rfl, k1', u2.h _ _ k2, ?_, fun L hL => ?_⟩
  · rw [a1.length, a2.length, p1.l, p2.l]
    exact Nat.le_trans hn (by decide)
  · refine q L (l1 ++ l2) G2 _ (u1.g.tr u2.g) ⟨u2.h.tr (Ex.up hL), hD2.up (?_ : Up G2 H2 G2 _), ⟨u2.h.fresh hL, _, upd_same, (a1.mono u2.g).append a2⟩, fun z => hD2.dn (by rw [← z]; exact hL), fun z => hD2.cn (by rw [← z]; exact hL), ?_, ?_⟩
    · exact ⟨Ex.rf _, u2.h.tr (Ex.up hL), Ex.up hL, fun _ _ h => h⟩
    · rw [List.length_append, p1.l, p2.l]
    · exact fun d hd => (List.mem_append.mp hd).elim (p1.a d) (p2.a d)
theorem st_guard {tt : TT} {t u : TS} {D : Ends} (h : EvT σ G tt false) (e : Ex G H) (q : ∀ G' H', Up G H G' H' → u D σ H') : tSeq (tIfS tt t tNext) u D σ H :=
  h G H (Ex.rf _) e _ fun G1 H1 u1 => iteF (q G1 H1 u1)
theorem e_dnew : EvE K σ F tDNewK (.dict []) := fun G H _ e2 Q q => fun p hp => q _ _ _ (Up.new e2 hp _) (.dic upd_same .nil)
theorem i_ok {d : PyData} (h : EvE K σ F te d) (hs : okD d = true := by decide +kernel) : EvN K dk cl σ F m te m RO := (n_pure h).imp fun _ e => e ▸ hs
/-- no item fails: [x for x in xs if not right(x)] is empty -/
theorem e_none {wi : TI} {i : Nat} {E : XK} (hi : EvI K σ F wi ds) (hok : ∀ d ∈ ds, okD d = true) (hz : ds.length ≤ 100000) (hw : decide (i < σ.length) = true := by rfl) :
    EvE K σ F (tLc wi (gName i) (tNot (tB (tCall (spP K 1 (fun ds => ds.all okD = true) fun _ => .bool true) [] E (tCons (tVar i) tNil)))) (tVar i) [i]) (.list []) :=
  (e_lc1f (p := fun _ => false) (f := fun d => d) hi hz fun d hd F' v _ dv =>
    ⟨(t_not (t_val (b := true) (e_call (a_cons (e_var (by rw [List.getElem?_set_self (by rw [wipe_length]; exact of_decide_eq_true hw)]) dv) a_nil) rfl (by simpa using hok d hd)))).is rfl, fun z => by cases z⟩).is
    (by rw [List.filter_eq_nil_iff.mpr (fun _ _ z => by cases z)]; rfl)
/-- for x, y in a tuple of pairs, with a list and the deck beside it -/
theorem n_right {E : XK} (h : EvN K dk cl σ F m te m' (fun d => okD d = true)) :
    EvN K dk cl σ F m (tCall (spP K 1 (fun ds => ds.all okD = true) fun _ => .bool true) [] E (tCons te tNil)) m' (fun d => d = .bool true) :=
  (n_call (an_cons h fun _ _ => an_nil) (by rintro _ ⟨_, _, _, rfl, rfl⟩; rfl) (by rintro _ ⟨x, _, hx, rfl, rfl⟩; simpa using hx)).imp (by rintro _ ⟨_, _, rfl⟩; rfl)
/-- if not a or not b: .., where both hold -/
theorem do_guard2 {t : TS} {D : Ends} (h1 : EvN K dk cl σ G m ta m1 (fun d => d = .bool true)) (h2 : ∀ G', Ex G G' → EvN K dk cl σ G' m1 tb m2 (fun d => d = .bool true)) (e : Ex G H) (hD : Deck G H dk cl m)
    (q : ∀ G' H', UpM dk cl G H G' H' → Deck G' H' dk cl m2 → D.nx σ H') : tIfS (tOr (tNot (tB ta)) (tNot (tB tb))) t tNext D σ H := by
  refine h1 G H (Ex.rf _) e hD _ fun v d G1 H1 u1 hD1 p1 x1 => ?_
  subst p1
  cases x1
  refine ⟨true, rfl, iteF (h2 G1 u1.g G1 H1 (Ex.rf _) u1.h hD1 _ fun v d G2 H2 u2 hD2 p2 x2 => ?_)⟩
  subst p2
  cases x2
  exact ⟨true, rfl, iteF (q G2 H2 (u1.tr u2) hD2)⟩
end
section
variable {dk cl L : Addr} {m n : Nat} {ds : List PyData}
def addSD : PyData → PyData → PyData
  | .str a, .str b => .str (a ++ b)
  | _, _ => .none
theorem five_ok : ∀ d ∈ ([.str "", .str "a", .str "A", .str " ", .str "aaaaa"] : List PyData), ∃ t, d = .str t ∧ SN 5 t :=
  List.forall_mem_cons.mpr ⟨⟨_, rfl, SN.of (by decide +kernel)⟩, List.forall_mem_cons.mpr ⟨⟨_, rfl, SN.of (by decide +kernel)⟩, List.forall_mem_cons.mpr ⟨⟨_, rfl, SN.of (by decide +kernel)⟩,
    List.forall_mem_cons.mpr ⟨⟨_, rfl, SN.of (by decide +kernel)⟩, List.forall_mem_cons.mpr ⟨⟨_, rfl, SN.of (by decide +kernel)⟩, fun _ h => by cases h⟩⟩⟩⟩⟩
theorem Lp.cast {L : Addr} {R : PyData → Prop} {n' m' : Nat} {G H : Hp} (I : Lp K dk cl L R n ds G H m) (hn : n = n') (hm : m ≤ m') : Lp K dk cl L R n' ds G H m' :=
  ⟨I.e, I.d.mono hm, I.l, I.n1, I.n2, hn ▸ I.len, I.all⟩
end
end
end KD
set_option Elab.async false
set_option linter.all false
set_option maxRecDepth 100000
set_option maxHeartbeats 1000000
namespace KD
open PySem PySem.Spec PyProof.Rows L2
/-! ### loops that may return -/
/-- t returns z (some z) or goes on (none); but for vs the state is kept -/
def BodE (K : PySem.W.Frag) (σ : L2.St) (F : Hp) (vs : List Nat) (t : TS) (o : Option PyData) : Prop :=
  ∀ G H, Ex F G → Ex G H → ∀ D : Ends, (∀ z, o = some z → ∀ v G' H', Up G H G' H' → Da K G' v z → D.rt v H') →
    (o = none → ∀ σ' G' H', wipe σ' vs = wipe σ vs → Up G H G' H' → D.nx σ' H') → t D σ H
section
variable {K : PySem.W.Frag} {σ : L2.St} {F : Hp} {vs : List Nat} {t u tb : TS} {o o2 : Option PyData} {y z : PyData} {tt : TT} {te : TE} {b : Bool}
theorem BodE.is {o' : Option PyData} (h : BodE K σ F vs t o) (e : o = o') : BodE K σ F vs t o' := e ▸ h
theorem b_guard (h : EvT σ F tt b) (h1 : b = true → EvE K σ F te z) : BodE K σ F vs (tIfS tt (tRet te) tNext) (bif b then some z else none) :=
  fun G H e1 e2 D q1 q2 => h G H e1 e2 _ fun G1 H1 u1 => by
    cases b with
    | true => exact iteT (h1 rfl G1 H1 (e1.tr u1.g) u1.h _ fun w G2 H2 u2 d2 => q1 z rfl w G2 H2 (u1.tr u2) d2)
    | false => exact iteF (q2 rfl σ G1 H1 rfl u1)
theorem b_seq (h1 : BodE K σ F vs t o) (h2 : o = none → ∀ σ' F', wipe σ' vs = wipe σ vs → Ex F F' → BodE K σ' F' vs u o2) :
    BodE K σ F vs (tSeq t u) (o.or o2) :=
  fun G H e1 e2 D q1 q2 => h1 G H e1 e2 _ (fun z hz v G1 H1 u1 d1 => q1 z (by rw [hz, Option.some_or]) v G1 H1 u1 d1) fun hn σ1 G1 H1 hw u1 =>
    h2 hn σ1 G1 hw (e1.tr u1.g) G1 H1 (Ex.rf _) u1.h D (fun z hz v G2 H2 u2 d2 => q1 z (by rw [hn, Option.none_or]; exact hz) v G2 H2 (u1.tr u2) d2)
      fun hz σ2 G2 H2 hw2 u2 => q2 (by rw [hn, Option.none_or]; exact hz) σ2 G2 H2 (hw2.trans hw) (u1.tr u2)
theorem r_body (h : BodE K σ F vs t o) (hu : o = none → ∀ σ' F', wipe σ' vs = wipe σ vs → Ex F F' → RetE K σ' F' u y) : RetE K σ F (tSeq t u) (o.getD y) :=
  fun G H e1 e2 D q => h G H e1 e2 _ (fun z hz v G1 H1 u1 d1 => q v G1 H1 u1 (by rw [hz]; exact d1)) fun hn σ1 G1 H1 hw u1 =>
    hu hn σ1 G1 hw (e1.tr u1.g) G1 H1 (Ex.rf _) u1.h D fun w G2 H2 u2 d2 => q w G2 H2 (u1.tr u2) (by rw [hn]; exact d2)
theorem b_for {wi : TI} {g : TG} {ds : List PyData} {p : PyData → Bool} (hi : EvI K σ F wi ds)
    (ht : ∀ d ∈ ds, ∀ σ0, wipe σ0 vs = wipe σ vs → ∃ P, Tg K g σ0 d P ∧ ∀ F' σ', Ex F F' → P F' σ' →
      wipe σ' vs = wipe σ vs ∧ BodE K σ' F' vs tb (bif p d then none else some z)) :
    BodE K σ F vs (tFor wi g tb) (bif ds.all p then none else some z) := fun G H e1 e2 D q1 q2 => hi G H e1 e2 _ fun J G1 H1 u1 wk => by
  refine ⟨fun i m σ' H' => m = ds.length - i ∧ i ≤ ds.length ∧ wipe σ' vs = wipe σ vs ∧ (ds.take i).all p = true ∧ ∃ G', Up G1 H1 G' H',
    ⟨_, rfl, Nat.zero_le _, rfl, rfl, G1, Up.rf u1.h⟩, ?_⟩
  rintro i m σ' H' ⟨rfl, hi', hw, hp, G', u'⟩
  obtain ⟨w1, w2⟩ := wk i G' H' u'.g u'.h
  by_cases hlt : i < ds.length
  · obtain ⟨hgo, hy⟩ := w1 _ (List.getElem?_eq_getElem hlt)
    have hm : ds[i] ∈ ds := List.getElem_mem hlt
    have tk : (ds.take (i + 1)) = ds.take i ++ [ds[i]] := by rw [List.take_add_one, List.getElem?_eq_getElem hlt]; rfl
    refine .inr ⟨hgo, fun σ2 H2 => wipe σ2 vs = wipe σ vs ∧ (ds.take (i + 1)).all p = true ∧ ∃ G2, Up G1 H1 G2 H2, ?_, ?_⟩
    · rintro σ2 H2 ⟨a, b, c⟩
      exact ⟨ds.length - (i + 1), by omega, rfl, hlt, a, b, c⟩
    · intro x H3 hyl
      obtain ⟨G3, u3, dx⟩ := hy x H3 hyl
      obtain ⟨P, tg, body⟩ := ht _ hm σ' hw
      refine tg G3 H3 x u3.h dx _ fun σ2 hP => ?_
      have e3 := (e1.tr u1.g).tr (u'.g.tr u3.g)
      obtain ⟨hw2, hb⟩ := body G3 σ2 e3 hP
      refine hb G3 H3 (Ex.rf _) u3.h _ (fun z' hz v G4 H4 u4 d4 => ?_) fun hn σ4 G4 H4 hw4 u4 => ⟨hw4.trans hw2, ?_, G4, (u'.tr u3).tr u4⟩
      · have hpf : p ds[i] = false := by
          cases e : p ds[i] with
          | true => rw [e] at hz; cases hz
          | false => rfl
        rw [hpf] at hz
        refine q1 z' ?_ v G4 H4 ((u1.tr (u'.tr u3)).tr u4) d4
        have : ds.all p = false := by
          rw [List.all_eq_false]
          exact ⟨_, hm, by rw [hpf]; simp⟩
        rw [this]; exact hz
      · have hpt : p ds[i] = true := by
          cases e : p ds[i] with
          | true => rfl
          | false => rw [e] at hn; cases hn
        rw [tk, List.all_append, hp]
        simp [hpt]
  · have hle : ds.length ≤ i := by omega
    refine .inl ⟨w2 (by omega), q2 ?_ σ' G' H' hw (u1.tr u')⟩
    rw [List.take_of_length_le hle] at hp
    rw [hp]; rfl
theorem set_none_get {σ : L2.St} {i k : Nat} (h : k ≠ i) : (σ.set i none)[k]? = σ[k]? := by
  rw [List.getElem?_set_ne (fun e => h e.symm)]
theorem wipe_get {k : Nat} : ∀ {vs : List Nat} {σ : L2.St}, k ∉ vs → (wipe σ vs)[k]? = σ[k]?
  | [], _, _ => rfl
  | v :: vs, σ, h => by
    show ((wipe σ vs).set v none)[k]? = _
    rw [set_none_get (fun e => h (by rw [e]; exact List.mem_cons_self))]
    exact wipe_get fun e => h (List.mem_cons_of_mem _ e)
theorem get_of_wipe {σ σ' : L2.St} {k : Nat} (h : wipe σ' vs = wipe σ vs) (hk : k ∉ vs) : σ'[k]? = σ[k]? := by
  rw [← wipe_get hk (σ := σ'), h, wipe_get hk]
end
/-! ### dicts by their keys -/
section
variable {K : PySem.W.Frag} {σ : L2.St} {F : Hp} {td ty te : TE}
def getKv : List (PyData × PyData) → Str → Option PyData
  | [], _ => none
  | (.str t, v) :: r, s => if t = s then some v else getKv r s
  | _ :: r, s => getKv r s
theorem getKv_of {G : Hp} {s : Str} : ∀ {kvs : List (Key × V)} {ds : List (PyData × PyData)}, DaKv K G kvs ds →
    (getKv ds s = none ∧ valV kvs (.inr s) = none) ∨ ∃ d v, getKv ds s = some d ∧ valV kvs (.inr s) = some v ∧ Da K G v d
  | _, [], h => by cases h; exact .inl ⟨rfl, rfl⟩
  | _, _ :: ds, h => by
    cases h with
    | cons hd hr =>
      rename_i k v vs d
      cases k with
      | inl i =>
        have := getKv_of (s := s) hr
        rw [valV_neg (by simp)]
        exact this
      | inr t =>
        by_cases e : t = s
        · subst e
          exact .inr ⟨d, v, by simp [getKv, keyD], valV_pos rfl, hd⟩
        · rw [valV_neg (by simpa using e)]
          simp only [getKv, keyD, if_neg e]
          exact getKv_of hr
theorem e_dget {kvs : List (PyData × PyData)} {s : Str} {d : PyData} (h1 : EvE K σ F td (.dict kvs)) (h2 : EvE K σ F ty (.str s)) (hg : getKv kvs s = some d) : EvE K σ F (tDGet td ty) d :=
  fun G H e1 e2 Q q => h1 G H e1 e2 _ fun v G1 H1 u1 d1 => h2 G1 H1 (e1.tr u1.g) u1.h _ fun w G2 H2 u2 d2 => by
    cases d2
    cases d1 with
    | dic ha hk =>
      rcases getKv_of (s := s) hk with ⟨n1, _⟩ | ⟨d', v', g1, g2, dv⟩
      · rw [n1] at hg; cases hg
      · rw [g1] at hg; cases hg
        have e := DGet.k (k := .inr s) (u2.h _ _ (u2.g _ _ ha))
        rw [g2] at e
        exact ⟨_, v', rfl, e, q v' G2 H2 (u1.tr u2) (dv.mono u2.g)⟩
theorem e_dnotin {kvs : List (PyData × PyData)} {s : Str} (h1 : EvE K σ F ty (.str s)) (h2 : EvE K σ F td (.dict kvs)) : EvE K σ F (tDNotIn ty td) (.bool (!(getKv kvs s).isSome)) :=
  fun G H e1 e2 Q q => h1 G H e1 e2 _ fun w G1 H1 u1 d1 => h2 G1 H1 (e1.tr u1.g) u1.h _ fun v G2 H2 u2 d2 => by
    cases d1
    cases d2 with
    | dic ha hk =>
      refine ⟨_, _, rfl, DGet.k (k := .inr s) (u2.h _ _ ha), q _ G2 H2 (u1.tr u2) ?_⟩
      rcases getKv_of (s := s) hk with ⟨n1, n2⟩ | ⟨d', v', g1, g2, dv⟩
      · rw [n1, n2]; exact .bl _
      · rw [g1, g2]; exact .bl _
end
end KD
set_option Elab.async false
set_option linter.all false
set_option maxRecDepth 100000
set_option maxHeartbeats 1000000
namespace KD
open PySem PySem.Spec PyProof.Rows L2
/-! ### it == () -/
def rEqT0 (K : PySem.W.Frag) : R2 := fun x y H Q => ∃ d, Da K H x (.tuple d) ∧ Da K H y (.tuple []) ∧ Q (.bl d.isEmpty) H
theorem op_eqT0 {X : Cx} (hu : X.A.units + 64 < cLine) : OpR X (compareOp .Eq) (rEqT0 X.K) := by
  intro pins s σ H x y v u Q I rx ry h
  obtain ⟨d, hd, he, q⟩ := h
  cases hd with
  | tup h1 a1 => cases he with
    | tup h2 a2 =>
      cases rx; cases ry
      cases a2
      obtain ⟨_, its, rv, ho⟩ := I.hok _ _ h1
      obtain ⟨_, its2, rv2, ho2⟩ := I.hok _ _ h2
      have e1 := rv.length; have e2 := rv2.length; have e3 := a1.length
      have z2 : its2 = [] := List.length_eq_zero_iff.mp (by simpa using e2.symm)
      subst z2
      refine SeqAt.eq_tupleAt (e := fun _ => true) ho ho2 (by omega) (fun j j1 j2 => by simp at j2) ⟨.bl _, H, I, rfl, ?_⟩
      have : ((List.range (min its.toArray.size ([] : List Value).toArray.size)).all (fun _ => true) && its.toArray.size == ([] : List Value).toArray.size) = d.isEmpty := by
        have hz : its.length = d.length := by omega
        clear e1 e2 e3 a1 q
        cases d with
        | nil =>
          have : its = [] := List.length_eq_zero_iff.mp hz
          subst this; rfl
        | cons y r =>
          cases its with
          | nil => cases hz
          | cons a b => simp
      rw [this]; exact q
theorem op_eqT0K (K : PySem.W.Frag) {X : Cx} (hu : X.A.units + 64 < cLine) (h : X.K = K := by rfl) : OpR X (compareOp .Eq) (rEqT0 K) := h ▸ op_eqT0 hu
theorem o_eqT0 {K : PySem.W.Frag} {xs : List PyData} : OpD K (rEqT0 K) (.tuple xs) (.tuple []) (.bool xs.isEmpty) := fun G H v u e d1 d2 Q q => by
  exact ⟨xs, d1.mono e, d2.mono e, q _ G H (Up.rf e) (.bl _)⟩
/-! ### more of loops that return -/
section
variable {K : PySem.W.Frag} {σ σ0 : L2.St} {F : Hp} {vs : List Nat} {t u tb : TS} {o o2 : Option PyData} {y z : PyData} {tt : TT} {te : TE} {b : Bool}
theorem b_gseq (h : EvT σ F tt b) (h1 : b = true → EvE K σ F te z) (h2 : b = false → ∀ F', Ex F F' → BodE K σ F' vs u o2) :
    BodE K σ F vs (tSeq (tIfS tt (tRet te) tNext) u) (bif b then some z else o2) :=
  fun G H e1 e2 D q1 q2 => h G H e1 e2 _ fun G1 H1 u1 => by
    cases b with
    | true => exact iteT (h1 rfl G1 H1 (e1.tr u1.g) u1.h _ fun w G2 H2 u2 d2 => q1 z rfl w G2 H2 (u1.tr u2) d2)
    | false =>
      exact iteF (h2 rfl G1 (e1.tr u1.g) G1 H1 (Ex.rf _) u1.h D (fun z hz v G2 H2 u2 d2 => q1 z hz v G2 H2 (u1.tr u2) d2)
        fun hz σ2 G2 H2 hw2 u2 => q2 hz σ2 G2 H2 hw2 (u1.tr u2))
theorem b_more {i : Nat} (h : BodE K σ F vs t o) : BodE K σ F (i :: vs) t o := fun G H e1 e2 D q1 q2 =>
  h G H e1 e2 D q1 fun hn σ' G' H' hw u => q2 hn σ' G' H' (congrArg (fun s : L2.St => s.set i none) hw) u
theorem wipe_at {k : Nat} : ∀ {vs : List Nat} {σ : L2.St}, (wipe σ vs)[k]? = if k ∈ vs then (σ[k]?).map (fun _ => none) else σ[k]?
  | [], σ => by simp [wipe]
  | v :: vs, σ => by
    show ((wipe σ vs).set v none)[k]? = _
    by_cases e : k = v
    · subst e
      rw [if_pos List.mem_cons_self]
      by_cases hl : k < σ.length
      · rw [List.getElem?_set_self (by rw [wipe_length]; exact hl), List.getElem?_eq_getElem hl]; rfl
      · have h1 : σ[k]? = none := List.getElem?_eq_none (by omega)
        rw [h1, List.getElem?_eq_none (by rw [List.length_set, wipe_length]; omega)]; rfl
    · rw [set_none_get e, wipe_at]
      by_cases hm : k ∈ vs
      · rw [if_pos hm, if_pos (List.mem_cons_of_mem _ hm)]
      · rw [if_neg hm, if_neg (by simp [e, hm])]
theorem wipe_set {i : Nat} {x : Option V} (h : i ∈ vs) : wipe (σ.set i x) vs = wipe σ vs := by
  apply List.ext_getElem?
  intro k
  rw [wipe_at, wipe_at]
  by_cases e : k = i
  · subst e
    rw [if_pos h, if_pos h]
    by_cases hl : k < σ.length
    · rw [List.getElem?_set_self hl, List.getElem?_eq_getElem hl]; rfl
    · rw [List.getElem?_eq_none (by rw [List.length_set]; omega), List.getElem?_eq_none (by omega)]
  · rw [List.getElem?_set_ne (fun z => e z.symm)]
theorem len_of_wipe (h : wipe σ0 vs = wipe σ vs) : σ0.length = σ.length := by
  rw [← wipe_length σ0 vs, h, wipe_length]
theorem get_set {i : Nat} (hi : i < σ.length) {v : Option V} : (σ.set i v)[i]? = some v := List.getElem?_set_self hi
theorem get_other {i k : Nat} {v : Option V} {r : Option (Option V)} (hk : k ≠ i) (h : σ[k]? = r) : (σ.set i v)[k]? = r := by
  rw [List.getElem?_set_ne (fun e => hk e.symm)]; exact h
end
/-! ### f(b = .., a = ..): two parameters by name, the second one first -/
def kwR {α : Type} : List α → List α → List α
  | [], [b, a] => [a, b]
  | _, _ => []
theorem kb_swap {K : PySem.W.Frag} {fd : FuncData} {p q : Str} (h : ∀ a b : Value, bindArgs fd ⟨[], [(q, b), (p, a)]⟩ = pure [(p, a), (q, b)]) : KBinds K fd [p, q] [q, p] kwR kwR := by
  refine ⟨fun s us ws _ hl => ?_, fun {vs us zs ws} r1 r2 => ?_⟩
  · match us, ws, hl with
    | [], [b, a], _ => exact .of_eq (h a b)
    | [], [], hl => exact absurd hl (by simp [kwR])
    | [], [_], hl => exact absurd hl (by simp [kwR])
    | [], _ :: _ :: _ :: _, hl => exact absurd hl (by simp [kwR])
    | _ :: _, _, hl => exact absurd hl (by simp [kwR])
  · cases r1 with
    | nil =>
      cases r2 with
      | nil => exact .nil
      | cons h1 r2 => cases r2 with
        | nil => exact .nil
        | cons h2 r2 => cases r2 with
          | nil => exact .cons h2 (.cons h1 .nil)
          | cons h3 r2 => exact .nil
    | cons _ _ => exact .nil
theorem e_kwR {K : PySem.W.Frag} {σ : L2.St} {F : Hp} {as : TA} {d1 d2 : PyData} {pre : List PyData → Prop} {fn : List PyData → PyData} {E : XK} (h : EvA K σ F as [d2, d1]) (hp : pre [d1, d2]) :
    EvE K σ F (tCallK (spP K 2 pre fn) kwR E tNil as) (fn [d1, d2]) := fun G H e1 e2 Q q => h G H e1 e2 _ fun vs G1 H1 u1 da => by
  cases da with | cons a2 da => ?_
  cases da with | cons a1 da => ?_
  cases da
  exact ⟨rfl, G1, _, u1.h, .cons a1 (.cons a2 .nil), hp, fun v G2 H2 u2 d2 => q v G2 H2 (u1.tr u2) d2⟩
end KD
set_option Elab.async false
set_option linter.all false
set_option maxRecDepth 100000
set_option maxHeartbeats 1000000
namespace KD
open PySem PySem.Spec PyProof.Rows L2
/-! ### a pick from a list or a tuple -/
def rIxS2 (K : PySem.W.Frag) : R2 := fun x y H Q => rIxL K x y H Q ∨ rIxT K x y H Q
theorem ix_s2K (K : PySem.W.Frag) {X : Cx} (h : X.K = K := by rfl) : IxR X (rIxS2 K) := by
  intro value slice pins s σ H x y v u Q I rx ry q e
  rcases q with q | q
  · exact ix_listK K h value slice pins s σ H x y v u Q I rx ry q e
  · exact ix_tupK K h value slice pins s σ H x y v u Q I rx ry q e
def spPickS (K : PySem.W.Frag) : Sp := fun vs H Q _ => vs.length = 2 ∧ ∃ (dk cl a : Addr) (d0 : PyData) (ds : List PyData) (G : Hp) (m : Nat), vs = [.ref dk, .ref a] ∧ Ex G H ∧ Deck G H dk cl m ∧ m ≤ 1000000000 ∧
  (d0 = .list ds ∨ d0 = .tuple ds) ∧ Da K G (.ref a) d0 ∧ 0 < ds.length ∧ ds.length < 100000 ∧ ∀ (v : V) (d : PyData) (H' : Hp), d ∈ ds → Da K G v d → UpM dk cl G H G H' → Deck G H' dk cl (m + 1) → Q v H'
abbrev tsPickS (K : PySem.W.Frag) (E : XK) : TS := tRet (tOp (rIxS2 K) (tVar 1) (tCall spDraw [] E (tCons (tVar 0) (tCons (tCB (rLenQ K) (tCons (tVar 1) tNil)) tNil))))
theorem pickS_read {K : PySem.W.Frag} {E E0 : XK} {vs : List V} {H : Hp} {Q : VK} (h : spPickS K vs H Q E0) : tsPickS K E { nx := fun _ H' => Q .non H', rt := Q } (vs.map some) H := by
  obtain ⟨_, dk, cl, a, d0, ds, G, m, rfl, eg, hD, hm, hd0, hda, h0, h1, q⟩ := h
  show tsPickS K E _ [some (.ref dk), some (.ref a)] H
  obtain ⟨xs, ax, hs, hx2⟩ : ∃ xs, DaAll K G xs ds ∧ (∀ H', Ex G H' → SqL K H' a xs ∨ SqT K H' a xs) ∧ True := by
    rcases hd0 with rfl | rfl
    · cases hda with | lst h1 h2 => exact ⟨_, h2, fun H' e => .inl (SqL.of (e _ _ h1)), trivial⟩
    · cases hda with | tup h1 h2 => exact ⟨_, h2, fun H' e => .inr (SqT.of (e _ _ h1)), trivial⟩
  have hl := ax.length
  refine ⟨.ref a, rfl, .ref dk, rfl, .ref a, rfl, a, xs, rfl, hs H eg, rfl, dk, cl, xs.length, G, m, rfl, eg, hD, hm, by omega, by omega, fun i H' i0 i1 u hD' => ?_⟩
  have hx : i.toNat < xs.length := by omega
  obtain ⟨d, hd, dd⟩ := ax.get (List.getElem?_eq_getElem hx)
  have e := atI_nat (List.getElem?_eq_getElem hx)
  rw [Int.toNat_of_nonneg i0] at e
  have fin := q _ d H' (List.mem_of_getElem? hd) dd u hD'
  rcases hs H' u.h with z | z
  · exact .inl ⟨a, xs, i, xs[i.toNat], rfl, rfl, z, e, fin⟩
  · exact .inr ⟨a, xs, i, xs[i.toNat], rfl, rfl, z, e, fin⟩
theorem n_pickS {K : PySem.W.Frag} {dk cl : Addr} {σ : L2.St} {F : Hp} {m : Nat} {te : TE} {i0 : Nat} {E : XK} {d0 : PyData} {ds : List PyData} (hs : σ[i0]? = some (some (.ref dk))) (hl : EvE K σ F te d0) (hd : d0 = .list ds ∨ d0 = .tuple ds)
    (h0 : 0 < ds.length) (h1 : ds.length < 100000) (hm : m ≤ 1000000000) : EvN K dk cl σ F m (tCall (spPickS K) [] E (tCons (tVar i0) (tCons te tNil))) (m + 1) (fun d => d ∈ ds) := fun G H e1 e2 hD Q q => by
  refine ⟨.ref dk, hs, hl G H e1 e2 _ fun v G1 H1 u1 d1 => ?_⟩
  obtain ⟨a, rfl⟩ : ∃ a, v = .ref a := by
    rcases hd with rfl | rfl
    · cases d1 with | lst h _ => exact ⟨_, rfl⟩
    · cases d1 with | tup h _ => exact ⟨_, rfl⟩
  refine ⟨rfl, dk, cl, a, d0, ds, G1, m, rfl, u1.h, hD.up u1, hm, hd, d1, h0, h1, fun v d H' hd dv u hD' => ?_⟩
  exact q v d G1 H' (u1.toM.tr u) hD' hd dv
end KD
set_option Elab.async false
set_option linter.all false
set_option maxRecDepth 100000
set_option maxHeartbeats 4000000
namespace KD
open PySem PySem.Spec PyProof.Rows L2
/-! ### a tuple once: the tuple itself -/
theorem tuple_mul1 (l : Addr) (items : Array Value) (n : Nat) (dd : Option Addr) (sl : Array (Option Value)) (u : Tok) :
    Meets (Builtin.«tuple.__mul__» ⟨[.ref l, .int 1 u], []⟩) (fun _ R s => s.heap.get? l = some { cls := .type "tuple", dict := dd, data := .seq items n, slots := sl } ∧ R (.ok (.ret (Value.ref l))) s) :=
  .of_wp fun prog w A R s h => by
    rcases s with ⟨mem, gens, drawn, toks, sys⟩
    rcases h with ⟨hl, h⟩
    have whole := AutoSeq1.idx_int
    have c0 : (decide ((1 : Int) < -(2 ^ 63)) || decide ((1 : Int) ≥ 2 ^ 63)) = false := by decide
    have c1 : (items.isEmpty || (1 : Int) == 1) = true := by simp
    wp_walk using wpAny_loadPart' hl
    have d0 := decide_eq_false (show ¬ _ = true from Bool.eq_false_iff.mp c0)
    have d1 := decide_eq_true c1
    iterate 2
      try first
        | refine wpAny_ite_false d0 ?_
        | refine wpAny_ite_true d1 ?_
      try wp_walk using wpAny_loadPart' hl
    exact ⟨_, rfl, h⟩
def rRepT1 (K : PySem.W.Frag) : R2 := fun x y H Q => ∃ l xs, x = .ref l ∧ y = .int 1 ∧ SqT K H l xs ∧ Q (.ref l) H
theorem op_repT1 {X : Cx} : OpR X (binaryOp .Mult) (rRepT1 X.K) := by
  rintro pins s σ H x y v u Q I rx ry ⟨l, xs, rfl, rfl, hT, q⟩
  cases rx
  obtain ⟨t, rfl⟩ := ry
  rcases I.tuple hT with ⟨its, r, ⟨⟨cls, dd, data, sl⟩, ho, kind, n, cells⟩, hs⟩
  obtain rfl : cls = _ := kind
  obtain rfl : data = _ := cells
  refine wpAny_binaryOp_repeat_ref (T := "tuple") (U := "int") (by decide) ⟨_, ho, rfl⟩ (fun s' => typeIs_int s' 1 t) noFill_tuple_mul F.fills_int_mul F.slot_int_rmul repeat_tuple F.slot_int_index.lookup
    (call_meets F.slot_int_rmul (typeIs_int s 1 t) F.entry_int_rmul (F.args_int_rmul_2 _ _) (int_rmul_tuple 1 t l its.toArray n dd sl)
      ⟨ho, rfl, ⟨_, ho, rfl⟩, call_meets F.slot_tuple_mul ⟨_, ho, rfl⟩ F.entry_tuple_mul (F.args_tuple_mul_2 _ _) (tuple_mul1 l its.toArray n dd sl t) ⟨ho, ?_⟩⟩)
  exact ⟨.ref l, H, I, rfl, q⟩
/-- a tuple that is not empty, one time and more -/
def rRepQ (K : PySem.W.Frag) : R2 := fun x y H Q => rRepT1 K x y H Q ∨ rRepT K x y H Q
theorem op_repQ (K : PySem.W.Frag) {X : Cx} (h : X.K = K := by rfl) : OpR X (binaryOp .Mult) (rRepQ K) := h ▸ OpR.or op_repT1 op_repT
theorem o_repT {K : PySem.W.Frag} {xs : List PyData} {k : Int} (hx : xs ≠ []) (h1 : 1 ≤ k) (h2 : k ≤ 1000) (hl : xs.length ≤ 1000) : OpD K (rRepQ K) (.tuple xs) (.int k) (.tuple (List.replicate k.toNat xs).flatten) := fun G H v u e d1 d2 Q q => by
  have rep : ∀ k, ∀ G : Hp, ∀ ws : List V, DaAll K G ws xs → DaAll K G (List.replicate k ws).flatten (List.replicate k xs).flatten := by
    intro k G ws h
    induction k with
    | zero => exact .nil
    | succ k ih =>
      rw [List.replicate_succ, List.replicate_succ, List.flatten_cons, List.flatten_cons]
      exact h.append ih
  cases d2
  cases d1 with
  | tup g1 a1 =>
    rename_i l ws
    have hwl := a1.length
    by_cases hk : k = 1
    · subst hk
      refine .inl ⟨l, ws, rfl, rfl, SqT.of (e _ _ g1), q _ G H (Up.rf e) ?_⟩
      have : (List.replicate (1 : Int).toNat xs).flatten = xs := by simp
      rw [this]
      exact .tup g1 a1
    · refine .inr ⟨l, k, ws, rfl, rfl, SqT.of (e _ _ g1), ?_, by omega, h2, by omega, fun p hp => ?_⟩
      · intro z
        rw [z] at hwl
        exact hx (List.length_eq_zero_iff.mp hwl.symm)
      · exact q _ _ _ (Up.new e hp _) (.tup upd_same ((rep k.toNat G _ a1).mono (Ex.up (e.fresh hp))))
end KD
set_option Elab.async false
set_option linter.all false
set_option maxRecDepth 100000
set_option maxHeartbeats 1000000
namespace KD
open PySem PySem.Spec PyProof.Rows L2
/-! ### more statements beside the deck -/
section
variable {K : PySem.W.Frag} {dk cl L : Addr} {σ : L2.St} {m m1 m2 m' : Nat} {te tf : TE} {R R' : PyData → Prop} {P P1 P2 : PyData → Prop} {G H : Hp} {t u : TS} {tt : TT} {D : Ends} {b : Bool}
theorem Lp.emp (I : Lp K dk cl L R 0 [] G H m) : Lp K dk cl L R' 0 [] G H m := ⟨I.e, I.d, I.l, I.n1, I.n2, rfl, fun _ h => by cases h⟩
/-- a, b, c = .., .., [] where the third is a list to be added to -/
theorem tpar3L {i j l : Nat} (h1 : EvN K dk cl σ G m te m1 P1) (h2 : ∀ G', Ex G G' → EvN K dk cl σ G' m1 tf m2 P2) (e : Ex G H) (hD : Deck G H dk cl m)
    (q : ∀ x y L d1 d2 G' H', UpM dk cl G H G' H' → H L = none → Lp K dk cl L R 0 [] G' H' m2 → P1 d1 → P2 d2 → Da K G' x d1 → Da K G' y d2 → u D (((σ.set i (some x)).set j (some y)).set l (some (.ref L))) H') :
    tSeq (tPar3 i j l (tCons te (tCons tf (tCons (tLst tNil) tNil)))) u D σ H := by
  refine h1 G H (Ex.rf _) e hD _ fun x d1 G1 H1 u1 hD1 p1 a1 => h2 G1 u1.g G1 H1 (Ex.rf _) u1.h hD1 _ fun y d2 G2 H2 u2 hD2 p2 a2 => ?_
  refine ⟨Nat.zero_le _, fun L hL => ⟨x, y, .ref L, rfl, ?_⟩⟩
  have u12 := u1.tr u2
  have hLH : H L = none := by
    cases z : H L with
    | none => rfl
    | some o => exact absurd hL (u12.t L (by rw [z]; simp))
  refine q x y L d1 d2 G2 _ (u12.put hLH (u2.h.fresh hL)) hLH ⟨u2.h.tr (Ex.up hL), hD2.up (?_ : Up G2 H2 G2 _), ⟨u2.h.fresh hL, _, upd_same, .nil⟩, fun z => hD2.dn (by rw [← z]; exact hL), fun z => hD2.cn (by rw [← z]; exact hL), rfl, fun _ h => by cases h⟩ p1 p2 (a1.mono u2.g) a2
  exact ⟨Ex.rf _, u2.h.tr (Ex.up hL), Ex.up hL, fun _ _ h => h⟩
/-- if .. : t (which may return), then the rest -/
theorem st_if (h : EvT σ G tt b) (e : Ex G H) (h1 : b = true → ∀ G' H', Up G H G' H' → t { D with nx := u D } σ H') (h2 : b = false → ∀ G' H', Up G H G' H' → u D σ H') :
    tSeq (tIfS tt t tNext) u D σ H := h G H (Ex.rf _) e _ fun G1 H1 u1 => by
  cases b with
  | true => exact iteT (h1 rfl G1 H1 u1)
  | false => exact iteF (h2 rfl G1 H1 u1)
/-- a, b = what is drawn, a pair -/
theorem st_pair {i j : Nat} (h : EvN K dk cl σ G m te m' P) (e : Ex G H) (hD : Deck G H dk cl m) (hp : ∀ d, P d → ∃ d1 d2, d = .tuple [d1, d2])
    (q : ∀ v w d1 d2 G' H', UpM dk cl G H G' H' → Deck G' H' dk cl m' → P (.tuple [d1, d2]) → Da K G' v d1 → Da K G' w d2 → u D ((σ.set i (some v)).set j (some w)) H') :
    tSeq (tAsg te (gTup K 2 (gCons (gName i) (gCons (gName j) gNil)))) u D σ H := h G H (Ex.rf _) e hD _ fun v d G1 H1 u1 hD1 p dv => by
  obtain ⟨d1, d2, rfl⟩ := hp d p
  refine g_tup2 (K := K) G1 H1 _ u1.h dv _ ?_
  rintro _ ⟨x, y, a, b, rfl⟩
  exact q x y d1 d2 G1 H1 u1 hD1 p a b
/-- an item is added, and what else was tracked is kept -/
theorem do_appendM {i n : Nat} {ds : List PyData} (hv : σ[i]? = some (some (.ref L))) (I : Lp K dk cl L R n ds G H m) (h : EvN K dk cl σ G m te m' R) (hn : n ≤ 100000)
    (q : ∀ ds' G' H1 o, UpM dk cl G H G' H1 → G' L = none → Lp K dk cl L R (n + 1) ds' G' (upd H1 L o) m' → D.nx σ (upd H1 L o)) : tDrop (tBM K "list" rAppend (tVar i) (tCons te tNil)) D σ H := by
  obtain ⟨acc, ea, _⟩ := I.l.ex
  refine ⟨.ref L, hv, .inl ⟨rfl, acc, SqL.of ea⟩, h G H (Ex.rf _) I.e I.d _ fun v d G1 H1 u1 hD1 p dv => ?_⟩
  have I1 := I.up u1 hD1
  obtain ⟨acc1, ea1, da1⟩ := I1.l.ex
  refine ⟨L, acc1, v, rfl, rfl, ea1, ?_, q _ G1 H1 _ u1 I1.l.gl (I1.put ea1 da1 dv p)⟩
  rw [da1.length, I.len]
  exact Nat.lt_of_le_of_lt hn (by decide)
theorem UpM.done {G0 H0 : Hp} {ds : List PyData} (u : UpM dk cl G0 H0 G H) (hL : H0 L = none) (l : ListAt K L ds G H) (n1 : L ≠ dk) (n2 : L ≠ cl) (hD : Deck G H dk cl m) :
    ∃ G', UpM dk cl G0 H0 G' H ∧ Deck G' H dk cl m ∧ Da K G' (.ref L) (.list ds) := by
  obtain ⟨G', g1, g2, g3, g4⟩ := l.done u.h
  refine ⟨G', ⟨u.g.tr g1, g2, u.m, fun b h1 h2 => ?_, u.t⟩, ?_, g3⟩
  · rw [g4 b (fun z => h1 (by rw [z]; exact hL))]; exact u.n b h1 h2
  · obtain ⟨cs, t, n, a1, a2, a3⟩ := hD.ex
    exact ⟨hD.ne, by rw [g4 _ n1.symm]; exact hD.gd, by rw [g4 _ n2.symm]; exact hD.gc, cs, t, n, a1, a2, a3⟩
/-- a if what is drawn else b -/
theorem n_ifD {F : Hp} {ta tb : TE} (h : EvN K dk cl σ F m te m1 (fun d => ∃ b, d = .bool b)) (h1 : EvN K dk cl σ F m1 ta m2 P) (h2 : EvN K dk cl σ F m1 tb m2 P) : EvN K dk cl σ F m (tIf (tTest te) ta tb) m2 P :=
  fun G H e1 e2 hD Q q => h G H e1 e2 hD _ fun v d G1 H1 u1 hD1 p1 d1 => by
    obtain ⟨b, rfl⟩ := p1
    cases d1
    refine ⟨b, rfl, ?_⟩
    cases b with
    | true => exact iteT (h1 G1 H1 (e1.tr u1.g) u1.h hD1 Q fun v d G2 H2 u2 hD2 p d2 => q v d G2 H2 (u1.tr u2) hD2 p d2)
    | false => exact iteF (h2 G1 H1 (e1.tr u1.g) u1.h hD1 Q fun v d G2 H2 u2 hD2 p d2 => q v d G2 H2 (u1.tr u2) hD2 p d2)
/-- a pick from what is drawn -/
theorem n_pickN {F : Hp} {i0 : Nat} {E : XK} (hs : σ[i0]? = some (some (.ref dk))) (hm : m1 ≤ 1000000000)
    (hl : EvN K dk cl σ F m te m1 (fun d0 => ∃ ds, (d0 = .list ds ∨ d0 = .tuple ds) ∧ 0 < ds.length ∧ ds.length < 100000 ∧ ∀ d ∈ ds, P d)) :
    EvN K dk cl σ F m (tCall (spPickS K) [] E (tCons (tVar i0) (tCons te tNil))) (m1 + 1) P := fun G H e1 e2 hD Q q => by
  refine ⟨.ref dk, hs, hl G H e1 e2 hD _ fun v d0 G1 H1 u1 hD1 p1 d1 => ?_⟩
  obtain ⟨ds, hd, h0, h1, hP⟩ := p1
  obtain ⟨a, rfl⟩ : ∃ a, v = .ref a := by
    rcases hd with rfl | rfl
    · cases d1 with | lst h _ => exact ⟨_, rfl⟩
    · cases d1 with | tup h _ => exact ⟨_, rfl⟩
  refine ⟨rfl, dk, cl, a, d0, ds, G1, m1, rfl, u1.h, hD1, hm, hd, d1, h0, h1, fun v d H' hd dv u hD' => ?_⟩
  exact q v d G1 H' (u1.tr u) hD' (hP d hd) dv
end
end KD
set_option Elab.async false
set_option linter.all false
set_option maxRecDepth 100000
set_option maxHeartbeats 1000000
namespace KD
open PySem PySem.Spec PyProof.Rows L2
/-! ### small data that may hold a dict, or a list, but not both -/
structure Smx (w k : Nat) (d : PyData) : Prop where
  s : d.leavesShort 60 = true
  h : d.showable = true
  x : noList d = true ∨ d.hasDict = false
  f : fit d = true
  p : d.depth ≤ k
  w : d.weight ≤ w
theorem Sml.x {w k : Nat} {d : PyData} (h : Sml w k d) : Smx w k d := ⟨h.s, h.h, .inr h.n, h.f, h.p, h.w⟩
theorem Smx.mono {w k w' k' : Nat} {d : PyData} (h : Smx w k d) (hw : w ≤ w') (hk : k ≤ k') : Smx w' k' d := ⟨h.s, h.h, h.x, h.f, Nat.le_trans h.p hk, Nat.le_trans h.w hw⟩
theorem Smx.ok {w k : Nat} {d : PyData} (h : Smx w k d) (hw : w ≤ 100000) (hk : k ≤ 40) : okD d = true := by
  have hs := PyData.shown_le 60 (by decide) d h.s
  have := h.w
  have hd := h.p
  have hx : (noList d || !d.hasDict) = true := by
    rcases h.x with e | e
    · rw [e]; rfl
    · rw [e]; simp
  unfold okD KD.repOk
  simp only [Bool.and_eq_true, decide_eq_true_eq, h.f, h.h, hx, true_and]
  refine ⟨by omega, Nat.le_trans hs ?_⟩
  have : (60 + 2) * d.weight ≤ 62 * 100000 := Nat.mul_le_mul (by decide) (by omega)
  omega
/-- neither -/
structure Cln (w k : Nat) (d : PyData) : Prop where
  m : Sml w k d
  l : noList d = true
theorem noListAll_of : ∀ {xs : List PyData}, (∀ x ∈ xs, noList x = true) → noListAll xs = true
  | [], _ => rfl
  | x :: xs, h => by
    show (noList x && noListAll xs) = true
    rw [h x List.mem_cons_self, noListAll_of fun y hy => h y (List.mem_cons_of_mem _ hy)]; rfl
theorem hasDictAll_of : ∀ {xs : List PyData}, (∀ x ∈ xs, x.hasDict = false) → PyData.hasDictAll xs = false
  | [], _ => rfl
  | x :: xs, h => by
    show (x.hasDict || PyData.hasDictAll xs) = false
    rw [h x List.mem_cons_self, hasDictAll_of fun y hy => h y (List.mem_cons_of_mem _ hy)]; rfl
theorem smx_all {w k : Nat} : ∀ {xs : List PyData}, (∀ x ∈ xs, Smx w k x) → PyData.leavesShortAll 60 xs = true ∧ PyData.showableAll xs = true ∧ fitAll xs = true ∧ PyData.depthAll xs ≤ k ∧ PyData.weightAll xs ≤ (w + 1) * xs.length
  | [], _ => ⟨rfl, rfl, rfl, Nat.zero_le _, Nat.zero_le _⟩
  | x :: xs, h => by
    obtain ⟨a, b, d, e, f⟩ := smx_all (xs := xs) fun y hy => h y (List.mem_cons_of_mem _ hy)
    have hx := h x List.mem_cons_self
    refine ⟨?_, ?_, ?_, ?_, ?_⟩
    · show (x.leavesShort 60 && _) = true
      rw [hx.s, a]; rfl
    · show (x.showable && _) = true
      rw [hx.h, b]; rfl
    · show (fit x && _) = true
      rw [hx.f, d]; rfl
    · show max x.depth _ ≤ k
      exact Nat.max_le.mpr ⟨hx.p, e⟩
    · show x.weight + 1 + PyData.weightAll xs ≤ _
      have := hx.w
      rw [List.length_cons, Nat.mul_add, Nat.mul_one]
      omega
theorem Smx.tup {w k n : Nat} {xs : List PyData} (h : ∀ x ∈ xs, Smx w k x) (hx : (∀ x ∈ xs, noList x = true) ∨ ∀ x ∈ xs, x.hasDict = false) (hl : xs.length ≤ n) (hn : n ≤ 10000) : Smx ((w + 1) * n) (k + 1) (.tuple xs) := by
  obtain ⟨a, b, d, e, f⟩ := smx_all h
  refine ⟨a, b, ?_, ?_, Nat.succ_le_succ e, Nat.le_trans f (Nat.mul_le_mul_left _ hl)⟩
  · rcases hx with hx | hx
    · exact .inl (noListAll_of hx)
    · exact .inr (hasDictAll_of hx)
  · show (decide (xs.length ≤ 10000) && fitAll xs) = true
    rw [d, decide_eq_true (by omega : xs.length ≤ 10000)]; rfl
theorem Cln.x {w k : Nat} {d : PyData} (h : Cln w k d) : Smx w k d := h.m.x
theorem Cln.mono {w k w' k' : Nat} {d : PyData} (h : Cln w k d) (hw : w ≤ w') (hk : k ≤ k') : Cln w' k' d := ⟨h.m.mono hw hk, h.l⟩
/-- one item among clean ones -/
theorem Smx.among {w k n : Nat} {xs zs : List PyData} {y : PyData} (hx : ∀ x ∈ xs, Cln w k x) (hy : Smx w k y) (hz : ∀ x ∈ zs, Cln w k x) (hl : (xs ++ [y] ++ zs).length ≤ n) (hn : n ≤ 10000) :
    Smx ((w + 1) * n) (k + 1) (.tuple (xs ++ [y] ++ zs)) := by
  have mem : ∀ x ∈ xs ++ [y] ++ zs, Cln w k x ∨ x = y := fun x h => by
    rcases List.mem_append.mp h with h | h
    · rcases List.mem_append.mp h with h | h
      · exact .inl (hx x h)
      · rcases List.mem_cons.mp h with h | h
        · exact .inr h
        · cases h
    · exact .inl (hz x h)
  refine Smx.tup (fun x h => ?_) ?_ hl hn
  · rcases mem x h with h | rfl
    · exact h.x
    · exact hy
  · rcases hy.x with e | e
    · refine .inl fun x h => ?_
      rcases mem x h with h | rfl
      · exact h.l
      · exact e
    · refine .inr fun x h => ?_
      rcases mem x h with h | rfl
      · exact h.m.n
      · exact e
theorem Cln.tup {w k n : Nat} {xs : List PyData} (h : ∀ x ∈ xs, Cln w k x) (hl : xs.length ≤ n) (hn : n ≤ 10000) : Cln ((w + 1) * n) (k + 1) (.tuple xs) :=
  ⟨Sml.tup (fun x hx => (h x hx).m) hl hn, noListAll_of fun x hx => (h x hx).l⟩
theorem Cln.int {i : Int} (h : i.natAbs < 10 ^ 12) : Cln 60 0 (.int i) := ⟨sml_int h, rfl⟩
theorem Cln.str {n : Nat} {s : Str} (h : SN n s) (hn : n ≤ 60) : Cln 60 0 (.str s) := ⟨h.si hn, rfl⟩
end KD
set_option Elab.async false
set_option linter.all false
set_option maxRecDepth 100000
set_option maxHeartbeats 1000000
namespace KD
open PySem PySem.Spec PyProof.Rows L2
/-! ### several lists that change, beside the deck -/
section
variable {K : PySem.W.Frag} {dk cl L La Lb : Addr} {σ : L2.St} {m m1 m2 m' n : Nat} {te tf tb : TE} {R : PyData → Prop} {P : PyData → Prop} {ds : List PyData} {G H G0 H0 : Hp} {t u : TS} {D : Ends}
/-- a list of the def's own at L: not frozen, not the deck -/
structure Own (K : PySem.W.Frag) (dk cl L : Addr) (ds : List PyData) (G H : Hp) : Prop where
  a : ListAt K L ds G H
  d : L ≠ dk
  c : L ≠ cl
theorem Own.upM {G1 H1 : Hp} (o : Own K dk cl L ds G H) (u : UpM dk cl G H G1 H1) : Own K dk cl L ds G1 H1 := ⟨o.a.upM o.d o.c u, o.d, o.c⟩
theorem Own.ex (o : Own K dk cl L ds G H) : ∃ acc, H L = some (.lst acc) ∧ DaAll K G acc ds := o.a.ex
/-- another object changes -/
theorem Own.other {o' : HO} (o : Own K dk cl L ds G H) (h : L ≠ La) : Own K dk cl L ds G (upd H La o') := by
  obtain ⟨acc, e, a⟩ := o.a.ex
  exact ⟨⟨o.a.gl, acc, by rw [upd_ne h]; exact e, a⟩, o.d, o.c⟩
theorem Own.is {xs : List V} {es : List PyData} (o : Own K dk cl L ds G H) (h : DaAll K G xs es) : Own K dk cl L es G (upd H L (.lst xs)) := ⟨⟨o.a.gl, xs, upd_same, h⟩, o.d, o.c⟩
theorem Own.new {xs : List V} (hL : H L = none) (e : Ex G H) (hD : Deck G H dk cl m) (h : DaAll K G xs ds) : Own K dk cl L ds G (upd H L (.lst xs)) :=
  ⟨⟨e.fresh hL, xs, upd_same, h⟩, fun z => hD.dn (by rw [← z]; exact hL), fun z => hD.cn (by rw [← z]; exact hL)⟩
theorem Own.da (o : Own K dk cl L ds G H) (e : Ex G H) : Da K H (.ref L) (.list ds) := by
  obtain ⟨acc, h, a⟩ := o.a.ex
  exact .lst h (a.mono e)
theorem Own.sq (o : Own K dk cl L ds G H) : ∃ acc, SqL K H L acc ∧ acc.length = ds.length := by
  obtain ⟨acc, h, a⟩ := o.a.ex
  exact ⟨acc, SqL.of h, a.length⟩
/-- a change at an object that is not frozen and was not there at first -/
theorem UpM.own {o : HO} (u : UpM dk cl G0 H0 G H) (hL : H0 L = none) (gl : G L = none) : UpM dk cl G0 H0 G (upd H L o) := u.put hL gl
theorem Ex.at {o : HO} (e : Ex G H) (gl : G L = none) : Ex G (upd H L o) := fun b p q => by rw [upd_ne (ne_of_none q gl)]; exact e b p q
theorem UpM.none (u : UpM dk cl G0 H0 G H) (hL : H L = Option.none) : H0 L = Option.none := by
  cases z : H0 L with
  | none => rfl
  | some o => exact absurd hL (u.t L (by rw [z]; simp))
theorem Own.done (o : Own K dk cl L ds G H) (u : UpM dk cl G0 H0 G H) (hL : H0 L = Option.none) (hD : Deck G H dk cl m) : ∃ G', UpM dk cl G0 H0 G' H ∧ Deck G' H dk cl m ∧ Ex G G' ∧ (∀ b, b ≠ L → G' b = G b) ∧ Da K G' (.ref L) (.list ds) := by
  obtain ⟨G', g1, g2, g3, g4⟩ := o.a.done u.h
  refine ⟨G', ⟨u.g.tr g1, g2, u.m, fun b h1 h2 => ?_, u.t⟩, ?_, g1, g4, g3⟩
  · rw [g4 b (fun z => h1 (by rw [z]; exact hL))]; exact u.n b h1 h2
  · obtain ⟨cs, t, n, a1, a2, a3⟩ := hD.ex
    exact ⟨hD.ne, by rw [g4 _ o.d.symm]; exact hD.gd, by rw [g4 _ o.c.symm]; exact hD.gc, cs, t, n, a1, a2, a3⟩
theorem Own.toLp (o : Own K dk cl L ds G H) (e : Ex G H) (hD : Deck G H dk cl m) (hR : ∀ d ∈ ds, R d) : Lp K dk cl L R ds.length ds G H m := ⟨e, hD, o.a, o.d, o.c, rfl, hR⟩
/-- x = x + .. , x a list of one's own -/
theorem do_catO {i : Nat} {A : List PyData → Prop} (hv : σ[i]? = some (some (.ref L))) (o : Own K dk cl L ds G H) (h : EvN K dk cl σ G m tb m' (fun d => ∃ ys, d = .list ys ∧ A ys)) (e : Ex G H) (hD : Deck G H dk cl m)
    (hn : ∀ ys, A ys → ds.length + ys.length ≤ 100000)
    (q : ∀ L' ys G' H1 o', UpM dk cl G H G' H1 → H1 L' = Option.none → A ys → Deck G' (upd H1 L' o') dk cl m' → Own K dk cl L' (ds ++ ys) G' (upd H1 L' o') → D.nx (σ.set i (some (.ref L'))) (upd H1 L' o')) :
    tAsg (tOp rCat (tVar i) tb) (gName i) D σ H := by
  refine ⟨.ref L, hv, h G H (Ex.rf _) e hD _ fun v d G1 H1 u1 hD1 p dv => ?_⟩
  obtain ⟨ys, rfl, ha⟩ := p
  have o1 := o.upM u1
  obtain ⟨acc, h1, a1⟩ := o1.ex
  cases dv with | lst k2 a2 => ?_
  refine ⟨_, _, _, _, rfl, rfl, h1, u1.h _ _ k2, ?_, fun L' hL => ?_⟩
  · rw [a1.length, a2.length]; exact Nat.le_trans (hn ys ha) (by decide)
  · refine q L' ys G1 H1 _ u1 hL ha ?_ (Own.new hL u1.h hD1 (a1.append a2))
    exact hD1.put (fun z => hD1.dn (by rw [← z]; exact hL)) (fun z => hD1.cn (by rw [← z]; exact hL))
/-- x = [] -/
theorem st_newO {i : Nat} (e : Ex G H) (hD : Deck G H dk cl m)
    (q : ∀ L o', H L = Option.none → Ex G (upd H L o') → UpM dk cl G H G (upd H L o') → Deck G (upd H L o') dk cl m → Own K dk cl L [] G (upd H L o') → u D (σ.set i (some (.ref L))) (upd H L o')) : tSeq (tAsg (tLst tNil) (gName i)) u D σ H := by
  refine ⟨Nat.zero_le _, fun L hL => ?_⟩
  exact q L _ hL (e.tr (Ex.up hL)) ((UpM.rf e).own hL (e.fresh hL)) (hD.put (fun z => hD.dn (by rw [← z]; exact hL)) (fun z => hD.cn (by rw [← z]; exact hL))) (Own.new hL e hD .nil)
/-- an item is added: which one is told -/
theorem do_appendO {i : Nat} (hv : σ[i]? = some (some (.ref L))) (o : Own K dk cl L ds G H) (h : EvN K dk cl σ G m te m' P) (e : Ex G H) (hD : Deck G H dk cl m) (hn : ds.length ≤ 100000)
    (q : ∀ d G' H1 o', UpM dk cl G H G' H1 → G' L = Option.none → P d → Ex G' (upd H1 L o') → Deck G' (upd H1 L o') dk cl m' → Own K dk cl L (ds ++ [d]) G' (upd H1 L o') → D.nx σ (upd H1 L o')) : tDrop (tBM K "list" rAppend (tVar i) (tCons te tNil)) D σ H := by
  obtain ⟨acc, ea, _⟩ := o.ex
  refine ⟨.ref L, hv, .inl ⟨rfl, acc, SqL.of ea⟩, h G H (Ex.rf _) e hD _ fun v d G1 H1 u1 hD1 p dv => ?_⟩
  have o1 := o.upM u1
  obtain ⟨acc1, ea1, da1⟩ := o1.ex
  refine ⟨L, acc1, v, rfl, rfl, ea1, ?_, q d G1 H1 _ u1 o1.a.gl p (u1.h.at o1.a.gl) (hD1.put o1.d o1.c) (o1.is (da1.append (.cons dv .nil)))⟩
  rw [da1.length]
  exact Nat.lt_of_le_of_lt hn (by decide)
/-- `into.append(from.pop(draw(deck, len(from))))` -/
theorem do_move {i j i0 : Nat} {E : XK} (h0 : σ[i0]? = some (some (.ref dk))) (hi : σ[i]? = some (some (.ref La))) (hj : σ[j]? = some (some (.ref Lb))) (hne : La ≠ Lb) {sp ls : List PyData}
    (o1 : Own K dk cl La sp G H) (o2 : Own K dk cl Lb ls G H) (e : Ex G H) (hD : Deck G H dk cl m) (hp : 0 < ls.length) (hl : ls.length ≤ 10000) (hs : sp.length ≤ 10000) (hm : m ≤ 1000000000)
    (q : ∀ (k : Nat) (d : PyData) H1 a b, ls[k]? = some d → UpM dk cl G H G H1 → Ex G (upd (upd H1 Lb a) La b) → Deck G (upd (upd H1 Lb a) La b) dk cl (m + 1) → Own K dk cl La (sp ++ [d]) G (upd (upd H1 Lb a) La b) → Own K dk cl Lb (ls.eraseIdx k) G (upd (upd H1 Lb a) La b) →
      D.nx σ (upd (upd H1 Lb a) La b)) :
    tDrop (tBM K "list" rAppend (tVar i) (tCons (tBM K "list" rPopAt (tVar j) (tCons (tCall spDraw [] E (tCons (tVar i0) (tCons (tCB (rLenQ K) (tCons (tVar j) tNil)) tNil))) tNil)) tNil)) D σ H := by
  obtain ⟨a1, e1, _⟩ := o1.ex
  obtain ⟨a2, e2, d2⟩ := o2.ex
  have l2 := d2.length
  refine ⟨.ref La, hi, .inl ⟨rfl, a1, SqL.of e1⟩, .ref Lb, hj, .inl ⟨rfl, a2, SqL.of e2⟩, .ref dk, h0, .ref Lb, hj, Lb, a2, rfl, .inl (SqL.of e2), rfl, dk, cl, a2.length, G, m, rfl, e, hD, hm, by omega, by omega, fun x H1 x0 x1 u1 hD1 => ?_⟩
  have p1 := o1.upM u1
  have p2 := o2.upM u1
  obtain ⟨b1, f1, g1⟩ := p1.ex
  obtain ⟨b2, f2, g2⟩ := p2.ex
  have l1 := g1.length
  have l3 := g2.length
  have hx : x.toNat < b2.length := by omega
  obtain ⟨d, hd, dd⟩ := g2.get (List.getElem?_eq_getElem hx)
  refine ⟨Lb, b2, x, x.toNat, b2[x.toNat], rfl, rfl, f2, by omega, by omega, seqIndex_of x0 (by omega), List.getElem?_eq_getElem hx, ?_⟩
  have ga : DaAll K G (b2.eraseIdx x.toNat) (ls.eraseIdx x.toNat) := by
    rw [List.eraseIdx_eq_take_drop_succ, List.eraseIdx_eq_take_drop_succ]
    exact (g2.take _).append (g2.drop _)
  refine ⟨La, b1, _, rfl, rfl, by rw [upd_ne hne]; exact f1, Nat.lt_of_le_of_lt (by omega : b1.length ≤ 10000) (by decide), ?_⟩
  refine q x.toNat d H1 _ _ hd u1 ((u1.h.at p2.a.gl).at p1.a.gl) ((hD1.put p2.d p2.c).put p1.d p1.c) ((p1.other hne).is (g1.append (.cons dd .nil))) ((p2.is ga).other hne.symm)
end
section
variable {K : PySem.W.Frag} {dk cl : Addr} {σ : L2.St} {F : Hp} {m m' : Nat} {te tb : TE}
theorem erase_perm {α : Type} (l : List α) (k : Nat) (h : k < l.length) : (l[k] :: l.eraseIdx k).Perm l := by
  rw [List.eraseIdx_eq_take_drop_succ]
  have : l = l.take k ++ l[k] :: l.drop (k+1) := by simp
  refine (List.perm_middle.symm).trans ?_
  rw [← this]
theorem erase_map {α β : Type} (f : α → β) (l : List α) (k : Nat) : (l.eraseIdx k).map f = (l.map f).eraseIdx k := by
  rw [List.eraseIdx_eq_take_drop_succ, List.eraseIdx_eq_take_drop_succ, List.map_append, List.map_take, List.map_drop]
theorem OpD.is {r : R2} {x y z z' : PyData} (h : OpD K r x y z) (e : z = z') : OpD K r x y z' := e ▸ h
/-! tests that draw -/
def TvN (K : PySem.W.Frag) (dk cl : Addr) (σ : L2.St) (F : Hp) (m : Nat) (tt : TT) (m' : Nat) (b : Bool) : Prop :=
  ∀ G H, Ex F G → Ex G H → Deck G H dk cl m → ∀ Q : Bool → Hp → Prop, (∀ G' H', UpM dk cl G H G' H' → Deck G' H' dk cl m' → Q b H') → tt σ H Q
theorem tn_pure {tt : TT} {b : Bool} (h : EvT σ F tt b) : TvN K dk cl σ F m tt m b := fun G H e1 e2 hD Q q => h G H e1 e2 _ fun G' H' u => q G' H' u.toM (hD.up u)
theorem tn_val {b : Bool} (h : EvN K dk cl σ F m te m' (fun d => d = .bool b)) : TvN K dk cl σ F m (tB te) m' b := fun G H e1 e2 hD Q q =>
  h G H e1 e2 hD _ fun v d G' H' u hD' p dv => by
    subst p
    cases dv
    exact ⟨b, rfl, q G' H' u hD'⟩
theorem tn_not {tt : TT} {b : Bool} (h : TvN K dk cl σ F m tt m' b) : TvN K dk cl σ F m (tNot tt) m' (!b) := fun G H e1 e2 hD Q q => h G H e1 e2 hD _ fun G' H' u hD' => q G' H' u hD'
theorem tn_or0 {tt tu : TT} {m1 : Nat} {b : Bool} (h1 : TvN K dk cl σ F m tt m1 false) (h2 : TvN K dk cl σ F m1 tu m' b) : TvN K dk cl σ F m (tOr tt tu) m' b := fun G H e1 e2 hD Q q =>
  h1 G H e1 e2 hD _ fun G1 H1 u1 hD1 => iteF (h2 G1 H1 (e1.tr u1.g) u1.h hD1 Q fun G2 H2 u2 hD2 => q G2 H2 (u1.tr u2) hD2)
theorem TvN.is {tt : TT} {b b' : Bool} (h : TvN K dk cl σ F m tt m' b) (e : b = b') : TvN K dk cl σ F m tt m' b' := e ▸ h
theorem do_guardN {G H : Hp} {tt : TT} {t : TS} {D : Ends} (h : TvN K dk cl σ G m tt m' false) (e : Ex G H) (hD : Deck G H dk cl m) (q : ∀ G' H', UpM dk cl G H G' H' → Deck G' H' dk cl m' → D.nx σ H') : tIfS tt t tNext D σ H :=
  h G H (Ex.rf _) e hD _ fun G' H' u hD' => iteF (q G' H' u hD')
theorem o_notB {a b : Bool} : OpD K rNotB (.bool a) (.bool b) (.bool (!decide (a = b))) := fun G H v u e d1 d2 Q q => by
  cases d1; cases d2
  exact ⟨a, b, rfl, rfl, q _ G H (Up.rf e) (.bl _)⟩
theorem o_isB {a b : Bool} : OpD K rIsB (.bool a) (.bool b) (.bool (decide (a = b))) := fun G H v u e d1 d2 Q q => by
  cases d1; cases d2
  exact ⟨a, b, rfl, rfl, q _ G H (Up.rf e) (.bl _)⟩
/-! int of a bool -/
abbrev rInt1 : List V → Hp → VK → Prop := fun xs H Q => (∃ i, xs = [.int i] ∧ Q (.int i) H) ∨ ∃ k, xs = [.bl k] ∧ Q (.int (if k then 1 else 0)) H
theorem c_intB {b : Bool} : CaD K rInt1 [.bool b] (.int (if b then 1 else 0)) := fun G H vs e d Q q => by
  cases d with
  | cons d1 d2 => cases d2; cases d1; exact .inr ⟨b, rfl, q _ G H (Up.rf e) (.int _)⟩
theorem c_intI {i : Int} : CaD K rInt1 [.int i] (.int i) := fun G H vs e d Q q => by
  cases d with
  | cons d1 d2 => cases d2; cases d1; exact .inl ⟨i, rfl, q _ G H (Up.rf e) (.int _)⟩
/-- [x] * (a number of times that is drawn) -/
theorem n_reps {x : PyData} {lo hi : Int} (h1 : EvE K σ F te (.list [x])) (h2 : EvN K dk cl σ F m tb m' (fun d => ∃ c : Int, d = .int c ∧ lo ≤ c ∧ c ≤ hi)) (h0 : 0 ≤ lo) (hh : hi ≤ 1000) :
    EvN K dk cl σ F m (tOp rRep te tb) m' (fun d => ∃ ys, d = .list ys ∧ ∃ c : Nat, ys = List.replicate c x ∧ lo ≤ c ∧ (c : Int) ≤ hi) :=
  (n_op (f := fun _ y => match y with | .int c => .list (List.replicate c.toNat x) | _ => .none) (n_pure h1) (fun _ _ => h2) (by
    rintro _ _ rfl ⟨c, rfl, c0, c1⟩
    have := o_rep (K := K) (xs := [x]) (n := c.toNat) (by simp; omega) (by omega)
    rw [List.flatten_replicate_singleton, Int.toNat_of_nonneg (by omega)] at this
    exact this)).imp (by
    rintro _ ⟨_, _, rfl, ⟨c, rfl, c0, c1⟩, rfl⟩
    exact ⟨_, rfl, c.toNat, rfl, by omega, by omega⟩)
end
end KD
set_option Elab.async false
set_option linter.all false
set_option maxRecDepth 100000
set_option maxHeartbeats 1000000
namespace KD
open PySem PySem.Spec PyProof.Rows L2
/-! ### zip of a list and a tuple -/
def ItzM (K : PySem.W.Frag) (a b : Addr) : It where
  go := fun i H => ∃ (xs ys : List V), SqL K H a xs ∧ SqT K H b ys ∧ i < xs.length ∧ i < ys.length
  yld := fun i H v H' => ∃ T x y, v = .ref T ∧ H T = none ∧ H' = upd H T (.tup [x, y]) ∧ (∀ xs, SqL K H a xs → xs[i]? = some x) ∧ ∀ ys, SqT K H b ys → ys[i]? = some y
  stop := fun i H => ∃ (xs ys : List V), SqL K H a xs ∧ SqT K H b ys ∧ (i = xs.length ∨ i = ys.length) ∧ i ≤ xs.length ∧ i ≤ ys.length
theorem mem5 {c z u v p q : Addr} (h : c ∈ [z, u, v, p, q]) : c = z ∨ c = u ∨ c = v ∨ c = p ∨ c = q := by simpa using h
theorem turn_zipM {P : Program} {w : World} {K : PySem.W.Frag} {elts : List Expr} {kk : Nat} {tpos : Pos} {a b z TI TO i1 i2 : Addr} (S : ZipSep2 z TI TO i1 i2 [i1, a] [i2, b]) (ha : a ≠ i1) (hb : b ≠ i2) :
    Turn P w K (.Tuple elts kk tpos) (ItzM K a b) [z, TI, TO, i1, i2] z (fun i h => IsZip h z TI TO .none ∧ IsTupOf2 h TI (.ref i1) (.ref i2) ∧ (∃ x y, IsTupOf2 h TO x y) ∧ h.IsListIter i1 a i ∧ h.IsTupleIter i2 b i) := by
  have out : ∀ {H : Hp} {h' : Heap} {s : Shared}, (∀ c o, c ≠ z → c ≠ TO → c ≠ i1 → c ≠ i2 → s.heap.get? c = some o → h'.get? c = some o) → ∀ c o, c ∉ [z, TI, TO, i1, i2] → s.heap.get? c = some o → h'.get? c = some o :=
    fun k c o hc e => k c o (fun y => hc (by simp [y])) (fun y => hc (by simp [y])) (fun y => hc (by simp [y])) (fun y => hc (by simp [y])) e
  constructor
  · simp
  · rintro i h ⟨hz, hTI, ⟨x, y, hTO⟩, ⟨o1, e1, _, d1⟩, ⟨o2, e2, _, d2⟩⟩ c hc
    rcases mem5 hc with rfl | rfl | rfl | rfl | rfl
    · exact ⟨_, hz, fun v y => nomatch y⟩
    · exact ⟨_, hTI, fun v y => nomatch y⟩
    · exact ⟨_, hTO, fun v y => nomatch y⟩
    · exact ⟨o1, e1, fun v y => by rw [d1] at y; cases y⟩
    · exact ⟨o2, e2, fun v y => by rw [d2] at y; cases y⟩
  · rintro i h h' ⟨hz, hTI, ⟨x, y, hTO⟩, h1, h2⟩ k
    exact ⟨k z (by simp) _ hz, k TI (by simp) _ hTI, ⟨x, y, k TO (by simp) _ hTO⟩, h1.at fun o e => k i1 (by simp) o e, h2.at fun o e => k i2 (by simp) o e⟩
  · intro X hP hw hK hc i pins s σ H E I hf st hg
    subst hP hw hK
    obtain ⟨hz, hTI, ⟨x0, y0, hTO⟩, h1, h2⟩ := st
    obtain ⟨xs, ys, qx, qy, lx, ly⟩ := hg
    obtain ⟨its, rv, p1, _⟩ := I.list qx
    obtain ⟨jts, rw2, p2, _⟩ := I.tuple qy
    have l1 := rv.length
    have l2 := rw2.length
    have hzl : z < s.heap.objs.size := Heap.lt_size hz
    have hh : X.A.in1.handled = none := I.ok.hd hc
    refine wpAny_pyNext_zipD2_item S (Draws.list hh i1 a ha its.toArray) (Draws.tuple hh i2 b hb jts.toArray) hz hTI hTO ⟨h1, p1.isList⟩ ⟨h2, p2⟩ (by simp; omega) (by simp; omega) fun u1 u2 h' tk f1 f2 z' TO' s1 s2 hT hsz hk => ?_
    obtain ⟨v1, hv1, r1⟩ : ∃ v, xs[i]? = some v ∧ RelV v u1 := by
      obtain ⟨u, hu, ru⟩ := rv.get (List.getElem?_eq_getElem lx)
      have : its[i]? = some u1 := by simpa using f1
      rw [this] at hu; cases hu
      exact ⟨_, List.getElem?_eq_getElem lx, ru⟩
    obtain ⟨v2, hv2, r2⟩ : ∃ v, ys[i]? = some v ∧ RelV v u2 := by
      obtain ⟨u, hu, ru⟩ := rw2.get (List.getElem?_eq_getElem ly)
      have : jts[i]? = some u2 := by simpa using f2
      rw [this] at hu; cases hu
      exact ⟨_, List.getElem?_eq_getElem ly, ru⟩
    refine ⟨_, rfl, wpAny_letOwnedTupleGo_zip (s := { s with heap := h', toks := tk }) z' fun h'' z'' sb => ?_⟩
    have hT2 : h''.get? s.heap.objs.size = some { cls := .type "tuple", data := .seq #[u1, u2] } := (sb.2 _ (Nat.ne_of_gt hzl)).trans hT
    have k2 : ∀ c o, c ∉ [z, TI, TO, i1, i2] → s.heap.get? c = some o → h''.get? c = some o := fun c o hcm e => (sb.2 c (fun y => hcm (by simp [y]))).trans (out (H := H) hk c o hcm e)
    have I1 : Inv X pins σ (upd H s.heap.objs.size (.tup [v1, v2])) { s with heap := h'', toks := tk } :=
      I.turnedNew (t' := tk) k2 hf (Nat.le_refl _) ⟨by show 2 ≤ sizeLine; decide, [u1, u2], .cons r1 (.cons r2 .nil), ⟨_, hT2, rfl, _, rfl⟩⟩
    refine ⟨.ref s.heap.objs.size, _, I1, rfl, ⟨_, v1, v2, rfl, I.hok.fresh (Nat.le_refl _), rfl, fun l hl => by rw [I.list_inj hl qx]; exact hv1, fun l hl => by rw [I.tuple_inj hl qy]; exact hv2⟩, ⟨z'', ?_, ⟨u1, u2, ?_⟩, ?_, ?_⟩, fun c hcm => ?_⟩
    · exact (sb.2 _ S.TIz).trans (hk _ _ S.TIz S.TITO S.TIi1 S.TIi2 hTI)
    · exact (sb.2 _ S.TOz).trans TO'
    · exact s1.1.at fun o e => (sb.2 _ S.zi1.symm).trans e
    · exact s2.1.at fun o e => (sb.2 _ S.zi2.symm).trans e
    · have hlt : c < s.heap.objs.size := by
        rcases mem5 hcm with rfl | rfl | rfl | rfl | rfl
        · exact hzl
        · exact Heap.lt_size hTI
        · exact Heap.lt_size hTO
        · obtain ⟨_, e, _⟩ := h1; exact Heap.lt_size e
        · obtain ⟨_, e, _⟩ := h2; exact Heap.lt_size e
      rw [upd_ne (Nat.ne_of_lt hlt)]
      exact (hf c hcm).1
  · intro X hP hw hK hc i pins s σ H E I hf st hg
    subst hP hw hK
    obtain ⟨hz, hTI, ⟨x0, y0, hTO⟩, h1, h2⟩ := st
    obtain ⟨xs, ys, qx, qy, he, lx, ly⟩ := hg
    obtain ⟨its, rv, p1, _⟩ := I.list qx
    obtain ⟨jts, rw2, p2, _⟩ := I.tuple qy
    have l1 := rv.length
    have l2 := rw2.length
    have hh : X.A.in1.handled = none := I.ok.hd hc
    exact wpAny_pyNext_zipD2_end S (Draws.list hh i1 a ha its.toArray) (Draws.tuple hh i2 b hb jts.toArray) hz hTI hTO ⟨h1, p1.isList⟩ ⟨h2, p2⟩ (by simp; omega) (by simp; omega) (by simp; omega)
      fun h' tk hk => ⟨rfl, I.turnedL (t' := tk) (out (H := H) hk) hf⟩
  · exact fun A i s Q E st h => wpAny_pyIter_zip st.1 h
def iZipM (K : PySem.W.Frag) (ta : TA) : TI := fun σ H R => ta σ H fun vs H1 => ∃ a b xs ys, vs = [.ref a, .ref b] ∧ SqL K H1 a xs ∧ SqT K H1 b ys ∧ R (ItzM K a b) H1
theorem pi_zipM {X : Cx} {e e2 : Expr} {ta : TA} {p pos tpos : Pos} {elts : List Expr} {kk : Nat} (hg : Gl X "zip") (hm : X.mg "zip" = none) (ha : PA X [e, e2] ta)
    (hs : starEach [e, e2] X.env = (false, eval e X.env) :: starEach [e2] X.env := by rfl) (hpl : (backTo pos (starEach [e2] X.env)).any (·.1) = false := by rfl) :
    PI X (.Tuple elts kk tpos) (.Call (.Name "zip" p) [e, e2] [] pos) (iZipM X.K ta) := by
  constructor
  intro pins s σ H R I h
  refine Call_ (ld_blt I hg hm PyProof.Rows.boot_zip (PyProof.Rows.callWith_type1 (thn (ha.run pos pins s σ H _ I h) ?_) hs hpl))
  rintro us s1 ⟨vs, H1, I1, r1, a, b, xs, ys, rfl, qx, qy, q⟩
  cases r1 with | cons r r1 => ?_
  cases r1 with | cons r' r1 => ?_
  cases r1; cases r; cases r'
  obtain ⟨its, rv, p1, _⟩ := I1.list qx
  obtain ⟨jts, rw2, p2, _⟩ := I1.tuple qy
  have la := p1.lt
  obtain ⟨ob, hob, _⟩ := id p2
  have lb := Heap.lt_size hob
  refine zip_begins2 (begins_list a its.toArray) (begins_tuple b jts.toArray) p1.isList p2 fun h' hz hTI hTO e1 e2 hsz hk => wpAny_pyIter_zip hz ?_
  refine ⟨s1.heap.objs.size + 4, [s1.heap.objs.size + 4, s1.heap.objs.size + 2, s1.heap.objs.size + 3, s1.heap.objs.size, s1.heap.objs.size + 1], _, ItzM X.K a b, H1, rfl, I1.kept (t' := s1.toks) hk, turn_zipM ?_ (Nat.ne_of_lt la) (Nat.ne_of_lt (Nat.lt_succ_of_lt lb)),
    ⟨hz, hTI, ⟨_, _, hTO⟩, ⟨_, e1, rfl, rfl⟩, ⟨_, e2, rfl, rfl⟩⟩, fun c hcm => ?_, q⟩
  · have hla : @LT.lt Nat instLTNat a s1.heap.objs.size := la
    have hlb : @LT.lt Nat instLTNat b s1.heap.objs.size := lb
    generalize s1.heap.objs.size = n at hla hlb
    have ne : ∀ {x y : Nat}, x ≠ y → ¬ ((x : Addr) = y) := fun h => h
    constructor <;> first
      | exact List.mem_cons_self
      | (refine ne ?_; show ¬ (_ : Nat) = _; omega)
      | (simp only [List.mem_cons, List.not_mem_nil, or_false, not_or]; refine ⟨ne ?_, ne ?_⟩ <;> (show ¬ (_ : Nat) = _; omega))
  · have hle : s1.heap.objs.size ≤ c := by
      rcases mem5 hcm with rfl | rfl | rfl | rfl | rfl <;> first | exact Nat.le_refl _ | exact Nat.le_add_right _ _
    exact I1.fpOk hle (I1.hok.fresh hle)
theorem pi_zipMK (K : PySem.W.Frag) {X : Cx} {e e2 : Expr} {ta : TA} {p pos tpos : Pos} {elts : List Expr} {kk : Nat} (hg : Gl X "zip") (hm : X.mg "zip" = none) (ha : PA X [e, e2] ta) (h : X.K = K := by rfl)
    (hs : starEach [e, e2] X.env = (false, eval e X.env) :: starEach [e2] X.env := by rfl) (hpl : (backTo pos (starEach [e2] X.env)).any (·.1) = false := by rfl) :
    PI X (.Tuple elts kk tpos) (.Call (.Name "zip" p) [e, e2] [] pos) (iZipM K ta) := h ▸ pi_zipM hg hm ha hs hpl
section
variable {K : PySem.W.Frag} {σ : L2.St} {F : Hp} {as : TA} {ds es : List PyData}
theorem i_zipM (h : EvA K σ F as [.list ds, .tuple es]) : EvI K σ F (iZipM K as) (zipD ds es) := fun G H e1 e2 R q => h G H e1 e2 _ fun vs G1 H1 u1 d1 => by
  cases d1 with | cons da db => ?_
  cases db with | cons db dc => ?_
  cases dc
  cases da with | lst h1 a1 => ?_
  cases db with | tup h2 a2 => ?_
  rename_i a xs b ys
  refine ⟨a, b, xs, ys, rfl, SqL.of (u1.h _ _ h1), SqT.of (u1.h _ _ h2), q _ G1 H1 u1 fun i G2 H2 e3 e4 => ?_⟩
  have l1 := a1.length
  have l2 := a2.length
  have hs : SqL K H2 a xs := SqL.of (e4 _ _ (e3 _ _ h1))
  have ht : SqT K H2 b ys := SqT.of (e4 _ _ (e3 _ _ h2))
  refine ⟨fun d hd => ?_, fun hi => ?_⟩
  · obtain ⟨x0, y0, hx0, hy0, rfl⟩ := zipD_get hd
    obtain ⟨x, hx, dx⟩ := a1.at hx0
    obtain ⟨y, hy, dy⟩ := a2.at hy0
    refine ⟨⟨xs, ys, hs, ht, (List.getElem?_eq_some_iff.mp hx).1, (List.getElem?_eq_some_iff.mp hy).1⟩, ?_⟩
    rintro z H' ⟨T, x', y', rfl, nT, rfl, hx', hy'⟩
    have e := hx' xs hs
    rw [hx] at e; cases e
    have e := hy' ys ht
    rw [hy] at e; cases e
    exact ⟨_, Up.new e4 nT _, .tup upd_same (.cons ((dx.mono e3).mono (Ex.up (e4.fresh nT))) (.cons ((dy.mono e3).mono (Ex.up (e4.fresh nT))) .nil))⟩
  · have : (zipD ds es).length = min ds.length es.length := by simp [zipD]
    exact ⟨xs, ys, hs, ht, by omega, by omega, by omega⟩
end
/-! ### list.extend by a tuple -/
def rExtT (K : PySem.W.Frag) : V → List V → Hp → VK → Prop := fun x vs H Q => ∃ l b xs zs, x = .ref l ∧ vs = [.ref b] ∧ H l = some (.lst xs) ∧ SqT K H b zs ∧ xs.length + zs.length ≤ sizeLine ∧ Q .non (upd H l (.lst (xs ++ zs)))
theorem extend_tuple (l b : Addr) (items more : Array Value) (n m : Nat) (dd : Option Addr) (sl : Array (Option Value)) (hs0 : ¬(!items.isEmpty && Builtin.List.listTooLong (items.size + more.size)) = true) (hs1 : items.size ≤ sizeLine)
    (hs2 : items.size + more.size ≤ sizeLine + 1) :
    Meets (Builtin.«list.extend» ⟨[.ref l, .ref b], []⟩) (fun _ R s => s.heap.get? l = some { cls := .type "list", data := .seq items n } ∧ s.heap.get? b = some { cls := .type "tuple", dict := dd, data := .seq more m, slots := sl } ∧
      R (.ok (.ret Value.none)) { s with heap := s.heap.update l (Obj.mapSeq fun x => x ++ more), toks := s.toks }) :=
  .of_wp fun prog w A R s h => by
    obtain ⟨hp, g, d, tk, os⟩ := s
    obtain ⟨hl, hb, h⟩ := h
    have f1 := AutoSeq1.idx_int
    have f2 := AutoSeq1.sub_tuple_tuple
    have f3 := AutoSeq1.sub_list_list
    have f4 := AutoSeq1.sub_tuple_list
    have f5 := AutoSeq1.sub_list_tuple
    have hz' : (items ++ more).size ≤ sizeLine + 1 := by rw [Array.size_append]; exact hs2
    wp_walk using (wpAny_updateSeq hl rfl (hz := hs1) (_hz' := hz')), wpAny_loadPart' hl, wpAny_loadPart' hb
    exact ⟨_, rfl, h⟩
theorem mt_extendT {X : Cx} (K : PySem.W.Frag) (h : X.K = K := by rfl) : MtM X "list.extend" (rExtT K) := by
  subst h
  rintro pins s σ H x vs v us Q I rx rv ⟨l, b, xs, zs, rfl, rfl, hl, hb, hz, q⟩
  cases rx
  obtain ⟨u, rfl, ru⟩ := rv.one
  cases ru
  obtain ⟨_, its, n, r, hlen, e⟩ := I.lstM hl
  obtain ⟨jts, r2, p2, _⟩ := I.tuple hb
  have hlen2 := r2.length
  have hsum : its.toArray.size + jts.toArray.size ≤ sizeLine := by
    rw [List.size_toArray, List.size_toArray]; omega
  obtain ⟨⟨cls, dd, data, sl⟩, ho, hc, n2, hd⟩ := p2
  simp only at hc hd
  subst hc hd
  refine call_meets F.slot_list_extend ⟨_, e, rfl⟩ F.entry_list_extend (F.args_list_extend_2 _ _) (extend_tuple l b its.toArray jts.toArray n n2 dd sl (by rw [notLongL hsum, Bool.and_false]; exact Bool.false_ne_true) (by rw [List.size_toArray]; omega) (by omega)) ⟨e, ho, ?_⟩
  refine ⟨.non, _, I.lset (its' := its ++ jts) hl e (by simp) (r.append r2) ?_, rfl, q⟩
  rw [List.length_append]; omega
/-! ### more by the written part's name -/
theorem cr_maxK (K : PySem.W.Frag) {X : Cx} (hc : X.calm = true) (h : X.K = K := by rfl) : CallR X (.builtin "max") (rMax K) := h ▸ cr_max hc
theorem PE.or {X : Cx} {e : Expr} {t u : TE} (h1 : PE X e t) (h2 : PE X e u) : PE X e (fun σ H Q => t σ H Q ∨ u σ H Q) :=
  ⟨fun pins s σ H Q I h => h.elim (h1.run pins s σ H Q I) (h2.run pins s σ H Q I)⟩
end KD
set_option Elab.async false
set_option linter.all false
set_option maxRecDepth 100000
set_option maxHeartbeats 1000000
namespace KD
open PySem PySem.Spec PyProof.Rows L2
/-! ### enumerate of a tuple -/
def enumObj (it : Addr) : Obj := { cls := .type "enumerate", data := .fields #[.none, .bool false, .ref it, rawInt 0, .none, .none] }
theorem enum_new {v : Value} {o : Obj} {P : Heap → Prop} (B : Begins v o P) :
    Meets (Builtin.«enumerate.__new__» ⟨[.type "enumerate", v], []⟩) (fun _ R s => P s.heap ∧ R (.ok (.ret (.ref (s.heap.push o).objs.size))) { s with heap := (s.heap.push o).push (enumObj s.heap.objs.size) }) :=
  .of_wp fun prog w A R s h => by
    obtain ⟨hp, gs, dr, tk, os⟩ := s
    obtain ⟨hP, hR⟩ := h
    have hsub := sub_enumerate
    have step : ∀ {A' : Around} {E : Value → Shared → Prop} {Q : Value → Shared → Prop}, Q (.ref hp.objs.size) ⟨hp.push o, gs, dr, tk, os⟩ → wpAny (model prog w) A' (pyIter v) Q E ⟨hp, gs, dr, tk, os⟩ :=
      fun y => B.iter prog w _ _ ⟨hp, gs, dr, tk, os⟩ _ hP y
    wp_walk using step
    refine wpAny_stack_any fun st => wpAny_pure ?_
    split
    · rename_i c _ _ _ _ _
      cases (c == Value.type "enumerate") <;> (wp_walk using step) <;> exact ⟨_, rfl, hR⟩
    · wp_walk using step
      exact ⟨_, rfl, hR⟩
theorem enum_call {prog : Program} {w : World} {A : Around} {E : Value → Shared → Prop} {s : Shared} {v : Value} {o : Obj} {P : Heap → Prop} {Q : Value → Shared → Prop} (B : Begins v o P) (hP : P s.heap)
    (h : ∀ h', IsEnum h' (s.heap.objs.size + 1) s.heap.objs.size 0 .none → h'.get? s.heap.objs.size = some o → (∀ b q, s.heap.get? b = some q → h'.get? b = some q) → Q (.ref (s.heap.objs.size + 1)) { s with heap := h' }) :
    wpAny (model prog w) A (call (.type "enumerate") [v]) Q E s := by
  refine callType_new F.called_enumerate (by decide) (F.typeCall_enumerate_1 _) (F.newCall_enumerate_1 _) (fun ob => F.args_object_init_2 ob _) F.entry_enumerate_new (enum_new B) ⟨hP, ?_⟩
  have hz : (s.heap.push o).objs.size = s.heap.objs.size + 1 := Heap.size_push ..
  show _ ∧ _
  have he := Heap.get?_push_size (s.heap.push o) (o := enumObj s.heap.objs.size) rfl
  rw [hz] at he ⊢
  exact ⟨⟨_, he, rfl⟩, h _ he (Heap.get?_push_of_some _ (Heap.get?_push_size _ B.free)) fun b q e => Heap.get?_push_of_some _ (Heap.get?_push_of_some _ e)⟩
def ItT (K : PySem.W.Frag) (a : Addr) : It where
  go := fun i H => ∃ (xs : List V), SqT K H a xs ∧ i < xs.length
  yld := fun i H v H' => ∃ T x, v = .ref T ∧ H T = none ∧ H' = upd H T (.tup [.int (i : Nat), x]) ∧ ∀ xs, SqT K H a xs → xs[i]? = some x
  stop := fun i H => ∃ xs : List V, SqT K H a xs ∧ i = xs.length
theorem mem2 {c e it : Addr} (h : c ∈ [e, it]) : c = e ∨ c = it := by simpa using h
theorem turn_enumT {P : Program} {w : World} {K : PySem.W.Frag} {elts : List Expr} {kk : Nat} {tpos : Pos} {a e it : Addr} (hae : a ≠ e) (hai : a ≠ it) (hei : e ≠ it) :
    Turn P w K (.Tuple elts kk tpos) (ItT K a) [e, it] e (fun i h => (∃ old, IsEnum h e it ((i : Nat) : Int) old) ∧ h.IsTupleIter it a i) := by
  constructor
  · simp
  · rintro i h ⟨⟨old, he⟩, ⟨o, ho, hc, hd⟩⟩ c hcm
    rcases mem2 hcm with rfl | rfl
    · exact ⟨_, he, fun v y => nomatch y⟩
    · exact ⟨o, ho, fun v y => by rw [hd] at y; cases y⟩
  · rintro i h h' ⟨⟨old, he⟩, hit⟩ k
    exact ⟨⟨old, k e (by simp) _ he⟩, hit.at fun o y => k it (by simp) o y⟩
  · intro X hP hw hK hc i pins s σ H E I hf st hg
    subst hP hw hK
    obtain ⟨⟨old, he⟩, hit⟩ := st
    obtain ⟨xs, hq, hx⟩ := hg
    obtain ⟨its, rv, p, _⟩ := I.tuple hq
    have hl := rv.length
    have hel : e < s.heap.objs.size := Heap.lt_size he
    have hh : X.A.in1.handled = none := I.ok.hd hc
    refine wpAny_pyNext_enum_itemD (Draws.tuple hh it a hai its.toArray) he ⟨hit, p⟩ (by simp; omega) hei (by simp [hei, hae.symm]) fun u h' tk hu ho st' hT hsz hk => ?_
    obtain ⟨v, hv, ru⟩ : ∃ v, xs[i]? = some v ∧ RelV v u := by
      obtain ⟨u', hu', ru⟩ := rv.get (List.getElem?_eq_getElem hx)
      have : its[i]? = some u := by simpa using hu
      rw [this] at hu'; cases hu'
      exact ⟨_, List.getElem?_eq_getElem hx, ru⟩
    refine ⟨_, rfl, wpAny_letOwnedTupleGo_enum (s := { s with heap := h', toks := tk + 1 }) ho fun h'' he' sb => ?_⟩
    have hT2 : h''.get? s.heap.objs.size = some { cls := .type "tuple", data := .seq #[.int i tk, u] } := (sb.2 _ (Nat.ne_of_gt hel)).trans hT
    have I1 : Inv X pins σ (upd H s.heap.objs.size (.tup [.int (i : Nat), v])) { s with heap := h'', toks := tk + 1 } :=
      I.turnedNew (ch := [e, it]) (fun b ob hb y => (sb.2 b (fun z => hb (by simp [z]))).trans (hk b ob (fun z => hb (by simp [z])) (fun z => hb (by simp [z])) y)) hf (Nat.le_refl _)
        ⟨by show 2 ≤ sizeLine; decide, [.int i tk, u], .cons ⟨_, rfl⟩ (.cons ru .nil), ⟨_, hT2, rfl, _, rfl⟩⟩
    refine ⟨.ref s.heap.objs.size, _, I1, rfl, ⟨_, v, rfl, I.hok.fresh (Nat.le_refl _), rfl, fun ys hy => by rw [I.tuple_inj hy hq]; exact hv⟩, ⟨⟨u, ?_⟩, st'.1.at fun o y => (sb.2 it hei.symm).trans y⟩, fun b hb => ?_⟩
    · have e1 : ((i + 1 : Nat) : Int) = (i : Int) + 1 := by omega
      rw [e1]
      exact he'
    · have hb' : b < s.heap.objs.size := by
        rcases mem2 hb with rfl | rfl
        · exact hel
        · obtain ⟨_, y, _⟩ := hit; exact Heap.lt_size y
      rw [upd_ne (Nat.ne_of_lt hb')]
      exact (hf b hb).1
  · intro X hP hw hK hc i pins s σ H E I hf st hg
    subst hP hw hK
    obtain ⟨⟨old, he⟩, hit⟩ := st
    obtain ⟨xs, hq, hx⟩ := hg
    obtain ⟨its, rv, p, _⟩ := I.tuple hq
    have hl := rv.length
    have hh : X.A.in1.handled = none := I.ok.hd hc
    obtain ⟨f0, f1, f2, f3, f4, f5⟩ := hf it (by simp)
    have hn : i = its.toArray.size := by rw [List.size_toArray]; omega
    refine wpAny_pyNext_enum_endD (Draws.tuple hh it a hai its.toArray) he ⟨hn ▸ hit, p⟩ fun h' eb => ⟨rfl, I.turned (t' := s.toks) (fun b o hb y => eb b o hb y) f0 f1 f3 f4 f5⟩
  · exact fun A i s Q E st h => let ⟨⟨_, he⟩, _⟩ := st; wpAny_pyIter_enum he h
def iEnT (K : PySem.W.Frag) (ta : TA) : TI := fun σ H R => ta σ H fun vs H1 => ∃ a xs, vs = [.ref a] ∧ SqT K H1 a xs ∧ R (ItT K a) H1
theorem pi_enumT {X : Cx} {e : Expr} {ta : TA} {p pos tpos : Pos} {elts : List Expr} {kk : Nat} (hg : Gl X "enumerate") (hm : X.mg "enumerate" = none) (ha : PA X [e] ta) (hs : starEach [e] X.env = [(false, eval e X.env)] := by rfl) :
    PI X (.Tuple elts kk tpos) (.Call (.Name "enumerate" p) [e] [] pos) (iEnT X.K ta) := by
  constructor
  intro pins s σ H R I h
  refine Call_ (ld_blt I hg hm boot_enumerate (PyProof.Rows.callWith_type1 (thn (ha.run pos pins s σ H _ I h) ?_) hs rfl))
  rintro us s1 ⟨vs, H1, I1, r1, a, xs, rfl, qx, q⟩
  cases r1 with | cons r r1 => ?_
  cases r1; cases r
  obtain ⟨its, rv, p2, _⟩ := I1.tuple qx
  obtain ⟨ob, hob, _⟩ := id p2
  have la : @LT.lt Nat instLTNat a s1.heap.objs.size := Heap.lt_size hob
  refine enum_call (begins_tuple a its.toArray) p2 fun h' he ho hk => wpAny_pyIter_enum he ?_
  refine ⟨s1.heap.objs.size + 1, [s1.heap.objs.size + 1, s1.heap.objs.size], _, ItT X.K a, H1, rfl, I1.kept (t' := s1.toks) hk, turn_enumT (Nat.ne_of_lt (Nat.lt_succ_of_lt la)) (Nat.ne_of_lt la) (Nat.succ_ne_self _), ⟨⟨_, he⟩, ⟨_, ho, rfl, rfl⟩⟩, fun c hcm => ?_, q⟩
  have hle : s1.heap.objs.size ≤ c := by
    rcases mem2 hcm with rfl | rfl
    · exact Nat.le_add_right _ _
    · exact Nat.le_refl _
  exact I1.fpOk hle (I1.hok.fresh hle)
theorem pi_enumKT (K : PySem.W.Frag) {X : Cx} {e : Expr} {ta : TA} {p pos tpos : Pos} {elts : List Expr} {kk : Nat} (hg : Gl X "enumerate") (hm : X.mg "enumerate" = none) (ha : PA X [e] ta) (h : X.K = K := by rfl) (hs : starEach [e] X.env = [(false, eval e X.env)] := by rfl) :
    PI X (.Tuple elts kk tpos) (.Call (.Name "enumerate" p) [e] [] pos) (iEnT K ta) := h ▸ pi_enumT hg hm ha hs
/-! ### what is walked, as data -/
section
variable {K : PySem.W.Frag} {σ : L2.St} {F : Hp} {as : TA} {ds es : List PyData}
theorem i_enumT (h : EvA K σ F as [.tuple ds]) : EvI K σ F (iEnT K as) (enumD ds) := fun G H e1 e2 R q => h G H e1 e2 _ fun vs G1 H1 u1 d1 => by
  cases d1 with | cons da db => ?_
  cases db
  cases da with | tup h1 a1 => ?_
  rename_i a xs
  refine ⟨a, xs, rfl, SqT.of (u1.h _ _ h1), q _ G1 H1 u1 fun i G2 H2 e3 e4 => ⟨fun d hd => ?_, fun hi => ?_⟩⟩
  · obtain ⟨x0, h0, rfl⟩ := enumD_get hd
    obtain ⟨x, hx, dx⟩ := a1.at h0
    have hs : SqT K H2 a xs := SqT.of (e4 _ _ (e3 _ _ h1))
    refine ⟨⟨xs, hs, (List.getElem?_eq_some_iff.mp hx).1⟩, ?_⟩
    rintro y H' ⟨T, x', rfl, nT, rfl, hy⟩
    have e := hy xs hs
    rw [hx] at e; cases e
    exact ⟨_, Up.new e4 nT _, .tup upd_same (.cons (.int _) (.cons ((dx.mono e3).mono (Ex.up (e4.fresh nT))) .nil))⟩
  · have := a1.length
    rw [enumD_length] at hi
    exact ⟨xs, SqT.of (e4 _ _ (e3 _ _ h1)), by omega⟩
end
end KD
/-! ### sheets as graphs: sameness, depth-first numbering, least sheets -/
set_option linter.all false
namespace KM
section
variable {α : Type}
abbrev Sheet (α : Type) := List (α × List Nat)
def tg (s : Sheet α) (i : Nat) : Option α := (s[i]?).map (·.1)
def fl (s : Sheet α) (i : Nat) : List Nat := ((s[i]?).map (·.2)).getD []
structure Ok (ar : α → Nat) (s : Sheet α) : Prop where
  a : ∀ r ∈ s, r.2.length = ar r.1
  f : ∀ r ∈ s, ∀ x ∈ r.2, x < s.length
theorem tg_at {s : Sheet α} {i : Nat} {r : α × List Nat} (h : s[i]? = some r) : tg s i = some r.1 := by unfold tg; rw [h]; rfl
theorem fl_at {s : Sheet α} {i : Nat} {r : α × List Nat} (h : s[i]? = some r) : fl s i = r.2 := by unfold fl; rw [h]; rfl
theorem at_lt {s : Sheet α} {i : Nat} (h : i < s.length) : ∃ r, s[i]? = some r ∧ r ∈ s := ⟨_, List.getElem?_eq_getElem h, List.getElem_mem h⟩
theorem Ok.fld {ar : α → Nat} {s : Sheet α} (h : Ok ar s) {i x : Nat} (hx : x ∈ fl s i) : x < s.length := by
  unfold fl at hx
  cases e : s[i]? with
  | none => rw [e] at hx; simp at hx
  | some r => rw [e] at hx; exact h.f r (List.mem_of_getElem? e) x hx
/-- alike down to a depth -/
def eqv (s t : Sheet α) : Nat → Nat → Nat → Prop
  | 0, _, _ => True
  | n + 1, i, j => tg s i = tg t j ∧ ∀ (a x y : Nat), (fl s i)[a]? = some x → (fl t j)[a]? = some y → eqv s t n x y
def Same (s t : Sheet α) (i j : Nat) : Prop := ∀ n, eqv s t n i j
theorem Same.tag {s t : Sheet α} {i j : Nat} (h : Same s t i j) : tg s i = tg t j := (h 1).1
theorem Same.fld {s t : Sheet α} {i j a x y : Nat} (h : Same s t i j) (hx : (fl s i)[a]? = some x) (hy : (fl t j)[a]? = some y) : Same s t x y := fun n => (h (n + 1)).2 a x y hx hy
theorem same_of {s t : Sheet α} (R : Nat → Nat → Prop) (h : ∀ i j, R i j → tg s i = tg t j ∧ ∀ (a x y : Nat), (fl s i)[a]? = some x → (fl t j)[a]? = some y → R x y) {i j : Nat} (hij : R i j) : Same s t i j := by
  intro n
  induction n generalizing i j with
  | zero => trivial
  | succ n ih => exact ⟨(h i j hij).1, fun a x y hx hy => ih ((h i j hij).2 a x y hx hy)⟩
theorem Same.rf (s : Sheet α) (i : Nat) : Same s s i i := same_of (fun i j => i = j) (by rintro i _ rfl; exact ⟨rfl, fun a x y hx hy => by rw [hx] at hy; cases hy; rfl⟩) rfl
theorem Same.sym {s t : Sheet α} {i j : Nat} (h : Same s t i j) : Same t s j i := same_of (fun j i => Same s t i j) (fun j i h => ⟨h.tag.symm, fun _ _ _ hx hy => h.fld hy hx⟩) h
theorem tg_lt {s : Sheet α} {i : Nat} (h : i < s.length) : ∃ z, tg s i = some z := ⟨_, tg_at (List.getElem?_eq_getElem h)⟩
theorem tg_none {s : Sheet α} {i : Nat} (h : ¬ i < s.length) : tg s i = none := by unfold tg; rw [List.getElem?_eq_none (by omega)]; rfl
theorem Ok.len {ar : α → Nat} {s t : Sheet α} (hs : Ok ar s) (ht : Ok ar t) {i j : Nat} (h : tg s i = tg t j) : (fl s i).length = (fl t j).length := by
  by_cases hi : i < s.length
  · obtain ⟨r, hr, hrm⟩ := at_lt hi
    by_cases hj : j < t.length
    · obtain ⟨q, hq, hqm⟩ := at_lt hj
      rw [tg_at hr, tg_at hq] at h
      rw [fl_at hr, fl_at hq, hs.a r hrm, ht.a q hqm, Option.some.inj h]
    · rw [tg_at hr, tg_none hj] at h; cases h
  · by_cases hj : j < t.length
    · obtain ⟨q, hq, hqm⟩ := at_lt hj
      rw [tg_at hq, tg_none hi] at h; cases h
    · unfold fl
      rw [List.getElem?_eq_none (by omega), List.getElem?_eq_none (by omega)]
theorem Same.tr {ar : α → Nat} {s t u : Sheet α} (hs : Ok ar s) (ht : Ok ar t) {i j k : Nat} (h : Same s t i j) (h2 : Same t u j k) : Same s u i k :=
  same_of (fun i k => ∃ j, Same s t i j ∧ Same t u j k) (by
    rintro i k ⟨j, h, h2⟩
    refine ⟨h.tag.trans h2.tag, fun a x z hx hz => ?_⟩
    have hl := hs.len ht h.tag
    have ha : a < (fl t j).length := by rw [← hl]; exact (List.getElem?_eq_some_iff.mp hx).1
    exact ⟨_, h.fld hx (List.getElem?_eq_getElem ha), h2.fld (List.getElem?_eq_getElem ha) hz⟩) ⟨j, h, h2⟩
theorem Same.lt {s t : Sheet α} {i j : Nat} (h : Same s t i j) (hi : i < s.length) : j < t.length := by
  obtain ⟨z, hz⟩ := tg_lt hi
  have e := h.tag
  rw [hz] at e
  by_cases hj : j < t.length
  · exact hj
  · rw [tg_none hj] at e; cases e
/-! ### a depth-first walk with a stack -/
inductive Dfs (F : Nat → List Nat) : List Nat → List Nat → List Nat → Prop
  | nil {met : List Nat} : Dfs F [] met met
  | skip {x : Nat} {st met r : List Nat} : x ∈ met → Dfs F st met r → Dfs F (x :: st) met r
  | push {x : Nat} {st met r : List Nat} : x ∉ met → Dfs F (F x ++ st) (met ++ [x]) r → Dfs F (x :: st) met r
inductive F2 (R : Nat → Nat → Prop) : List Nat → List Nat → Prop
  | nil : F2 R [] []
  | cons {x y : Nat} {xs ys : List Nat} : R x y → F2 R xs ys → F2 R (x :: xs) (y :: ys)
theorem F2.app {R : Nat → Nat → Prop} : ∀ {xs ys us vs : List Nat}, F2 R xs ys → F2 R us vs → F2 R (xs ++ us) (ys ++ vs)
  | _, _, _, _, .nil, h => h
  | _, _, _, _, .cons a b, h => .cons a (F2.app b h)
theorem F2.length {R : Nat → Nat → Prop} : ∀ {xs ys : List Nat}, F2 R xs ys → xs.length = ys.length
  | _, _, .nil => rfl
  | _, _, .cons _ b => congrArg (· + 1) b.length
/-- a relation that is one to one -/
def One (R : Nat → Nat → Prop) : Prop := ∀ x y x' y', R x y → R x' y' → (x = x' ↔ y = y')
theorem F2.mem {R : Nat → Nat → Prop} (o : One R) : ∀ {xs ys : List Nat} {x y : Nat}, F2 R xs ys → R x y → (x ∈ xs ↔ y ∈ ys)
  | _, _, _, _, .nil, _ => by simp
  | _, _, x, y, .cons a b, h => by
    rw [List.mem_cons, List.mem_cons, F2.mem o b h, o _ _ _ _ h a]
theorem F2.idx {R : Nat → Nat → Prop} (o : One R) : ∀ {xs ys : List Nat} {x y : Nat}, F2 R xs ys → R x y → xs.idxOf x = ys.idxOf y
  | _, _, _, _, .nil, _ => by simp
  | _, _, x, y, .cons (x := u) (y := v) a b, h => by
    rw [List.idxOf_cons, List.idxOf_cons]
    have e := o _ _ _ _ a h
    by_cases hx : u = x
    · have hy := e.mp hx
      simp [hx, hy]
    · have hy : ¬ v = y := fun z => hx (e.mpr z)
      rw [beq_false_of_ne hx, beq_false_of_ne hy, F2.idx o b h]
theorem F2.of_map {R : Nat → Nat → Prop} {f g : Nat → Nat} : ∀ {xs : List Nat}, (∀ x ∈ xs, R (f x) (g x)) → F2 R (xs.map f) (xs.map g)
  | [], _ => .nil
  | x :: xs, h => .cons (h x List.mem_cons_self) (F2.of_map fun y hy => h y (List.mem_cons_of_mem _ hy))
theorem F2.of_get {R : Nat → Nat → Prop} : ∀ {xs ys : List Nat}, xs.length = ys.length → (∀ (a x y : Nat), xs[a]? = some x → ys[a]? = some y → R x y) → F2 R xs ys
  | [], [], _, _ => .nil
  | x :: xs, y :: ys, hl, h => .cons (h 0 x y rfl rfl) (F2.of_get (by simpa using hl) fun a u v hu hv => h (a + 1) u v (by simpa using hu) (by simpa using hv))
theorem F2.get {R : Nat → Nat → Prop} : ∀ {xs ys : List Nat} {a x y : Nat}, F2 R xs ys → xs[a]? = some x → ys[a]? = some y → R x y
  | _, _, _, _, _, .nil, hx, _ => by simp at hx
  | _, _, 0, _, _, .cons h _, hx, hy => by simp at hx hy; subst hx hy; exact h
  | _, _, a + 1, _, _, .cons _ b, hx, hy => F2.get (a := a) b (by simpa using hx) (by simpa using hy)
theorem Dfs.rel {R : Nat → Nat → Prop} (o : One R) {F F' : Nat → List Nat} (hF : ∀ x y, R x y → F2 R (F x) (F' y)) : ∀ {st met r : List Nat}, Dfs F st met r → ∀ {st' met' : List Nat}, F2 R st st' → F2 R met met' → ∃ r', Dfs F' st' met' r' ∧ F2 R r r' := by
  intro st met r h
  induction h with
  | nil => intro st' met' h1 h2; cases h1; exact ⟨_, .nil, h2⟩
  | skip hx _ ih =>
    intro st' met' h1 h2
    cases h1 with
    | cons a b =>
      obtain ⟨r', d, f⟩ := ih b h2
      exact ⟨r', .skip ((F2.mem o h2 a).mp hx) d, f⟩
  | push hx _ ih =>
    intro st' met' h1 h2
    cases h1 with
    | cons a b =>
      obtain ⟨r', d, f⟩ := ih ((hF _ _ a).app b) (h2.app (.cons a .nil))
      exact ⟨r', .push (fun z => hx ((F2.mem o h2 a).mpr z)) d, f⟩
theorem Dfs.det {F : Nat → List Nat} {st met r r' : List Nat} (h : Dfs F st met r) (h' : Dfs F st met r') : r = r' := by
  induction h with
  | nil => cases h'; rfl
  | skip hx _ ih =>
    cases h' with
    | skip _ d => exact ih d
    | push hn _ => exact absurd hx hn
  | push hx _ ih =>
    cases h' with
    | skip hn _ => exact absurd hn hx
    | push _ d => exact ih d
/-- what is met: kept, distinct, closed -/
theorem Dfs.keep {F : Nat → List Nat} {st met r : List Nat} (h : Dfs F st met r) : (∀ x ∈ met, x ∈ r) ∧ (∀ x ∈ st, x ∈ r) := by
  induction h with
  | nil => exact ⟨fun _ h => h, fun _ h => by cases h⟩
  | skip hx _ ih => exact ⟨ih.1, fun y hy => by rcases List.mem_cons.mp hy with rfl | hy; exact ih.1 _ hx; exact ih.2 _ hy⟩
  | push _ _ ih => exact ⟨fun y hy => ih.1 _ (List.mem_append_left _ hy), fun y hy => by
      rcases List.mem_cons.mp hy with rfl | hy
      · exact ih.1 _ (List.mem_append_right _ List.mem_cons_self)
      · exact ih.2 _ (List.mem_append_right _ hy)⟩
theorem Dfs.nodup {F : Nat → List Nat} {st met r : List Nat} (h : Dfs F st met r) (hm : met.Nodup) : r.Nodup := by
  induction h with
  | nil => exact hm
  | skip _ _ ih => exact ih hm
  | push hx _ ih => exact ih (List.nodup_append.mpr ⟨hm, by simp, fun a ha b hb => by
      rcases List.mem_cons.mp hb with rfl | hb
      · exact fun e => hx (e ▸ ha)
      · cases hb⟩)
theorem Dfs.inv {F : Nat → List Nat} {P : Nat → Prop} (hF : ∀ x, P x → ∀ y ∈ F x, P y) {st met r : List Nat} (h : Dfs F st met r) (hs : ∀ x ∈ st, P x) (hm : ∀ x ∈ met, P x) : ∀ x ∈ r, P x := by
  induction h with
  | nil => exact hm
  | skip _ _ ih => exact ih (fun x hx => hs x (List.mem_cons_of_mem _ hx)) hm
  | push _ _ ih =>
    refine ih (fun x hx => ?_) fun x hx => ?_
    · rcases List.mem_append.mp hx with hx | hx
      · exact hF _ (hs _ List.mem_cons_self) x hx
      · exact hs x (List.mem_cons_of_mem _ hx)
    · rcases List.mem_append.mp hx with hx | hx
      · exact hm x hx
      · rcases List.mem_cons.mp hx with rfl | hx
        · exact hs _ List.mem_cons_self
        · cases hx
/-- fields of what is met are met -/
theorem Dfs.closed {F : Nat → List Nat} {st met r : List Nat} (h : Dfs F st met r) (hm : ∀ x ∈ met, ∀ y ∈ F x, y ∈ met ∨ y ∈ st) : ∀ x ∈ r, ∀ y ∈ F x, y ∈ r := by
  induction h with
  | nil => intro x hx y hy; rcases hm x hx y hy with h | h; exact h; cases h
  | skip hx _ ih =>
    refine ih fun z hz y hy => ?_
    rcases hm z hz y hy with h | h
    · exact .inl h
    · rcases List.mem_cons.mp h with rfl | h
      · exact .inl hx
      · exact .inr h
  | push hx _ ih =>
    refine ih fun z hz y hy => ?_
    rcases List.mem_append.mp hz with hz | hz
    · rcases hm z hz y hy with h | h
      · exact .inl (List.mem_append_left _ h)
      · rcases List.mem_cons.mp h with rfl | h
        · exact .inl (List.mem_append_right _ List.mem_cons_self)
        · exact .inr (List.mem_append_right _ h)
    · rcases List.mem_cons.mp hz with rfl | hz
      · exact .inr (List.mem_append_left _ hy)
      · cases hz
theorem Dfs.head {F : Nat → List Nat} {x : Nat} {r : List Nat} (h : Dfs F [x] [] r) : r[0]? = some x := by
  have pre : ∀ {st met r : List Nat}, Dfs F st met r → ∀ y, met[0]? = some y → r[0]? = some y := by
    intro st met r h
    induction h with
    | nil => exact fun _ h => h
    | skip _ _ ih => exact ih
    | push _ _ ih =>
      intro y hy
      refine ih y ?_
      rw [List.getElem?_append_left (List.getElem?_eq_some_iff.mp hy).1]
      exact hy
  cases h with
  | skip hx _ => cases hx
  | push _ d => exact pre d x rfl
/-! ### the sheet of a walk -/
def rooted (T : Nat → α) (F : Nat → List Nat) (met : List Nat) : Sheet α := met.map fun k => (T k, (F k).map fun f => met.idxOf f)
structure Least (s : Sheet α) (root : Nat) (r : Sheet α) (num : Nat → Nat) (T : Nat → α) (F : Nat → List Nat) (met : List Nat) : Prop where
  n : ∀ i j, i < s.length → j < s.length → (num i = num j ↔ Same s s i j)
  t : ∀ i, i < s.length → tg s i = some (T (num i))
  f : ∀ i, i < s.length → F (num i) = (fl s i).map num
  d : Dfs F [num root] [] met
  r : r = rooted T F met
def IsLeast (s : Sheet α) (root : Nat) (r : Sheet α) : Prop := ∃ num T F met, Least s root r num T F met
theorem isLeast_uniq {ar : α → Nat} {s t : Sheet α} (hs : Ok ar s) (ht : Ok ar t) {i j : Nat} (hi : i < s.length) (hij : Same s t i j) {r q : Sheet α} (h : IsLeast s i r) (h' : IsLeast t j q) : r = q := by
  obtain ⟨num, T, F, met, L⟩ := h
  obtain ⟨num', T', F', met', L'⟩ := h'
  let R : Nat → Nat → Prop := fun c c' => ∃ a b, a < s.length ∧ b < t.length ∧ c = num a ∧ c' = num' b ∧ Same s t a b
  have one : One R := by
    rintro x y x' y' ⟨a, b, ha, hb, rfl, rfl, h⟩ ⟨a', b', ha', hb', rfl, rfl, h'⟩
    rw [L.n a a' ha ha', L'.n b b' hb hb']
    exact ⟨fun e => (h.sym.tr ht hs e).tr ht hs h', fun e => (h.tr hs ht e).tr hs ht h'.sym⟩
  have hF : ∀ x y, R x y → F2 R (F x) (F' y) := by
    rintro x y ⟨a, b, ha, hb, rfl, rfl, h⟩
    rw [L.f a ha, L'.f b hb]
    refine F2.of_get (by rw [List.length_map, List.length_map]; exact hs.len ht h.tag) fun k u v hu hv => ?_
    rw [List.getElem?_map] at hu hv
    obtain ⟨x, hx, rfl⟩ := Option.map_eq_some_iff.mp hu
    obtain ⟨y, hy, rfl⟩ := Option.map_eq_some_iff.mp hv
    exact ⟨x, y, hs.fld (List.mem_of_getElem? hx), ht.fld (List.mem_of_getElem? hy), rfl, rfl, h.fld hx hy⟩
  obtain ⟨m2, d2, f2⟩ := L.d.rel one hF (.cons ⟨i, j, hi, hij.lt hi, rfl, rfl, hij⟩ .nil) .nil
  have e := d2.det L'.d
  subst e
  rw [L.r, L'.r]
  have hcl := L.d.closed (by intro _ h; cases h)
  have hRm : ∀ x ∈ met, ∃ a, a < s.length ∧ x = num a := L.d.inv (P := fun x => ∃ a, a < s.length ∧ x = num a) (by
    rintro _ ⟨a, ha, rfl⟩ y hy
    rw [L.f a ha] at hy
    obtain ⟨z, hz, rfl⟩ := List.mem_map.mp hy
    exact ⟨z, hs.fld hz, rfl⟩) (by intro x hx; rcases List.mem_cons.mp hx with rfl | hx; exact ⟨i, hi, rfl⟩; cases hx) (by intro _ h; cases h)
  unfold rooted
  refine List.ext_getElem? fun k => ?_
  rw [List.getElem?_map, List.getElem?_map]
  have hl := f2.length
  by_cases hk : k < met.length
  · rw [List.getElem?_eq_getElem hk, List.getElem?_eq_getElem (by omega : k < m2.length)]
    have hR : R met[k] m2[k] := f2.get (a := k) (List.getElem?_eq_getElem hk) (List.getElem?_eq_getElem _)
    obtain ⟨a, b, ha, hb, ea, eb, h⟩ := hR
    show some _ = some _
    congr 1
    refine Prod.ext ?_ ?_
    · show T _ = T' _
      rw [ea, eb]
      have := h.tag
      rw [L.t a ha, L'.t b hb] at this
      exact Option.some.inj this
    · show (F _).map _ = (F' _).map _
      have hf := hF _ _ ⟨a, b, ha, hb, ea, eb, h⟩
      refine List.ext_getElem? fun c => ?_
      rw [List.getElem?_map, List.getElem?_map]
      have hl2 := hf.length
      by_cases hc : c < (F met[k]).length
      · rw [List.getElem?_eq_getElem hc, List.getElem?_eq_getElem (by omega : c < (F' m2[k]).length)]
        show some (met.idxOf _) = some (m2.idxOf _)
        rw [f2.idx one (hf.get (a := c) (List.getElem?_eq_getElem hc) (List.getElem?_eq_getElem _))]
      · rw [List.getElem?_eq_none (by omega), List.getElem?_eq_none (by omega)]; rfl
  · rw [List.getElem?_eq_none (by omega), List.getElem?_eq_none (by omega)]; rfl
/-- the least sheet writes the same value, and is a sheet -/
theorem isLeast_same {ar : α → Nat} {s r : Sheet α} (hs : Ok ar s) {i : Nat} (hi : i < s.length) (h : IsLeast s i r) : Ok ar r ∧ 0 < r.length ∧ r.length ≤ s.length ∧ Same r s 0 i := by
  obtain ⟨num, T, F, met, L⟩ := h
  have hcl := L.d.closed (by intro _ h; cases h)
  have hRm : ∀ x ∈ met, ∃ a, a < s.length ∧ x = num a := L.d.inv (P := fun x => ∃ a, a < s.length ∧ x = num a) (by
    rintro _ ⟨a, ha, rfl⟩ y hy
    rw [L.f a ha] at hy
    obtain ⟨z, hz, rfl⟩ := List.mem_map.mp hy
    exact ⟨z, hs.fld hz, rfl⟩) (by intro x hx; rcases List.mem_cons.mp hx with rfl | hx; exact ⟨i, hi, rfl⟩; cases hx) (by intro _ h; cases h)
  have hn := L.d.nodup .nil
  have h0 := L.d.head
  have hrl : r.length = met.length := by rw [L.r]; unfold rooted; rw [List.length_map]
  have hat : ∀ k a, met[k]? = some (num a) → a < s.length → r[k]? = some (T (num a), (F (num a)).map fun f => met.idxOf f) := fun k a hk ha => by
    rw [L.r]; unfold rooted; rw [List.getElem?_map, hk]; rfl
  refine ⟨⟨fun q hq => ?_, fun q hq x hx => ?_⟩, ?_, ?_, ?_⟩
  · obtain ⟨k, hk⟩ := List.mem_iff_getElem?.mp hq
    have hkl := (List.getElem?_eq_some_iff.mp hk).1
    obtain ⟨a, ha, e⟩ := hRm _ (List.getElem_mem (by omega : k < met.length))
    rw [hat k a (by rw [List.getElem?_eq_getElem (by omega : k < met.length), e]) ha] at hk
    cases hk
    show (List.map _ _).length = ar (T (num a))
    rw [List.length_map, L.f a ha, List.length_map]
    obtain ⟨z, hz, hzm⟩ := at_lt ha
    have := L.t a ha
    rw [tg_at hz] at this
    rw [fl_at hz, hs.a z hzm, Option.some.inj this]
  · obtain ⟨k, hk⟩ := List.mem_iff_getElem?.mp hq
    have hkl := (List.getElem?_eq_some_iff.mp hk).1
    obtain ⟨a, ha, e⟩ := hRm _ (List.getElem_mem (by omega : k < met.length))
    have hm : num a ∈ met := by rw [← e]; exact List.getElem_mem _
    rw [hat k a (by rw [List.getElem?_eq_getElem (by omega : k < met.length), e]) ha] at hk
    cases hk
    obtain ⟨f, hf, rfl⟩ := List.mem_map.mp hx
    rw [hrl]
    exact List.idxOf_lt_length_iff.mpr (hcl _ hm f hf)
  · rw [hrl]; exact (List.getElem?_eq_some_iff.mp h0).1
  · rw [hrl]
    -- distinct class numbers, each of a row
    have hch : ∀ k : Nat, ∃ a, k < met.length → a < s.length ∧ met[k]? = some (num a) := fun k => by
      by_cases hk : k < met.length
      · obtain ⟨a, ha, e⟩ := hRm _ (List.getElem_mem hk)
        exact ⟨a, fun _ => ⟨ha, by rw [List.getElem?_eq_getElem hk, e]⟩⟩
      · exact ⟨0, fun h => absurd h hk⟩
    have hg := Classical.axiomOfChoice hch
    obtain ⟨g, hg⟩ := hg
    have hnd : ((List.range met.length).map g).Nodup := by
      refine List.pairwise_map.mpr (List.Pairwise.imp_of_mem (fun {a b} ha hb hab e => hab ?_) List.nodup_range)
      have ha := List.mem_range.mp ha
      have hb := List.mem_range.mp hb
      have h1 := (hg a ha).2
      have h2 := (hg b hb).2
      rw [e, ← h2, List.getElem?_eq_getElem ha, List.getElem?_eq_getElem hb] at h1
      exact (List.getElem_inj hn).mp (Option.some.inj h1)
    have hsub : ∀ x ∈ (List.range met.length).map g, x ∈ List.range s.length := fun x hx => by
      obtain ⟨k, hk, rfl⟩ := List.mem_map.mp hx
      exact List.mem_range.mpr (hg k (List.mem_range.mp hk)).1
    have := hnd.length_le_of_subset hsub
    rw [List.length_map, List.length_range, List.length_range] at this
    exact this
  · refine same_of (fun k a => a < s.length ∧ met[k]? = some (num a)) (fun k a ⟨ha, hk⟩ => ⟨?_, fun c x y hx hy => ?_⟩) ⟨hi, h0⟩
    · rw [tg_at (hat k a hk ha), L.t a ha]
    · rw [fl_at (hat k a hk ha)] at hx
      have hx : ((F (num a)).map fun f => met.idxOf f)[c]? = some x := hx
      rw [L.f a ha, List.map_map, List.getElem?_map, hy] at hx
      have hx : met.idxOf (num y) = x := Option.some.inj hx
      have hya := hs.fld (List.mem_of_getElem? hy)
      refine ⟨hya, ?_⟩
      have hm : num y ∈ met := hcl (num a) (List.mem_of_getElem? hk) _ (by rw [L.f a ha]; exact List.mem_map_of_mem (List.mem_of_getElem? hy))
      have hlt := List.idxOf_lt_length_iff.mpr hm
      rw [← hx, List.getElem?_eq_getElem hlt, List.getElem_idxOf hlt]
end
end KM
set_option linter.all false
/-! ### classes of rows that are split until no field parts them -/
namespace KM
section
variable {α : Type} {s : Sheet α} {ar : α → Nat}
structure Part (s : Sheet α) (cl : List Nat) (ms : List (List Nat)) : Prop where
  l : cl.length = s.length
  m : ∀ (c : Nat) (xs : List Nat), ms[c]? = some xs → xs.Nodup ∧ xs ≠ [] ∧ ∀ i, i ∈ xs ↔ cl[i]? = some c
  c : ∀ (i c : Nat), cl[i]? = some c → c < ms.length
  t : ∀ (i j c : Nat), cl[i]? = some c → cl[j]? = some c → tg s i = tg s j
  b : ∀ (i j c : Nat), Same s s i j → cl[i]? = some c → cl[j]? = some c
theorem nodup_same {xs ys : List Nat} (hx : xs.Nodup) (h : ∀ x ∈ xs, x ∈ ys) (hl : ys.length ≤ xs.length) (hy : ys.Nodup) : ∀ y ∈ ys, y ∈ xs := by
  intro y hy2
  refine Classical.byContradiction fun hn => ?_
  have h1 : (y :: xs).Nodup := List.nodup_cons.mpr ⟨hn, hx⟩
  have h2 : (y :: xs) ⊆ ys := fun z hz => by
    rcases List.mem_cons.mp hz with rfl | hz
    · exact hy2
    · exact h z hz
  have := h1.length_le_of_subset h2
  rw [List.length_cons] at this
  omega
theorem Part.small {cl : List Nat} {ms : List (List Nat)} (P : Part s cl ms) : ms.length ≤ s.length := by
  have hch : ∀ k : Nat, ∃ a, k < ms.length → cl[a]? = some k := fun k => by
    by_cases hk : k < ms.length
    · obtain ⟨_, h2, h3⟩ := P.m k _ (List.getElem?_eq_getElem hk)
      obtain ⟨a, ha⟩ := List.exists_mem_of_ne_nil _ h2
      exact ⟨a, fun _ => (h3 a).mp ha⟩
    · exact ⟨0, fun h => absurd h hk⟩
  obtain ⟨g, hg⟩ := Classical.axiomOfChoice hch
  have hnd : ((List.range ms.length).map g).Nodup := by
    refine List.pairwise_map.mpr (List.Pairwise.imp_of_mem (fun {a b} ha hb hab e => hab ?_) List.nodup_range)
    have h1 := hg a (List.mem_range.mp ha)
    have h2 := hg b (List.mem_range.mp hb)
    rw [e, h2] at h1
    exact (Option.some.inj h1).symm
  have hsub : ((List.range ms.length).map g) ⊆ List.range s.length := fun x hx => by
    obtain ⟨k, hk, rfl⟩ := List.mem_map.mp hx
    have := (List.getElem?_eq_some_iff.mp (hg k (List.mem_range.mp hk))).1
    exact List.mem_range.mpr (by rw [← P.l]; exact this)
  have := hnd.length_le_of_subset hsub
  rw [List.length_map, List.length_range, List.length_range] at this
  exact this
/-- some rows of a class get a class of their own -/
structure Cut (cl : List Nat) (ms : List (List Nat)) (old : Nat) (xs mv cl' xs' : List Nat) (ms' : List (List Nat)) : Prop where
  h : ms[old]? = some xs
  n : mv.Nodup
  s : ∀ i : Nat, i ∈ mv → i ∈ xs
  e : mv ≠ []
  p : ∃ i : Nat, i ∈ xs ∧ i ∉ mv
  ln : cl'.length = cl.length
  ca : ∀ i : Nat, cl'[i]? = if i ∈ mv then some ms.length else cl[i]?
  xn : xs'.Nodup
  xm : ∀ i : Nat, i ∈ xs' ↔ i ∈ xs ∧ i ∉ mv
  mq : ms' = ms.set old xs' ++ [mv]
section
variable {cl : List Nat} {ms : List (List Nat)} {old : Nat} {xs mv cl' xs' : List Nat} {ms' : List (List Nat)} {W ch : List Nat}
theorem Cut.len (C : Cut cl ms old xs mv cl' xs' ms') : ms'.length = ms.length + 1 := by
  rw [C.mq, List.length_append, List.length_set]; rfl
theorem Cut.cases (C : Cut cl ms old xs mv cl' xs' ms') (P : Part s cl ms) {i c : Nat} (h : cl'[i]? = some c) : (i ∈ mv ∧ c = ms.length ∧ cl[i]? = some old) ∨ (i ∉ mv ∧ cl[i]? = some c ∧ c < ms.length) := by
  rw [C.ca] at h
  by_cases hm : i ∈ mv
  · rw [if_pos hm] at h
    exact .inl ⟨hm, (Option.some.inj h).symm, ((P.m _ _ C.h).2.2 i).mp (C.s i hm)⟩
  · rw [if_neg hm] at h
    exact .inr ⟨hm, h, P.c _ _ h⟩
theorem Cut.ref (C : Cut cl ms old xs mv cl' xs' ms') (P : Part s cl ms) {i j c : Nat} (hi : cl'[i]? = some c) (hj : cl'[j]? = some c) : ∃ d, cl[i]? = some d ∧ cl[j]? = some d := by
  rcases C.cases P hi with ⟨_, e, a⟩ | ⟨_, a, l⟩
  · rcases C.cases P hj with ⟨_, _, b⟩ | ⟨_, _, l⟩
    · exact ⟨_, a, b⟩
    · omega
  · rcases C.cases P hj with ⟨_, e, _⟩ | ⟨_, b, _⟩
    · omega
    · exact ⟨_, a, b⟩
theorem Cut.part (C : Cut cl ms old xs mv cl' xs' ms') (P : Part s cl ms) (hb : ∀ i j, i ∈ mv → Same s s i j → j ∈ mv) : Part s cl' ms' := by
  have ho := (List.getElem?_eq_some_iff.mp C.h).1
  refine ⟨C.ln.trans P.l, fun c zs hz => ?_, fun i c h => ?_, fun i j c hi hj => ?_, fun i j c hij hi => ?_⟩
  · rw [C.mq] at hz
    by_cases hc : c < ms.length
    · rw [List.getElem?_append_left (by rw [List.length_set]; exact hc)] at hz
      by_cases hco : old = c
      · subst hco
        rw [List.getElem?_set_self hc] at hz
        cases hz
        refine ⟨C.xn, ?_, fun i => ?_⟩
        · obtain ⟨i, hi, hn⟩ := C.p
          intro z
          have := (C.xm i).mpr ⟨hi, hn⟩
          rw [z] at this; cases this
        · rw [C.xm, C.ca, (P.m _ _ C.h).2.2 i]
          by_cases hm : i ∈ mv
          · rw [if_pos hm]
            refine ⟨fun h => absurd hm h.2, fun h => ?_⟩
            have := Option.some.inj h
            omega
          · rw [if_neg hm]
            exact ⟨fun h => h.1, fun h => ⟨h, hm⟩⟩
      · rw [List.getElem?_set_ne hco] at hz
        obtain ⟨h1, h2, h3⟩ := P.m c zs hz
        refine ⟨h1, h2, fun i => ?_⟩
        rw [h3, C.ca]
        by_cases hm : i ∈ mv
        · rw [if_pos hm]
          have ho := ((P.m _ _ C.h).2.2 i).mp (C.s i hm)
          refine ⟨fun h => ?_, fun h => ?_⟩
          · rw [ho] at h; exact absurd (Option.some.inj h) hco
          · have := Option.some.inj h
            omega
        · rw [if_neg hm]
    · rw [List.getElem?_append_right (by rw [List.length_set]; omega), List.length_set] at hz
      have hcl : c = ms.length := by
        have := (List.getElem?_eq_some_iff.mp hz).1
        rw [List.length_singleton] at this
        omega
      subst hcl
      rw [Nat.sub_self] at hz
      cases hz
      refine ⟨C.n, C.e, fun i => ?_⟩
      rw [C.ca]
      by_cases hm : i ∈ mv
      · rw [if_pos hm]; exact ⟨fun _ => rfl, fun _ => hm⟩
      · rw [if_neg hm]
        refine ⟨fun h => absurd h hm, fun h => ?_⟩
        have := P.c _ _ h
        omega
  · rw [C.len]
    rcases C.cases P h with ⟨_, e, _⟩ | ⟨_, _, l⟩ <;> omega
  · obtain ⟨d, h1, h2⟩ := C.ref P hi hj
    exact P.t i j d h1 h2
  · rcases C.cases P hi with ⟨hm, e, _⟩ | ⟨hm, h, _⟩
    · rw [C.ca, if_pos (hb i j hm hij), e]
    · rw [C.ca, if_neg (fun z => hm (hb j i z hij.sym))]
      exact P.b i j c hij h
/-- classes that are parted by a field: one of both waits, or is chosen now -/
def Jn (s : Sheet α) (cl W ch : List Nat) : Prop := ∀ (i j c a x y : Nat), cl[i]? = some c → cl[j]? = some c → (fl s i)[a]? = some x → (fl s j)[a]? = some y →
  cl[x]? = cl[y]? ∨ (∃ d ∈ W, cl[x]? = some d ∨ cl[y]? = some d) ∨ ¬(x ∈ ch ↔ y ∈ ch)
def St (s : Sheet α) (cl ch : List Nat) (a : Nat) : Prop := ∀ (i j c x y : Nat), cl[i]? = some c → cl[j]? = some c → (fl s i)[a]? = some x → (fl s j)[a]? = some y → (x ∈ ch ↔ y ∈ ch)
theorem Cut.jn (C : Cut cl ms old xs mv cl' xs' ms') (P : Part s cl ms) (J : Jn s cl W ch) : Jn s cl' (W ++ [ms.length]) ch := by
  intro i j c a x y hi hj hx hy
  obtain ⟨d, h1, h2⟩ := C.ref P hi hj
  have moved : ∀ {z d : Nat}, d ∈ W → cl[z]? = some d → ∃ e ∈ W ++ [ms.length], cl'[z]? = some e := fun {z d} hd hz => by
    by_cases hm : z ∈ mv
    · exact ⟨_, List.mem_append_right _ List.mem_cons_self, by rw [C.ca, if_pos hm]⟩
    · exact ⟨d, List.mem_append_left _ hd, by rw [C.ca, if_neg hm]; exact hz⟩
  rcases J i j d a x y h1 h2 hx hy with h | ⟨e, he, h⟩ | h
  · by_cases hmx : x ∈ mv
    · exact .inr (.inl ⟨_, List.mem_append_right _ List.mem_cons_self, .inl (by rw [C.ca, if_pos hmx])⟩)
    · by_cases hmy : y ∈ mv
      · exact .inr (.inl ⟨_, List.mem_append_right _ List.mem_cons_self, .inr (by rw [C.ca, if_pos hmy])⟩)
      · exact .inl (by rw [C.ca, C.ca, if_neg hmx, if_neg hmy]; exact h)
  · rcases h with h | h
    · obtain ⟨e', h1, h2⟩ := moved he h
      exact .inr (.inl ⟨e', h1, .inl h2⟩)
    · obtain ⟨e', h1, h2⟩ := moved he h
      exact .inr (.inl ⟨e', h1, .inr h2⟩)
  · exact .inr (.inr h)
theorem Cut.st (C : Cut cl ms old xs mv cl' xs' ms') (P : Part s cl ms) {a : Nat} (S : St s cl ch a) : St s cl' ch a := by
  intro i j c x y hi hj hx hy
  obtain ⟨d, h1, h2⟩ := C.ref P hi hj
  exact S i j d x y h1 h2 hx hy
end
/-! rows whose field is chosen -/
def HitP (s : Sheet α) (ch : List Nat) (a u : Nat) : Prop := ∃ x, (fl s u)[a]? = some x ∧ x ∈ ch
theorem hit_same (hs : Ok ar s) {ch : List Nat} (hc : ∀ x y, x ∈ ch → Same s s x y → y ∈ ch) {a u v : Nat} (h : Same s s u v) (hu : HitP s ch a u) : HitP s ch a v := by
  obtain ⟨x, hx, hm⟩ := hu
  have hl := hs.len hs h.tag
  have ha : a < (fl s v).length := by rw [← hl]; exact (List.getElem?_eq_some_iff.mp hx).1
  exact ⟨_, List.getElem?_eq_getElem ha, hc x _ hm (h.fld hx (List.getElem?_eq_getElem ha))⟩
/-- what is left of the hits, and what is uniform -/
structure Rest (s : Sheet α) (cl ch : List Nat) (a : Nat) (rs : List (Nat × List Nat)) : Prop where
  k : (rs.map (·.1)).Nodup
  m : ∀ (c : Nat) (h : List Nat), (c, h) ∈ rs → h.Nodup ∧ h ≠ [] ∧ ∀ u : Nat, u ∈ h ↔ cl[u]? = some c ∧ HitP s ch a u
  u : ∀ c : Nat, c ∉ rs.map (·.1) → ∀ i j : Nat, cl[i]? = some c → cl[j]? = some c → (HitP s ch a i ↔ HitP s ch a j)
section
variable {cl ch W : List Nat} {ms : List (List Nat)} {a c : Nat} {h xs : List Nat} {rs : List (Nat × List Nat)}
theorem Rest.st (hs : Ok ar s) (R : Rest s cl ch a []) : St s cl ch a := by
  intro i j c x y hi hj hx hy
  have := R.u c (by simp) i j hi hj
  refine ⟨fun h => ?_, fun h => ?_⟩
  · obtain ⟨z, hz, hm⟩ := this.mp ⟨x, hx, h⟩
    rw [hy] at hz; cases hz; exact hm
  · obtain ⟨z, hz, hm⟩ := this.mpr ⟨y, hy, h⟩
    rw [hx] at hz; cases hz; exact hm
theorem Rest.at (R : Rest s cl ch a ((c, h) :: rs)) (P : Part s cl ms) : ∃ xs, ms[c]? = some xs ∧ (∀ u ∈ h, u ∈ xs) ∧ h.length ≤ xs.length := by
  obtain ⟨h1, h2, h3⟩ := R.m c h List.mem_cons_self
  obtain ⟨u, hu⟩ := List.exists_mem_of_ne_nil _ h2
  have hc := P.c u c ((h3 u).mp hu).1
  obtain ⟨q1, q2, q3⟩ := P.m c _ (List.getElem?_eq_getElem hc)
  have hsub : ∀ u ∈ h, u ∈ ms[c] := fun u hu => (q3 u).mpr ((h3 u).mp hu).1
  exact ⟨_, List.getElem?_eq_getElem hc, hsub, h1.length_le_of_subset hsub⟩
/-- all of the class is hit -/
theorem Rest.all (R : Rest s cl ch a ((c, h) :: rs)) (P : Part s cl ms) (hx : ms[c]? = some xs) (hl : ¬ h.length < xs.length) : Rest s cl ch a rs := by
  obtain ⟨h1, h2, h3⟩ := R.m c h List.mem_cons_self
  obtain ⟨q1, q2, q3⟩ := P.m c _ hx
  have hsub : ∀ u ∈ h, u ∈ xs := fun u hu => (q3 u).mpr ((h3 u).mp hu).1
  have hall := nodup_same h1 hsub (by omega) q1
  have hk := List.nodup_cons.mp (show (c :: rs.map (·.1)).Nodup from R.k)
  refine ⟨hk.2, fun d g hg => R.m d g (List.mem_cons_of_mem _ hg), fun d hd i j hi hj => ?_⟩
  by_cases e : d = c
  · subst e
    have hi' := ((h3 i).mp (hall i ((q3 i).mpr hi))).2
    have hj' := ((h3 j).mp (hall j ((q3 j).mpr hj))).2
    exact ⟨fun _ => hj', fun _ => hi'⟩
  · exact R.u d (by simp only [List.map_cons, List.mem_cons, not_or]; exact ⟨e, hd⟩) i j hi hj
/-- a part of the class is hit: it, or the other part, moves -/
theorem Rest.cut {mv cl' xs' : List Nat} {ms' : List (List Nat)} (R : Rest s cl ch a ((c, h) :: rs)) (P : Part s cl ms) (hs : Ok ar s) (hc : ∀ x y, x ∈ ch → Same s s x y → y ∈ ch)
    (C : Cut cl ms c xs mv cl' xs' ms') (hmv : (∀ i, i ∈ mv ↔ i ∈ h) ∨ ∀ i, i ∈ mv ↔ i ∈ xs ∧ i ∉ h) : Part s cl' ms' ∧ Rest s cl' ch a rs := by
  obtain ⟨h1, h2, h3⟩ := R.m c h List.mem_cons_self
  obtain ⟨q1, q2, q3⟩ := P.m c _ C.h
  have hk := List.nodup_cons.mp (show (c :: rs.map (·.1)).Nodup from R.k)
  have inx : ∀ i, i ∈ h → i ∈ xs := fun u hu => (q3 u).mpr ((h3 u).mp hu).1
  have hitx : ∀ i, i ∈ xs → (HitP s ch a i ↔ i ∈ h) := fun i hi => ⟨fun z => (h3 i).mpr ⟨(q3 i).mp hi, z⟩, fun z => ((h3 i).mp z).2⟩
  have cloh : ∀ i j, i ∈ h → Same s s i j → j ∈ h := fun i j hi hij => (h3 j).mpr ⟨P.b i j c hij ((h3 i).mp hi).1, hit_same hs hc hij ((h3 i).mp hi).2⟩
  have clo : ∀ i j, i ∈ mv → Same s s i j → j ∈ mv := fun i j hi hij => by
    rcases hmv with hm | hm
    · exact (hm j).mpr (cloh i j ((hm i).mp hi) hij)
    · obtain ⟨a1, a2⟩ := (hm i).mp hi
      exact (hm j).mpr ⟨(q3 j).mpr (P.b i j c hij ((q3 i).mp a1)), fun z => a2 (cloh j i z hij.sym)⟩
  refine ⟨C.part P clo, hk.2, fun d g hg => ?_, fun d hd i j hi hj => ?_⟩
  · obtain ⟨g1, g2, g3⟩ := R.m d g (List.mem_cons_of_mem _ hg)
    have hdc : d ≠ c := fun e => hk.1 (by rw [← e]; exact List.mem_map_of_mem (f := fun p : Nat × List Nat => p.1) hg)
    obtain ⟨u0, hu0⟩ := List.exists_mem_of_ne_nil _ g2
    have hdl := P.c u0 d ((g3 u0).mp hu0).1
    refine ⟨g1, g2, fun u => ?_⟩
    rw [g3, C.ca]
    by_cases hm : u ∈ mv
    · rw [if_pos hm]
      have hu := (q3 u).mp (C.s u hm)
      refine ⟨fun z => ?_, fun z => ?_⟩
      · rw [hu] at z; exact absurd (Option.some.inj z.1).symm hdc
      · have := Option.some.inj z.1
        omega
    · rw [if_neg hm]
  · -- all of mv alike, all that stays alike
    have side : ∀ i, i ∈ xs → (i ∈ mv ↔ i ∈ h) ∨ True := fun _ _ => .inr trivial
    rcases C.cases P hi with ⟨mi, ei, oi⟩ | ⟨mi, oi, li⟩
    · rcases C.cases P hj with ⟨mj, ej, oj⟩ | ⟨mj, oj, lj⟩
      · rw [hitx i (C.s i mi), hitx j (C.s j mj)]
        rcases hmv with hm | hm
        · exact ⟨fun _ => (hm j).mp mj, fun _ => (hm i).mp mi⟩
        · exact ⟨fun z => absurd z ((hm i).mp mi).2, fun z => absurd z ((hm j).mp mj).2⟩
      · omega
    · rcases C.cases P hj with ⟨mj, ej, oj⟩ | ⟨mj, oj, lj⟩
      · omega
      · by_cases e : d = c
        · subst e
          have xi := (q3 i).mpr oi
          have xj := (q3 j).mpr oj
          rw [hitx i xi, hitx j xj]
          rcases hmv with hm | hm
          · exact ⟨fun z => absurd ((hm i).mpr z) mi, fun z => absurd ((hm j).mpr z) mj⟩
          · refine ⟨fun _ => Classical.byContradiction fun z => mj ((hm j).mpr ⟨xj, z⟩), fun _ => Classical.byContradiction fun z => mi ((hm i).mpr ⟨xi, z⟩)⟩
        · exact R.u d (by simp only [List.map_cons, List.mem_cons, not_or]; exact ⟨e, hd⟩) i j oi oj
end
/-! the whole -/
theorem Jn.start {cl : List Nat} {ms : List (List Nat)} (P : Part s cl ms) (hs : Ok ar s) : Jn s cl (List.range ms.length) [] := by
  intro i j c a x y hi hj hx hy
  have hxl : x < cl.length := by rw [P.l]; exact hs.fld (List.mem_of_getElem? hx)
  exact .inr (.inl ⟨cl[x], List.mem_range.mpr (P.c x _ (List.getElem?_eq_getElem hxl)), .inl (List.getElem?_eq_getElem hxl)⟩)
theorem Jn.pop {cl W xs : List Nat} {ms : List (List Nat)} {d : Nat} (P : Part s cl ms) (J : Jn s cl (W ++ [d]) []) (hx : ms[d]? = some xs) : Jn s cl W xs := by
  obtain ⟨_, _, q3⟩ := P.m d _ hx
  intro i j c a x y hi hj h1 h2
  rcases J i j c a x y hi hj h1 h2 with h | ⟨e, he, h⟩ | h
  · exact .inl h
  · rcases List.mem_append.mp he with he | he
    · exact .inr (.inl ⟨e, he, h⟩)
    · rcases List.mem_cons.mp he with rfl | he
      · by_cases hxy : x ∈ xs ↔ y ∈ xs
        · refine .inl ?_
          rcases h with h | h
          · rw [h, (q3 y).mp (hxy.mp ((q3 x).mpr h))]
          · rw [h, (q3 x).mp (hxy.mpr ((q3 y).mpr h))]
        · exact .inr (.inr hxy)
      · cases he
  · simp at h
theorem Jn.done {cl W ch : List Nat} (J : Jn s cl W ch) (S : ∀ a, St s cl ch a) : Jn s cl W [] := by
  intro i j c a x y hi hj h1 h2
  rcases J i j c a x y hi hj h1 h2 with h | h | h
  · exact .inl h
  · exact .inr (.inl h)
  · exact absurd (S a i j c x y hi hj h1 h2) h
theorem Part.final {cl : List Nat} {ms : List (List Nat)} (P : Part s cl ms) (hs : Ok ar s) (J : Jn s cl [] []) {i j : Nat} (hi : i < s.length) (hj : j < s.length) : cl[i]? = cl[j]? ↔ Same s s i j := by
  have hi' : i < cl.length := by rw [P.l]; exact hi
  have hj' : j < cl.length := by rw [P.l]; exact hj
  refine ⟨fun h => ?_, fun h => ?_⟩
  · refine same_of (fun i j => ∃ c, cl[i]? = some c ∧ cl[j]? = some c) (fun i j ⟨c, h1, h2⟩ => ⟨P.t i j c h1 h2, fun a x y hx hy => ?_⟩) ⟨cl[i], List.getElem?_eq_getElem hi', by rw [← h]; exact List.getElem?_eq_getElem hi'⟩
    have hxl : x < cl.length := by rw [P.l]; exact hs.fld (List.mem_of_getElem? hx)
    rcases J i j c a x y h1 h2 hx hy with h | ⟨_, h, _⟩ | h
    · exact ⟨_, List.getElem?_eq_getElem hxl, by rw [← h]; exact List.getElem?_eq_getElem hxl⟩
    · cases h
    · simp at h
  · have := P.b i j _ h (List.getElem?_eq_getElem hi')
    rw [this]
    exact List.getElem?_eq_getElem hi'
end
end KM
set_option Elab.async false
set_option linter.all false
set_option maxRecDepth 100000
set_option maxHeartbeats 1000000
namespace KD
open PySem PySem.Spec PyProof.Rows L2
/-! ### sheets as data -/
abbrev nD (k : Nat) : PyData := .int (k : Int)
abbrev vN (k : Nat) : V := .int (k : Int)
abbrev kN (k : Nat) : Key := .inl (k : Int)
abbrev kT (k : Nat) : Key × V := (kN k, .bl true)
def rowD (r : Str × List Nat) : PyData := .tuple [.str r.1, .tuple (r.2.map nD)]
def sheetD (s : KM.Sheet Str) : PyData := .tuple (s.map rowD)
theorem daAll_nats {K : PySem.W.Frag} {G : Hp} : ∀ {xs : List V} {ns : List Nat}, DaAll K G xs (ns.map nD) → xs = ns.map vN
  | _, [], h => by cases h; rfl
  | _, n :: ns, h => by
    cases h with
    | cons h1 h2 => cases h1; rw [daAll_nats h2]; rfl
theorem daAll_ofNats {K : PySem.W.Frag} {G : Hp} : ∀ {ns : List Nat}, DaAll K G (ns.map vN) (ns.map nD)
  | [] => .nil
  | n :: ns => .cons (.int _) daAll_ofNats
theorem kN_inj {a b : Nat} (h : kN a = kN b) : a = b := by
  have := Sum.inl.inj h
  omega
theorem valV_kT {k : Nat} : ∀ {xs : List Nat}, valV (xs.map kT) (kN k) = if k ∈ xs then some (.bl true) else none
  | [] => rfl
  | x :: xs => by
    by_cases e : x = k
    · subst e
      rw [List.map_cons, valV_pos rfl, if_pos List.mem_cons_self]
    · rw [List.map_cons, valV_neg (fun z => e (kN_inj z)), valV_kT]
      by_cases h : k ∈ xs
      · rw [if_pos h, if_pos (List.mem_cons_of_mem _ h)]
      · rw [if_neg h, if_neg (by simp [h, Ne.symm e])]
theorem putK_kT {k : Nat} {xs : List Nat} (h : k ∉ xs) : putK (xs.map kT) (kN k) (.bl true) = (xs ++ [k]).map kT := by
  rw [putK_new _ (by rw [valV_kT, if_neg h]), List.map_append]; rfl
theorem putK_kT1 {k : Nat} {xs : List Nat} (h : k ∈ xs) : putK (xs.map kT) (kN k) (.bl true) = xs.map kT := by
  unfold putK
  have : (xs.map kT).any (fun kv => decide (kv.1 = kN k)) = true := List.any_eq_true.mpr ⟨kT k, List.mem_map_of_mem h, by simp⟩
  rw [if_pos this, List.map_map]
  refine List.map_congr_left fun x hx => ?_
  show (if kN x = kN k then (kN x, V.bl true) else kT x) = kT x
  split <;> rfl
theorem dropK_kT {k : Nat} {xs : List Nat} : dropK (xs.map kT) (kN k) = (xs.filter fun x => decide (x ≠ k)).map kT := by
  unfold dropK
  rw [List.filter_map]
  congr 1
  refine List.filter_congr fun x hx => ?_
  show decide (kN x ≠ kN k) = decide (x ≠ k)
  by_cases e : x = k
  · subst e; simp
  · have h1 : kN x ≠ kN k := fun z => e (kN_inj z)
    simp only [ne_eq, h1, not_false_eq_true, decide_true, e]
/-! ### what stays -/
def Fr (ft : List Addr) (H H' : Hp) : Prop := ∀ x o, x ∉ ft → H x = some o → H' x = some o
theorem Fr.rf {ft : List Addr} {H : Hp} : Fr ft H H := fun _ _ _ h => h
theorem Fr.of {ft : List Addr} {H H' : Hp} (h : Ex H H') : Fr ft H H' := fun x o _ e => h x o e
theorem Fr.tr {ft : List Addr} {H H1 H2 : Hp} (a : Fr ft H H1) (b : Fr ft H1 H2) : Fr ft H H2 := fun x o h e => b x o h (a x o h e)
theorem Fr.upd {ft : List Addr} {H H' : Hp} {a : Addr} {o : HO} (f : Fr ft H H') (h : a ∈ ft ∨ H a = none) : Fr ft H (upd H' a o) := fun x u hx e => by
  have : x ≠ a := fun z => by
    rcases h with h | h
    · exact hx (z ▸ h)
    · rw [z, h] at e; cases e
  rw [upd_ne this]; exact f x u hx e
theorem Fr.mono {ft ft' : List Addr} {H H' : Hp} (f : Fr ft H H') (h : ∀ x ∈ ft, x ∈ ft') : Fr ft' H H' := fun x o hx e => f x o (fun z => hx (h x z)) e
theorem Fr.ex {ft : List Addr} {G H H' : Hp} (f : Fr ft H H') (e : Ex G H) (h : ∀ x ∈ ft, G x = none) : Ex G H' := fun x o g => f x o (fun z => by rw [h x z] at g; cases g) (e x o g)
/-! ### classes of rows, as an object of the program -/
structure PtAt (C : Addr) (H : Hp) (p a b : Addr) (ds : List Addr) (cl : List Nat) (ms : List (List Nat)) : Prop where
  hp : ∃ dx fs, H p = some (.ins C dx fs) ∧ fs.lookup ("class_of" : Str) = some (.ref a) ∧ fs.lookup ("members" : Str) = some (.ref b) ∧ fs.lookup ("by_class" : Str) = none ∧ fs.lookup ("split_off" : Str) = none
  ha : H a = some (.lst (cl.map vN))
  hb : H b = some (.lst (ds.map V.ref))
  ne : a ≠ b
  nd : ds.Nodup
  l : ds.length = ms.length
  m : ∀ (c : Nat) (d : Addr) (xs : List Nat), ds[c]? = some d → ms[c]? = some xs → H d = some (.dK (xs.map kT))
abbrev foot (p a b : Addr) (ds : List Addr) : List Addr := p :: a :: b :: ds
section
variable {C p a b d : Addr} {H H' : Hp} {ds : List Addr} {cl : List Nat} {ms : List (List Nat)} {c : Nat} {xs : List Nat}
theorem PtAt.dk (P : PtAt C H p a b ds cl ms) (h : d ∈ ds) : ∃ xs : List Nat, H d = some (.dK (xs.map kT)) := by
  obtain ⟨c, hc⟩ := List.mem_iff_getElem?.mp h
  have hl := (List.getElem?_eq_some_iff.mp hc).1
  rw [P.l] at hl
  exact ⟨_, P.m c d _ hc (List.getElem?_eq_getElem hl)⟩
theorem PtAt.pa (P : PtAt C H p a b ds cl ms) : p ≠ a := by
  obtain ⟨_, _, h, _⟩ := P.hp
  intro z; rw [z, P.ha] at h; cases h
theorem PtAt.pb (P : PtAt C H p a b ds cl ms) : p ≠ b := by
  obtain ⟨_, _, h, _⟩ := P.hp
  intro z; rw [z, P.hb] at h; cases h
theorem PtAt.dp (P : PtAt C H p a b ds cl ms) (h : d ∈ ds) : d ≠ p := by
  obtain ⟨_, _, h1, _⟩ := P.hp
  obtain ⟨_, h2⟩ := P.dk h
  intro z; rw [z, h1] at h2; cases h2
theorem PtAt.da (P : PtAt C H p a b ds cl ms) (h : d ∈ ds) : d ≠ a := by
  obtain ⟨_, h2⟩ := P.dk h
  intro z; rw [z, P.ha] at h2; cases h2
theorem PtAt.db (P : PtAt C H p a b ds cl ms) (h : d ∈ ds) : d ≠ b := by
  obtain ⟨_, h2⟩ := P.dk h
  intro z; rw [z, P.hb] at h2; cases h2
theorem PtAt.mono (P : PtAt C H p a b ds cl ms) (f : ∀ x o, x ∈ foot p a b ds → H x = some o → H' x = some o) : PtAt C H' p a b ds cl ms := by
  obtain ⟨dx, fs, h1, h2⟩ := P.hp
  refine ⟨⟨dx, fs, f _ _ (by simp) h1, h2⟩, f _ _ (by simp) P.ha, f _ _ (by simp) P.hb, P.ne, P.nd, P.l, fun c d xs hc hx => f _ _ ?_ (P.m c d xs hc hx)⟩
  have := List.mem_of_getElem? hc
  simp [this]
theorem PtAt.ex (P : PtAt C H p a b ds cl ms) (e : Ex H H') : PtAt C H' p a b ds cl ms := P.mono fun x o _ h => e x o h
/-- a store to something else -/
theorem PtAt.other {q : Addr} {o : HO} (P : PtAt C H p a b ds cl ms) (h : q ∉ foot p a b ds) : PtAt C (upd H q o) p a b ds cl ms := P.mono fun x u hx e => by
  rw [upd_ne (fun z : x = q => h (by rw [← z]; exact hx))]; exact e
end
end KD
set_option Elab.async false
set_option linter.all false
set_option maxRecDepth 100000
set_option maxHeartbeats 1000000
namespace KD
open PySem PySem.Spec PyProof.Rows L2
section
variable {K : PySem.W.Frag} {σ : L2.St} {F : Hp}
/-- [e for x in ..], e pure: the new list is the def's own -/
theorem lc_own {wi : TI} {g : TG} {tt : TT} {te : TE} {vs : List Nat} {ds : List PyData} {p : PyData → Bool} {f : PyData → PyData} (hi : EvI K σ F wi ds) (hz : ds.length ≤ 100000)
    (ht : ∀ d ∈ ds, ∃ P, Tg K g (wipe σ vs) d P ∧ ∀ F' σ', Ex F F' → P F' σ' → wipe σ' vs = wipe σ vs ∧ EvT σ' F' tt (p d) ∧ (p d = true → EvE K σ' F' te (f d)))
    {G H : Hp} (e1 : Ex F G) (e2 : Ex G H) {Q : VK} (q : ∀ L acc G' H', Up G H G' H' → H L = none → G' L = none → H' L = some (.lst acc) → DaAll K G' acc ((ds.filter p).map f) → Q (.ref L) H') : tLc wi g tt te vs σ H Q :=
  hi G H e1 e2 _ fun J G1 H1 u1 wk => by
  intro D hD
  have hDH : H D = none := by
    cases z : H D with
    | none => rfl
    | some o => rw [u1.m D o z] at hD; cases hD
  refine ⟨fun i μ H2 => μ = ds.length - i ∧ i ≤ ds.length ∧ ∃ (G2 : Hp) (acc : List V), Ex G1 G2 ∧ Ex G2 H2 ∧ Ex H1 H2 ∧ (∀ b, H1 b ≠ none → G1 b = none → G2 b = none) ∧ H2 D = some (.lst acc) ∧ G2 D = none ∧ DaAll K G2 acc (((ds.take i).filter p).map f),
    ⟨_, rfl, Nat.zero_le _, G1, [], Ex.rf _, u1.h.tr (Ex.up hD), Ex.up hD, fun _ _ h => h, upd_same, u1.h.fresh hD, .nil⟩, ?_⟩
  rintro i μ H2 ⟨rfl, hi', G2, acc, eg, eh, em, en, hd, gd, ha⟩
  obtain ⟨w1, w2⟩ := wk i G2 H2 eg eh
  have keepN : ∀ {G3 : Hp} {b : Addr}, (∀ b, H2 b ≠ none → G2 b = none → G3 b = none) → H1 b ≠ none → G1 b = none → G3 b = none := fun {G3 b} hn h1 h2 => hn b (fun z => by
    cases e : H1 b with
    | none => exact h1 e
    | some o => rw [em b o e] at z; cases z) (en b h1 h2)
  by_cases hlt : i < ds.length
  · obtain ⟨hgo, hy⟩ := w1 _ (List.getElem?_eq_getElem hlt)
    have tk : ds.take (i + 1) = ds.take i ++ [ds[i]] := by rw [List.take_add_one, List.getElem?_eq_getElem hlt]; rfl
    refine .inr ⟨hgo, fun H3 => ∃ (G3 : Hp) (acc : List V), Ex G1 G3 ∧ Ex G3 H3 ∧ Ex H1 H3 ∧ (∀ b, H1 b ≠ none → G1 b = none → G3 b = none) ∧ H3 D = some (.lst acc) ∧ G3 D = none ∧ DaAll K G3 acc (((ds.take (i + 1)).filter p).map f), ?_, ?_⟩
    · rintro H3 ⟨G3, acc3, r⟩
      exact ⟨ds.length - (i + 1), by omega, rfl, hlt, G3, acc3, r⟩
    · intro x H3 hyl
      obtain ⟨G3, u3, dx⟩ := hy x H3 hyl
      obtain ⟨P, tg, body⟩ := ht _ (List.getElem_mem hlt)
      refine tg G3 H3 x u3.h dx _ fun σ' hP => ?_
      obtain ⟨hw, hT, hE⟩ := body G3 σ' ((e1.tr u1.g).tr (eg.tr u3.g)) hP
      refine ⟨hw, hT G3 H3 (Ex.rf _) u3.h _ fun G4 H4 u4 => ?_⟩
      have u34 := u3.tr u4
      have ne : H2 D ≠ none := by rw [hd]; simp
      by_cases hp : p ds[i] = true
      · rw [hp]
        refine iteT (hE hp G4 H4 u4.g u4.h _ fun y G5 H5 u5 dy => ?_)
        have u := u34.tr u5
        refine ⟨acc, u.m _ _ hd, ?_, G5, acc ++ [y], eg.tr u.g, u.h.at (u.n D ne gd), fun a o e => ?_, fun b => keepN u.n, upd_same, u.n D ne gd, ?_⟩
        · have h1 := ha.length
          rw [List.length_map] at h1
          have h2 : ((ds.take i).filter p).length ≤ ds.length := Nat.le_trans (List.length_filter_le _ _) (by rw [List.length_take]; omega)
          exact Nat.lt_of_le_of_lt (by omega : acc.length ≤ 100000) (by decide)
        · rw [upd_ne (ne_of_none e hD)]
          exact u.m a o (em a o e)
        · rw [tk, List.filter_append, List.map_append]
          refine (ha.mono u.g).append ?_
          rw [List.filter_cons, if_pos hp]
          exact .cons dy .nil
      · have hp' : p ds[i] = false := by simpa using hp
        rw [hp']
        refine iteF ⟨G4, acc, eg.tr u34.g, u34.h, em.tr u34.m, fun b => keepN u34.n, u34.m _ _ hd, u34.n D ne gd, ?_⟩
        rw [tk, List.filter_append, List.filter_cons, if_neg (by rw [hp']; simp), List.filter_nil, List.append_nil]
        exact ha.mono u34.g
  · have hle : i = ds.length := by omega
    refine .inl ⟨w2 hle, q D acc G2 H2 (u1.tr ⟨eg, eh, em, en⟩) hDH gd hd ?_⟩
    rw [List.take_of_length_le (by omega)] at ha
    exact ha
theorem st_fld {ta tv : TE} {f : Str} {u : TS} {D : Ends} {H : Hp} (h : tv σ H fun y H1 => ta σ H1 fun x H2 => ∃ a C dx fs, x = .ref a ∧ H2 a = some (.ins C dx fs) ∧ Cls K C ∧ NoAttr K C f ∧ fs.length < 1000 ∧ u D σ (upd H2 a (.ins C dx (putF f y fs)))) :
    tSeq (sFld K ta tv f) u D σ H := h
end
/-! ### tags by number -/
def kvTg (acc : List Str) : List (Key × V) := acc.zipIdx.map fun p => ((.inr p.1 : Key), vN p.2)
def tagsIn : List Str → List Str → List Str
  | acc, [] => acc
  | acc, t :: r => tagsIn (if t ∈ acc then acc else acc ++ [t]) r
theorem kvTg_snoc {acc : List Str} {t : Str} : kvTg (acc ++ [t]) = kvTg acc ++ [(.inr t, vN acc.length)] := by
  unfold kvTg
  rw [List.zipIdx_append, List.map_append]
  simp
theorem kvTg_length {acc : List Str} : (kvTg acc).length = acc.length := by unfold kvTg; rw [List.length_map, List.length_zipIdx]
theorem kvTg_from {t : Str} : ∀ {acc : List Str} {k : Nat}, valV ((acc.zipIdx k).map fun p => ((.inr p.1 : Key), vN p.2)) (.inr t) = if t ∈ acc then some (vN (k + acc.idxOf t)) else none
  | [], k => rfl
  | x :: r, k => by
    rw [List.zipIdx_cons, List.map_cons]
    by_cases e : x = t
    · subst e
      rw [valV_pos rfl, if_pos List.mem_cons_self, List.idxOf_cons_self]
      rfl
    · rw [valV_neg (by simpa using e), kvTg_from]
      rw [List.idxOf_cons, beq_false_of_ne e]
      by_cases h : t ∈ r
      · rw [if_pos h, if_pos (List.mem_cons_of_mem _ h)]
        show some (vN _) = some (vN _)
        congr 2
        show k + 1 + List.idxOf t r = k + (List.idxOf t r + 1)
        omega
      · rw [if_neg h, if_neg (by simp [h, Ne.symm e])]
theorem valV_kvTg {acc : List Str} {t : Str} : valV (kvTg acc) (.inr t) = if t ∈ acc then some (vN (acc.idxOf t)) else none := by
  unfold kvTg
  rw [kvTg_from]
  simp
theorem tagsIn_keep : ∀ {ts acc : List Str}, (∀ t ∈ acc, t ∈ tagsIn acc ts) ∧ (∀ t ∈ ts, t ∈ tagsIn acc ts) ∧ (∀ t ∈ tagsIn acc ts, t ∈ acc ∨ t ∈ ts) ∧ (acc.Nodup → (tagsIn acc ts).Nodup)
  | [], acc => by
    refine ⟨fun _ h => h, fun _ h => ?_, fun _ h => .inl h, fun h => h⟩
    cases h
  | t :: ts, acc => by
    obtain ⟨a, b, c, d⟩ := tagsIn_keep (ts := ts) (acc := if t ∈ acc then acc else acc ++ [t])
    show (∀ x ∈ acc, x ∈ tagsIn (if t ∈ acc then acc else acc ++ [t]) ts) ∧ _
    have sub : ∀ x ∈ acc, x ∈ (if t ∈ acc then acc else acc ++ [t]) := fun x hx => by split; exact hx; exact List.mem_append_left _ hx
    have tin : t ∈ (if t ∈ acc then acc else acc ++ [t]) := by split; assumption; exact List.mem_append_right _ List.mem_cons_self
    refine ⟨fun x hx => a x (sub x hx), fun x hx => ?_, fun x hx => ?_, fun h => d ?_⟩
    · rcases List.mem_cons.mp hx with rfl | hx
      · exact a _ tin
      · exact b x hx
    · rcases c x hx with h | h
      · split at h
        · exact .inl h
        · rcases List.mem_append.mp h with h | h
          · exact .inl h
          · rcases List.mem_cons.mp h with rfl | h
            · exact .inr List.mem_cons_self
            · cases h
      · exact .inr (List.mem_cons_of_mem _ h)
    · split
      · exact h
      · rename_i hn
        exact List.nodup_append.mpr ⟨h, by simp, fun x hx y hy => by
          rcases List.mem_cons.mp hy with rfl | hy
          · exact fun e => hn (e ▸ hx)
          · cases hy⟩
theorem tagsIn_snoc : ∀ {ts acc : List Str} {t : Str}, tagsIn acc (ts ++ [t]) = if t ∈ tagsIn acc ts then tagsIn acc ts else tagsIn acc ts ++ [t]
  | [], acc, t => rfl
  | u :: ts, acc, t => by
    show tagsIn (if u ∈ acc then acc else acc ++ [u]) (ts ++ [t]) = _
    rw [tagsIn_snoc]; rfl
end KD
set_option Elab.async false
set_option linter.all false
set_option maxRecDepth 100000
set_option maxHeartbeats 1000000
namespace KD
open PySem PySem.Spec PyProof.Rows L2
/-! ### more walks, cuts of statements, classes of rows that change -/
theorem seq_with {t u : TS} {D : Ends} {σ : L2.St} {H : Hp} (P : L2.St → Hp → Prop) (h : ∀ σ H, P σ H → u D σ H) (q : ∀ U : L2.St → Hp → Prop, (∀ σ H, P σ H → U σ H) → t { D with nx := U } σ H) : tSeq t u D σ H := q _ h
theorem st_cb1 {r : List V → Hp → VK → Prop} {te : TE} {i : Nat} {u : TS} {D : Ends} {σ : L2.St} {H : Hp} (h : te σ H fun x H1 => r [x] H1 fun y H2 => u D (σ.set i (some y)) H2) : tSeq (tAsg (tCB r (tCons te tNil)) (gName i)) u D σ H := h
theorem yes_if {σ : L2.St} {H : Hp} {P R : Hp → Prop} (h : P H) : tYes σ H fun b H' => if b = true then P H' else R H' := by
  unfold tYes
  dsimp only
  rw [if_pos rfl]
  exact h
theorem st_e {te : TE} {i : Nat} {u : TS} {D : Ends} {σ : L2.St} {H : Hp} (h : te σ H fun x H1 => u D (σ.set i (some x)) H1) : tSeq (tAsg te (gName i)) u D σ H := h
section
variable {K : PySem.W.Frag} {a b d : Addr} {xs ys : List V} {J : It} {n : Nat} {G : Hp → Prop} {Y : Nat → Hp → V → Hp → Prop}
theorem walk_enumT : Walk (ItT K a) xs.length (fun H => SqT K H a xs) (YPair (fun i => some (.int (i : Nat))) (fun i => xs[i]?)) := by
  refine ⟨fun i _ hi q => ⟨xs, q, hi⟩, fun _ q => ⟨xs, q, rfl⟩, fun i H v H' _ q y => ?_⟩
  obtain ⟨T, x, h1, h2, h3, h4⟩ := y
  exact ⟨T, .int (i : Nat), x, h1, h2, h3, rfl, h4 xs q⟩
theorem walk_zipM (hl : xs.length = ys.length) : Walk (ItzM K a b) xs.length (fun H => SqL K H a xs ∧ SqT K H b ys) (YPair (fun i => xs[i]?) (fun i => ys[i]?)) := by
  refine ⟨fun i _ hi q => ?_, fun _ q => ?_, fun i H v H' _ q y => ?_⟩
  · exact ⟨xs, ys, q.1, q.2, hi, hl ▸ hi⟩
  · exact ⟨xs, ys, q.1, q.2, by omega⟩
  · obtain ⟨T, x, z, h1, h2, h3, h4, h5⟩ := y
    exact ⟨T, x, z, h1, h2, h3, h4 xs q.1, h5 ys q.2⟩
/-- a walk told by what stands after each turn; T what a turn does, by what it is to reach -/
theorem turns_it (w : Walk J n G Y) (Pv : Nat → Hp → Prop) {H0 : Hp} {Qd : Hp → Prop} {T : Nat → V → Hp → (Hp → Prop) → Prop} (h0 : Pv 0 H0) (hG : ∀ i H, i ≤ n → Pv i H → G H)
    (hs : ∀ i x H H', i < n → Pv i H → Y i H x H' → T i x H' (Pv (i + 1))) (hd : ∀ H, Pv n H → Qd H) :
    ∃ W : Nat → Nat → Hp → Prop, (∃ m, W 0 m H0) ∧ ∀ i m H, W i m H → (J.stop i H ∧ Qd H) ∨
      (J.go i H ∧ ∃ Nx : Hp → Prop, (∀ H', Nx H' → ∃ m', m' < m ∧ W (i + 1) m' H') ∧ ∀ x H', J.yld i H x H' → T i x H' Nx) := by
  refine ⟨fun i m H => i + m = n ∧ Pv i H, ⟨n, Nat.zero_add n, h0⟩, fun i m H ⟨sum, p⟩ => ?_⟩
  have g := hG i H (by omega) p
  rcases Nat.lt_or_ge i n with more | over
  · exact .inr ⟨w.goes i H more g, Pv (i + 1), fun H' p' => ⟨m - 1, by omega, by omega, p'⟩, fun x H' y => hs i x H H' more p (w.yields i H x H' more g y)⟩
  · obtain rfl : i = n := by omega
    exact .inl ⟨w.stops H g, hd H p⟩
/-- a dict comprehension over it -/
theorem dc_it (w : Walk J n G Y) {g : TG} {tt : TT} {tk tv : TE} {vs : List Nat} {σ : L2.St} {H1 : Hp} {D : Addr} {Qd : Hp → Prop} (Pv : Nat → Hp → Prop) (h0 : Pv 0 (upd H1 D (.dK []))) (hG : ∀ i H, i ≤ n → Pv i H → G H)
    (hs : ∀ i x H H', i < n → Pv i H → Y i H x H' → g x (wipe σ vs) H' fun σ2 H2 => wipe σ2 vs = wipe σ vs ∧ tt σ2 H2 fun b H3 =>
      if b = true then tk σ2 H3 fun y H4 => tv σ2 H4 fun z H5 => ∃ kvs k, y = kV k ∧ H5 D = some (.dK kvs) ∧ kvs.length < sizeLine ∧ Pv (i + 1) (upd H5 D (.dK (putK kvs k z))) else Pv (i + 1) H3) (hd : ∀ H, Pv n H → Qd H) :
    ∃ W : Nat → Nat → Hp → Prop, (∃ m, W 0 m (upd H1 D (.dK []))) ∧ ∀ i m H, W i m H →
      (J.stop i H ∧ Qd H) ∨ (J.go i H ∧ ∃ Nx : Hp → Prop, (∀ H', Nx H' → ∃ m', m' < m ∧ W (i + 1) m' H') ∧ ∀ x H', J.yld i H x H' → g x (wipe σ vs) H' fun σ2 H2 => wipe σ2 vs = wipe σ vs ∧ tt σ2 H2 fun b H3 =>
        if b = true then tk σ2 H3 fun y H4 => tv σ2 H4 fun z H5 => ∃ kvs k, y = kV k ∧ H5 D = some (.dK kvs) ∧ kvs.length < sizeLine ∧ Nx (upd H5 D (.dK (putK kvs k z))) else Nx H3) := by
  exact turns_it w Pv h0 hG hs hd
/-- a comprehension with two fors: within a turn -/
theorem in_it (w : Walk J n G Y) {g1 : TG} {tt1 : TT} {te : TE} {vs1 : List Nat} {σ2 : L2.St} {H4 : Hp} {D : Addr} {Nx : Hp → Prop} (Pv : Nat → Hp → Prop) (h0 : Pv 0 H4) (hG : ∀ i H, i ≤ n → Pv i H → G H)
    (hs : ∀ j x H H', j < n → Pv j H → Y j H x H' → g1 x (wipe σ2 vs1) H' fun σ3 H5 => wipe σ3 vs1 = wipe σ2 vs1 ∧ tt1 σ3 H5 fun b H6 =>
        if b = true then te σ3 H6 fun y H7 => ∃ acc, H7 D = some (.lst acc) ∧ acc.length < sizeLine ∧ Pv (j + 1) (upd H7 D (.lst (acc ++ [y]))) else Pv (j + 1) H6) (hd : ∀ H, Pv n H → Nx H) :
    ∃ W1 : Nat → Nat → Hp → Prop, (∃ m, W1 0 m H4) ∧ ∀ j k H, W1 j k H →
      (J.stop j H ∧ Nx H) ∨ (J.go j H ∧ ∃ Nx1 : Hp → Prop, (∀ H', Nx1 H' → ∃ k', k' < k ∧ W1 (j + 1) k' H') ∧ ∀ x H', J.yld j H x H' → g1 x (wipe σ2 vs1) H' fun σ3 H5 => wipe σ3 vs1 = wipe σ2 vs1 ∧ tt1 σ3 H5 fun b H6 =>
        if b = true then te σ3 H6 fun y H7 => ∃ acc, H7 D = some (.lst acc) ∧ acc.length < sizeLine ∧ Nx1 (upd H7 D (.lst (acc ++ [y]))) else Nx1 H6) := by
  exact turns_it w Pv h0 hG hs hd
/-- .. and the turns -/
theorem lc2_it (w : Walk J n G Y) {g : TG} {tt : TT} {wi1 : TI} {g1 : TG} {tt1 : TT} {te : TE} {vs vs1 : List Nat} {σ : L2.St} {H1 : Hp} {D : Addr} {Qd : Hp → Prop} (Pv : Nat → Hp → Prop) (h0 : Pv 0 (upd H1 D (.lst []))) (hG : ∀ i H, i ≤ n → Pv i H → G H)
    (hs : ∀ i x H H', i < n → Pv i H → Y i H x H' → ∀ Nx : Hp → Prop, (∀ H', Pv (i + 1) H' → Nx H') → g x (wipe σ vs) H' fun σ2 H2 => wipe σ2 vs = wipe σ vs ∧ tt σ2 H2 fun b H3 =>
      if b = true then wi1 σ2 H3 fun J1 H4 => ∃ W1 : Nat → Nat → Hp → Prop, (∃ m, W1 0 m H4) ∧ ∀ j k H, W1 j k H →
      (J1.stop j H ∧ Nx H) ∨ (J1.go j H ∧ ∃ Nx1 : Hp → Prop, (∀ H', Nx1 H' → ∃ k', k' < k ∧ W1 (j + 1) k' H') ∧ ∀ x H', J1.yld j H x H' → g1 x (wipe σ2 vs1) H' fun σ3 H5 => wipe σ3 vs1 = wipe σ2 vs1 ∧ tt1 σ3 H5 fun b H6 =>
        if b = true then te σ3 H6 fun y H7 => ∃ acc, H7 D = some (.lst acc) ∧ acc.length < sizeLine ∧ Nx1 (upd H7 D (.lst (acc ++ [y]))) else Nx1 H6)
    else Nx H3) (hd : ∀ H, Pv n H → Qd H) :
    ∃ W : Nat → Nat → Hp → Prop, (∃ m, W 0 m (upd H1 D (.lst []))) ∧ ∀ i m H, W i m H →
  (J.stop i H ∧ Qd H) ∨ (J.go i H ∧ ∃ Nx : Hp → Prop, (∀ H', Nx H' → ∃ m', m' < m ∧ W (i + 1) m' H') ∧ ∀ x H', J.yld i H x H' → g x (wipe σ vs) H' fun σ2 H2 => wipe σ2 vs = wipe σ vs ∧ tt σ2 H2 fun b H3 =>
    if b = true then wi1 σ2 H3 fun J1 H4 => ∃ W1 : Nat → Nat → Hp → Prop, (∃ m, W1 0 m H4) ∧ ∀ j k H, W1 j k H →
      (J1.stop j H ∧ Nx H) ∨ (J1.go j H ∧ ∃ Nx1 : Hp → Prop, (∀ H', Nx1 H' → ∃ k', k' < k ∧ W1 (j + 1) k' H') ∧ ∀ x H', J1.yld j H x H' → g1 x (wipe σ2 vs1) H' fun σ3 H5 => wipe σ3 vs1 = wipe σ2 vs1 ∧ tt1 σ3 H5 fun b H6 =>
        if b = true then te σ3 H6 fun y H7 => ∃ acc, H7 D = some (.lst acc) ∧ acc.length < sizeLine ∧ Nx1 (upd H7 D (.lst (acc ++ [y]))) else Nx1 H6)
    else Nx H3) := by
  exact turns_it w Pv h0 hG (fun i x H H' lt p y => hs i x H H' lt p y _ fun _ h => h) hd
end
section
variable {C p a b d : Addr} {H H' : Hp} {ds : List Addr} {cl cl' : List Nat} {ms : List (List Nat)} {c : Nat} {xs xs' mv : List Nat}
theorem PtAt.setD (P : PtAt C H p a b ds cl ms) (h : ds[c]? = some d) : PtAt C (upd H d (.dK (xs'.map kT))) p a b ds cl (ms.set c xs') := by
  have hm := List.mem_of_getElem? h
  obtain ⟨dx, fs, h1, h2⟩ := P.hp
  refine ⟨⟨dx, fs, by rw [upd_ne (P.dp hm).symm]; exact h1, h2⟩, by rw [upd_ne (P.da hm).symm]; exact P.ha, by rw [upd_ne (P.db hm).symm]; exact P.hb, P.ne, P.nd, by rw [List.length_set]; exact P.l, fun c' d' ys h3 h4 => ?_⟩
  by_cases e : c = c'
  · subst e
    have hl := (List.getElem?_eq_some_iff.mp h).1
    rw [List.getElem?_set_self (by rw [← P.l]; exact hl)] at h4
    rw [h] at h3
    cases h3; cases h4
    exact upd_same
  · rw [List.getElem?_set_ne e] at h4
    have hne : d' ≠ d := fun z => by
      subst z
      have h5 := (List.getElem?_eq_some_iff.mp h).1
      have h6 := (List.getElem?_eq_some_iff.mp h3).1
      rw [List.getElem?_eq_getElem h5] at h
      rw [List.getElem?_eq_getElem h6] at h3
      exact e ((List.getElem_inj P.nd).mp ((Option.some.inj h).trans (Option.some.inj h3).symm))
    rw [upd_ne hne]
    exact P.m c' d' ys h3 h4
theorem PtAt.setC (P : PtAt C H p a b ds cl ms) : PtAt C (upd H a (.lst (cl'.map vN))) p a b ds cl' ms := by
  obtain ⟨dx, fs, h1, h2⟩ := P.hp
  refine ⟨⟨dx, fs, by rw [upd_ne P.pa]; exact h1, h2⟩, upd_same, by rw [upd_ne P.ne.symm]; exact P.hb, P.ne, P.nd, P.l, fun c' d' ys h3 h4 => ?_⟩
  rw [upd_ne (P.da (List.mem_of_getElem? h3))]
  exact P.m c' d' ys h3 h4
theorem PtAt.app (P : PtAt C H p a b ds cl ms) (h : H d = some (.dK (mv.map kT))) (hn : d ∉ foot p a b ds) : PtAt C (upd H b (.lst (ds.map V.ref ++ [.ref d]))) p a b (ds ++ [d]) cl (ms ++ [mv]) := by
  obtain ⟨dx, fs, h1, h2⟩ := P.hp
  have hdb : d ≠ b := fun z => hn (by simp [z])
  have hdd : d ∉ ds := fun z => hn (by simp [z])
  refine ⟨⟨dx, fs, by rw [upd_ne P.pb]; exact h1, h2⟩, by rw [upd_ne P.ne]; exact P.ha, by rw [upd_same, List.map_append]; rfl, P.ne, List.nodup_append.mpr ⟨P.nd, by simp, fun x hx y hy => ?_⟩, by rw [List.length_append, List.length_append, P.l]; rfl, fun c' d' ys h3 h4 => ?_⟩
  · have : y = d := List.mem_singleton.mp hy
    exact fun e => hdd (by rw [← this, ← e]; exact hx)
  · by_cases hc : c' < ds.length
    · rw [List.getElem?_append_left hc] at h3
      rw [List.getElem?_append_left (by rw [← P.l]; exact hc)] at h4
      rw [upd_ne (P.db (List.mem_of_getElem? h3))]
      exact P.m c' d' ys h3 h4
    · rw [List.getElem?_append_right (by omega)] at h3
      rw [List.getElem?_append_right (by rw [← P.l]; omega), ← P.l] at h4
      have hz : c' - ds.length = 0 := by
        have := (List.getElem?_eq_some_iff.mp h3).1
        rw [List.length_singleton] at this
        omega
      rw [hz] at h3 h4
      cases h3; cases h4
      rw [upd_ne hdb]; exact h
/-- the foot is known by what stays -/
theorem Fr.foot_app {p a b d : Addr} {ds : List Addr} {x : Addr} : x ∈ foot p a b (ds ++ [d]) ↔ x ∈ foot p a b ds ∨ x = d := by
  simp only [List.mem_cons, List.mem_append, List.not_mem_nil, or_false]
  constructor
  · rintro (h | h | h | h | h) <;> simp [h]
  · rintro ((h | h | h | h) | h) <;> simp [h]
end
section
variable {X : Cx}
theorem sw_trueD {kx vx : Expr} {gs : List Comprehension} {scope : Scope} {pos py : Pos} {y : Str} {l : Nat} {env : Env} (hk : env.scope.kind = .function) (hy : env.scope.names.lookup y = some .local) (hl : (py.line == pos.line) = true)
    (ha : (scope.names.any fun (n, k) => n == y && (k == .local || k == .cell)) = false) : swapsWith (.DictComp kx vx gs scope pos) (some (.Name y py)) l env = pure true := by
  have block : env.blockKind = .function := (by unfold Env.blockKind; rw [hk]; rfl)
  have own : env.kindOf y = some .local := hy
  simp only [swapsWith, Expr.pos, block, own, hl, ha]
  rfl
theorem ps_setDc {i : Nat} {y : Str} {py : Pos} {kx vx tg iter : Expr} {ifs : List Expr} {scope : Scope} {own : List (Str × Nat)} {pos spos : Pos} {wi : TI} {g : TG} {tt : TT} {tk tv : TE} (hc : X.calm = true) (hN : X.N.Nodup) (hy : X.N[i]? = some y) (hyl : X.env.scope.names.lookup y = some .local)
    (hsw : swapsWith (.DictComp kx vx [⟨tg, iter, ifs, 0⟩] scope pos) (some (.Name y py)) spos.line X.env = pure true) (hi : PI X tg iter wi) (ok : BlkOk X.N X.env.scope scope own)
    (hg : ∀ (s : Shared) (H : Hp) (C : Addr) (cl : List (Str × Addr)) (fp : List Addr), PG (X.blk s H scope (compEnvC scope cl C X.env) fp) tg g) (ht : ∀ (s : Shared) (H : Hp) (C : Addr) (cl : List (Str × Addr)) (fp : List Addr), PTs (X.blk s H scope (compEnvC scope cl C X.env) fp) ifs tt)
    (hk : ∀ (s : Shared) (H : Hp) (C : Addr) (cl : List (Str × Addr)) (fp : List Addr), PE (X.blk s H scope (compEnvC scope cl C X.env) fp) kx tk)
    (he : ∀ (s : Shared) (H : Hp) (C : Addr) (cl : List (Str × Addr)) (fp : List Addr), PE (X.blk s H scope (compEnvC scope cl C X.env) fp) vx tv) (hs : ∀ x, foldedSetIterable iter X.env x = pure x := by intro _; rfl) :
    PS X (.Assign [.Name y py] (.DictComp kx vx [⟨tg, iter, ifs, 0⟩] scope pos) spos) (tAsg (tDc wi g tt tk tv (own.map (·.2))) (gName i)) := by
  refine ⟨fun pins s σ H D I h => ?_⟩
  rw [exec_Assign_Name_used _ _ _ _ hsw]
  refine wpAny_bind (wpAny_standAt (wpAny_bind ?_))
  show wpAny _ X.A (do let _ ← comprehension (.DictComp kx vx [⟨tg, iter, ifs, 0⟩] scope pos) scope X.env (firstIterPos [⟨tg, iter, ifs, 0⟩] pos) newDict false (eval iter X.env) (some (assign (.Name y py) X.env))) _ _ s
  have h : tDc wi g tt tk tv (own.map (·.2)) σ H (fun x H1 => gName i x σ H1 D.nx) := h
  apply wpAny_bind
  refine thn (dc_core (Qf := fun _ s' => SP X pins D .next s') hc hN I hi ok hg ht hk he hs h ?_) fun _ _ done => wpAny_pure (wpAny_pure done)
  rintro L C s' m H' made q kept ⟨f0, f1, _, f3, f4, f5⟩
  change wpAny _ _ (assign (.Name y py) X.env (.ref L)) _ _ _
  apply wpAny_assign_Name
  refine store_ok2 (v := V.ref L) made hN hy (.inl hyl) rfl (fun s2 I2 ⟨cell, same, which⟩ => ?_) (.inr hyl)
  have other : C ≠ cell := which.elim (fun z => z ▸ f1) fun z e => f4 y cell z e.symm
  exact ⟨m, kept.sameBut same other, fun h3 sb3 => ⟨_, H', I2.turned (t' := s2.toks) (fun b o hb e => (sb3.2 b hb).trans e) f0 f1 f3 f4 f5, q⟩⟩
end
theorem upd_ne_none {H : Hp} {a x : Addr} {o : HO} (h : upd H a o x = none) : x ≠ a ∧ H x = none := by
  have n : x ≠ a := fun z => by rw [z, upd_same] at h; cases h
  exact ⟨n, by rw [upd_ne n] at h; exact h⟩
end KD
set_option Elab.async false
set_option linter.all false
set_option maxRecDepth 100000
set_option maxHeartbeats 2000000
namespace KD
open PySem PySem.Spec PyProof.Rows L2
/-! ### zip's next while its last pair is kept -/
abbrev IsZipK (h : Heap) (z TI TO T : Addr) (f1 : Bool) : Prop :=
  h.get? z = some { cls := .type "zip", dict := none, data := .fields #[rawInt T, .bool f1, .bool false, .ref TI, .ref TO], slots := #[] }
section
variable {prog : Program} {w : World} {A : Around} {E : Value → Shared → Prop} {s : Shared} {z TI TO T i1 i2 : Addr} {f1 : Bool} {fp1 fp2 : List Addr} {n1 n2 i : Nat} {P1 P2 : Nat → Value → Prop} {St1 St2 : Nat → Heap → Prop}
theorem wpAny_loadIfAlive {a : Addr} {o : Obj} {Q : Option Obj → Shared → Prop} (h : s.heap.get? a = some o) (q : Q (some o) s) : wpAny (model prog w) A (loadIfAlive a) Q E s := fun Γ p hΓ => by
  unfold loadIfAlive
  rw [Sem.wp_loadIfAlive, h]
  exact wpAny_pure q Γ p hΓ
theorem notFree {Q : Bool → Shared → Prop} (hz : IsZipK s.heap z TI TO T f1) (hT : ∃ o, s.heap.get? T = some o)
    (h : ∀ h', IsZipK h' z TI TO T true → Heap.SameBut z s.heap h' → Q false { s with heap := h' }) : wpAny (model prog w) A (Builtin.SmallTypes.ownedTupleIsFree (.ref z)) Q E s := by
  obtain ⟨o, ho⟩ := hT
  unfold Builtin.SmallTypes.ownedTupleIsFree
  have alive : s.heap.get? (T : Int).toNat = some o := (Int.toNat_natCast T).symm ▸ ho
  refine wpAny_bind (wpAny_field hz rfl (x := rawInt T) rfl (?_ : wpAny _ _ (loadIfAlive _ >>= _) _ _ _))
  refine wpAny_bind (wpAny_loadIfAlive alive ?_)
  show wpAny _ _ (field (.ref z) 1 >>= _) _ _ _
  refine wpAny_bind (wpAny_field hz rfl (x := .bool f1) rfl ?_)
  cases f1 with
  | true =>
    exact wpAny_pure (h s.heap hz (Heap.SameBut.refl _ _))
  | false =>
    show wpAny _ _ (setField (.ref z) 1 (.bool true) >>= fun _ => pure false) _ _ _
    refine wpAny_bind (wpAny_setField_rec hz (by simp) fun h' h1 h2 => wpAny_pure (h h' h1 h2))
theorem zipK_item {Q : Option Value → Shared → Prop} (S : ZipSep2 z TI TO i1 i2 fp1 fp2) (D1 : Draws prog w A.in1 i1 fp1 n1 P1 St1) (D2 : Draws prog w A.in1 i2 fp2 n2 P2 St2)
    (hz : IsZipK s.heap z TI TO T f1) (hT : ∃ o, s.heap.get? T = some o) (hTI : IsTupOf2 s.heap TI (.ref i1) (.ref i2)) (st1 : St1 i s.heap) (st2 : St2 i s.heap) (hlt1 : i < n1) (hlt2 : i < n2)
    (hQ : ∀ x1 x2 h' tk, P1 i x1 → P2 i x2 → IsZipK h' z TI TO T true → St1 (i + 1) h' → St2 (i + 1) h' → IsTupOf2 h' s.heap.objs.size x1 x2 → h'.objs.size = s.heap.objs.size + 1 →
      (∀ c o, c ≠ z → c ≠ i1 → c ≠ i2 → s.heap.get? c = some o → h'.get? c = some o) → Q (some (.ref s.heap.objs.size)) { s with heap := h', toks := tk }) :
    wpAny (model prog w) A (pyNext (.ref z)) Q E s := by
  have hTy : s.TypeIs (.ref z) "zip" := ⟨_, hz, rfl⟩
  unfold pyNext
  refine wpAny_bind (wpAny_attempt (wpAny_callSpecial?_slot (name := Str.ofString "__next__") hTy F.slot_zip_next
    (wpAny_call_entry F.slot_zip_next hTy F.entry_zip_next (Q := fun v s' => wpAny (model prog w) A (pure (some v) : Sem (Option Value)) Q E s') ?_ (F.args_zip_next_1 _))))
  rcases s with ⟨hp, g, d, tk0, os⟩
  change wpAny _ _ (field _ 2 >>= _) _ _ _
  apply wpAny_bind
  refine wpAny_field hz rfl (x := .bool false) rfl ?_
  change wpAny _ _ (field _ 3 >>= _) _ _ _
  refine wpAny_bind (wpAny_field hz rfl (x := .ref TI) rfl (wpAny_bind (wpAny_seqItems hTI rfl ?_)))
  change wpAny _ _ (Builtin.SmallTypes.ownedTupleIsFree _ >>= _) _ _ _
  refine wpAny_bind (notFree hz hT fun g0 hz0 hs0 => ?_)
  replace hs0 : Heap.SameBut z hp g0 := hs0
  simp only [Bool.false_eq_true, if_false, ← Array.forIn_toList, List.forIn_cons, List.forIn_nil, Array.toList]
  refine wpAny_bind (wpAny_bind (wpAny_bind (wpAny_holding ?_)))
  show wpAny _ _ (Builtin.SmallTypes.nextOf (.ref i1) >>= _) _ _ ⟨g0, g, d, tk0, os⟩
  refine wpAny_bind (D1.item i _ _ _ hlt1 (D1.over st1 hs0 S.zf1) fun x1 p1 tk1 hx1 sn1 hp1 => wpAny_pure (wpAny_pure ?_))
  replace hp1 : Heap.SameBut i1 g0 p1 := hp1
  refine wpAny_bind (wpAny_bind (wpAny_holding ?_))
  show wpAny _ _ (Builtin.SmallTypes.nextOf (.ref i2) >>= _) _ _ ⟨p1, g, d, tk1, os⟩
  refine wpAny_bind (D2.item i _ _ _ hlt2 (D2.over (D2.over st2 hs0 S.zf2) hp1 S.sep1_2) fun x2 p2 tk2 hx2 sn2 hp2 => wpAny_pure (wpAny_pure (wpAny_pure ?_)))
  replace hp2 : Heap.SameBut i2 p1 p2 := hp2
  show wpAny _ _ (newTuple [x1, x2] >>= _) _ _ ⟨p2, g, d, tk2, os⟩
  refine wpAny_bind (wpAny_newTuple ?_)
  have hsz : p2.objs.size = hp.objs.size := by rw [hp2.1, hp1.1, hs0.1]
  have hzz : IsZipK p2 z TI TO T true := hp2.extBut _ _ S.zi2 (hp1.extBut _ _ S.zi1 hz0)
  have up : ∀ c o, p2.get? c = some o → (p2.push { cls := .type "tuple", data := .seq [x1, x2].toArray }).get? c = some o := fun c o e => Heap.get?_push_of_some _ e
  refine wpAny_pure ⟨_, rfl, wpAny_pure ?_⟩
  show Q (some (.ref p2.objs.size)) ⟨p2.push { cls := .type "tuple", data := .seq [x1, x2].toArray }, g, d, tk2, os⟩
  rw [hsz]
  refine hQ x1 x2 _ tk2 hx1 hx2 (up _ _ hzz) (D1.frame _ _ _ (D1.over sn1 hp2 S.sep2_1) fun b hb o e => up b o e) (D2.frame _ _ _ sn2 fun b hb o e => up b o e) ?_ ?_ fun c o cz c1 c2 e => up c o (hp2.extBut _ _ c2 (hp1.extBut _ _ c1 (hs0.extBut _ _ cz e)))
  · show (p2.push _).get? hp.objs.size = _
    rw [← hsz]
    exact Heap.get?_push_size _ rfl
  · rw [Heap.size_push, hsz]
theorem zipK_end {Q : Option Value → Shared → Prop} (S : ZipSep2 z TI TO i1 i2 fp1 fp2) (D1 : Draws prog w A.in1 i1 fp1 n1 P1 St1) 
    (hz : IsZipK s.heap z TI TO T f1) (hT : ∃ o, s.heap.get? T = some o) (hTI : IsTupOf2 s.heap TI (.ref i1) (.ref i2)) (st1 : St1 n1 s.heap)
    (hQ : ∀ h' tk, (∀ c o, c ≠ z → c ≠ i1 → s.heap.get? c = some o → h'.get? c = some o) → Q none { s with heap := h', toks := tk }) : wpAny (model prog w) A (pyNext (.ref z)) Q E s := by
  have hTy : s.TypeIs (.ref z) "zip" := ⟨_, hz, rfl⟩
  unfold pyNext
  refine wpAny_bind (wpAny_attempt (wpAny_callSpecial?_slot (name := Str.ofString "__next__") hTy F.slot_zip_next
    (wpAny_call_entry F.slot_zip_next hTy F.entry_zip_next (Q := fun v s' => wpAny (model prog w) A (pure (some v) : Sem (Option Value)) Q E s') ?_ (F.args_zip_next_1 _))))
  rcases s with ⟨hp, g, d, tk0, os⟩
  change wpAny _ _ (field _ 2 >>= _) _ _ _
  apply wpAny_bind
  refine wpAny_field hz rfl (x := .bool false) rfl ?_
  change wpAny _ _ (field _ 3 >>= _) _ _ _
  refine wpAny_bind (wpAny_field hz rfl (x := .ref TI) rfl (wpAny_bind (wpAny_seqItems hTI rfl ?_)))
  change wpAny _ _ (Builtin.SmallTypes.ownedTupleIsFree _ >>= _) _ _ _
  refine wpAny_bind (notFree hz hT fun g0 hz0 hs0 => ?_)
  replace hs0 : Heap.SameBut z hp g0 := hs0
  simp only [Bool.false_eq_true, if_false, ← Array.forIn_toList, List.forIn_cons, List.forIn_nil, Array.toList]
  refine wpAny_bind (wpAny_bind (wpAny_bind (wpAny_holding ?_)))
  show wpAny _ _ (Builtin.SmallTypes.nextOf (.ref i1) >>= _) _ _ ⟨g0, g, d, tk0, os⟩
  refine wpAny_bind (D1.done ⟨g0, g, d, tk0, os⟩ _ _ (D1.over st1 hs0 S.zf1) fun q e hq he => ?_)
  obtain ⟨o, ho, hc⟩ := he
  replace hq : Heap.ExtBut i1 g0 q := hq
  refine wpAny_bind (wpAny_isInstance (T := "StopIteration") (b := true) ⟨o, ho, hc⟩ isSubtype_stop ?_)
  exact wpAny_pure (hQ _ _ fun c o cz c1 e => hq _ _ c1 (hs0.extBut _ _ cz e))
end
/-- several new objects at once -/
theorem inv_many {X : Cx} {pins : List (Addr × Obj)} {σ : L2.St} {H H' : Hp} {s : Shared} {h' : Heap} {t' : Nat} (I : Inv X pins σ H s) (k : ∀ b u, s.heap.get? b = some u → h'.get? b = some u) (old : Ex H H')
    (new : ∀ b u, H' b = some u → H b = none → s.heap.objs.size ≤ b ∧ ObjOk X.prog X.w H' h' b u) : Inv X pins σ H' { s with heap := h', toks := t' } := by
  refine I.step (g' := s.gens) (d' := s.drawn) (ch := []) (fun b hb => by cases hb) (fun b o _ _ _ e _ => k b o e) (fun b o _ _ _ e _ => ⟨o.slots, k b o e⟩) (fun b o _ e n => ?_) (fun b o _ e => ⟨o, k b o e⟩) (fun b xs e => old _ _ e) (fun b o u e => old _ _ e) (fun b ps e => ⟨#[], by rw [Array.append_empty]; exact old _ _ e⟩) (fun m hm => ?_) (fun b u e => ?_) I.bare
  · cases z : H' b with
    | none => rfl
    | some u => exact absurd (Heap.lt_size e) (Nat.not_lt.mpr (new b u z n).1)
  · obtain ⟨o, es, ep, ho, r⟩ := hm
    exact ⟨o, es, ep, k _ o ho, r⟩
  · cases z : H b with
    | none => exact (new b u e z).2
    | some ov =>
      have := old _ _ z
      rw [this] at e
      cases e
      refine (I.hok b _ z).stay (fun c u _ q => k c u q) (fun c q => old _ _ q) fun c xs q => old _ _ q
theorem zip_no_len : typeLookup (.type "zip") "__len__" = pure none := by rw [typeLookup_type, builtinLookup_eq_fast]; kernel_rfl
theorem zip_no_hint : typeLookup (.type "zip") "__length_hint__" = pure none := by rw [typeLookup_type, builtinLookup_eq_fast]; kernel_rfl
section
variable {prog : Program} {w : World} {A : Around} {z TI TO i1 i2 L : Addr} {fp1 fp2 : List Addr} {n : Nat} {P1 P2 : Nat → Value → Prop} {St1 St2 : Nat → Heap → Prop} {R : Result → Shared → Prop} {res : Value}
/-- the zip, whether its pair is kept or not -/
structure Zst (z TI TO i1 i2 : Addr) (h : Heap) : Prop where
  a : IsZip h z TI TO .none ∨ ∃ T f1, IsZipK h z TI TO T f1 ∧ ∃ o, h.get? T = some o
  b : IsTupOf2 h TI (.ref i1) (.ref i2)
  c : ∃ a b, IsTupOf2 h TO a b
theorem zip_loop (S : ZipSep2 z TI TO i1 i2 fp1 fp2) (D1 : Draws prog w A.in1.in1 i1 fp1 n P1 St1) (D2 : Draws prog w A.in1.in1 i2 fp2 n P2 St2) (hn : n ≤ 1000) (hL : L ∉ [z, TI, TO, i1, i2] ∧ L ∉ fp1 ∧ L ∉ fp2) (B : Heap → Prop) :
    ∀ (k i : Nat) (s : Shared) (Ts : List Addr) (c : Nat), n - i = k → i ≤ n → Zst z TI TO i1 i2 s.heap → St1 i s.heap → St2 i s.heap → s.heap.get? L = some { cls := .type "list", dict := none, data := .seq (Ts.map Value.ref).toArray c, slots := #[] } → Ts.length = i → Ts.Nodup →
    (∀ (j : Nat) (T : Addr), Ts[j]? = some T → T ∉ [L, z, TI, TO, i1, i2] ∧ ∃ x y, P1 j x ∧ P2 j y ∧ IsTupOf2 s.heap T x y) →
    (∀ (s' : Shared) (Ts' : List Addr) (c' : Nat), (∀ b o, b ∉ [L, z, TI, TO, i1, i2] → s.heap.get? b = some o → s'.heap.get? b = some o) → s'.gens = s.gens → s'.drawn = s.drawn → s'.os = s.os →
      s'.heap.get? L = some { cls := .type "list", dict := none, data := .seq (Ts'.map Value.ref).toArray c', slots := #[] } → Ts'.length = n → Ts'.Nodup → (∀ (j : Nat) (T : Addr), Ts'[j]? = some T → (Ts[j]? = some T ∨ s.heap.objs.size ≤ T) ∧ ∃ x y, P1 j x ∧ P2 j y ∧ IsTupOf2 s'.heap T x y) → R (.ok (.ret res)) s') →
    codeAny (model prog w) A (.builtin "list.extend.loop" ⟨[.ref L, .ref z, res], []⟩) R s := by
  intro k
  induction k with
  | zero =>
    intro i s Ts c hk hi hz st1 st2 hL' hl hnd hT hR
    have hin : i = n := by omega
    subst hin
    refine codeAny_builtin F.entry_extend_loop ?_
    rw [Around.under_plainId F.plain_extend_loop _]
    show wpAny _ A.in1 (pyNext (.ref z) >>= _) _ _ s
    have fin : ∀ (h' : Heap) (tk : Nat), (∀ c o, c ≠ z → c ≠ TO → c ≠ i1 → c ≠ i2 → s.heap.get? c = some o → h'.get? c = some o) → R (.ok (.ret res)) { s with heap := h', toks := tk } := fun h' tk hk => by
      have nz := hL.1
      simp only [List.mem_cons, List.not_mem_nil, or_false, not_or] at nz
      refine hR _ Ts c (fun b o hb e => ?_) rfl rfl rfl (hk _ _ nz.1 nz.2.2.1 nz.2.2.2.1 nz.2.2.2.2 hL') hl hnd fun j T hj => ?_
      · simp only [List.mem_cons, List.not_mem_nil, or_false, not_or] at hb
        exact hk b o hb.2.1 hb.2.2.2.1 hb.2.2.2.2.1 hb.2.2.2.2.2 e
      · obtain ⟨n1, x, y, p1, p2, q⟩ := hT j T hj
        simp only [List.mem_cons, List.not_mem_nil, or_false, not_or] at n1
        exact ⟨.inl hj, x, y, p1, p2, hk _ _ n1.2.1 n1.2.2.2.1 n1.2.2.2.2.1 n1.2.2.2.2.2 q⟩
    obtain ⟨a, b, hTO⟩ := hz.c
    rcases hz.a with hz0 | ⟨T, f1, hz1, hTl⟩
    · refine wpAny_bind (wpAny_pyNext_zipD2_end S D1 D2 hz0 hz.b hTO st1 st2 (Nat.le_refl _) (Nat.le_refl _) (.inl rfl) fun h' tk hk => wpAny_pure (fin h' tk hk))
    · refine wpAny_bind (zipK_end S D1 hz1 hTl hz.b st1 fun h' tk hk => wpAny_pure (fin h' tk fun c o c1 _ c2 _ e => hk c o c1 c2 e))
  | succ k ih =>
    intro i s Ts c hk hi hz st1 st2 hL' hl hnd hT hR
    have hlt : i < n := by omega
    refine codeAny_builtin F.entry_extend_loop ?_
    rw [Around.under_plainId F.plain_extend_loop _]
    show wpAny _ A.in1 (pyNext (.ref z) >>= _) _ _ s
    have nz := hL.1
    simp only [List.mem_cons, List.not_mem_nil, or_false, not_or] at nz
    have hLlt := Heap.lt_size hL'
    have cont : ∀ (x1 x2 : Value) (h' : Heap) (tk : Nat), P1 i x1 → P2 i x2 → (∃ T f1, IsZipK h' z TI TO T f1 ∧ ∃ o, h'.get? T = some o) → St1 (i + 1) h' → St2 (i + 1) h' → (∃ a b, IsTupOf2 h' TO a b) → IsTupOf2 h' s.heap.objs.size x1 x2 →
        (∀ c o, c ≠ z → c ≠ TO → c ≠ i1 → c ≠ i2 → s.heap.get? c = some o → h'.get? c = some o) →
        wpAny (model prog w) A.in1 (updateSeq L (·.push (.ref s.heap.objs.size)) >>= fun _ => again (.builtin "list.extend.loop" ⟨[.ref L, .ref z, res], []⟩))
          (fun fin s' => match fin with | .done f => R (.ok f) s' | .again c' => c'.quiet = true ∧ codeAny (model prog w) A c' R s') (fun e s' => R (.error e) s') { s with heap := h', toks := tk } := fun x1 x2 h' tk hx1 hx2 hz' t1 t2 hTO' hT' hk' => by
      have hL1 := hk' _ _ nz.1 nz.2.2.1 nz.2.2.2.1 nz.2.2.2.2 hL'
      have oth : ∀ b o, b ≠ L → h'.get? b = some o → (h'.update L (Obj.mapSeq (·.push (.ref s.heap.objs.size)))).get? b = some o := fun b o hb e => (Heap.get?_update_other _ _ (Ne.symm hb)).trans e
      obtain ⟨T, f1, hz1, oT, hoT⟩ := hz'
      have hTlt : s.heap.objs.size ∉ [L, z, TI, TO, i1, i2] := by
        have a1 : ∀ {c : Addr} {o : Obj}, s.heap.get? c = some o → s.heap.objs.size ≠ c := fun h z => by rw [← z] at h; exact absurd (Heap.lt_size h) (Nat.lt_irrefl _)
        obtain ⟨o1, l1⟩ := D1.live _ _ st1
        obtain ⟨o2, l2⟩ := D2.live _ _ st2
        obtain ⟨oz, lz⟩ : ∃ o, s.heap.get? z = some o := by
          rcases hz.a with q | ⟨_, _, q, _⟩
          · exact ⟨_, q⟩
          · exact ⟨_, q⟩
        simp only [List.mem_cons, List.not_mem_nil, or_false, not_or]
        obtain ⟨_, _, lo⟩ := hz.c
        exact ⟨a1 hL', a1 lz, a1 hz.b, a1 lo, a1 l1, a1 l2⟩
      have hne : ∀ {b : Addr}, b ≠ L → ∀ {o : Obj}, h'.get? b = some o → (h'.update L (Obj.mapSeq (·.push (.ref s.heap.objs.size)))).get? b = some o := fun hb => fun e => oth _ _ hb e
      have hsz : 1001 < sizeLine := by decide
      have hup : (h'.update L (Obj.mapSeq (·.push (.ref s.heap.objs.size)))).objs.size = h'.objs.size := (Heap.SameBut.update (a := L) (h := h') ..).1
      have hnL : s.heap.objs.size ≠ L := fun y => hTlt (by rw [y]; exact List.mem_cons_self)
      have hlive : ∃ o, (h'.update L (Obj.mapSeq (·.push (.ref s.heap.objs.size)))).get? T = some o := by
        by_cases e : T = L
        · subst e; exact ⟨_, Heap.get?_update_self _ hL1 rfl⟩
        · exact ⟨oT, oth _ _ e hoT⟩
      have htup : ∀ {b : Addr} {x y : Value}, b ≠ L → IsTupOf2 h' b x y → IsTupOf2 (h'.update L (Obj.mapSeq (·.push (.ref s.heap.objs.size)))) b x y := fun hb e => oth _ _ hb e
      have hTIk : IsTupOf2 h' TI (.ref i1) (.ref i2) := hk' _ _ S.TIz S.TITO S.TIi1 S.TIi2 hz.b
      obtain ⟨ta, tb, hTO2⟩ := hTO'
      have hnd' : (Ts ++ [s.heap.objs.size]).Nodup := List.nodup_append.mpr ⟨hnd, by simp, fun x hx y hy => by
        have ey : y = s.heap.objs.size := List.mem_singleton.mp hy
        obtain ⟨j, hj⟩ := List.mem_iff_getElem?.mp hx
        obtain ⟨_, _, _, _, _, q⟩ := hT j x hj
        rw [ey]
        exact Nat.ne_of_lt (Heap.lt_size q)⟩
      obtain ⟨c2, hc2⟩ : ∃ c2, (h'.update L (Obj.mapSeq (·.push (.ref s.heap.objs.size)))).get? L = some { cls := .type "list", dict := none, data := .seq ((Ts ++ [s.heap.objs.size]).map Value.ref).toArray c2, slots := #[] } := ⟨_, (Heap.get?_update_self _ hL1 rfl).trans (by simp only [Obj.mapSeq, List.map_append, List.push_toArray, List.map_cons, List.map_nil]; rfl)⟩
      refine wpAny_bind (wpAny_updateSeq hL1 rfl (wpAny_pure ⟨plainId_quiet F.plain_extend_loop _, ih (i + 1) { s with heap := h'.update L (Obj.mapSeq (·.push (.ref s.heap.objs.size))), toks := tk } (Ts ++ [s.heap.objs.size]) _ (by omega) hlt ⟨.inr ⟨T, f1, oth _ _ (Ne.symm nz.1) hz1, hlive⟩, htup (Ne.symm nz.2.1) hTIk, ⟨ta, tb, htup (Ne.symm nz.2.2.1) hTO2⟩⟩ (D1.frame _ _ _ t1 fun b hb o e => oth b o (fun y => hL.2.1 (by rw [← y]; exact hb)) e) (D2.frame _ _ _ t2 fun b hb o e => oth b o (fun y => hL.2.2 (by rw [← y]; exact hb)) e) hc2 (by rw [List.length_append, hl]; rfl) hnd' (fun j T hj => ?_) fun s' Ts' c' hkk g1 g2 g3 hl' hl2 hl3 hT2 => ?_⟩)
        (by simp; omega) (by simp; omega))
      · by_cases hjl : j < Ts.length
        · rw [List.getElem?_append_left hjl] at hj
          obtain ⟨n1, x, y, q1, q2, q3⟩ := hT j T hj
          have n1' := n1
          simp only [List.mem_cons, List.not_mem_nil, or_false, not_or] at n1'
          exact ⟨n1, x, y, q1, q2, htup n1'.1 (hk' _ _ n1'.2.1 n1'.2.2.2.1 n1'.2.2.2.2.1 n1'.2.2.2.2.2 q3)⟩
        · rw [List.getElem?_append_right (by omega)] at hj
          have h0 := (List.getElem?_eq_some_iff.mp hj).1
          rw [List.length_singleton] at h0
          have hji : j = i := by omega
          have hz0 : j - Ts.length = 0 := by omega
          rw [hz0] at hj
          cases hj
          subst hji
          exact ⟨hTlt, x1, x2, hx1, hx2, htup hnL hT'⟩
      · refine hR s' Ts' c' (fun b o hb e => ?_) g1 g2 g3 hl' hl2 hl3 fun j T hj => ?_
        · have hb' := hb
          simp only [List.mem_cons, List.not_mem_nil, or_false, not_or] at hb'
          exact hkk b o hb (oth _ _ hb'.1 (hk' _ _ hb'.2.1 hb'.2.2.2.1 hb'.2.2.2.2.1 hb'.2.2.2.2.2 e))
        · obtain ⟨h1, h2⟩ := hT2 j T hj
          refine ⟨?_, h2⟩
          have hslt := Heap.lt_size hT'
          rcases h1 with h1 | h1
          · by_cases hjl : j < Ts.length
            · rw [List.getElem?_append_left hjl] at h1
              exact .inl h1
            · rw [List.getElem?_append_right (by omega)] at h1
              have h0 := (List.getElem?_eq_some_iff.mp h1).1
              rw [List.length_singleton] at h0
              have hz0 : j - Ts.length = 0 := by omega
              rw [hz0] at h1
              cases h1
              exact .inr (Nat.le_refl _)
          · refine .inr ?_
            have h1 : (h'.update L (Obj.mapSeq (·.push (.ref s.heap.objs.size)))).objs.size ≤ T := h1
            rw [hup] at h1
            exact Nat.le_trans (Nat.le_of_lt hslt) h1
    obtain ⟨a, b, hTO⟩ := hz.c
    rcases hz.a with hz0 | ⟨T, f1, hz1, hTl⟩
    · refine wpAny_bind (wpAny_pyNext_zipD2_item S D1 D2 hz0 hz.b hTO st1 st2 hlt hlt fun x1 x2 h' tk p1 p2 q1 q0 t1 t2 q2 _ hk' => cont x1 x2 h' tk p1 p2 ⟨_, _, q1, _, q2⟩ t1 t2 ⟨_, _, q0⟩ q2 hk')
    · refine wpAny_bind (zipK_item S D1 D2 hz1 hTl hz.b st1 st2 hlt hlt fun x1 x2 h' tk p1 p2 q1 t1 t2 q2 _ hk' => cont x1 x2 h' tk p1 p2 ⟨T, _, q1, ?_⟩ t1 t2 ⟨a, b, hk' _ _ S.TOz S.Ti1 S.Ti2 hTO⟩ q2 fun c o c1 _ c3 c4 e => hk' c o c1 c3 c4 e)
      obtain ⟨o, ho⟩ := hTl
      by_cases e1 : T = z
      · subst e1; exact ⟨_, q1⟩
      by_cases e2 : T = i1
      · subst e2; exact D1.live _ _ t1
      by_cases e3 : T = i2
      · subst e3; exact D2.live _ _ t2
      exact ⟨o, hk' _ _ e1 e2 e3 ho⟩
theorem list_zip_call {E : Value → Shared → Prop} {s : Shared} {Q : Value → Shared → Prop} (S : ZipSep2 z TI TO i1 i2 fp1 fp2) (D1 : Draws prog w A.in1.in1.in1 i1 fp1 n P1 St1) (D2 : Draws prog w A.in1.in1.in1 i2 fp2 n P2 St2) (hn : n ≤ 1000)
    (hz : Zst z TI TO i1 i2 s.heap) (h0 : IsZip s.heap z TI TO .none) (st1 : St1 0 s.heap) (st2 : St2 0 s.heap) (hf1 : ∀ b ∈ fp1, b < s.heap.objs.size) (hf2 : ∀ b ∈ fp2, b < s.heap.objs.size)
    (hQ : ∀ (s' : Shared) (Ts : List Addr) (c : Nat), (∀ b o, b ∉ [z, TI, TO, i1, i2] → s.heap.get? b = some o → s'.heap.get? b = some o) → s'.gens = s.gens → s'.drawn = s.drawn → s'.os = s.os →
      s'.heap.get? s.heap.objs.size = some { cls := .type "list", dict := none, data := .seq (Ts.map Value.ref).toArray c, slots := #[] } → Ts.length = n → Ts.Nodup →
      (∀ (j : Nat) (T : Addr), Ts[j]? = some T → s.heap.objs.size < T ∧ ∃ x y, P1 j x ∧ P2 j y ∧ IsTupOf2 s'.heap T x y) → Q (.ref s.heap.objs.size) s') :
    wpAny (model prog w) A (call (.type "list") [.ref z]) Q E s := by
  have lt : ∀ {b : Addr} {o : Obj}, s.heap.get? b = some o → b < s.heap.objs.size := fun h => Heap.lt_size h
  obtain ⟨o1, l1⟩ := D1.live _ _ st1
  obtain ⟨o2, l2⟩ := D2.live _ _ st2
  obtain ⟨ta, tb, lo⟩ := hz.c
  have hL : s.heap.objs.size ∉ [z, TI, TO, i1, i2] := by
    simp only [List.mem_cons, List.not_mem_nil, or_false, not_or]
    exact ⟨Nat.ne_of_gt (lt h0), Nat.ne_of_gt (lt hz.b), Nat.ne_of_gt (lt lo), Nat.ne_of_gt (lt l1), Nat.ne_of_gt (lt l2)⟩
  have hL1 : s.heap.objs.size ∉ fp1 := fun h => Nat.lt_irrefl _ (hf1 _ h)
  have hL2 : s.heap.objs.size ∉ fp2 := fun h => Nat.lt_irrefl _ (hf2 _ h)
  refine callType_codes (Q₁ := fun obj s₁ => obj = .ref s.heap.objs.size ∧ s₁ = { s with heap := s.heap.push { cls := .type "list", data := .seq #[] } }) F.called_list (F.typeCall_list_1 _) F.entry_list_init
    (code_list_new _ ⟨rfl, rfl⟩) fun obj s₁ h₁ => ?_
  obtain ⟨rfl, rfl⟩ := h₁
  have hS : (s.heap.push { cls := .type "list", data := .seq #[] }).get? s.heap.objs.size = some { cls := .type "list", data := .seq #[] } := Heap.get?_push_size _ rfl
  refine ⟨⟨_, hS, rfl⟩, F.args_list_init_2 _ _, ?_⟩
  show wpAny _ A.in1.in1 (do let old ← Builtin.List.listItems (.ref s.heap.objs.size); Builtin.List.listUpdate (.ref s.heap.objs.size) (fun _ => #[]); letGo old.toList.reverse; Builtin.List.listExtendWith (.ref s.heap.objs.size) (.ref z) .none) _ _ _
  refine wpAny_bind ?_
  unfold Builtin.List.listItems
  refine wpAny_bind (wpAny_seqItems hS rfl (wpAny_pure ?_))
  show wpAny _ A.in1.in1 (updateSeq s.heap.objs.size (fun _ => #[]) >>= fun _ => letGo (#[] : Array Value).toList.reverse >>= fun _ => Builtin.List.listExtendWith (.ref s.heap.objs.size) (.ref z) .none) _ _ _
  refine wpAny_bind (wpAny_updateSeq hS rfl ?_)
  have hS₂ := Heap.get?_update_self (Obj.mapSeq (fun _ => (#[] : Array Value))) hS rfl
  refine wpAny_bind (wpAny_letGo ?_)
  have k2 : ∀ b o, s.heap.get? b = some o → ((s.heap.push { cls := .type "list", data := .seq #[] }).update s.heap.objs.size (Obj.mapSeq (fun _ => (#[] : Array Value)))).get? b = some o := fun b o e =>
    (Heap.get?_update_other _ _ (Ne.symm (Nat.ne_of_lt (lt e)))).trans (Heap.get?_push_of_some _ e)
  have z2 : ((s.heap.push { cls := .type "list", data := .seq #[] }).update s.heap.objs.size (Obj.mapSeq (fun _ => (#[] : Array Value)))).objs.size = s.heap.objs.size + 1 := by
    rw [(Heap.SameBut.update (a := s.heap.objs.size) (h := s.heap.push { cls := .type "list", data := .seq #[] }) ..).1, Heap.size_push]
  generalize (s.heap.push { cls := .type "list", data := .seq #[] }).update s.heap.objs.size (Obj.mapSeq (fun _ => (#[] : Array Value))) = h2 at hS₂ k2 z2
  unfold Builtin.List.listExtendWith
  have hTy : ∀ {s2 : Shared}, IsZip s2.heap z TI TO .none → s2.TypeIs (.ref z) "zip" := fun h => ⟨_, h, rfl⟩
  have hz2 : IsZip ({ s with heap := h2 } : Shared).heap z TI TO .none := k2 _ _ h0
  refine wpAny_bind (wpAny_typeOf (hTy hz2) ?_)
  have hSI : s.heap.objs.size ≠ z := Nat.ne_of_gt (lt h0)
  have e1 : Builtin.List.listSameRef (.ref s.heap.objs.size) (.ref z) = false := by simp [Builtin.List.listSameRef, hSI]
  have e2 : (Value.type "zip" == Value.type "list") = false := by decide
  have e3 : (Value.type "zip" == Value.type "tuple") = false := by decide
  simp only [e1, e2, e3, Bool.or_false, Bool.false_eq_true, if_false]
  refine wpAny_bind (wpAny_pyIter_zip hz2 ?_)
  refine wpAny_bind (wpAny_holding ?_)
  unfold Builtin.List.listLengthHint
  refine wpAny_bind (wpAny_specialOf (hTy hz2) zip_no_len ?_)
  show wpAny _ A.in1.in1 (specialOf (Value.ref z) (Str.ofString "__length_hint__") >>= _) _ _ _
  refine wpAny_bind (wpAny_specialOf (hTy hz2) zip_no_hint ?_)
  refine wpAny_pure ?_
  show wpAny _ A.in1.in1 (rule "list.extend.makes-room" >>= fun _ => Builtin.List.listTouch (.ref s.heap.objs.size) >>= fun _ =>
    again (.builtin "list.extend.loop" ⟨[.ref s.heap.objs.size, .ref z, .none], []⟩)) _ _ _
  refine wpAny_bind (wpAny_rule ?_)
  refine wpAny_bind ?_
  show wpAny _ A.in1.in1 (updateSeq s.heap.objs.size (·.push .none) >>= fun _ => updateSeq s.heap.objs.size (·.pop)) _ _ _
  refine wpAny_bind (wpAny_updateSeq hS₂ rfl ?_)
  have hS₃ := Heap.get?_update_self (Obj.mapSeq (·.push Value.none)) hS₂ rfl
  refine wpAny_updateSeq (hz := by seq_fits) hS₃ rfl ?_
  have hS₄ := Heap.get?_update_self (Obj.mapSeq (·.pop)) hS₃ rfl
  have k4 : ∀ b o, s.heap.get? b = some o → ((h2.update s.heap.objs.size (Obj.mapSeq (·.push Value.none))).update s.heap.objs.size (Obj.mapSeq (·.pop))).get? b = some o := fun b o e =>
    (Heap.get?_update_other _ _ (Ne.symm (Nat.ne_of_lt (lt e)))).trans ((Heap.get?_update_other _ _ (Ne.symm (Nat.ne_of_lt (lt e)))).trans (k2 b o e))
  have z4 : ((h2.update s.heap.objs.size (Obj.mapSeq (·.push Value.none))).update s.heap.objs.size (Obj.mapSeq (·.pop))).objs.size = s.heap.objs.size + 1 := by
    rw [(Heap.SameBut.update (a := s.heap.objs.size) (h := h2.update s.heap.objs.size (Obj.mapSeq (·.push Value.none))) ..).1, (Heap.SameBut.update (a := s.heap.objs.size) (h := h2) ..).1, z2]
  generalize (h2.update s.heap.objs.size (Obj.mapSeq (·.push Value.none))).update s.heap.objs.size (Obj.mapSeq (·.pop)) = h4 at hS₄ k4 z4
  refine wpAny_pure ⟨plainId_quiet F.plain_extend_loop _, zip_loop S D1 D2 hn ⟨hL, hL1, hL2⟩ (fun _ => True) n 0 { s with heap := h4 } [] _ rfl (Nat.zero_le _) ⟨.inl (k4 _ _ h0), k4 _ _ hz.b, ⟨ta, tb, k4 _ _ lo⟩⟩ (D1.frame _ _ _ st1 fun b _ o e => k4 b o e) (D2.frame _ _ _ st2 fun b _ o e => k4 b o e) hS₄ rfl .nil (fun j T h => by simp at h) fun s' Ts c' hk g1 g2 g3 hl hln hnd hT => ?_⟩
  refine ⟨rfl, hQ s' Ts c' (fun b o hb e => hk b o (fun h => ?_) (k4 b o e)) g1 g2 g3 hl hln hnd fun j T hj => ?_⟩
  · rcases List.mem_cons.mp h with h | h
    · exact absurd (lt e) (by rw [h]; exact Nat.lt_irrefl _)
    · exact hb h
  · obtain ⟨h1, h2⟩ := hT j T hj
    refine ⟨?_, h2⟩
    rcases h1 with h1 | h1
    · simp at h1
    · have h1 : h4.objs.size ≤ T := h1
      rw [z4] at h1
      exact h1
end
theorem vals_refs : ∀ Ts : List Addr, Vals (Ts.map V.ref) (Ts.map Value.ref)
  | [] => .nil
  | T :: Ts => .cons rfl (vals_refs Ts)
structure ZipMade (H1 H2 : Hp) (L : Addr) (Ts : List Addr) (xs ys : List V) : Prop where
  e : Ex H1 H2
  nL : H1 L = none
  hL : H2 L = some (.lst (Ts.map V.ref))
  l : Ts.length = xs.length
  t : ∀ (j : Nat) (T : Addr) (x y : V), Ts[j]? = some T → xs[j]? = some x → ys[j]? = some y → H1 T = none ∧ H2 T = some (.tup [x, y])
def tLstZip (K : PySem.W.Frag) (ta : TA) : TE := fun σ H Q => ta σ H fun vs H1 => ∃ a b xs ys, vs = [.ref a, .ref b] ∧ SqT K H1 a xs ∧ SqT K H1 b ys ∧ xs.length = ys.length ∧ xs.length ≤ 1000 ∧
  ∀ (L : Addr) (Ts : List Addr) (H2 : Hp), ZipMade H1 H2 L Ts xs ys → Q (.ref L) H2
theorem pe_listZip {X : Cx} {e e2 : Expr} {ta : TA} {p p2 pos pos2 : Pos} (hc : X.calm = true) (hgl : Gl X "list") (hml : X.mg "list" = none) (hg : Gl X "zip") (hm : X.mg "zip" = none) (ha : PA X [e, e2] ta)
    (hs : starEach [e, e2] X.env = (false, eval e X.env) :: starEach [e2] X.env := by rfl) (hpl : (backTo pos2 (starEach [e2] X.env)).any (·.1) = false := by rfl)
    (na : starEach [.Call (.Name "zip" p2) [e, e2] [] pos2] X.env = (false, eval (.Call (.Name "zip" p2) [e, e2] [] pos2) X.env) :: starEach [] X.env := by rfl) :
    PE X (.Call (.Name "list" p) [.Call (.Name "zip" p2) [e, e2] [] pos2] [] pos) (tLstZip X.K ta) := by
  refine ⟨fun pins s σ H Q I h => ?_⟩
  refine Call_ (ld_blt I hgl hml boot_list (PyProof.Rows.callWith_type1 (args_cons (Call_ (ld_blt I hg hm PyProof.Rows.boot_zip (PyProof.Rows.callWith_type1 (thn (ha.run pos2 pins s σ H _ I h) ?_) hs hpl))) na) na))
  rintro us s1 ⟨vs, H1, I1, r1, a, b, xs, ys, rfl, qx, qy, hxy, hx1, q⟩
  cases r1 with | cons r r1 => ?_
  cases r1 with | cons r' r1 => ?_
  cases r1; cases r; cases r'
  obtain ⟨its, rv, p1, _⟩ := I1.tuple qx
  obtain ⟨jts, rw2, p2', _⟩ := I1.tuple qy
  have l1 := rv.length
  have l2 := rw2.length
  obtain ⟨oa, hoa, _⟩ := id p1
  obtain ⟨ob, hob, _⟩ := id p2'
  have la := Heap.lt_size hoa
  have lb := Heap.lt_size hob
  have hh : X.A.in1.handled = none := I1.ok.hd hc
  refine zip_begins2 (begins_tuple a its.toArray) (begins_tuple b jts.toArray) p1 p2' fun h' hz hTI hTO e1 e2 hsz hk => args_nil ?_
  have hS : ZipSep2 (s1.heap.objs.size + 4) (s1.heap.objs.size + 2) (s1.heap.objs.size + 3) s1.heap.objs.size (s1.heap.objs.size + 1) [s1.heap.objs.size, a] [s1.heap.objs.size + 1, b] := by
    have hla : @LT.lt Nat instLTNat a s1.heap.objs.size := la
    have hlb : @LT.lt Nat instLTNat b s1.heap.objs.size := lb
    generalize s1.heap.objs.size = n at hla hlb
    have ne : ∀ {x y : Nat}, x ≠ y → ¬ ((x : Addr) = y) := fun h => h
    constructor <;> first
      | exact List.mem_cons_self
      | (refine ne ?_; show ¬ (_ : Nat) = _; omega)
      | (simp only [List.mem_cons, List.not_mem_nil, or_false, not_or]; refine ⟨ne ?_, ne ?_⟩ <;> (show ¬ (_ : Nat) = _; omega))
  have ha1 : h'.IsTuple a its.toArray := (show s1.heap.IsTuple a its.toArray from p1).at fun o y => hk a o y
  have hb1 : h'.IsTuple b jts.toArray := (show s1.heap.IsTuple b jts.toArray from p2').at fun o y => hk b o y
  have hsz1 : its.toArray.size = xs.length := by rw [List.size_toArray]; exact l1.symm
  have hsz2 : jts.toArray.size = xs.length := by rw [List.size_toArray]; omega
  have D1 := Draws.tuple (prog := X.prog) (w := X.w) (A := X.A.in1.in1.in1) hh s1.heap.objs.size a (Nat.ne_of_lt la) its.toArray
  have D2 := Draws.tuple (prog := X.prog) (w := X.w) (A := X.A.in1.in1.in1) hh (s1.heap.objs.size + 1) b (Nat.ne_of_lt (Nat.lt_succ_of_lt lb)) jts.toArray
  rw [hsz1] at D1
  rw [hsz2] at D2
  refine list_zip_call (s := { s1 with heap := h' }) hS D1 D2 hx1 ⟨.inl hz, hTI, ⟨_, _, hTO⟩⟩ hz ⟨⟨_, e1, rfl, rfl⟩, ha1⟩ ⟨⟨_, e2, rfl, rfl⟩, hb1⟩ (fun c hc => ?_) (fun c hc => ?_) fun s' Ts c hkk g1 g2 g3 hl hln hnd hT => ?_
  · show c < h'.objs.size
    rw [hsz]
    rcases mem2 hc with rfl | rfl
    · exact Nat.lt_add_of_pos_right (by decide)
    · exact Nat.lt_of_lt_of_le la (Nat.le_add_right _ _)
  · show c < h'.objs.size
    rw [hsz]
    rcases mem2 hc with rfl | rfl
    · exact Nat.add_lt_add_left (by decide) _
    · exact Nat.lt_of_lt_of_le lb (Nat.le_add_right _ _)
  · have hl : s'.heap.get? h'.objs.size = some { cls := .type "list", dict := none, data := .seq (Ts.map Value.ref).toArray c, slots := #[] } := hl
    have hT : ∀ (j : Nat) (T : Addr), Ts[j]? = some T → h'.objs.size < T ∧ ∃ x y, its.toArray[j]? = some x ∧ jts.toArray[j]? = some y ∧ IsTupOf2 s'.heap T x y := hT
    show EP X pins σ Q (.ref h'.objs.size) s'
    rw [hsz] at hl hT ⊢
    have old : ∀ b u, s1.heap.get? b = some u → s'.heap.get? b = some u := fun b u e => by
      refine hkk b u (fun hm => ?_) (hk b u e)
      have hlt := Heap.lt_size e
      rcases mem5 hm with z | z | z | z | z
      · rw [z] at hlt; exact absurd hlt (Nat.not_lt.mpr (Nat.le_add_right _ _))
      · rw [z] at hlt; exact absurd hlt (Nat.not_lt.mpr (Nat.le_add_right _ _))
      · rw [z] at hlt; exact absurd hlt (Nat.not_lt.mpr (Nat.le_add_right _ _))
      · rw [z] at hlt; exact absurd hlt (Nat.lt_irrefl _)
      · rw [z] at hlt; exact absurd hlt (Nat.not_lt.mpr (Nat.le_add_right _ _))
    -- the heap as we see it
    obtain ⟨H2, hH2⟩ : ∃ H2 : Hp, ∀ x, H2 x = if x = s1.heap.objs.size + 5 then some (.lst (Ts.map V.ref)) else if x ∈ Ts then some (.tup [xs.getD (Ts.idxOf x) .non, ys.getD (Ts.idxOf x) .non]) else H1 x :=
      ⟨fun x => if x = s1.heap.objs.size + 5 then some (.lst (Ts.map V.ref)) else if x ∈ Ts then some (.tup [xs.getD (Ts.idxOf x) .non, ys.getD (Ts.idxOf x) .non]) else H1 x, fun _ => rfl⟩
    have big : ∀ T ∈ Ts, s1.heap.objs.size + 5 < T := fun T hm => by
      obtain ⟨j, hj⟩ := List.mem_iff_getElem?.mp hm
      exact (hT j T hj).1
    have ex12 : Ex H1 H2 := fun x o e => by
      rw [hH2, if_neg, if_neg]
      · exact e
      · intro z
        rw [I1.hok.fresh (Nat.le_of_lt (Nat.lt_of_le_of_lt (Nat.le_add_right _ _) (big x z)))] at e
        cases e
      · intro z
        rw [z, I1.hok.fresh (Nat.le_add_right _ _)] at e
        cases e
    have hTat : ∀ {j : Nat} {T : Addr}, Ts[j]? = some T → H2 T = some (.tup [xs.getD j .non, ys.getD j .non]) := fun {j T} hj => by
      have hm := List.mem_of_getElem? hj
      have hjl := (List.getElem?_eq_some_iff.mp hj).1
      have hidx : Ts.idxOf T = j := by
        rw [← (List.getElem?_eq_some_iff.mp hj).2]
        exact List.Nodup.idxOf_getElem hnd j hjl
      rw [hH2, if_neg (fun z => absurd (big T hm) (by rw [z]; exact Nat.lt_irrefl _)), if_pos hm, hidx]
    have rel : ∀ (j : Nat) (u1 u2 : Value), its.toArray[j]? = some u1 → jts.toArray[j]? = some u2 → ∃ x y, xs[j]? = some x ∧ ys[j]? = some y ∧ RelV x u1 ∧ RelV y u2 := fun j u1 u2 h1 h2 => by
      have h1 : its[j]? = some u1 := by simpa using h1
      have h2 : jts[j]? = some u2 := by simpa using h2
      have hjx : j < xs.length := by rw [l1]; exact (List.getElem?_eq_some_iff.mp h1).1
      have hjy : j < ys.length := by omega
      obtain ⟨v1, q1, r1⟩ := rv.get (List.getElem?_eq_getElem hjx)
      obtain ⟨v2, q2, r2⟩ := rw2.get (List.getElem?_eq_getElem hjy)
      rw [h1] at q1; cases q1
      rw [h2] at q2; cases q2
      exact ⟨_, _, List.getElem?_eq_getElem hjx, List.getElem?_eq_getElem hjy, r1, r2⟩
    have I2 : Inv X pins σ H2 { s1 with heap := s'.heap, toks := s'.toks } := by
      refine inv_many I1 old ex12 fun x u e hn => ?_
      rw [hH2] at e
      by_cases e1 : x = s1.heap.objs.size + 5
      · rw [if_pos e1] at e
        cases e
        refine ⟨by rw [e1]; exact Nat.le_add_right _ _, ?_⟩
        refine ⟨?_, Ts.map Value.ref, c, ?_, by rw [e1]; exact hl⟩
        · rw [List.length_map, hln]
          exact Nat.le_trans hx1 (by decide)
        · exact vals_refs Ts
      · rw [if_neg e1] at e
        by_cases e2 : x ∈ Ts
        · rw [if_pos e2] at e
          cases e
          obtain ⟨j, hj⟩ := List.mem_iff_getElem?.mp e2
          obtain ⟨h1, u1, u2, p1, p2, p3⟩ := hT j x hj
          obtain ⟨v1, v2, q1, q2, r1, r2⟩ := rel j u1 u2 p1 p2
          have hjl := (List.getElem?_eq_some_iff.mp hj).1
          have hidx : Ts.idxOf x = j := by
            rw [← (List.getElem?_eq_some_iff.mp hj).2]
            exact List.Nodup.idxOf_getElem hnd j hjl
          refine ⟨Nat.le_of_lt (Nat.lt_of_le_of_lt (Nat.le_add_right _ _) h1), ?_⟩
          rw [hidx, List.getD_eq_getElem?_getD, q1, List.getD_eq_getElem?_getD, q2]
          exact ⟨by show 2 ≤ sizeLine; decide, [u1, u2], .cons r1 (.cons r2 .nil), ⟨_, p3, rfl, _, rfl⟩⟩
        · rw [if_neg e2, hn] at e; cases e
    have es : ({ s1 with heap := s'.heap, toks := s'.toks } : Shared) = s' := by
      obtain ⟨a1, a2, a3, a4, a5⟩ := s'
      have g1 : a2 = s1.gens := g1
      have g2 : a3 = s1.drawn := g2
      have g3 : a5 = s1.os := g3
      subst g1 g2 g3
      rfl
    rw [es] at I2
    refine ⟨.ref (s1.heap.objs.size + 5), H2, I2, rfl, q _ Ts H2 ⟨ex12, I1.hok.fresh (Nat.le_add_right _ _), by rw [hH2, if_pos rfl], hln, fun j T x y h1 h2 h3 => ⟨I1.hok.fresh (Nat.le_of_lt (Nat.lt_of_le_of_lt (Nat.le_add_right _ _) (hT j T h1).1)), ?_⟩⟩⟩
    rw [hTat h1, List.getD_eq_getElem?_getD, h2, List.getD_eq_getElem?_getD, h3]
    rfl
theorem pe_listZipK (K : PySem.W.Frag) {X : Cx} {e e2 : Expr} {ta : TA} {p p2 pos pos2 : Pos} (hc : X.calm = true) (hgl : Gl X "list") (hml : X.mg "list" = none) (hg : Gl X "zip") (hm : X.mg "zip" = none) (ha : PA X [e, e2] ta) (h : X.K = K := by rfl)
    (hs : starEach [e, e2] X.env = (false, eval e X.env) :: starEach [e2] X.env := by rfl) (hpl : (backTo pos2 (starEach [e2] X.env)).any (·.1) = false := by rfl)
    (na : starEach [.Call (.Name "zip" p2) [e, e2] [] pos2] X.env = (false, eval (.Call (.Name "zip" p2) [e, e2] [] pos2) X.env) :: starEach [] X.env := by rfl) :
    PE X (.Call (.Name "list" p) [.Call (.Name "zip" p2) [e, e2] [] pos2] [] pos) (tLstZip K ta) := h ▸ pe_listZip hc hgl hml hg hm ha hs hpl na
end KD
set_option linter.all false
/-! ### counts of nodes -/
namespace KM
section
variable {α : Type} {s t : Sheet α} {ar : α → Nat}
/-- i is the root of a finite value with c nodes -/
inductive Cnt (s : Sheet α) : Nat → Nat → Prop
  | mk {i : Nat} {cs : List Nat} : i < s.length → cs.length = (fl s i).length → (∀ (a x c : Nat), (fl s i)[a]? = some x → cs[a]? = some c → Cnt s x c) → Cnt s i (1 + cs.sum)
theorem Cnt.lt {i c : Nat} (h : Cnt s i c) : i < s.length := by
  cases h with | mk h _ _ => exact h
theorem Cnt.same (hs : Ok ar s) (ht : Ok ar t) {i c : Nat} (h : Cnt s i c) : ∀ {j : Nat}, Same s t i j → Cnt t j c := by
  induction h with
  | @mk i cs h1 h2 h3 ih =>
    intro j hj
    have hl := hs.len ht hj.tag
    refine .mk (hj.lt h1) (by omega) fun a x c hx hc => ?_
    have ha := (List.getElem?_eq_some_iff.mp hx).1
    have hy : (fl s i)[a]? = some ((fl s i)[a]'(by omega)) := List.getElem?_eq_getElem _
    exact ih a _ c hy hc (hj.fld hy hx)
theorem Cnt.uniq {i c : Nat} (h : Cnt s i c) : ∀ {c' : Nat}, Cnt s i c' → c = c' := by
  induction h with
  | @mk i cs h1 h2 h3 ih =>
    intro c' h'
    cases h' with
    | @mk _ cs' g1 g2 g3 =>
      have : cs = cs' := by
        refine List.ext_getElem? fun a => ?_
        by_cases ha : a < (fl s i).length
        · have hx : (fl s i)[a]? = some (fl s i)[a] := List.getElem?_eq_getElem ha
          have hc : cs[a]? = some (cs[a]'(by omega)) := List.getElem?_eq_getElem _
          have hc' : cs'[a]? = some (cs'[a]'(by omega)) := List.getElem?_eq_getElem _
          rw [hc, hc', ih a _ _ hx hc (g3 a _ _ hx hc')]
        · rw [List.getElem?_eq_none (by omega), List.getElem?_eq_none (by omega)]
      rw [this]
/-- a value that writes the same has the same count, or none -/
theorem Cnt.iff (hs : Ok ar s) (ht : Ok ar t) {i j c : Nat} (h : Same s t i j) : Cnt s i c ↔ Cnt t j c := ⟨fun z => z.same hs ht h, fun z => z.same ht hs h.sym⟩
/-- rows of which none is counted and each has a field among them: nothing finite below -/
theorem Cnt.no {P : Nat → Prop} (h : ∀ i, P i → ∃ (a x : Nat), (fl s i)[a]? = some x ∧ P x) {i c : Nat} (hc : Cnt s i c) : ¬ P i := by
  induction hc with
  | @mk i cs h1 h2 h3 ih =>
    intro hp
    obtain ⟨a, x, hx, hpx⟩ := h i hp
    have ha := (List.getElem?_eq_some_iff.mp hx).1
    have hc : cs[a]? = some (cs[a]'(by omega)) := List.getElem?_eq_getElem _
    exact ih a x _ hx hc hpx
/-- a path from a row -/
inductive Way (s : Sheet α) : Nat → Nat → Prop
  | one {i x a : Nat} : (fl s i)[a]? = some x → Way s i x
  | more {i x y a : Nat} : (fl s i)[a]? = some x → Way s x y → Way s i y
theorem Way.snoc {i j y a : Nat} (h : Way s i j) (hy : (fl s j)[a]? = some y) : Way s i y := by
  induction h with
  | one hx => exact .more hx (.one hy)
  | more hx _ ih => exact .more hx (ih hy)
/-- a row that occurs below itself has no count -/
theorem Cnt.loop {i c : Nat} (h : Cnt s i c) : ¬ Way s i i := by
  intro hw
  have hstep : ∀ j, (j = i ∨ (Way s i j ∧ Way s j i)) → ∃ (a x : Nat), (fl s j)[a]? = some x ∧ (x = i ∨ (Way s i x ∧ Way s x i)) := by
    intro j hj
    have hji : Way s j i := by
      rcases hj with rfl | hj
      · exact hw
      · exact hj.2
    have hij : ∀ {a x : Nat}, (fl s j)[a]? = some x → Way s i x := fun hx => by
      rcases hj with rfl | hj
      · exact .one hx
      · exact hj.1.snoc hx
    cases hji with
    | one hx => exact ⟨_, _, hx, .inl rfl⟩
    | more hx hxi => exact ⟨_, _, hx, .inr ⟨hij hx, hxi⟩⟩
  exact Cnt.no hstep h (.inl rfl)
theorem Cnt.all {i c : Nat} (h : Cnt s i c) : ∀ {j : Nat}, Way s i j → ∃ c', Cnt s j c' := by
  induction h with
  | @mk i cs h1 h2 h3 ih =>
    intro j hw
    have at_ : ∀ {a x : Nat}, (fl s i)[a]? = some x → ∃ c, cs[a]? = some c := fun hx => by
      have ha := (List.getElem?_eq_some_iff.mp hx).1
      exact ⟨_, List.getElem?_eq_getElem (by omega)⟩
    cases hw with
    | one hx =>
      obtain ⟨c, hc⟩ := at_ hx
      exact ⟨c, h3 _ _ _ hx hc⟩
    | more hx hw =>
      obtain ⟨c, hc⟩ := at_ hx
      exact ih _ _ _ hx hc hw
end
end KM
set_option linter.all false
/-! ### counting nodes from the leaves up -/
namespace KM
section
variable {α : Type} {s : Sheet α} {ar : α → Nat}
abbrev keysK (ks : List (Nat × Nat)) : List Nat := ks.map (·.1)
def kget (ks : List (Nat × Nat)) (x : Nat) : Nat := ((ks.find? fun p => decide (p.1 = x)).map (·.2)).getD 0
theorem kget_mem {ks : List (Nat × Nat)} {x : Nat} (h : x ∈ keysK ks) : (x, kget ks x) ∈ ks := by
  unfold kget
  cases e : ks.find? fun p => decide (p.1 = x) with
  | none =>
    obtain ⟨p, hp, rfl⟩ := List.mem_map.mp h
    have := List.find?_eq_none.mp e p hp
    simp at this
  | some p =>
    have h1 := List.mem_of_find?_eq_some e
    have h2 := List.find?_some e
    have h2 : p.1 = x := by simpa using h2
    subst h2
    exact h1
/-- how many fields of a row are not done -/
def left (D : Nat → Nat → Bool) (s : Sheet α) (u : Nat) : Nat := (List.range (fl s u).length).countP fun a => !D u a
theorem count_flip {p q : Nat → Bool} {k : Nat} (h1 : p k = true) (h2 : q k = false) (h : ∀ a, a ≠ k → p a = q a) : ∀ {n : Nat}, (k < n → (List.range n).countP p = (List.range n).countP q + 1) ∧ (¬ k < n → (List.range n).countP p = (List.range n).countP q)
  | 0 => ⟨fun h => absurd h (Nat.not_lt_zero _), fun _ => rfl⟩
  | n + 1 => by
    obtain ⟨i1, i2⟩ := count_flip h1 h2 h (n := n)
    rw [List.range_succ, List.countP_append, List.countP_append, List.countP_singleton, List.countP_singleton]
    by_cases e : k = n
    · subst e
      have := i2 (Nat.lt_irrefl _)
      refine ⟨fun _ => ?_, fun z => absurd (Nat.lt_succ_self _) z⟩
      rw [this, h1, h2]; rfl
    · have e' := h n (fun z => e z.symm)
      rw [e']
      refine ⟨fun z => ?_, fun z => ?_⟩
      · rw [i1 (by omega)]; omega
      · rw [i2 (by omega)]
theorem left_zero {D : Nat → Nat → Bool} {u : Nat} : left D s u = 0 ↔ ∀ a, a < (fl s u).length → D u a = true := by
  unfold left
  rw [List.countP_eq_zero]
  constructor
  · intro h a ha
    have := h a (List.mem_range.mpr ha)
    simpa using this
  · intro h a ha
    have := h a (List.mem_range.mp ha)
    simp [this]
theorem left_all {u : Nat} : left (fun _ _ => false) s u = (fl s u).length := by
  unfold left
  have : (List.range (fl s u).length).countP (fun a => !(fun (_ _ : Nat) => false) u a) = (List.range (fl s u).length).length := List.countP_eq_length.mpr (fun _ _ => rfl)
  rw [this, List.length_range]
def dn (s : Sheet α) (K : List Nat) : Nat → Nat → Bool := fun u a => match (fl s u)[a]? with | some x => decide (x ∈ K) | none => false
def dn2 (s : Sheet α) (K : List Nat) (r k : Nat) (T : List Nat) : Nat → Nat → Bool := fun u a => match (fl s u)[a]? with | some x => decide (x ∈ K ∨ (x = r ∧ (a < k ∨ (a = k ∧ u ∈ T)))) | none => false
theorem left_congr {D D' : Nat → Nat → Bool} {u : Nat} (h : ∀ a, a < (fl s u).length → D u a = D' u a) : left D s u = left D' s u := by
  unfold left
  refine List.countP_congr fun a ha => ?_
  rw [h a (List.mem_range.mp ha)]
structure Kahn (s : Sheet α) (ks : List (Nat × Nat)) (D : Nat → Nat → Bool) (rd : List Nat) : Prop where
  c : ∀ p ∈ ks, Cnt s p.1 p.2
  nd : (keysK ks).Nodup
  z : ∀ x ∈ keysK ks, left D s x = 0
  rn : rd.Nodup
  r : ∀ u, u ∈ rd ↔ u < s.length ∧ left D s u = 0 ∧ u ∉ keysK ks
theorem Kahn.lt {ks : List (Nat × Nat)} {D : Nat → Nat → Bool} {rd : List Nat} (k : Kahn s ks D rd) {x : Nat} (h : x ∈ keysK ks) : x < s.length := by
  obtain ⟨p, hp, rfl⟩ := List.mem_map.mp h
  exact (k.c p hp).lt
theorem Kahn.congr {ks : List (Nat × Nat)} {D D' : Nat → Nat → Bool} {rd : List Nat} (k : Kahn s ks D rd) (h : ∀ u, left D' s u = left D s u) : Kahn s ks D' rd :=
  ⟨k.c, k.nd, fun x hx => by rw [h, k.z x hx], k.rn, fun u => by rw [k.r u, h]⟩
theorem Kahn.start : Kahn s [] (dn s []) ((List.range s.length).filter fun u => decide ((fl s u).length = 0)) := by
  have e : ∀ u, left (dn s []) s u = (fl s u).length := fun u => by
    rw [← left_all]
    refine left_congr fun a ha => ?_
    unfold dn
    rw [List.getElem?_eq_getElem ha]
    simp
  refine ⟨(fun p h => by cases h), List.nodup_nil, (fun x h => by cases h), List.nodup_range.filter _, fun u => ?_⟩
  rw [List.mem_filter, List.mem_range, e]
  simp
theorem Kahn.flds {ks : List (Nat × Nat)} {rd : List Nat} {r : Nat} (k : Kahn s ks (dn s (keysK ks)) rd) (h : r ∈ rd) : ∀ x ∈ fl s r, x ∈ keysK ks := fun x hx => by
  obtain ⟨_, h0, _⟩ := (k.r r).mp h
  obtain ⟨a, ha⟩ := List.mem_iff_getElem?.mp hx
  have hl := (List.getElem?_eq_some_iff.mp ha).1
  have := left_zero.mp h0 a hl
  unfold dn at this
  rw [ha] at this
  simpa using this
/-- a row is taken -/
theorem Kahn.take {ks : List (Nat × Nat)} {rd : List Nat} {r : Nat} (k : Kahn s ks (dn s (keysK ks)) (rd ++ [r])) :
    Kahn s (ks ++ [(r, 1 + ((fl s r).map (kget ks)).sum)]) (dn2 s (keysK ks) r 0 []) rd ∧ r ∉ keysK ks ∧ r < s.length := by
  have hr : r ∈ rd ++ [r] := List.mem_append_right _ List.mem_cons_self
  obtain ⟨h1, h2, h3⟩ := (k.r r).mp hr
  have hf := k.flds hr
  have e : ∀ u, left (dn2 s (keysK ks) r 0 []) s u = left (dn s (keysK ks)) s u := fun u => left_congr fun a ha => by
    unfold dn dn2
    rw [List.getElem?_eq_getElem ha]
    simp
  have hC : Cnt s r (1 + ((fl s r).map (kget ks)).sum) := by
    refine .mk h1 (by rw [List.length_map]) fun a x c hx hc => ?_
    rw [List.getElem?_map, hx] at hc
    cases hc
    exact k.c _ (kget_mem (hf x (List.mem_of_getElem? hx)))
  have hk : keysK (ks ++ [(r, 1 + ((fl s r).map (kget ks)).sum)]) = keysK ks ++ [r] := by unfold keysK; rw [List.map_append]; rfl
  have hn := List.nodup_append.mp k.rn
  refine ⟨⟨fun p hp => ?_, ?_, fun x hx => ?_, hn.1, fun u => ?_⟩, h3, h1⟩
  · rcases List.mem_append.mp hp with h | h
    · exact k.c p h
    · rw [List.mem_singleton.mp h]; exact hC
  · rw [hk]
    exact List.nodup_append.mpr ⟨k.nd, by simp, fun x hx y hy => by rw [List.mem_singleton.mp hy]; exact fun z => h3 (z ▸ hx)⟩
  · rw [hk] at hx
    rw [e]
    rcases List.mem_append.mp hx with h | h
    · exact k.z x h
    · rw [List.mem_singleton.mp h]; exact h2
  · rw [e, hk]
    constructor
    · intro hu
      obtain ⟨a, b, c⟩ := (k.r u).mp (List.mem_append_left _ hu)
      refine ⟨a, b, fun z => ?_⟩
      rcases List.mem_append.mp z with h | h
      · exact c h
      · exact hn.2.2 u hu r List.mem_cons_self (List.mem_singleton.mp h)
    · rintro ⟨a, b, c⟩
      have := (k.r u).mpr ⟨a, b, fun z => c (List.mem_append_left _ z)⟩
      rcases List.mem_append.mp this with h | h
      · exact h
      · exact absurd (List.mem_append_right _ h) c
/-- one of the rows above it -/
theorem left_step {K T : List Nat} {r k u : Nat} (hr : r ∉ K) (hu : (fl s u)[k]? = some r) (hT : u ∉ T) :
    left (dn2 s K r k T) s u = left (dn2 s K r k (T ++ [u])) s u + 1 ∧ ∀ v, v ≠ u → left (dn2 s K r k (T ++ [u])) s v = left (dn2 s K r k T) s v := by
  have hk := (List.getElem?_eq_some_iff.mp hu).1
  constructor
  · unfold left
    refine (count_flip (k := k) ?_ ?_ fun a ha => ?_).1 hk
    · unfold dn2; rw [hu]; simp [hr, hT]
    · unfold dn2; rw [hu]; simp
    · unfold dn2
      cases (fl s u)[a]? with
      | none => rfl
      | some x => simp [ha]
  · intro v hv
    refine left_congr fun a ha => ?_
    unfold dn2
    rw [List.getElem?_eq_getElem ha]
    simp [hv]
theorem Kahn.step {ks : List (Nat × Nat)} {rd K T : List Nat} {r k u : Nat} (kh : Kahn s ks (dn2 s K r k T) rd) (hr : r ∉ K) (hl : u < s.length) (hu : (fl s u)[k]? = some r) (hT : u ∉ T) :
    Kahn s ks (dn2 s K r k (T ++ [u])) (if left (dn2 s K r k (T ++ [u])) s u = 0 then rd ++ [u] else rd) := by
  obtain ⟨e1, e2⟩ := left_step hr hu hT
  have hne : ∀ x, left (dn2 s K r k T) s x = 0 → x ≠ u := fun x hx z => by rw [z, e1] at hx; omega
  refine ⟨kh.c, kh.nd, fun x hx => by rw [e2 x (hne x (kh.z x hx)), kh.z x hx], ?_, fun v => ?_⟩
  · split
    · refine List.nodup_append.mpr ⟨kh.rn, by simp, fun x hx y hy => by
        rw [List.mem_singleton.mp hy]
        exact hne x ((kh.r x).mp hx).2.1⟩
    · exact kh.rn
  · by_cases e : v = u
    · subst e
      have n1 : v ∉ rd := fun h => hne v ((kh.r v).mp h).2.1 rfl
      have n2 : v ∉ keysK ks := fun h => hne v (kh.z v h) rfl
      split
      · rename_i h0
        exact ⟨fun _ => ⟨hl, h0, n2⟩, fun _ => List.mem_append_right _ List.mem_cons_self⟩
      · rename_i h0
        exact ⟨fun h => absurd h n1, fun h => absurd h.2.1 h0⟩
    · rw [e2 v e, ← kh.r v]
      split
      · exact ⟨fun h => by
          rcases List.mem_append.mp h with h | h
          · exact h
          · exact absurd (List.mem_singleton.mp h) e, fun h => List.mem_append_left _ h⟩
      · rfl
/-- all rows above it at a place -/
theorem left_next {K T : List Nat} {r k : Nat} (h : ∀ u, u < s.length → (fl s u)[k]? = some r → u ∈ T) (u : Nat) : left (dn2 s K r (k + 1) []) s u = left (dn2 s K r k T) s u := by
  refine left_congr fun a ha => ?_
  unfold dn2
  have hu : u < s.length := by
    by_cases z : u < s.length
    · exact z
    · have : fl s u = [] := by unfold fl; rw [List.getElem?_eq_none (by omega)]; rfl
      rw [this] at ha
      cases ha
  cases e : (fl s u)[a]? with
  | none => rfl
  | some x =>
    simp only [List.not_mem_nil, and_false, or_false]
    by_cases hx : x = r
    · subst hx
      by_cases ek : a = k
      · subst ek
        simp [h u hu e]
      · have : (a < k + 1) ↔ (a < k ∨ (a = k ∧ u ∈ T)) := ⟨fun h => .inl (by omega), fun h => by rcases h with h | h <;> omega⟩
        simp only [this]
    · simp [hx]
theorem left_last {K : List Nat} {r k : Nat} (h : ∀ u, (fl s u).length ≤ k) (u : Nat) : left (dn s (K ++ [r])) s u = left (dn2 s K r k []) s u := by
  refine left_congr fun a ha => ?_
  unfold dn dn2
  rw [List.getElem?_eq_getElem ha]
  have := h u
  simp only [List.mem_append, List.mem_singleton, List.not_mem_nil, and_false, or_false]
  have e : a < k := by omega
  simp [e]
/-- nothing is ready: what is not counted has no count -/
theorem Kahn.fin {ks : List (Nat × Nat)} (hs : Ok ar s) (k : Kahn s ks (dn s (keysK ks)) []) {i c : Nat} (h : i ∉ keysK ks) : ¬ Cnt s i c := by
  intro hc
  refine Cnt.no (P := fun i => i < s.length ∧ i ∉ keysK ks) (fun i ⟨h1, h2⟩ => ?_) hc ⟨hc.lt, h⟩
  have : left (dn s (keysK ks)) s i ≠ 0 := fun z => by
    have := (k.r i).mpr ⟨h1, z, h2⟩
    cases this
  have : ∃ a, a < (fl s i).length ∧ dn s (keysK ks) i a = false := by
    refine Classical.byContradiction fun hn => this (left_zero.mpr fun a ha => ?_)
    cases e : dn s (keysK ks) i a with
    | true => rfl
    | false => exact absurd ⟨a, ha, e⟩ hn
  obtain ⟨a, ha, e⟩ := this
  refine ⟨a, (fl s i)[a], List.getElem?_eq_getElem ha, hs.fld (List.getElem_mem ha), ?_⟩
  unfold dn at e
  rw [List.getElem?_eq_getElem ha] at e
  simpa using e
end
end KM
set_option Elab.async false
set_option linter.all false
set_option maxRecDepth 100000
set_option maxHeartbeats 1000000
namespace KD
open PySem PySem.Spec PyProof.Rows L2
/-! ### xs[i] -= e; dicts of numbers by number -/
theorem get_list {X : Cx} : PGet X (rIxL X.K) := by
  rintro pins s σ H x y v u Q inv rx ry ⟨a, xs, i, z, rfl, rfl, lst, found, q⟩
  cases rx
  obtain ⟨tok, rfl⟩ := ry
  obtain ⟨its, vals, plain, _⟩ := inv.list lst
  obtain ⟨j, ej, jlt, _, low, high⟩ := atI_get found
  obtain ⟨got, eg, rg⟩ := vals.get jlt
  have cap := line63
  have many : its.toArray.size = xs.length := by rw [List.size_toArray]; exact vals.length.symm
  have here : its.toArray[j]? = some got := by simpa using eg
  have answer : EP X pins σ Q got s := ⟨z, H, inv, rg, q⟩
  rcases Int.lt_or_le i 0 with below | above
  · rw [seqIndex_neg below low, ← many] at ej
    exact wpAny_getItem_list_neg plain.isList below (by omega) (by omega) (by rw [Option.some.inj ej]; exact here) answer
  · rw [seqIndex_of above high] at ej
    exact wpAny_getItem_list plain.isList above (by omega) (by rw [Option.some.inj ej]; exact here) answer
theorem get_listK (K : PySem.W.Frag) {X : Cx} (h : X.K = K := by rfl) : PGet X (rIxL K) := h ▸ get_list
theorem cr_sumK (K : PySem.W.Frag) {X : Cx} (hc : X.calm = true) (h : X.K = K := by rfl) : CallR X (.builtin "sum") (rSum K) := h ▸ cr_sum hc
/-- a dict from numbers to numbers -/
abbrev kC (p : Nat × Nat) : Key × V := (kN p.1, vN p.2)
theorem valV_kC {k : Nat} : ∀ {ks : List (Nat × Nat)}, valV (ks.map kC) (kN k) = (ks.find? fun p => decide (p.1 = k)).map fun p => vN p.2
  | [] => rfl
  | (a, b) :: ks => by
    by_cases e : a = k
    · subst e
      rw [List.map_cons, valV_pos rfl, List.find?_cons_of_pos (by simp)]
      rfl
    · rw [List.map_cons, valV_neg (fun z => e (kN_inj z)), valV_kC, List.find?_cons_of_neg (by simpa using e)]
theorem valV_kget {k : Nat} {ks : List (Nat × Nat)} (h : k ∈ KM.keysK ks) : valV (ks.map kC) (kN k) = some (vN (KM.kget ks k)) := by
  rw [valV_kC]
  unfold KM.kget
  cases e : ks.find? fun p => decide (p.1 = k) with
  | none =>
    obtain ⟨p, hp, rfl⟩ := List.mem_map.mp h
    have := List.find?_eq_none.mp e p hp
    simp at this
  | some p => rfl
theorem valV_knone {k : Nat} {ks : List (Nat × Nat)} (h : k ∉ KM.keysK ks) : valV (ks.map kC) (kN k) = none := by
  rw [valV_kC, List.find?_eq_none.mpr]
  · rfl
  · intro p hp
    simp only [decide_eq_true_eq]
    exact fun z => h (List.mem_map.mpr ⟨p, hp, z⟩)
theorem putK_kC {k c : Nat} {ks : List (Nat × Nat)} (h : k ∉ KM.keysK ks) : putK (ks.map kC) (kN k) (vN c) = (ks ++ [(k, c)]).map kC := by
  rw [putK_new _ (valV_knone h), List.map_append]; rfl
end KD
set_option Elab.async false
set_option linter.all false
set_option maxRecDepth 100000
set_option maxHeartbeats 1000000
namespace KD
open PySem PySem.Spec PyProof.Rows L2
/-! ### dicts by tuples: a display of one pair, update, == {} -/
def tDispT1 (tk tv : TE) : TE := fun σ H Q => ∀ p, H p = none → tPairs [(tk, tv)] σ (upd H p (.dT [])) fun ps H2 => H2 p = some (.dT []) ∧ ∃ b ks v, ps = [(.ref b, v)] ∧ H2 b = some (.tup (ks.map kV)) ∧ Q (.ref p) (upd H2 p (.dT [(ks, v)]))
theorem pe_dispT1 {X : Cx} {pos : Pos} {ke ve : Expr} {tk tv : TE} (hu : X.A.units + 1 < cLine) (hk : PE X ke tk) (hv : PE X ve tv) : PE X (.Dict [some ke] [ve] pos) (tDispT1 tk tv) := by
  refine ⟨fun pins s σ H Q I q => ?_⟩
  have hn := I.hok.fresh (Nat.le_refl s.heap.objs.size)
  have I1 := I.laid (a := s.heap.objs.size) (o := .dT []) (h' := s.heap.push { cls := .type "dict", data := .dict #[] }) (t' := s.toks) (fun _ _ q => Heap.get?_push_of_some _ q) (Nat.le_refl _) (dt_empty s.heap I.big)
  have hrun : PPs X pos [some ke] [ve] [(tk, tv)] := pps_cons hk hv pps_nil
  have hlen : (pairTrees [some ke] [ve] X.env pos).length = 1 := pairTrees_length _ _ _ _ rfl rfl
  have hne : pairTrees [some ke] [ve] X.env pos ≠ [] := fun z => by rw [z] at hlen; simp at hlen
  rw [arm_eval_Dict, zip_pairTrees _ _ _ _ rfl rfl, dictDisplay_pairs _ hne (by omega)]
  refine wpAny_bind (wpAny_standAt (wpAny_bind (wpAny_subDictH (knd := tupleKind (mixKind X.prog X.w)) (Q := fun d s' => wpAny (model X.prog X.w) X.A (pure (Value.ref d)) _ X.xe s') (show X.A.units < cLine by omega) (by omega) ?_)))
  refine thn (hrun.run pins _ σ _ _ I1 (q _ hn)) fun ws s2 ⟨ps, H2, I2, rel, e, b, ks, v, ep, eb, q2⟩ => ?_
  subst ep
  cases rel with | @cons _ w1 _ _ h1 h2 => ?_
  cases h2
  obtain ⟨w1k, w1v⟩ := w1
  obtain ⟨r1, r2⟩ := h1
  cases (show w1k = Value.ref b from r1)
  obtain ⟨z, hd, xs0, rel0, dd⟩ := dt_of I2.hok e
  have hx0 : xs0 = [] := by cases rel0; rfl
  subst hx0
  refine ⟨[(ks, b, w1v)], ⟨rfl, rfl, key_of I2.hok eb, trivial⟩, dd, fun h' tk' dd' hs => wpAny_pure ⟨.ref s.heap.objs.size, _, ?_, rfl, q2⟩⟩
  obtain ⟨q, es, ep, hq, h2, h3, h4, _, h5⟩ := dd'
  refine d_write I2 (by rw [e]; exact True.intro) hs ⟨q, hq⟩ ⟨by show 1 ≤ sizeLine; decide, hd, storedAllH [] [(ks, b, w1v)], ?_, q, es, ep, hq, h2, h3, h4, h5⟩
  show KT _ [(ks, v)] [(ks, b, w1v)]
  refine .cons ⟨rfl, ?_, r2⟩ .nil
  rw [upd_ne (ne_of eb e (fun z => nomatch z))]
  exact eb
def mergeT (kvs more : List (List Key × V)) : List (List Key × V) := more.foldl (fun acc kv => putK acc kv.1 kv.2) kvs
theorem KT.merge {H : Hp} : ∀ {more : List (List Key × V)} {rs : List (List Key × Addr × Value)} {kvs : List (List Key × V)} {xs : List (List Key × Addr × Value)}, KT H more rs → KT H kvs xs → KT H (mergeT kvs more) (storedAllH xs rs) := by
  intro more rs kvs xs r
  induction r generalizing kvs xs with
  | nil => exact id
  | @cons kv row _ _ ok _ next =>
    refine fun base => next ?_
    obtain ⟨key, at_key, val⟩ := ok
    obtain ⟨rk, rest⟩ := row
    obtain rfl : kv.1 = rk := key
    exact KT.put base kv.1 at_key val
theorem length_mergeT (more kvs : List (List Key × V)) : (mergeT kvs more).length ≤ kvs.length + more.length := by
  induction more generalizing kvs with
  | nil => exact Nat.le_refl _
  | cons kv rest ih =>
    have one := length_putK kvs kv.1 kv.2
    exact Nat.le_trans (ih (putK kvs kv.1 kv.2)) (by simp only [List.length_cons]; omega)
def rUpdT : V → List V → Hp → VK → Prop := fun x vs H Q => ∃ d o kvs more, x = .ref d ∧ vs = [.ref o] ∧ d ≠ o ∧ H d = some (.dT kvs) ∧ H o = some (.dT more) ∧ kvs ≠ [] ∧ kvs.length + more.length ≤ sizeLine ∧ Q .non (upd H d (.dT (mergeT kvs more)))
theorem mt_updateT {X : Cx} (hu : X.A.units + 1 < cLine) : MtM X "dict.update" rUpdT := by
  intro pins s σ H x vs v us Q I rx rv h
  obtain ⟨d, o, kvs, more, rfl, rfl, hdo, hd, ho, hne, hsz, q⟩ := h
  cases rx
  obtain ⟨u, rfl, ru⟩ := rv.one
  cases ru
  obtain ⟨z1, n1, xs, r1, d1⟩ := dt_of I.hok hd
  obtain ⟨z2, n2, ys, r2, d2⟩ := dt_of I.hok ho
  have l1 := Paired.length r1
  have l2 := Paired.length r2
  refine call_update_dictH (knd := tupleKind (mixKind X.prog X.w)) (tupleKind_room_in1 hu) hdo n2 d1 d2 (.inl fun z => ?_) (by omega) fun h' dd' _ hs => ⟨.non, _, ?_, rfl, q⟩
  · rw [z] at l1
    exact hne (List.length_eq_zero_iff.mp l1)
  · obtain ⟨ob, es, ep, hq, h2, h3, h4, _, h5⟩ := dd'
    refine d_write I (by rw [hd]; exact True.intro) hs ⟨ob, hq⟩ ⟨by have := length_mergeT more kvs; omega, n1, _, (KT.merge r2 r1).keeps fun c ys ec => ?_, ob, es, ep, hq, h2, h3, h4, h5⟩
    rw [upd_ne (ne_of ec hd (fun z => nomatch z))]
    exact ec
/-- d == {} -/
def rEqD0 : R2 := fun x y H Q => ∃ a b kvs, x = .ref a ∧ y = .ref b ∧ H a = some (.dT kvs) ∧ H b = some (.dT []) ∧ Q (.bl kvs.isEmpty) H
section
variable {prog : Program} {w : World} {A : Around} {E : Value → Shared → Prop} {s : Shared}
theorem samePairs0 {nm : String} {a b : Addr} {oa ob : Obj} {es es' : Array DictEntry} {ep ep' : Nat} {Q : Bool → Shared → Prop} (ha : (a == sysModules) = false) (hb : (b == sysModules) = false)
    (hoa : s.heap.get? a = some oa) (hda : oa.data = .dict es ep) (hob : s.heap.get? b = some ob) (hdb : ob.data = .dict es' ep') (h0 : es'.size = 0) (h : Q (es.size == 0) s) :
    wpAny (model prog w) A (Builtin.Dict.samePairs nm a b) Q E s := by
  simp only [Builtin.Dict.samePairs, Builtin.Dict.showsAll, ha, hb, Bool.false_eq_true, if_false]
  refine wpAny_bind (wpAny_pure (wpAny_bind (wpAny_pure (wpAny_bind (wpAny_dictEntries hoa hda ?_)))))
  apply wpAny_bind
  refine wpAny_dictEntries hob hdb ?_
  by_cases hsz : es.size = 0
  · have h' : Q true s := by simpa [hsz] using h
    rw [if_neg (by rw [hsz, h0]; simp)]
    refine wpAny_bind (wpAny_dictEpoch hoa hda ?_)
    refine wpAny_bind ?_
    rw [Std.Legacy.Range.forIn_eq_forIn_range']
    simp only [Std.Legacy.Range.size, Nat.sub_zero, Nat.add_sub_cancel, Nat.div_one, hsz, List.range'_zero, List.forIn_nil]
    exact wpAny_pure (wpAny_pure h')
  · rw [if_pos (by rw [h0]; simpa using hsz)]
    have hbf : (es.size == 0) = false := by simpa using hsz
    rw [hbf] at h
    exact wpAny_bind (wpAny_rule (wpAny_pure h))
end
theorem op_eqD0 {X : Cx} (hu : X.A.units < cLine) : OpR X (compareOp .Eq) rEqD0 := by
  intro pins s σ H x y v u Q I rx ry h
  obtain ⟨a, b, kvs, rfl, rfl, hha, hhb, q⟩ := h
  cases rx; cases ry
  obtain ⟨z1, n1, xs, r1, d1⟩ := dt_of I.hok hha
  obtain ⟨z2, n2, ys, r2, d2⟩ := dt_of I.hok hhb
  have hy0 : ys = [] := by cases r2; rfl
  subst hy0
  have t1 := d1.typeIs
  have t2 := d2.typeIs
  obtain ⟨oa, es, ep, hoa, _, hda, hea, _⟩ := d1
  obtain ⟨ob, es', ep', hob, _, hdb, heb, _⟩ := d2
  have s1 : es.size = kvs.length := by rw [size_of_entries hea, Paired.length r1]
  have s2 : es'.size = 0 := by rw [size_of_entries heb]; rfl
  have both : ∀ {Q' : Value × Value → Shared → Prop} {E' : Value → Shared → Prop}, Q' (.ref a, .ref b) s → wpAny (model X.prog X.w) X.A.in1 (Builtin.Dict.dictSlotArgs "__eq__" ⟨[.ref a, .ref b], []⟩) Q' E' s := fun {_ _} q' =>
    wpAny_bind (wpAny_notOrdered_dict t1 (wpAny_pure q'))
  refine wpAny_richCompare_same_room (op := .Eq) t1 t2 PySem.F.slot_dict_eq (wpAny_call_entry PySem.F.slot_dict_eq t1 PySem.F.entry_dict_eq (wpAny_bind (both ?_)) (PySem.F.args_dict_eq_2 _ _)) hu
  refine wpAny_bind (wpAny_isInstance (T := "dict") t2 PySem.F.sub_dict_dict ?_)
  refine wp_if_neg (by decide) ?_
  refine wpAny_bind (wpAny_pure (wpAny_bind (wpAny_pure (wpAny_bind (samePairs0 n1 n2 hoa hda hob hdb s2 (wpAny_pure ⟨_, rfl, ?_, ?_⟩))))))
  · exact fun x => nomatch x
  · refine ⟨.bl kvs.isEmpty, H, I, ?_, q⟩
    show _ = Value.bool kvs.isEmpty
    rw [s1]
    cases kvs <;> rfl
end KD
set_option Elab.async false
set_option linter.all false
set_option maxRecDepth 100000
set_option maxHeartbeats 2000000
namespace KD
open PySem PySem.Spec PyProof.Rows L2
/-! ### for p in zip(t, u): each pair is kept by the name p -/
/-- a zip in any state of its own pair -/
abbrev IsZipG (h : Heap) (z TI TO : Addr) (x : Value) (f : Bool) : Prop :=
  h.get? z = some { cls := .type "zip", dict := none, data := .fields #[x, .bool f, .bool false, .ref TI, .ref TO], slots := #[] }
/-- no one holds its pair -/
def NoPair (h : Heap) (x : Value) : Prop := x = .none ∨ ∃ T : Addr, x = rawInt T ∧ h.get? T = none
section
variable {prog : Program} {w : World} {A : Around} {E : Value → Shared → Prop} {s : Shared} {z TI TO i1 i2 : Addr} {fp1 fp2 : List Addr} {n1 n2 i : Nat} {P1 P2 : Nat → Value → Prop} {St1 St2 : Nat → Heap → Prop} {a1 a2 x : Value} {f : Bool}
theorem loadNone {a : Addr} {Q : Option Obj → Shared → Prop} (h : s.heap.get? a = none) (q : Q none s) : wpAny (model prog w) A (loadIfAlive a) Q E s := fun Γ p hΓ => by
  unfold loadIfAlive
  rw [Sem.wp_loadIfAlive, h]
  exact wpAny_pure q Γ p hΓ
theorem isFree {Q : Bool → Shared → Prop} (hz : IsZipG s.heap z TI TO x f) (hx : NoPair s.heap x) (h : Q true s) : wpAny (model prog w) A (Builtin.SmallTypes.ownedTupleIsFree (.ref z)) Q E s := by
  unfold Builtin.SmallTypes.ownedTupleIsFree
  rcases hx with rfl | ⟨T, rfl, hT⟩
  · exact wpAny_bind (wpAny_field hz rfl (x := .none) rfl (wpAny_pure h))
  · refine wpAny_bind (wpAny_field hz rfl (x := rawInt T) rfl ?_)
    show wpAny _ A (loadIfAlive ((T : Int).toNat) >>= _) _ _ s
    rw [Int.toNat_natCast]
    exact wpAny_bind (loadNone hT (wpAny_pure h))
/-- its next pair, where no one holds the last -/
theorem zipG_item {Q : Option Value → Shared → Prop} (S : ZipSep2 z TI TO i1 i2 fp1 fp2) (D1 : Draws prog w A.in1 i1 fp1 n1 P1 St1) (D2 : Draws prog w A.in1 i2 fp2 n2 P2 St2)
    (hz : IsZipG s.heap z TI TO x f) (hx : NoPair s.heap x) (hTI : IsTupOf2 s.heap TI (.ref i1) (.ref i2)) (hTO : IsTupOf2 s.heap TO a1 a2) (st1 : St1 i s.heap) (st2 : St2 i s.heap) (hlt1 : i < n1) (hlt2 : i < n2)
    (hQ : ∀ x1 x2 h' tk, P1 i x1 → P2 i x2 → IsZipG h' z TI TO (rawInt s.heap.objs.size) false → IsTupOf2 h' TO x1 x2 → St1 (i + 1) h' → St2 (i + 1) h' → IsTupOf2 h' s.heap.objs.size x1 x2 →
      (∀ c o, c ≠ z → c ≠ TO → c ≠ i1 → c ≠ i2 → s.heap.get? c = some o → h'.get? c = some o) → Q (some (.ref s.heap.objs.size)) { s with heap := h', toks := tk }) :
    wpAny (model prog w) A (pyNext (.ref z)) Q E s := by
  have ty : s.TypeIs (.ref z) "zip" := ⟨_, hz, rfl⟩
  unfold pyNext
  refine wpAny_bind (wpAny_attempt (wpAny_callSpecial?_slot (name := Str.ofString "__next__") ty F.slot_zip_next (wpAny_call_entry F.slot_zip_next ty F.entry_zip_next
    (Q := fun v s' => wpAny (model prog w) A (pure (some v) : Sem (Option Value)) Q E s') ?_ (F.args_zip_next_1 _))))
  obtain ⟨m0, g, d, tk0, os⟩ := s
  show wpAny _ A.in1 (field (.ref z) 2 >>= _) _ _ _
  refine wpAny_bind (wpAny_field hz rfl (x := .bool false) rfl ?_)
  show wpAny _ A.in1 (field (.ref z) 3 >>= _) _ _ _
  refine wpAny_bind (wpAny_field hz rfl (x := .ref TI) rfl (wpAny_bind (wpAny_seqItems hTI rfl ?_)))
  show wpAny _ A.in1 (Builtin.SmallTypes.ownedTupleIsFree (.ref z) >>= _) _ _ _
  refine wpAny_bind (isFree hz hx ?_)
  simp only [if_true]
  refine wpAny_bind (wpAny_rule (wpAny_bind (wpAny_field hz rfl (x := .ref TO) rfl (wpAny_bind (wpAny_setField_rec hz (by simp) fun m1 z1 k1 => wpAny_bind ?_)))))
  replace z1 : IsZipG m1 z TI TO .ellipsis f := z1
  replace k1 : Heap.SameBut z m0 m1 := k1
  simp only [List.zipIdx_cons, List.zipIdx_nil, List.forIn_cons, List.forIn_nil]
  refine wpAny_bind (wpAny_bind (wpAny_onRaise ?_))
  show wpAny _ A.in1 (Builtin.SmallTypes.nextOf (.ref i1) >>= _) _ _ ⟨m1, g, d, tk0, os⟩
  refine wpAny_bind (D1.item i _ _ _ hlt1 (D1.over st1 k1 S.zf1) fun x1 m2 tk1 hx1 sn1 k2 => wpAny_pure ?_)
  replace k2 : Heap.SameBut i1 m1 m2 := k2
  have o2 : IsTupOf2 m2 TO a1 a2 := k2.extBut _ _ S.Ti1 (k1.extBut _ _ S.TOz hTO)
  refine wpAny_bind (wpAny_seqItems (s := ⟨m2, g, d, tk1, os⟩) o2 rfl (wpAny_bind (updateSeq_IsTupOf2 (s := ⟨m2, g, d, tk1, os⟩) o2 fun m3 o3 k3 => wpAny_bind (wpAny_letGo (wpAny_pure ?_)))))
  replace o3 : IsTupOf2 m3 TO x1 a2 := o3
  replace k3 : Heap.SameBut TO m2 m3 := k3
  refine wpAny_bind (wpAny_bind (wpAny_onRaise ?_))
  show wpAny _ A.in1 (Builtin.SmallTypes.nextOf (.ref i2) >>= _) _ _ ⟨m3, g, d, tk1, os⟩
  refine wpAny_bind (D2.item i _ _ _ hlt2 (D2.over (D2.over (D2.over st2 k1 S.zf2) k2 S.sep1_2) k3 S.Tf2) fun x2 m4 tk2 hx2 sn2 k4 => wpAny_pure ?_)
  replace k4 : Heap.SameBut i2 m3 m4 := k4
  have o4 : IsTupOf2 m4 TO x1 a2 := k4.extBut _ _ S.Ti2 o3
  refine wpAny_bind (wpAny_seqItems (s := ⟨m4, g, d, tk2, os⟩) o4 rfl (wpAny_bind (updateSeq_IsTupOf2 (s := ⟨m4, g, d, tk2, os⟩) o4 fun m5 o5 k5 => wpAny_bind (wpAny_letGo (wpAny_pure (wpAny_pure ?_))))))
  replace o5 : IsTupOf2 m5 TO x1 x2 := o5
  replace k5 : Heap.SameBut TO m4 m5 := k5
  refine wpAny_bind (wpAny_seqItems (s := ⟨m5, g, d, tk2, os⟩) o5 rfl (wpAny_bind (wpAny_newTuple ?_)))
  have sz : m5.objs.size = m0.objs.size := by rw [k5.1, k4.1, k3.1, k2.1, k1.1]
  have z5 : IsZipG m5 z TI TO .ellipsis f := k5.extBut _ _ S.TOz.symm (k4.extBut _ _ S.zi2 (k3.extBut _ _ S.TOz.symm (k2.extBut _ _ S.zi1 z1)))
  have zl : z < m5.objs.size := Heap.lt_size z5
  show wpAny _ A.in1 (Builtin.SmallTypes.ownedTupleHandOut (.ref z) (.ref m5.objs.size) >>= _) _ _ ⟨m5.push { cls := .type "tuple", data := .seq #[x1, x2] }, g, d, tk2, os⟩
  refine wpAny_bind ?_
  unfold Builtin.SmallTypes.ownedTupleHandOut
  have z6 : IsZipG (m5.push { cls := .type "tuple", data := .seq #[x1, x2] }) z TI TO .ellipsis f := Heap.get?_push_of_some _ z5
  refine wpAny_bind (wpAny_setField_rec z6 (by simp) fun m7 z7 k7 => ?_)
  replace z7 : IsZipG m7 z TI TO (rawInt m5.objs.size) f := z7
  replace k7 : Heap.SameBut z (m5.push { cls := .type "tuple", data := .seq #[x1, x2] }) m7 := k7
  refine wpAny_setField_rec z7 (by simp) fun m8 z8 k8 => ?_
  replace z8 : IsZipG m8 z TI TO (rawInt m5.objs.size) false := z8
  replace k8 : Heap.SameBut z m7 m8 := k8
  have up : ∀ c o, c ≠ z → m5.get? c = some o → m8.get? c = some o := fun c o hc e => k8.extBut _ _ hc (k7.extBut _ _ hc (Heap.get?_push_of_some _ e))
  have new : IsTupOf2 m8 m5.objs.size x1 x2 := k8.extBut _ _ (Nat.ne_of_gt zl) (k7.extBut _ _ (Nat.ne_of_gt zl) (Heap.get?_push_size _ rfl))
  rw [sz] at z8 new
  refine wpAny_pure ⟨_, rfl, wpAny_pure ?_⟩
  show Q (some (.ref m5.objs.size)) ⟨m8, g, d, tk2, os⟩
  rw [sz]
  refine hQ x1 x2 m8 tk2 hx1 hx2 z8 (up _ _ S.TOz o5) (D1.frame _ _ _ (D1.over (D1.over (D1.over sn1 k3 S.Tf1) k4 S.sep2_1) k5 S.Tf1) fun b hb o e => up b o (fun y => S.zf1 (y ▸ hb)) e)
    (D2.frame _ _ _ (D2.over sn2 k5 S.Tf2) fun b hb o e => up b o (fun y => S.zf2 (y ▸ hb)) e) new fun c o cz cT c1 c2 e => up c o cz ?_
  exact k5.extBut _ _ cT (k4.extBut _ _ c2 (k3.extBut _ _ cT (k2.extBut _ _ c1 (k1.extBut _ _ cz e))))
/-- its end, where no one holds the last -/
theorem zipG_end {Q : Option Value → Shared → Prop} (S : ZipSep2 z TI TO i1 i2 fp1 fp2) (D1 : Draws prog w A.in1 i1 fp1 n1 P1 St1)
    (hz : IsZipG s.heap z TI TO x f) (hx : NoPair s.heap x) (hTI : IsTupOf2 s.heap TI (.ref i1) (.ref i2)) (st1 : St1 n1 s.heap)
    (hQ : ∀ h' tk, (∀ c o, c ≠ z → c ≠ i1 → s.heap.get? c = some o → h'.get? c = some o) → Q none { s with heap := h', toks := tk }) : wpAny (model prog w) A (pyNext (.ref z)) Q E s := by
  have ty : s.TypeIs (.ref z) "zip" := ⟨_, hz, rfl⟩
  unfold pyNext
  refine wpAny_bind (wpAny_attempt (wpAny_callSpecial?_slot (name := Str.ofString "__next__") ty F.slot_zip_next (wpAny_call_entry F.slot_zip_next ty F.entry_zip_next
    (Q := fun v s' => wpAny (model prog w) A (pure (some v) : Sem (Option Value)) Q E s') ?_ (F.args_zip_next_1 _))))
  obtain ⟨m0, g, d, tk0, os⟩ := s
  show wpAny _ A.in1 (field (.ref z) 2 >>= _) _ _ _
  refine wpAny_bind (wpAny_field hz rfl (x := .bool false) rfl ?_)
  show wpAny _ A.in1 (field (.ref z) 3 >>= _) _ _ _
  refine wpAny_bind (wpAny_field hz rfl (x := .ref TI) rfl (wpAny_bind (wpAny_seqItems hTI rfl ?_)))
  show wpAny _ A.in1 (Builtin.SmallTypes.ownedTupleIsFree (.ref z) >>= _) _ _ _
  refine wpAny_bind (isFree hz hx ?_)
  simp only [if_true]
  refine wpAny_bind (wpAny_rule (wpAny_bind (wpAny_field hz rfl (x := .ref TO) rfl (wpAny_bind (wpAny_setField_rec hz (by simp) fun m1 z1 k1 => wpAny_bind ?_)))))
  replace z1 : IsZipG m1 z TI TO .ellipsis f := z1
  replace k1 : Heap.SameBut z m0 m1 := k1
  simp only [List.zipIdx_cons, List.zipIdx_nil, List.forIn_cons, List.forIn_nil]
  refine wpAny_bind (wpAny_bind (wpAny_onRaise ?_))
  show wpAny _ A.in1 (Builtin.SmallTypes.nextOf (.ref i1) >>= _) _ _ ⟨m1, g, d, tk0, os⟩
  refine wpAny_bind (D1.done ⟨m1, g, d, tk0, os⟩ _ _ (D1.over st1 k1 S.zf1) fun q e hq he => ?_)
  obtain ⟨oe, hoe, hce⟩ := he
  replace hq : Heap.ExtBut i1 m1 q := hq
  replace hoe : q.get? e = some oe := hoe
  have zq : IsZipG q z TI TO .ellipsis f := hq _ _ S.zi1 z1
  have ez : e ≠ z := fun y => by subst y; rw [zq] at hoe; cases hoe; simp at hce
  refine wpAny_setField_rec (s := ⟨q, g, d, tk0, os⟩) zq (by simp) fun q' _ k2 => ?_
  replace k2 : Heap.SameBut z q q' := k2
  have hoe2 : q'.get? e = some oe := k2.extBut _ _ ez hoe
  refine wpAny_bind (wpAny_isInstance (s := ⟨q', g, d, tk0, os⟩) (v := .ref e) (T := "StopIteration") (b := true) ⟨oe, hoe2, hce⟩ isSubtype_stop ?_)
  exact wpAny_pure (hQ _ _ fun c o cz c1 y => k2.extBut _ _ cz (hq _ _ c1 (k1.extBut _ _ cz y)))
end
theorem pair_of {h : Heap} {x : Value} (hx : x = .none ∨ ∃ T : Addr, x = rawInt T) (hn : ¬ NoPair h x) : ∃ T : Addr, x = rawInt T ∧ ∃ o, h.get? T = some o := by
  rcases hx with e | ⟨T, e⟩
  · exact absurd (.inl e) hn
  · cases hT : h.get? T with
    | none => exact absurd (.inr ⟨T, e, hT⟩) hn
    | some o => exact ⟨T, e, o, hT⟩
theorem iter_zipG {prog : Program} {w : World} {A : Around} {E : Value → Shared → Prop} {s : Shared} {z TI TO : Addr} {x : Value} {f : Bool} {Q : Value → Shared → Prop} (hz : IsZipG s.heap z TI TO x f) (h : Q (.ref z) s) : wpAny (model prog w) A (pyIter (.ref z)) Q E s := by
  have ty : s.TypeIs (.ref z) "zip" := ⟨_, hz, rfl⟩
  exact wpAny_pyIter_slot ty F.slot_zip_iter (wpAny_call_entry F.slot_zip_iter ty F.entry_zip_iter (show wpAny _ _ (ret (.ref z)) _ _ s from wpAny_pure ⟨_, rfl, "zip", _, ty, F.slot_zip_next.lookup, h⟩) (F.args_zip_iter_1 _))
structure Zany (z TI TO i1 i2 : Addr) (h : Heap) : Prop where
  a : ∃ x f, IsZipG h z TI TO x f ∧ (x = .none ∨ ∃ T : Addr, x = rawInt T)
  b : IsTupOf2 h TI (.ref i1) (.ref i2)
  c : ∃ a b, IsTupOf2 h TO a b
def ItzN (K : PySem.W.Frag) (a b : Addr) : It where
  go := fun i H => ∃ (xs ys : List V), SqT K H a xs ∧ SqT K H b ys ∧ xs.length = ys.length ∧ i < xs.length
  yld := fun i H v H' => ∃ T x y, v = .ref T ∧ H T = none ∧ H' = upd H T (.tup [x, y]) ∧ (∀ xs, SqT K H a xs → xs[i]? = some x) ∧ ∀ ys, SqT K H b ys → ys[i]? = some y
  stop := fun i H => ∃ (xs ys : List V), SqT K H a xs ∧ SqT K H b ys ∧ xs.length = ys.length ∧ i = xs.length
theorem turn_zipN {P : Program} {w : World} {K : PySem.W.Frag} {nm : Str} {tpos : Pos} {a b z TI TO i1 i2 : Addr} (S : ZipSep2 z TI TO i1 i2 [i1, a] [i2, b]) (ha : a ≠ i1) (hb : b ≠ i2) :
    Turn P w K (.Name nm tpos) (ItzN K a b) [z, TI, TO, i1, i2] z (fun i h => Zany z TI TO i1 i2 h ∧ h.IsTupleIter i1 a i ∧ h.IsTupleIter i2 b i) := by
  constructor
  · simp
  · rintro i h ⟨⟨⟨x, f, hz, _⟩, hTI, ⟨u, v, hTO⟩⟩, ⟨o1, e1, _, d1⟩, ⟨o2, e2, _, d2⟩⟩ c hc
    rcases mem5 hc with rfl | rfl | rfl | rfl | rfl
    · exact ⟨_, hz, fun v y => nomatch y⟩
    · exact ⟨_, hTI, fun v y => nomatch y⟩
    · exact ⟨_, hTO, fun v y => nomatch y⟩
    · exact ⟨o1, e1, fun v y => by rw [d1] at y; cases y⟩
    · exact ⟨o2, e2, fun v y => by rw [d2] at y; cases y⟩
  · rintro i h h' ⟨⟨⟨x, f, hz, hx⟩, hTI, ⟨u, v, hTO⟩⟩, h1, h2⟩ k
    exact ⟨⟨⟨x, f, k z (by simp) _ hz, hx⟩, k TI (by simp) _ hTI, ⟨u, v, k TO (by simp) _ hTO⟩⟩, h1.at fun o e => k i1 (by simp) o e, h2.at fun o e => k i2 (by simp) o e⟩
  · intro X hP hw hK hc i pins s σ H E I hf st hg
    subst hP hw hK
    obtain ⟨⟨⟨x, f, hz, hx⟩, hTI, ⟨x0, y0, hTO⟩⟩, h1, h2⟩ := st
    obtain ⟨xs, ys, qx, qy, lxy, lx⟩ := hg
    obtain ⟨its, rv, p1, _⟩ := I.tuple qx
    obtain ⟨jts, rw2, p2, _⟩ := I.tuple qy
    have l1 := rv.length
    have l2 := rw2.length
    have hh : X.A.in1.handled = none := I.ok.hd hc
    have D1 := Draws.tuple (prog := X.prog) (w := X.w) (A := X.A.in1) hh i1 a ha its.toArray
    have D2 := Draws.tuple (prog := X.prog) (w := X.w) (A := X.A.in1) hh i2 b hb jts.toArray
    have lt : ∀ {c : Addr} {o : Obj}, s.heap.get? c = some o → c < s.heap.objs.size := fun h => Heap.lt_size h
    have fin : ∀ (u1 u2 : Value) (h' : Heap) (tk : Nat), its.toArray[i]? = some u1 → jts.toArray[i]? = some u2 → Zany z TI TO i1 i2 h' → (h'.IsTupleIter i1 a (i + 1) ∧ h'.IsTuple a its.toArray) → (h'.IsTupleIter i2 b (i + 1) ∧ h'.IsTuple b jts.toArray) →
        IsTupOf2 h' s.heap.objs.size u1 u2 → (∀ c o, c ≠ z → c ≠ TO → c ≠ i1 → c ≠ i2 → s.heap.get? c = some o → h'.get? c = some o) →
        ∃ u, some (Value.ref s.heap.objs.size) = some u ∧ wpAny (model X.prog X.w) X.A (letOwnedTupleGo (.Name nm tpos) (.ref z) u) (fun _ s2 => ∃ x H', Inv X pins σ H' s2 ∧ RelV x u ∧ (ItzN X.K a b).yld i H x H' ∧
          (Zany z TI TO i1 i2 s2.heap ∧ s2.heap.IsTupleIter i1 a (i + 1) ∧ s2.heap.IsTupleIter i2 b (i + 1)) ∧ ∀ b ∈ [z, TI, TO, i1, i2], H' b = none) E { s with heap := h', toks := tk } := by
      intro u1 u2 h' tk f1 f2 hZ s1 s2 hT hk
      obtain ⟨v1, hv1, r1⟩ : ∃ v, xs[i]? = some v ∧ RelV v u1 := by
        obtain ⟨u, hu, ru⟩ := rv.get (List.getElem?_eq_getElem lx)
        have : its[i]? = some u1 := by simpa using f1
        rw [this] at hu; cases hu
        exact ⟨_, List.getElem?_eq_getElem lx, ru⟩
      obtain ⟨v2, hv2, r2⟩ : ∃ v, ys[i]? = some v ∧ RelV v u2 := by
        have ly : i < ys.length := by omega
        obtain ⟨u, hu, ru⟩ := rw2.get (List.getElem?_eq_getElem ly)
        have : jts[i]? = some u2 := by simpa using f2
        rw [this] at hu; cases hu
        exact ⟨_, List.getElem?_eq_getElem ly, ru⟩
      refine ⟨_, rfl, wpAny_pure ?_⟩
      have k2 : ∀ c o, c ∉ [z, TI, TO, i1, i2] → s.heap.get? c = some o → h'.get? c = some o := fun c o hc e => hk c o (fun y => hc (by simp [y])) (fun y => hc (by simp [y])) (fun y => hc (by simp [y])) (fun y => hc (by simp [y])) e
      have I1 : Inv X pins σ (upd H s.heap.objs.size (.tup [v1, v2])) { s with heap := h', toks := tk } :=
        I.turnedNew (t' := tk) k2 hf (Nat.le_refl _) ⟨by show 2 ≤ sizeLine; decide, [u1, u2], .cons r1 (.cons r2 .nil), ⟨_, hT, rfl, _, rfl⟩⟩
      refine ⟨.ref s.heap.objs.size, _, I1, rfl, ⟨_, v1, v2, rfl, I.hok.fresh (Nat.le_refl _), rfl, fun l hl => by rw [I.tuple_inj hl qx]; exact hv1, fun l hl => by rw [I.tuple_inj hl qy]; exact hv2⟩, ⟨hZ, s1.1, s2.1⟩, fun c hcm => ?_⟩
      have hlt : c < s.heap.objs.size := by
        rcases mem5 hcm with rfl | rfl | rfl | rfl | rfl
        · exact lt hz
        · exact lt hTI
        · exact lt hTO
        · obtain ⟨_, e, _⟩ := h1; exact lt e
        · obtain ⟨_, e, _⟩ := h2; exact lt e
      rw [upd_ne (Nat.ne_of_lt hlt)]
      exact (hf c hcm).1
    have n1 : i < its.toArray.size := by simp; omega
    have n2 : i < jts.toArray.size := by simp; omega
    by_cases hn : NoPair s.heap x
    · exact zipG_item S D1 D2 hz hn hTI hTO ⟨h1, p1⟩ ⟨h2, p2⟩ n1 n2 fun u1 u2 h' tk f1 f2 z' TO' s1 s2 hT hk => fin u1 u2 h' tk f1 f2 ⟨⟨_, _, z', .inr ⟨_, rfl⟩⟩, hk _ _ S.TIz S.TITO S.TIi1 S.TIi2 hTI, ⟨_, _, TO'⟩⟩ s1 s2 hT hk
    · obtain ⟨T, rfl, hT⟩ := pair_of hx hn
      exact zipK_item S D1 D2 hz hT hTI ⟨h1, p1⟩ ⟨h2, p2⟩ n1 n2 fun u1 u2 h' tk f1 f2 z' s1 s2 hT _ hk => fin u1 u2 h' tk f1 f2 ⟨⟨_, _, z', .inr ⟨_, rfl⟩⟩, hk _ _ S.TIz S.TIi1 S.TIi2 hTI, ⟨_, _, hk _ _ S.TOz S.Ti1 S.Ti2 hTO⟩⟩ s1 s2 hT
        fun c o c1 _ c3 c4 e => hk c o c1 c3 c4 e
  · intro X hP hw hK hc i pins s σ H E I hf st hg
    subst hP hw hK
    obtain ⟨⟨⟨x, f, hz, hx⟩, hTI, ⟨x0, y0, hTO⟩⟩, h1, h2⟩ := st
    obtain ⟨xs, ys, qx, qy, lxy, he⟩ := hg
    obtain ⟨its, rv, p1, _⟩ := I.tuple qx
    have l1 := rv.length
    have hh : X.A.in1.handled = none := I.ok.hd hc
    have D1 := Draws.tuple (prog := X.prog) (w := X.w) (A := X.A.in1) hh i1 a ha its.toArray
    have hi : i = its.toArray.size := by rw [List.size_toArray]; omega
    subst hi
    have out : ∀ {h' : Heap}, (∀ c o, c ≠ z → c ≠ i1 → s.heap.get? c = some o → h'.get? c = some o) → ∀ c o, c ∉ [z, TI, TO, i1, i2] → s.heap.get? c = some o → h'.get? c = some o :=
      fun k c o hc e => k c o (fun y => hc (by simp [y])) (fun y => hc (by simp [y])) e
    by_cases hn : NoPair s.heap x
    · exact zipG_end S D1 hz hn hTI ⟨h1, p1⟩ fun h' tk hk => ⟨rfl, I.turnedL (t' := tk) (out hk) hf⟩
    · obtain ⟨T, rfl, hT⟩ := pair_of hx hn
      exact zipK_end S D1 hz hT hTI ⟨h1, p1⟩ fun h' tk hk => ⟨rfl, I.turnedL (t' := tk) (out hk) hf⟩
  · rintro A i s Q E ⟨⟨⟨x, f, hz, _⟩, _⟩, _⟩ h
    exact iter_zipG hz h
def iZipN (K : PySem.W.Frag) (ta : TA) : TI := fun σ H R => ta σ H fun vs H1 => ∃ a b xs ys, vs = [.ref a, .ref b] ∧ SqT K H1 a xs ∧ SqT K H1 b ys ∧ R (ItzN K a b) H1
theorem pi_zipN {X : Cx} {e e2 : Expr} {ta : TA} {p pos tpos : Pos} {nm : Str} (hg : Gl X "zip") (hm : X.mg "zip" = none) (ha : PA X [e, e2] ta)
    (hs : starEach [e, e2] X.env = (false, eval e X.env) :: starEach [e2] X.env := by rfl) (hpl : (backTo pos (starEach [e2] X.env)).any (·.1) = false := by rfl) :
    PI X (.Name nm tpos) (.Call (.Name "zip" p) [e, e2] [] pos) (iZipN X.K ta) := by
  constructor
  intro pins s σ H R I h
  refine Call_ (ld_blt I hg hm PyProof.Rows.boot_zip (PyProof.Rows.callWith_type1 (thn (ha.run pos pins s σ H _ I h) ?_) hs hpl))
  rintro us s1 ⟨vs, H1, I1, r1, a, b, xs, ys, rfl, qx, qy, q⟩
  cases r1 with | cons r r1 => ?_
  cases r1 with | cons r' r1 => ?_
  cases r1; cases r; cases r'
  obtain ⟨its, rv, p1, _⟩ := I1.tuple qx
  obtain ⟨jts, rw2, p2, _⟩ := I1.tuple qy
  obtain ⟨oa, hoa, _⟩ := id p1
  obtain ⟨ob, hob, _⟩ := id p2
  have la := Heap.lt_size hoa
  have lb := Heap.lt_size hob
  refine zip_begins2 (begins_tuple a its.toArray) (begins_tuple b jts.toArray) p1 p2 fun h' hz hTI hTO e1 e2 hsz hk => wpAny_pyIter_zip hz ?_
  refine ⟨s1.heap.objs.size + 4, [s1.heap.objs.size + 4, s1.heap.objs.size + 2, s1.heap.objs.size + 3, s1.heap.objs.size, s1.heap.objs.size + 1], _, ItzN X.K a b, H1, rfl, I1.kept (t' := s1.toks) hk, turn_zipN ?_ (Nat.ne_of_lt la) (Nat.ne_of_lt (Nat.lt_succ_of_lt lb)),
    ⟨⟨⟨_, _, hz, .inl rfl⟩, hTI, ⟨_, _, hTO⟩⟩, ⟨_, e1, rfl, rfl⟩, ⟨_, e2, rfl, rfl⟩⟩, fun c hcm => ?_, q⟩
  · have hla : @LT.lt Nat instLTNat a s1.heap.objs.size := la
    have hlb : @LT.lt Nat instLTNat b s1.heap.objs.size := lb
    generalize s1.heap.objs.size = n at hla hlb
    have ne : ∀ {x y : Nat}, x ≠ y → ¬ ((x : Addr) = y) := fun h => h
    constructor <;> first
      | exact List.mem_cons_self
      | (refine ne ?_; show ¬ (_ : Nat) = _; omega)
      | (simp only [List.mem_cons, List.not_mem_nil, or_false, not_or]; refine ⟨ne ?_, ne ?_⟩ <;> (show ¬ (_ : Nat) = _; omega))
  · have hle : s1.heap.objs.size ≤ c := by
      rcases mem5 hcm with rfl | rfl | rfl | rfl | rfl <;> first | exact Nat.le_refl _ | exact Nat.le_add_right _ _
    exact I1.fpOk hle (I1.hok.fresh hle)
theorem pi_zipNK (K : PySem.W.Frag) {X : Cx} {e e2 : Expr} {ta : TA} {p pos tpos : Pos} {nm : Str} (hg : Gl X "zip") (hm : X.mg "zip" = none) (ha : PA X [e, e2] ta) (h : X.K = K := by rfl)
    (hs : starEach [e, e2] X.env = (false, eval e X.env) :: starEach [e2] X.env := by rfl) (hpl : (backTo pos (starEach [e2] X.env)).any (·.1) = false := by rfl) :
    PI X (.Name nm tpos) (.Call (.Name "zip" p) [e, e2] [] pos) (iZipN K ta) := h ▸ pi_zipN hg hm ha hs hpl
theorem walk_zipN {K : PySem.W.Frag} {a b : Addr} {xs ys : List V} (hl : xs.length = ys.length) : Walk (ItzN K a b) xs.length (fun H => SqT K H a xs ∧ SqT K H b ys) (YPair (fun i => xs[i]?) (fun i => ys[i]?)) := by
  refine ⟨fun i _ hi q => ⟨xs, ys, q.1, q.2, hl, hi⟩, fun _ q => ⟨xs, ys, q.1, q.2, hl, rfl⟩, fun i H v H' _ q y => ?_⟩
  obtain ⟨T, x, z, h1, h2, h3, h4, h5⟩ := y
  exact ⟨T, x, z, h1, h2, h3, h4 xs q.1, h5 ys q.2⟩
theorem cr_minK' (K : PySem.W.Frag) {X : Cx} (hc : X.calm = true) (h : X.K = K := by rfl) : CallR X (.builtin "min") (rMin K) := h ▸ cr_min hc
end KD
set_option linter.all false
/-! ### parting paths -/
namespace KM
section
variable {α : Type} {s t s' t' : Sheet α} {ar : α → Nat}
/-- a path along which all tags agree but perhaps the last -/
def Agr (s t : Sheet α) : List Nat → Nat → Nat → Nat → Nat → Prop
  | [], i, j, x, y => x = i ∧ y = j
  | a :: p, i, j, x, y => tg s i = tg t j ∧ ∃ u v, (fl s i)[a]? = some u ∧ (fl t j)[a]? = some v ∧ Agr s t p u v x y
theorem Agr.snoc : ∀ {p : List Nat} {a i j x y : Nat}, Agr s t (p ++ [a]) i j x y ↔ ∃ u v, Agr s t p i j u v ∧ tg s u = tg t v ∧ (fl s u)[a]? = some x ∧ (fl t v)[a]? = some y
  | [], a, i, j, x, y => by
    constructor
    · rintro ⟨h, u, v, h1, h2, rfl, rfl⟩
      exact ⟨i, j, ⟨rfl, rfl⟩, h, h1, h2⟩
    · rintro ⟨u, v, ⟨rfl, rfl⟩, h, h1, h2⟩
      exact ⟨h, x, y, h1, h2, rfl, rfl⟩
  | b :: p, a, i, j, x, y => by
    constructor
    · rintro ⟨h, u, v, h1, h2, h3⟩
      obtain ⟨u', v', q1, q2⟩ := Agr.snoc.mp h3
      exact ⟨u', v', ⟨h, u, v, h1, h2, q1⟩, q2⟩
    · rintro ⟨u', v', ⟨h, u, v, h1, h2, q1⟩, q2⟩
      exact ⟨h, u, v, h1, h2, Agr.snoc.mpr ⟨u', v', q1, q2⟩⟩
theorem Agr.det : ∀ {p : List Nat} {i j x y x' y' : Nat}, Agr s t p i j x y → Agr s t p i j x' y' → x = x' ∧ y = y'
  | [], _, _, _, _, _, _, ⟨h1, h2⟩, ⟨h3, h4⟩ => ⟨h1.trans h3.symm, h2.trans h4.symm⟩
  | a :: p, _, _, _, _, _, _, ⟨_, u, v, h1, h2, h3⟩, ⟨_, u', v', g1, g2, g3⟩ => by
    rw [h1] at g1; cases g1
    rw [h2] at g2; cases g2
    exact Agr.det h3 g3
theorem Agr.lt (hs : Ok ar s) (ht : Ok ar t) : ∀ {p : List Nat} {i j x y : Nat}, Agr s t p i j x y → i < s.length → j < t.length → x < s.length ∧ y < t.length
  | [], _, _, _, _, ⟨h1, h2⟩, hi, hj => by rw [h1, h2]; exact ⟨hi, hj⟩
  | a :: p, _, _, _, _, ⟨_, u, v, h1, h2, h3⟩, _, _ => h3.lt hs ht (hs.fld (List.mem_of_getElem? h1)) (ht.fld (List.mem_of_getElem? h2))
def Prt (s t : Sheet α) (i j : Nat) (p : List Nat) : Prop := ∃ x y, Agr s t p i j x y ∧ tg s x ≠ tg t y
theorem Prt.nil {i j : Nat} : Prt s t i j [] ↔ tg s i ≠ tg t j :=
  ⟨fun ⟨x, y, ⟨h1, h2⟩, h⟩ => by rw [h1, h2] at h; exact h, fun h => ⟨i, j, ⟨rfl, rfl⟩, h⟩⟩
theorem Prt.cons {i j a : Nat} {p : List Nat} : Prt s t i j (a :: p) ↔ tg s i = tg t j ∧ ∃ u v, (fl s i)[a]? = some u ∧ (fl t j)[a]? = some v ∧ Prt s t u v p :=
  ⟨fun ⟨x, y, ⟨h, u, v, h1, h2, h3⟩, hd⟩ => ⟨h, u, v, h1, h2, x, y, h3, hd⟩, fun ⟨h, u, v, h1, h2, x, y, h3, hd⟩ => ⟨x, y, ⟨h, u, v, h1, h2, h3⟩, hd⟩⟩
theorem Prt.app : ∀ {p r : List Nat} {i j x y : Nat}, Agr s t p i j x y → (Prt s t i j (p ++ r) ↔ Prt s t x y r)
  | [], r, i, j, x, y, ⟨h1, h2⟩ => by rw [h1, h2]; rfl
  | a :: p, r, i, j, x, y, ⟨h, u, v, h1, h2, h3⟩ => by
    rw [List.cons_append, Prt.cons, ← Prt.app h3 (r := r)]
    constructor
    · rintro ⟨_, u', v', g1, g2, g3⟩
      rw [h1] at g1; cases g1
      rw [h2] at g2; cases g2
      exact g3
    · exact fun g => ⟨h, u, v, h1, h2, g⟩
theorem Prt.sym : ∀ {p : List Nat} {i j : Nat}, Prt s t i j p → Prt t s j i p
  | [], i, j, h => Prt.nil.mpr fun e => Prt.nil.mp h e.symm
  | a :: p, i, j, h => by
    obtain ⟨h0, u, v, h1, h2, h3⟩ := Prt.cons.mp h
    exact Prt.cons.mpr ⟨h0.symm, v, u, h2, h1, h3.sym⟩
/-- the same values part at the same paths -/
theorem Prt.same (hs : Ok ar s) (ht : Ok ar t) (hs' : Ok ar s') (ht' : Ok ar t') : ∀ {p : List Nat} {i j i' j' : Nat}, Prt s t i j p → Same s s' i i' → Same t t' j j' → Prt s' t' i' j' p
  | [], i, j, i', j', h, h1, h2 => Prt.nil.mpr fun e => Prt.nil.mp h (by rw [h1.tag, h2.tag]; exact e)
  | a :: p, i, j, i', j', h, e1, e2 => by
    obtain ⟨h0, u, v, h1, h2, h3⟩ := Prt.cons.mp h
    have l1 := hs.len hs' e1.tag
    have l2 := ht.len ht' e2.tag
    have a1 := (List.getElem?_eq_some_iff.mp h1).1
    have a2 := (List.getElem?_eq_some_iff.mp h2).1
    have g1 : (fl s' i')[a]? = some ((fl s' i')[a]'(by omega)) := List.getElem?_eq_getElem _
    have g2 : (fl t' j')[a]? = some ((fl t' j')[a]'(by omega)) := List.getElem?_eq_getElem _
    exact Prt.cons.mpr ⟨by rw [← e1.tag, ← e2.tag]; exact h0, _, _, g1, g2, h3.same hs ht hs' ht' (e1.fld h1 g1) (e2.fld h2 g2)⟩
theorem Same.noPrt {i j : Nat} : ∀ {p : List Nat} {i j : Nat}, Same s t i j → ¬ Prt s t i j p
  | [], i, j, h, hp => Prt.nil.mp hp h.tag
  | a :: p, i, j, h, hp => by
    obtain ⟨_, u, v, h1, h2, h3⟩ := Prt.cons.mp hp
    exact Same.noPrt (i := i) (j := j) (h.fld h1 h2) h3
theorem same_noPrt {i j : Nat} (h : ∀ p, ¬ Prt s t i j p) : Same s t i j :=
  same_of (fun i j => ∀ p, ¬ Prt s t i j p) (fun i j h => ⟨Classical.byContradiction fun e => h [] (Prt.nil.mpr e), fun a x y hx hy p hp => by
    by_cases e : tg s i = tg t j
    · exact h (a :: p) (Prt.cons.mpr ⟨e, x, y, hx, hy, hp⟩)
    · exact h [] (Prt.nil.mpr e)⟩) h
/-! order of paths -/
def lx : List Nat → List Nat → Prop
  | a :: p, b :: q => a < b ∨ (a = b ∧ lx p q)
  | _, _ => False
theorem lx.asym : ∀ {p q : List Nat}, lx p q → ¬ lx q p
  | a :: p, b :: q, h, g => by
    rcases h with h | ⟨h, h2⟩
    · rcases g with g | ⟨g, _⟩ <;> omega
    · rcases g with g | ⟨_, g⟩
      · omega
      · exact h2.asym g
theorem lx.irr {p : List Nat} (h : lx p p) : False := h.asym h
theorem lx.tr : ∀ {p q r : List Nat}, lx p q → lx q r → lx p r
  | a :: p, b :: q, c :: r, h, g => by
    rcases h with h | ⟨rfl, h2⟩
    · rcases g with g | ⟨rfl, _⟩
      · exact .inl (by omega)
      · exact .inl h
    · rcases g with g | ⟨rfl, g⟩
      · exact .inl g
      · exact .inr ⟨rfl, h2.tr g⟩
theorem lx.app : ∀ {p q : List Nat} (u v : List Nat), lx p q → lx (p ++ u) (q ++ v)
  | a :: p, b :: q, u, v, h => by
    rcases h with h | ⟨rfl, h⟩
    · exact .inl h
    · exact .inr ⟨rfl, h.app u v⟩
theorem lx_pre {p u v : List Nat} {a b : Nat} (h : a < b) : lx (p ++ a :: u) (p ++ b :: v) := by
  induction p with
  | nil => exact .inl h
  | cons c p ih => exact .inr ⟨rfl, ih⟩
def sle (p q : List Nat) : Prop := p.length < q.length ∨ (p.length = q.length ∧ (lx p q ∨ p = q))
theorem sle.rf (p : List Nat) : sle p p := .inr ⟨rfl, .inr rfl⟩
theorem sle.tr {p q r : List Nat} (h : sle p q) (g : sle q r) : sle p r := by
  rcases h with h | ⟨h, h2⟩
  · rcases g with g | ⟨g, _⟩
    · exact .inl (by omega)
    · exact .inl (by omega)
  · rcases g with g | ⟨g, g2⟩
    · exact .inl (by omega)
    · refine .inr ⟨by omega, ?_⟩
      rcases h2 with h2 | rfl
      · rcases g2 with g2 | rfl
        · exact .inl (h2.tr g2)
        · exact .inl h2
      · exact g2
theorem sle.anti {p q : List Nat} (h : sle p q) (g : sle q p) : p = q := by
  rcases h with h | ⟨h, h2⟩
  · rcases g with g | ⟨g, _⟩ <;> omega
  · rcases g with g | ⟨g, g2⟩
    · omega
    · rcases h2 with h2 | h2
      · rcases g2 with g2 | g2
        · exact absurd g2 h2.asym
        · exact g2.symm
      · exact h2
theorem sle.snoc {p q : List Nat} {a : Nat} (h : sle p q) : sle (p ++ [a]) (q ++ [a]) := by
  rcases h with h | ⟨h, h2⟩
  · exact .inl (by rw [List.length_append, List.length_append]; simp; omega)
  · refine .inr ⟨by rw [List.length_append, List.length_append, h], ?_⟩
    rcases h2 with h2 | rfl
    · exact .inl (h2.app _ _)
    · exact .inr rfl
theorem sle.pre (p r : List Nat) : sle p (p ++ r) := by
  cases r with
  | nil => rw [List.append_nil]; exact sle.rf p
  | cons a r => exact .inl (by rw [List.length_append, List.length_cons]; omega)
structure IsPart (s t : Sheet α) (p : List Nat) : Prop where
  w : Prt s t 0 0 p
  m : ∀ q, Prt s t 0 0 q → sle p q
theorem IsPart.uniq {p q : List Nat} (h : IsPart s t p) (g : IsPart s t q) : p = q := (h.m q g.w).anti (g.m p h.w)
theorem IsPart.sym {p : List Nat} (h : IsPart s t p) : IsPart t s p := ⟨h.w.sym, fun q hq => h.m q hq.sym⟩
theorem IsPart.same {p : List Nat} (hs : Ok ar s) (ht : Ok ar t) (hs' : Ok ar s') (ht' : Ok ar t') (h : IsPart s t p) (e1 : Same s s' 0 0) (e2 : Same t t' 0 0) : IsPart s' t' p :=
  ⟨h.w.same hs ht hs' ht' e1 e2, fun q hq => h.m q (hq.same hs' ht' hs ht e1.sym e2.sym)⟩
/-- what there is to say: the parting path, or none -/
def Told (s t : Sheet α) : Option (List Nat) → Prop
  | some p => IsPart s t p
  | none => Same s t 0 0
theorem Told.uniq {o o' : Option (List Nat)} (h : Told s t o) (h' : Told s t o') : o = o' := by
  cases o with
  | none =>
    cases o' with
    | none => rfl
    | some q => exact absurd h'.w (Same.noPrt (i := 0) (j := 0) h)
  | some p =>
    cases o' with
    | none => exact absurd h.w (Same.noPrt (i := 0) (j := 0) h')
    | some q => rw [IsPart.uniq h h']
theorem Told.sym {o : Option (List Nat)} (h : Told s t o) : Told t s o := by
  cases o with
  | none => exact Same.sym h
  | some p => exact IsPart.sym h
theorem Told.same {o : Option (List Nat)} (hs : Ok ar s) (ht : Ok ar t) (hs' : Ok ar s') (ht' : Ok ar t') (h : Told s t o) (e1 : Same s s' 0 0) (e2 : Same t t' 0 0) : Told s' t' o := by
  cases o with
  | none => exact (e1.sym.tr hs' hs h).tr hs' ht e2
  | some p => exact IsPart.same hs ht hs' ht' h e1 e2
/-! ### the search, level by level -/
structure Ent where
  x : Nat
  y : Nat
  p : List Nat
def Closed (s t : Sheet α) (ps : List Ent) (e : Ent) : Prop :=
  tg s e.x = tg t e.y ∧ ∀ (a u v : Nat), (fl s e.x)[a]? = some u → (fl t e.y)[a]? = some v → ∃ e' ∈ ps, e'.x = u ∧ e'.y = v ∧ sle e'.p (e.p ++ [a])
theorem Closed.mono {ps ps' : List Ent} {e : Ent} (h : Closed s t ps e) (hm : ∀ e ∈ ps, e ∈ ps') : Closed s t ps' e :=
  ⟨h.1, fun a u v hu hv => by
    obtain ⟨e', h1, h2⟩ := h.2 a u v hu hv
    exact ⟨e', hm e' h1, h2⟩⟩
/-- every path meets an entry that is not closed, or ends where the tags agree -/
theorem reach {ps : List Ent} : ∀ (r : List Nat) (p0 : List Nat) (e : Ent), e ∈ ps → Agr s t p0 0 0 e.x e.y → sle e.p p0 → Prt s t e.x e.y r → ∃ e' ∈ ps, ¬ Closed s t ps e' ∧ sle e'.p (p0 ++ r)
  | [], p0, e, he, _, hl, hp => ⟨e, he, fun c => Prt.nil.mp hp c.1, by rw [List.append_nil]; exact hl⟩
  | a :: r, p0, e, he, ha, hl, hp => by
    by_cases c : Closed s t ps e
    · obtain ⟨h0, u, v, h1, h2, h3⟩ := Prt.cons.mp hp
      obtain ⟨e', m, rfl, rfl, h4⟩ := c.2 a u v h1 h2
      obtain ⟨e2, m2, n2, l2⟩ := reach r (p0 ++ [a]) e' m (Agr.snoc.mpr ⟨_, _, ha, h0, h1, h2⟩) (h4.tr hl.snoc) h3
      exact ⟨e2, m2, n2, by rw [List.append_assoc] at l2; exact l2⟩
    · exact ⟨e, he, c, hl.tr (sle.pre _ _)⟩
structure Bfs (s t : Sheet α) (d : Nat) (ps rem fo : List Ent) : Prop where
  root : ∃ e ∈ ps, e.x = 0 ∧ e.y = 0 ∧ e.p = []
  agr : ∀ e ∈ ps, Agr s t e.p 0 0 e.x e.y
  nd : (ps.map fun e => (e.x, e.y)).Nodup
  ll : ∀ e ∈ ps, e.p.length ≤ d ∨ e ∈ fo
  rm : ∀ e ∈ rem, e ∈ ps ∧ e.p.length = d
  fm : ∀ e ∈ fo, e ∈ ps ∧ e.p.length = d + 1
  cl : ∀ e ∈ ps, e ∈ rem ∨ e ∈ fo ∨ Closed s t ps e
  rs : rem.Pairwise fun e e' => lx e.p e'.p
  fs : fo.Pairwise fun e e' => lx e.p e'.p
  fr : ∀ e ∈ fo, ∀ e' ∈ rem, ∀ a, lx e.p (e'.p ++ [a])
theorem Bfs.start : Bfs s t 0 [⟨0, 0, []⟩] [⟨0, 0, []⟩] [] := by
  refine ⟨⟨_, List.mem_cons_self, rfl, rfl, rfl⟩, fun e he => ?_, by simp, fun e he => .inl (by rw [List.mem_singleton.mp he]; exact Nat.le_refl 0), fun e he => ⟨he, by rw [List.mem_singleton.mp he]; rfl⟩, (fun e he => by cases he), fun e he => .inl he, List.pairwise_singleton _ _, .nil, fun e he => by cases he⟩
  rw [List.mem_singleton.mp he]; exact ⟨rfl, rfl⟩
/-- a disagreement at the first that is left: the parting path -/
theorem Bfs.found {d : Nat} {ps rem fo : List Ent} {e : Ent} (B : Bfs s t d ps (e :: rem) fo) (h : tg s e.x ≠ tg t e.y) : IsPart s t e.p := by
  obtain ⟨hm, hl⟩ := B.rm e List.mem_cons_self
  refine ⟨⟨_, _, B.agr e hm, h⟩, fun q hq => ?_⟩
  obtain ⟨e0, m0, x0, y0, p0⟩ := B.root
  have hq0 : Prt s t e0.x e0.y q := by rw [x0, y0]; exact hq
  have ha0 : Agr s t [] 0 0 e0.x e0.y := by rw [x0, y0]; exact ⟨rfl, rfl⟩
  obtain ⟨e', m', n', l'⟩ := reach q [] e0 m0 ha0 (by rw [p0]; exact sle.rf _) hq0
  have : sle e.p e'.p := by
    rcases B.cl e' m' with h | h | h
    · rcases List.mem_cons.mp h with rfl | h'
      · exact sle.rf _
      · exact .inr ⟨by rw [hl, (B.rm e' h).2], .inl ((List.pairwise_cons.mp B.rs).1 e' h')⟩
    · exact .inl (by rw [hl, (B.fm e' h).2]; omega)
    · exact absurd h n'
  exact this.tr l'
/-- none is left: the values are the same -/
theorem Bfs.none {d : Nat} {ps : List Ent} (B : Bfs s t d ps [] []) : Same s t 0 0 := same_noPrt fun q hq => by
  obtain ⟨e0, m0, x0, y0, p0⟩ := B.root
  have hq0 : Prt s t e0.x e0.y q := by rw [x0, y0]; exact hq
  have ha0 : Agr s t [] 0 0 e0.x e0.y := by rw [x0, y0]; exact ⟨rfl, rfl⟩
  obtain ⟨e', m', n', _⟩ := reach q [] e0 m0 ha0 (by rw [p0]; exact sle.rf _) hq0
  rcases B.cl e' m' with h | h | h
  · cases h
  · cases h
  · exact n' h
theorem Bfs.next {d : Nat} {ps fo : List Ent} (B : Bfs s t d ps [] fo) : Bfs s t (d + 1) ps fo [] :=
  ⟨B.root, B.agr, B.nd, fun e he => .inl (by
    rcases B.ll e he with h | h
    · omega
    · rw [(B.fm e h).2]; exact Nat.le_refl _), B.fm, (fun e he => by cases he), fun e he => by
    rcases B.cl e he with h | h | h
    · cases h
    · exact .inl h
    · exact .inr (.inr h), B.fs, .nil, fun e he => by cases he⟩
/-- while the fields of one are looked at: those before a are there -/
structure Mid (s t : Sheet α) (d : Nat) (ps rem fo : List Ent) (e : Ent) (a : Nat) : Prop where
  root : ∃ e ∈ ps, e.x = 0 ∧ e.y = 0 ∧ e.p = []
  agr : ∀ e ∈ ps, Agr s t e.p 0 0 e.x e.y
  nd : (ps.map fun e => (e.x, e.y)).Nodup
  ll : ∀ e ∈ ps, e.p.length ≤ d ∨ e ∈ fo
  em : e ∈ ps ∧ e.p.length = d
  tg : tg s e.x = tg t e.y
  rm : ∀ e ∈ rem, e ∈ ps ∧ e.p.length = d
  fm : ∀ e ∈ fo, e ∈ ps ∧ e.p.length = d + 1
  cl : ∀ e' ∈ ps, e' = e ∨ e' ∈ rem ∨ e' ∈ fo ∨ Closed s t ps e'
  ec : ∀ (b u v : Nat), b < a → (fl s e.x)[b]? = some u → (fl t e.y)[b]? = some v → ∃ e' ∈ ps, e'.x = u ∧ e'.y = v ∧ sle e'.p (e.p ++ [b])
  es : ∀ e' ∈ rem, lx e.p e'.p
  rs : rem.Pairwise fun e e' => lx e.p e'.p
  fs : fo.Pairwise fun e e' => lx e.p e'.p
  fr : ∀ e ∈ fo, ∀ e' ∈ rem, ∀ a, lx e.p (e'.p ++ [a])
  fe : ∀ e' ∈ fo, ∀ b, a ≤ b → lx e'.p (e.p ++ [b])
theorem Bfs.mid {d : Nat} {ps rem fo : List Ent} {e : Ent} (B : Bfs s t d ps (e :: rem) fo) (h : KM.tg s e.x = KM.tg t e.y) : Mid s t d ps rem fo e 0 :=
  ⟨B.root, B.agr, B.nd, B.ll, B.rm e List.mem_cons_self, h, fun e' he => B.rm e' (List.mem_cons_of_mem _ he), B.fm, fun e' he => by
    rcases B.cl e' he with h | h | h
    · rcases List.mem_cons.mp h with h | h
      · exact .inl h
      · exact .inr (.inl h)
    · exact .inr (.inr (.inl h))
    · exact .inr (.inr (.inr h)), fun b u v hb => absurd hb (Nat.not_lt_zero _), (List.pairwise_cons.mp B.rs).1, (List.pairwise_cons.mp B.rs).2, B.fs,
    fun e1 h1 e2 h2 => B.fr e1 h1 e2 (List.mem_cons_of_mem _ h2), fun e' he b _ => B.fr e' he e List.mem_cons_self b⟩
theorem Mid.done {d : Nat} {ps rem fo : List Ent} {e : Ent} {a : Nat} (M : Mid s t d ps rem fo e a) (h : (fl s e.x).length ≤ a) : Bfs s t d ps rem fo :=
  ⟨M.root, M.agr, M.nd, M.ll, M.rm, M.fm, fun e' he => by
    rcases M.cl e' he with rfl | h' | h' | h'
    · exact .inr (.inr ⟨M.tg, fun b u v hu hv => M.ec b u v (by have := (List.getElem?_eq_some_iff.mp hu).1; omega) hu hv⟩)
    · exact .inl h'
    · exact .inr (.inl h')
    · exact .inr (.inr h'), M.rs, M.fs, M.fr⟩
/-- a field that is known -/
theorem Mid.skip {d : Nat} {ps rem fo : List Ent} {e : Ent} {a u v : Nat} (M : Mid s t d ps rem fo e a) (hu : (fl s e.x)[a]? = some u) (hv : (fl t e.y)[a]? = some v) (hk : ∃ e' ∈ ps, e'.x = u ∧ e'.y = v) : Mid s t d ps rem fo e (a + 1) := by
  refine ⟨M.root, M.agr, M.nd, M.ll, M.em, M.tg, M.rm, M.fm, M.cl, fun b u' v' hb hu' hv' => ?_, M.es, M.rs, M.fs, M.fr, fun e' he b hb => M.fe e' he b (by omega)⟩
  by_cases hba : b < a
  · exact M.ec b u' v' hba hu' hv'
  · have : b = a := by omega
    subst this
    rw [hu] at hu'; cases hu'
    rw [hv] at hv'; cases hv'
    obtain ⟨e', m', rfl, rfl⟩ := hk
    refine ⟨e', m', rfl, rfl, ?_⟩
    have len : (e.p ++ [b]).length = d + 1 := by rw [List.length_append, M.em.2]; rfl
    rcases M.ll e' m' with h' | h'
    · exact .inl (by rw [len]; omega)
    · exact .inr ⟨by rw [len, (M.fm e' h').2], .inl (M.fe e' h' b (Nat.le_refl _))⟩
/-- a new one -/
theorem Mid.put {d : Nat} {ps rem fo : List Ent} {e : Ent} {a u v : Nat} (M : Mid s t d ps rem fo e a) (hu : (fl s e.x)[a]? = some u) (hv : (fl t e.y)[a]? = some v) (hk : ∀ e' ∈ ps, ¬ (e'.x = u ∧ e'.y = v)) :
    Mid s t d (ps ++ [⟨u, v, e.p ++ [a]⟩]) rem (fo ++ [⟨u, v, e.p ++ [a]⟩]) e (a + 1) := by
  have len : (e.p ++ [a]).length = d + 1 := by rw [List.length_append, M.em.2]; rfl
  have sub : ∀ x ∈ ps, x ∈ ps ++ [(⟨u, v, e.p ++ [a]⟩ : Ent)] := fun x hx => List.mem_append_left _ hx
  have new : (⟨u, v, e.p ++ [a]⟩ : Ent) ∈ ps ++ [(⟨u, v, e.p ++ [a]⟩ : Ent)] := List.mem_append_right _ List.mem_cons_self
  have cs : ∀ {xs : List Ent} {x : Ent}, x ∈ xs ++ [(⟨u, v, e.p ++ [a]⟩ : Ent)] → x ∈ xs ∨ x = ⟨u, v, e.p ++ [a]⟩ := fun {xs x} h => by
    rcases List.mem_append.mp h with h | h
    · exact .inl h
    · exact .inr (List.mem_singleton.mp h)
  refine ⟨?_, fun x hx => ?_, ?_, fun x hx => ?_, ⟨sub _ M.em.1, M.em.2⟩, M.tg, fun x hx => ⟨sub _ (M.rm x hx).1, (M.rm x hx).2⟩, fun x hx => ?_, fun x hx => ?_, fun b u' v' hb hu' hv' => ?_, M.es, M.rs, ?_, fun x hx y hy c => ?_, fun x hx b hb => ?_⟩
  · obtain ⟨x, hx, r⟩ := M.root
    exact ⟨x, sub x hx, r⟩
  · rcases cs hx with h | rfl
    · exact M.agr x h
    · exact Agr.snoc.mpr ⟨_, _, M.agr e M.em.1, M.tg, hu, hv⟩
  · rw [List.map_append]
    refine List.nodup_append.mpr ⟨M.nd, by simp, fun x hx y hy => ?_⟩
    obtain ⟨e', m', rfl⟩ := List.mem_map.mp hx
    rw [List.mem_singleton.mp hy]
    intro z
    exact hk e' m' ⟨(Prod.mk.inj z).1, (Prod.mk.inj z).2⟩
  · rcases cs hx with h | rfl
    · rcases M.ll x h with h | h
      · exact .inl h
      · exact .inr (List.mem_append_left _ h)
    · exact .inr (List.mem_append_right _ List.mem_cons_self)
  · rcases cs hx with h | rfl
    · exact ⟨sub _ (M.fm x h).1, (M.fm x h).2⟩
    · exact ⟨new, len⟩
  · rcases cs hx with h | rfl
    · rcases M.cl x h with h | h | h | h
      · exact .inl h
      · exact .inr (.inl h)
      · exact .inr (.inr (.inl (List.mem_append_left _ h)))
      · exact .inr (.inr (.inr (h.mono sub)))
    · exact .inr (.inr (.inl (List.mem_append_right _ List.mem_cons_self)))
  · by_cases hba : b < a
    · obtain ⟨e', m', r⟩ := M.ec b u' v' hba hu' hv'
      exact ⟨e', sub _ m', r⟩
    · have : b = a := by omega
      subst this
      rw [hu] at hu'; cases hu'
      rw [hv] at hv'; cases hv'
      exact ⟨_, new, rfl, rfl, sle.rf _⟩
  · refine List.pairwise_append.mpr ⟨M.fs, List.pairwise_singleton _ _, fun x hx y hy => ?_⟩
    rw [List.mem_singleton.mp hy]
    exact M.fe x hx a (Nat.le_refl _)
  · rcases cs hx with h | rfl
    · exact M.fr x h y hy c
    · exact (M.es y hy).app _ _
  · rcases cs hx with h | rfl
    · exact M.fe x h b (by omega)
    · exact lx_pre (by omega)
/-- as many entries as there are pairs, at most -/
theorem pairs_le {n m : Nat} : ∀ {xs : List (Nat × Nat)}, xs.Nodup → (∀ p ∈ xs, p.1 < n ∧ p.2 < m) → xs.length ≤ n * m := fun {xs} hn hx => by
  have h := hn.length_le_of_subset (l₂ := (List.range n).flatMap fun a => (List.range m).map (Prod.mk a)) (fun p hp => by
    obtain ⟨h1, h2⟩ := hx p hp
    exact List.mem_flatMap.mpr ⟨p.1, List.mem_range.mpr h1, List.mem_map.mpr ⟨p.2, List.mem_range.mpr h2, rfl⟩⟩)
  have e : ∀ n, ((List.range n).flatMap fun a => (List.range m).map (Prod.mk a)).length = n * m := by
    intro n
    induction n with
    | zero => simp
    | succ n ih => rw [List.range_succ, List.flatMap_append, List.length_append, ih, List.flatMap_singleton, List.length_map, List.length_range, Nat.succ_mul]
  rwa [e] at h
end
end KM
set_option linter.all false
/-! ### rows that part do so within so many steps as there are rows -/
namespace KM
section
variable {α : Type} {s t u : Sheet α} {ar : α → Nat}
theorem eqv.down : ∀ {n i j : Nat}, eqv s t (n + 1) i j → eqv s t n i j
  | 0, _, _, _ => trivial
  | n + 1, _, _, h => ⟨h.1, fun a x y hx hy => (h.2 a x y hx hy).down⟩
theorem eqv.le {n : Nat} : ∀ {m i j : Nat}, eqv s t (n + m) i j → eqv s t n i j
  | 0, _, _, h => h
  | m + 1, _, _, h => eqv.le (m := m) h.down
theorem eqv.rf : ∀ {n i : Nat}, eqv s s n i i
  | 0, _ => trivial
  | n + 1, _ => ⟨rfl, fun a x y hx hy => by rw [hx] at hy; cases hy; exact eqv.rf⟩
theorem eqv.sym : ∀ {n i j : Nat}, eqv s t n i j → eqv t s n j i
  | 0, _, _, _ => trivial
  | n + 1, _, _, h => ⟨h.1.symm, fun a x y hx hy => (h.2 a y x hy hx).sym⟩
theorem eqv.tr (hs : Ok ar s) : ∀ {n i j k : Nat}, eqv s s n i j → eqv s s n j k → eqv s s n i k
  | 0, _, _, _, _, _ => trivial
  | n + 1, i, j, k, h, g => ⟨h.1.trans g.1, fun a x y hx hy => by
      have l := hs.len hs h.1
      have ha := (List.getElem?_eq_some_iff.mp hx).1
      have hz : (fl s j)[a]? = some ((fl s j)[a]'(by omega)) := List.getElem?_eq_getElem _
      exact (h.2 a x _ hx hz).tr hs (g.2 a _ y hz hy)⟩
theorem filter_lt' {β : Type} {f g : β → Bool} : ∀ {xs : List β}, (∀ x ∈ xs, f x = true → g x = true) → (xs.filter f).length ≤ (xs.filter g).length ∧ ((∃ x ∈ xs, g x = true ∧ f x = false) → (xs.filter f).length < (xs.filter g).length)
  | [], _ => ⟨Nat.le_refl _, fun ⟨_, h, _⟩ => by cases h⟩
  | x :: xs, hs => by
    obtain ⟨i1, i2⟩ := filter_lt' (f := f) (g := g) (xs := xs) fun y hy => hs y (List.mem_cons_of_mem _ hy)
    rw [List.filter_cons, List.filter_cons]
    cases ef : f x with
    | true =>
      rw [hs x List.mem_cons_self ef, if_pos rfl, if_pos rfl, List.length_cons, List.length_cons]
      refine ⟨by omega, fun ⟨y, hy, h1, h2⟩ => ?_⟩
      rcases List.mem_cons.mp hy with rfl | hy
      · rw [ef] at h2; cases h2
      · have := i2 ⟨y, hy, h1, h2⟩; omega
    | false =>
      rw [if_neg (by decide)]
      cases eg : g x with
      | true =>
        rw [if_pos rfl, List.length_cons]
        exact ⟨by omega, fun _ => by omega⟩
      | false =>
        rw [if_neg (by decide)]
        refine ⟨i1, fun ⟨y, hy, h1, h2⟩ => i2 ?_⟩
        rcases List.mem_cons.mp hy with rfl | hy
        · rw [eg] at h1; cases h1
        · exact ⟨y, hy, h1, h2⟩
noncomputable def isRep (u : Sheet α) (n i : Nat) : Bool := @decide (∀ j, j < i → ¬ eqv u u n j i) (Classical.propDecidable _)
theorem isRep_iff {n i : Nat} : isRep u n i = true ↔ ∀ j, j < i → ¬ eqv u u n j i := by
  unfold isRep
  exact @decide_eq_true_iff _ (Classical.propDecidable _)
/-- the least row of a class -/
theorem rep_of (n i : Nat) : ∃ j, j ≤ i ∧ eqv u u n j i ∧ ∀ k, k < j → ¬ eqv u u n k i := by
  have : ∀ m, ∀ j, j ≤ i → i - j ≤ i → j ≤ m → eqv u u n j i → ∃ j, j ≤ i ∧ eqv u u n j i ∧ ∀ k, k < j → ¬ eqv u u n k i := by
    intro m
    induction m with
    | zero =>
      intro j hj _ hm h
      exact ⟨j, hj, h, fun k hk => by omega⟩
    | succ m ih =>
      intro j hj hi hm h
      by_cases c : ∃ k, k < j ∧ eqv u u n k i
      · obtain ⟨k, hk, hk2⟩ := c
        exact ih k (by omega) (by omega) (by omega) hk2
      · exact ⟨j, hj, h, fun k hk e => c ⟨k, hk, e⟩⟩
  exact this i i (Nat.le_refl _) (by omega) (Nat.le_refl _) eqv.rf
noncomputable def reps (u : Sheet α) (n : Nat) : Nat := ((List.range u.length).filter (isRep u n)).length
def Stab (u : Sheet α) (n : Nat) : Prop := ∀ i j, i < u.length → j < u.length → eqv u u n i j → eqv u u (n + 1) i j
theorem reps_grow (hu : Ok ar u) {n : Nat} (h : ¬ Stab u n) : reps u n < reps u (n + 1) := by
  unfold reps
  refine (filter_lt' fun i hi hr => ?_).2 ?_
  · exact isRep_iff.mpr fun j hj e => isRep_iff.mp hr j hj e.down
  · have : ∃ i j, i < u.length ∧ j < u.length ∧ eqv u u n i j ∧ ¬ eqv u u (n + 1) i j := by
      refine Classical.byContradiction fun c => h fun i j hi hj e => Classical.byContradiction fun e' => c ⟨i, j, hi, hj, e, e'⟩
    obtain ⟨i, j, hi, hj, e, e'⟩ := this
    -- the least of their class
    obtain ⟨m, hm, hmi, hml⟩ := rep_of (u := u) n i
    have key : ∀ k, k < u.length → eqv u u n m k → ¬ eqv u u (n + 1) m k → ∃ x ∈ List.range u.length, isRep u (n + 1) x = true ∧ isRep u n x = false := by
      intro k hk hmk hn
      obtain ⟨x, hx, hxk, hxl⟩ := rep_of (u := u) (n + 1) k
      have hmx : eqv u u n m x := hmk.tr hu hxk.down.sym
      have hlt : m < x := by
        rcases Nat.lt_trichotomy m x with z | z | z
        · exact z
        · rw [z] at hn; exact absurd hxk hn
        · exact absurd (hmx.sym.tr hu hmi) (hml x z)
      refine ⟨x, List.mem_range.mpr (by omega), isRep_iff.mpr fun y hy e => hxl y hy (e.tr hu hxk), ?_⟩
      cases c : isRep u n x with
      | false => rfl
      | true => exact absurd hmx (isRep_iff.mp c m hlt)
    by_cases c : eqv u u (n + 1) m i
    · exact key j hj (hmi.tr hu e) fun z => e' (c.sym.tr hu z)
    · exact key i hi hmi c
theorem reps_le {n : Nat} : reps u n ≤ u.length := by
  unfold reps
  have := List.length_filter_le (isRep u n) (List.range u.length)
  rwa [List.length_range] at this
theorem stab_some (hu : Ok ar u) (h0 : 0 < u.length) : ∃ n, n ≤ u.length ∧ Stab u n := Classical.byContradiction fun c => by
  have h1 : ∀ n, n ≤ u.length → n + 1 ≤ reps u n := by
    intro n
    induction n with
    | zero =>
      intro _
      have : 0 ∈ (List.range u.length).filter (isRep u 0) := List.mem_filter.mpr ⟨List.mem_range.mpr h0, isRep_iff.mpr fun j hj => absurd hj (Nat.not_lt_zero _)⟩
      exact List.length_pos_of_mem this
    | succ n ih =>
      intro hn
      have h2 := ih (by omega)
      have h3 := reps_grow hu (n := n) fun st => c ⟨n, by omega, st⟩
      omega
  have h2 := h1 u.length (Nat.le_refl _)
  have h3 := reps_le (u := u) (n := u.length)
  omega
theorem Stab.all (hu : Ok ar u) {n : Nat} (h : Stab u n) : ∀ m, Stab u (n + m)
  | 0 => h
  | m + 1 => fun i j hi hj e => ⟨e.1, fun a x y hx hy => Stab.all hu h m x y (hu.fld (List.mem_of_getElem? hx)) (hu.fld (List.mem_of_getElem? hy)) (e.2 a x y hx hy)⟩
theorem eqv_bound1 (hu : Ok ar u) {i j : Nat} (hi : i < u.length) (hj : j < u.length) (h : eqv u u u.length i j) : Same u u i j := by
  obtain ⟨n, hn, st⟩ := stab_some hu (by omega)
  have all : ∀ m, eqv u u (n + m) i j := by
    intro m
    induction m with
    | zero =>
      have : n + (u.length - n) = u.length := by omega
      rw [← this] at h
      exact h.le
    | succ m ih => exact st.all hu m i j hi hj ih
  intro k
  have := all k
  rw [Nat.add_comm] at this
  exact this.le
/-! two sheets as one -/
def both (s t : Sheet α) : Sheet α := s ++ t.map fun r => (r.1, r.2.map (· + s.length))
theorem both_length : (both s t).length = s.length + t.length := by unfold both; rw [List.length_append, List.length_map]
theorem both_l {i : Nat} (h : i < s.length) : tg (both s t) i = tg s i ∧ fl (both s t) i = fl s i := by
  unfold both tg fl
  rw [List.getElem?_append_left h]; exact ⟨rfl, rfl⟩
theorem both_r {j : Nat} : tg (both s t) (s.length + j) = tg t j ∧ fl (both s t) (s.length + j) = (fl t j).map (· + s.length) := by
  unfold both tg fl
  rw [List.getElem?_append_right (by omega), Nat.add_sub_cancel_left, List.getElem?_map]
  cases t[j]? with
  | none => exact ⟨rfl, rfl⟩
  | some r => exact ⟨rfl, rfl⟩
theorem both_ok (hs : Ok ar s) (ht : Ok ar t) : Ok ar (both s t) := by
  refine ⟨fun r hr => ?_, fun r hr x hx => ?_⟩
  · rcases List.mem_append.mp hr with h | h
    · exact hs.a r h
    · obtain ⟨q, hq, rfl⟩ := List.mem_map.mp h
      show (q.2.map _).length = ar q.1
      rw [List.length_map]; exact ht.a q hq
  · rw [both_length]
    rcases List.mem_append.mp hr with h | h
    · have := hs.f r h x hx; omega
    · obtain ⟨q, hq, rfl⟩ := List.mem_map.mp h
      obtain ⟨y, hy, rfl⟩ := List.mem_map.mp hx
      have := ht.f q hq y hy
      show y + s.length < _
      omega
theorem both_eqv (hs : Ok ar s) (ht : Ok ar t) : ∀ {n i j : Nat}, i < s.length → j < t.length → (eqv s t n i j ↔ eqv (both s t) (both s t) n i (s.length + j))
  | 0, _, _, _, _ => Iff.rfl
  | n + 1, i, j, hi, hj => by
    show (tg s i = tg t j ∧ ∀ (a x y : Nat), (fl s i)[a]? = some x → (fl t j)[a]? = some y → eqv s t n x y) ↔ (tg (both s t) i = tg (both s t) (s.length + j) ∧ ∀ (a x y : Nat), (fl (both s t) i)[a]? = some x → (fl (both s t) (s.length + j))[a]? = some y → eqv (both s t) (both s t) n x y)
    rw [(both_l hi).1, (both_l hi).2, both_r.1, both_r.2]
    refine and_congr_right fun _ => ⟨fun h a x y hx hy => ?_, fun h a x y hx hy => ?_⟩
    · rw [List.getElem?_map] at hy
      obtain ⟨z, hz, rfl⟩ := Option.map_eq_some_iff.mp hy
      have := (both_eqv hs ht (hs.fld (List.mem_of_getElem? hx)) (ht.fld (List.mem_of_getElem? hz))).mp (h a x z hx hz)
      rwa [Nat.add_comm] at this
    · have := h a x (y + s.length) hx (by rw [List.getElem?_map, hy]; rfl)
      rw [Nat.add_comm] at this
      exact (both_eqv hs ht (hs.fld (List.mem_of_getElem? hx)) (ht.fld (List.mem_of_getElem? hy))).mpr this
theorem eqv_bound (hs : Ok ar s) (ht : Ok ar t) {i j : Nat} (hi : i < s.length) (hj : j < t.length) (h : eqv s t (s.length + t.length) i j) : Same s t i j := by
  have hu := both_ok hs ht
  have h1 := (both_eqv hs ht hi hj).mp h
  rw [← both_length] at h1
  have h2 := eqv_bound1 hu (by rw [both_length]; omega) (by rw [both_length]; omega) h1
  exact fun n => (both_eqv hs ht hi hj).mpr (h2 n)
/-! parting and rounds -/
theorem prt_eqv : ∀ {p : List Nat} {i j : Nat}, Prt s t i j p → ¬ eqv s t (p.length + 1) i j
  | [], i, j, h, e => Prt.nil.mp h e.1
  | a :: p, i, j, h, e => by
    obtain ⟨_, u, v, h1, h2, h3⟩ := Prt.cons.mp h
    exact prt_eqv h3 (e.2 a u v h1 h2)
end
end KM
set_option linter.all false
/-! ### there is a parting path, or the values are the same -/
namespace KM
section
variable {α : Type} {s t : Sheet α} {ar : α → Nat}
theorem eqv_prt : ∀ {n i j : Nat}, ¬ eqv s t n i j → ∃ p, p.length < n ∧ Prt s t i j p
  | 0, i, j, h => absurd trivial h
  | n + 1, i, j, h => by
    by_cases e : tg s i = tg t j
    · have : ∃ a x y, (fl s i)[a]? = some x ∧ (fl t j)[a]? = some y ∧ ¬ eqv s t n x y := Classical.byContradiction fun c => h ⟨e, fun a x y hx hy => Classical.byContradiction fun g => c ⟨a, x, y, hx, hy, g⟩⟩
      obtain ⟨a, x, y, hx, hy, g⟩ := this
      obtain ⟨p, hp, hq⟩ := eqv_prt g
      exact ⟨a :: p, by rw [List.length_cons]; omega, Prt.cons.mpr ⟨e, x, y, hx, hy, hq⟩⟩
    · exact ⟨[], Nat.succ_pos n, Prt.nil.mpr e⟩
theorem least_nat {P : Nat → Prop} : ∀ n, P n → ∃ m, P m ∧ ∀ k, k < m → ¬ P k := by
  intro n
  induction n using Nat.strongRecOn with
  | ind n ih =>
    intro h
    by_cases c : ∃ k, k < n ∧ P k
    · obtain ⟨k, hk, hp⟩ := c
      exact ih k hk hp
    · exact ⟨n, h, fun k hk hp => c ⟨k, hk, hp⟩⟩
theorem least_lx : ∀ (n : Nat) {x y : Nat}, (∃ p, Prt s t x y p ∧ p.length = n) → ∃ p, Prt s t x y p ∧ p.length = n ∧ ∀ q, Prt s t x y q → q.length = n → lx p q ∨ p = q
  | 0, x, y, ⟨p, hp, hl⟩ => ⟨p, hp, hl, fun q _ hq => .inr (by rw [List.length_eq_zero_iff.mp hl, List.length_eq_zero_iff.mp hq])⟩
  | n + 1, x, y, ⟨p, hp, hl⟩ => by
    cases p with
    | nil => cases hl
    | cons a r =>
      obtain ⟨m, ⟨r1, h1, h2⟩, hmin⟩ := least_nat (P := fun a => ∃ r, Prt s t x y (a :: r) ∧ r.length = n) a ⟨r, hp, by rw [List.length_cons] at hl; omega⟩
      obtain ⟨h0, u, v, hu, hv, hr⟩ := Prt.cons.mp h1
      obtain ⟨r2, g1, g2, g3⟩ := least_lx n (x := u) (y := v) ⟨r1, hr, h2⟩
      refine ⟨m :: r2, Prt.cons.mpr ⟨h0, u, v, hu, hv, g1⟩, by rw [List.length_cons, g2], fun q hq hql => ?_⟩
      cases q with
      | nil => cases hql
      | cons b q =>
        rw [List.length_cons] at hql
        by_cases c : b < m
        · exact absurd ⟨q, hq, by omega⟩ (hmin b c)
        by_cases e : m = b
        · subst e
          obtain ⟨_, u', v', hu', hv', hq'⟩ := Prt.cons.mp hq
          rw [hu] at hu'; cases hu'
          rw [hv] at hv'; cases hv'
          rcases g3 q hq' (by omega) with g | g
          · exact .inl (.inr ⟨rfl, g⟩)
          · exact .inr (by rw [g])
        · exact .inl (.inl (by omega))
theorem told_ex (s t : Sheet α) : ∃ o, Told s t o := by
  by_cases c : Same s t 0 0
  · exact ⟨none, c⟩
  · have : ∃ p, Prt s t 0 0 p := Classical.byContradiction fun g => c (same_noPrt fun p hp => g ⟨p, hp⟩)
    obtain ⟨p, hp⟩ := this
    obtain ⟨n, ⟨p1, h1, h2⟩, hmin⟩ := least_nat (P := fun n => ∃ p, Prt s t 0 0 p ∧ p.length = n) p.length ⟨p, hp, rfl⟩
    obtain ⟨p2, g1, g2, g3⟩ := least_lx n ⟨p1, h1, h2⟩
    refine ⟨some p2, g1, fun q hq => ?_⟩
    by_cases e : q.length = n
    · exact .inr ⟨by omega, g3 q hq e⟩
    · exact .inl (by
        by_cases l : q.length < n
        · exact absurd ⟨q, hq, rfl⟩ (hmin q.length l)
        · omega)
theorem told_len {n : Nat} {p : List Nat} (h : Told s t (some p)) (hb : eqv s t n 0 0 → Same s t 0 0) : p.length < n := by
  have hn : ¬ eqv s t n 0 0 := fun e => (hb e).noPrt (i := 0) (j := 0) h.w
  obtain ⟨q, hq, hp⟩ := eqv_prt hn
  rcases h.m q hp with l | ⟨l, _⟩ <;> omega
end
end KM
set_option Elab.async false
set_option linter.all false
set_option maxRecDepth 100000
set_option maxHeartbeats 2000000
namespace KD
open PySem PySem.Spec PyProof.Rows L2
/-! ### list(zip(xs, ys)) of two lists -/
def tLstZipL (K : PySem.W.Frag) (ta : TA) : TE := fun σ H Q => ta σ H fun vs H1 => ∃ a b xs ys, vs = [.ref a, .ref b] ∧ SqL K H1 a xs ∧ SqL K H1 b ys ∧ xs.length = ys.length ∧ xs.length ≤ 1000 ∧
  ∀ (L : Addr) (Ts : List Addr) (H2 : Hp), ZipMade H1 H2 L Ts xs ys → Q (.ref L) H2
theorem pe_listZipL {X : Cx} {e e2 : Expr} {ta : TA} {p p2 pos pos2 : Pos} (hc : X.calm = true) (hgl : Gl X "list") (hml : X.mg "list" = none) (hg : Gl X "zip") (hm : X.mg "zip" = none) (ha : PA X [e, e2] ta)
    (hs : starEach [e, e2] X.env = (false, eval e X.env) :: starEach [e2] X.env := by rfl) (hpl : (backTo pos2 (starEach [e2] X.env)).any (·.1) = false := by rfl)
    (na : starEach [.Call (.Name "zip" p2) [e, e2] [] pos2] X.env = (false, eval (.Call (.Name "zip" p2) [e, e2] [] pos2) X.env) :: starEach [] X.env := by rfl) :
    PE X (.Call (.Name "list" p) [.Call (.Name "zip" p2) [e, e2] [] pos2] [] pos) (tLstZipL X.K ta) := by
  refine ⟨fun pins s σ H Q I h => ?_⟩
  refine Call_ (ld_blt I hgl hml boot_list (PyProof.Rows.callWith_type1 (args_cons (Call_ (ld_blt I hg hm PyProof.Rows.boot_zip (PyProof.Rows.callWith_type1 (thn (ha.run pos2 pins s σ H _ I h) ?_) hs hpl))) na) na))
  rintro us s1 ⟨vs, H1, I1, r1, a, b, xs, ys, rfl, qx, qy, hxy, hx1, q⟩
  cases r1 with | cons r r1 => ?_
  cases r1 with | cons r' r1 => ?_
  cases r1; cases r; cases r'
  obtain ⟨its, rv, p1, _⟩ := I1.list qx
  obtain ⟨jts, rw2, p2', _⟩ := I1.list qy
  have l1 := rv.length
  have l2 := rw2.length
  have la := p1.lt
  have lb := p2'.lt
  have hh : X.A.in1.handled = none := I1.ok.hd hc
  refine zip_begins2 (begins_list a its.toArray) (begins_list b jts.toArray) p1.isList p2'.isList fun h' hz hTI hTO e1 e2 hsz hk => args_nil ?_
  have hS : ZipSep2 (s1.heap.objs.size + 4) (s1.heap.objs.size + 2) (s1.heap.objs.size + 3) s1.heap.objs.size (s1.heap.objs.size + 1) [s1.heap.objs.size, a] [s1.heap.objs.size + 1, b] := by
    have hla : @LT.lt Nat instLTNat a s1.heap.objs.size := la
    have hlb : @LT.lt Nat instLTNat b s1.heap.objs.size := lb
    generalize s1.heap.objs.size = n at hla hlb
    have ne : ∀ {x y : Nat}, x ≠ y → ¬ ((x : Addr) = y) := fun h => h
    constructor <;> first
      | exact List.mem_cons_self
      | (refine ne ?_; show ¬ (_ : Nat) = _; omega)
      | (simp only [List.mem_cons, List.not_mem_nil, or_false, not_or]; refine ⟨ne ?_, ne ?_⟩ <;> (show ¬ (_ : Nat) = _; omega))
  have ha1 : h'.IsList a its.toArray := (show s1.heap.IsList a its.toArray from p1.isList).at fun o y => hk a o y
  have hb1 : h'.IsList b jts.toArray := (show s1.heap.IsList b jts.toArray from p2'.isList).at fun o y => hk b o y
  have hsz1 : its.toArray.size = xs.length := by rw [List.size_toArray]; exact l1.symm
  have hsz2 : jts.toArray.size = xs.length := by rw [List.size_toArray]; omega
  have D1 := Draws.list (prog := X.prog) (w := X.w) (A := X.A.in1.in1.in1) hh s1.heap.objs.size a (Nat.ne_of_lt la) its.toArray
  have D2 := Draws.list (prog := X.prog) (w := X.w) (A := X.A.in1.in1.in1) hh (s1.heap.objs.size + 1) b (Nat.ne_of_lt (Nat.lt_succ_of_lt lb)) jts.toArray
  rw [hsz1] at D1
  rw [hsz2] at D2
  refine list_zip_call (s := { s1 with heap := h' }) hS D1 D2 hx1 ⟨.inl hz, hTI, ⟨_, _, hTO⟩⟩ hz ⟨⟨_, e1, rfl, rfl⟩, ha1⟩ ⟨⟨_, e2, rfl, rfl⟩, hb1⟩ (fun c hc => ?_) (fun c hc => ?_) fun s' Ts c hkk g1 g2 g3 hl hln hnd hT => ?_
  · show c < h'.objs.size
    rw [hsz]
    rcases mem2 hc with rfl | rfl
    · exact Nat.lt_add_of_pos_right (by decide)
    · exact Nat.lt_of_lt_of_le la (Nat.le_add_right _ _)
  · show c < h'.objs.size
    rw [hsz]
    rcases mem2 hc with rfl | rfl
    · exact Nat.add_lt_add_left (by decide) _
    · exact Nat.lt_of_lt_of_le lb (Nat.le_add_right _ _)
  · have hl : s'.heap.get? h'.objs.size = some { cls := .type "list", dict := none, data := .seq (Ts.map Value.ref).toArray c, slots := #[] } := hl
    have hT : ∀ (j : Nat) (T : Addr), Ts[j]? = some T → h'.objs.size < T ∧ ∃ x y, its.toArray[j]? = some x ∧ jts.toArray[j]? = some y ∧ IsTupOf2 s'.heap T x y := hT
    show EP X pins σ Q (.ref h'.objs.size) s'
    rw [hsz] at hl hT ⊢
    have old : ∀ b u, s1.heap.get? b = some u → s'.heap.get? b = some u := fun b u e => by
      refine hkk b u (fun hm => ?_) (hk b u e)
      have hlt := Heap.lt_size e
      rcases mem5 hm with z | z | z | z | z
      · rw [z] at hlt; exact absurd hlt (Nat.not_lt.mpr (Nat.le_add_right _ _))
      · rw [z] at hlt; exact absurd hlt (Nat.not_lt.mpr (Nat.le_add_right _ _))
      · rw [z] at hlt; exact absurd hlt (Nat.not_lt.mpr (Nat.le_add_right _ _))
      · rw [z] at hlt; exact absurd hlt (Nat.lt_irrefl _)
      · rw [z] at hlt; exact absurd hlt (Nat.not_lt.mpr (Nat.le_add_right _ _))
    -- the heap as we see it
    obtain ⟨H2, hH2⟩ : ∃ H2 : Hp, ∀ x, H2 x = if x = s1.heap.objs.size + 5 then some (.lst (Ts.map V.ref)) else if x ∈ Ts then some (.tup [xs.getD (Ts.idxOf x) .non, ys.getD (Ts.idxOf x) .non]) else H1 x :=
      ⟨fun x => if x = s1.heap.objs.size + 5 then some (.lst (Ts.map V.ref)) else if x ∈ Ts then some (.tup [xs.getD (Ts.idxOf x) .non, ys.getD (Ts.idxOf x) .non]) else H1 x, fun _ => rfl⟩
    have big : ∀ T ∈ Ts, s1.heap.objs.size + 5 < T := fun T hm => by
      obtain ⟨j, hj⟩ := List.mem_iff_getElem?.mp hm
      exact (hT j T hj).1
    have ex12 : Ex H1 H2 := fun x o e => by
      rw [hH2, if_neg, if_neg]
      · exact e
      · intro z
        rw [I1.hok.fresh (Nat.le_of_lt (Nat.lt_of_le_of_lt (Nat.le_add_right _ _) (big x z)))] at e
        cases e
      · intro z
        rw [z, I1.hok.fresh (Nat.le_add_right _ _)] at e
        cases e
    have hTat : ∀ {j : Nat} {T : Addr}, Ts[j]? = some T → H2 T = some (.tup [xs.getD j .non, ys.getD j .non]) := fun {j T} hj => by
      have hm := List.mem_of_getElem? hj
      have hjl := (List.getElem?_eq_some_iff.mp hj).1
      have hidx : Ts.idxOf T = j := by
        rw [← (List.getElem?_eq_some_iff.mp hj).2]
        exact List.Nodup.idxOf_getElem hnd j hjl
      rw [hH2, if_neg (fun z => absurd (big T hm) (by rw [z]; exact Nat.lt_irrefl _)), if_pos hm, hidx]
    have rel : ∀ (j : Nat) (u1 u2 : Value), its.toArray[j]? = some u1 → jts.toArray[j]? = some u2 → ∃ x y, xs[j]? = some x ∧ ys[j]? = some y ∧ RelV x u1 ∧ RelV y u2 := fun j u1 u2 h1 h2 => by
      have h1 : its[j]? = some u1 := by simpa using h1
      have h2 : jts[j]? = some u2 := by simpa using h2
      have hjx : j < xs.length := by rw [l1]; exact (List.getElem?_eq_some_iff.mp h1).1
      have hjy : j < ys.length := by omega
      obtain ⟨v1, q1, r1⟩ := rv.get (List.getElem?_eq_getElem hjx)
      obtain ⟨v2, q2, r2⟩ := rw2.get (List.getElem?_eq_getElem hjy)
      rw [h1] at q1; cases q1
      rw [h2] at q2; cases q2
      exact ⟨_, _, List.getElem?_eq_getElem hjx, List.getElem?_eq_getElem hjy, r1, r2⟩
    have I2 : Inv X pins σ H2 { s1 with heap := s'.heap, toks := s'.toks } := by
      refine inv_many I1 old ex12 fun x u e hn => ?_
      rw [hH2] at e
      by_cases e1 : x = s1.heap.objs.size + 5
      · rw [if_pos e1] at e
        cases e
        refine ⟨by rw [e1]; exact Nat.le_add_right _ _, ?_⟩
        refine ⟨?_, Ts.map Value.ref, c, ?_, by rw [e1]; exact hl⟩
        · rw [List.length_map, hln]
          exact Nat.le_trans hx1 (by decide)
        · exact vals_refs Ts
      · rw [if_neg e1] at e
        by_cases e2 : x ∈ Ts
        · rw [if_pos e2] at e
          cases e
          obtain ⟨j, hj⟩ := List.mem_iff_getElem?.mp e2
          obtain ⟨h1, u1, u2, p1, p2, p3⟩ := hT j x hj
          obtain ⟨v1, v2, q1, q2, r1, r2⟩ := rel j u1 u2 p1 p2
          have hjl := (List.getElem?_eq_some_iff.mp hj).1
          have hidx : Ts.idxOf x = j := by
            rw [← (List.getElem?_eq_some_iff.mp hj).2]
            exact List.Nodup.idxOf_getElem hnd j hjl
          refine ⟨Nat.le_of_lt (Nat.lt_of_le_of_lt (Nat.le_add_right _ _) h1), ?_⟩
          rw [hidx, List.getD_eq_getElem?_getD, q1, List.getD_eq_getElem?_getD, q2]
          exact ⟨by show 2 ≤ sizeLine; decide, [u1, u2], .cons r1 (.cons r2 .nil), ⟨_, p3, rfl, _, rfl⟩⟩
        · rw [if_neg e2, hn] at e; cases e
    have es : ({ s1 with heap := s'.heap, toks := s'.toks } : Shared) = s' := by
      obtain ⟨a1, a2, a3, a4, a5⟩ := s'
      have g1 : a2 = s1.gens := g1
      have g2 : a3 = s1.drawn := g2
      have g3 : a5 = s1.os := g3
      subst g1 g2 g3
      rfl
    rw [es] at I2
    refine ⟨.ref (s1.heap.objs.size + 5), H2, I2, rfl, q _ Ts H2 ⟨ex12, I1.hok.fresh (Nat.le_add_right _ _), by rw [hH2, if_pos rfl], hln, fun j T x y h1 h2 h3 => ⟨I1.hok.fresh (Nat.le_of_lt (Nat.lt_of_le_of_lt (Nat.le_add_right _ _) (hT j T h1).1)), ?_⟩⟩⟩
    rw [hTat h1, List.getD_eq_getElem?_getD, h2, List.getD_eq_getElem?_getD, h3]
    rfl
theorem pe_listZipLK (K : PySem.W.Frag) {X : Cx} {e e2 : Expr} {ta : TA} {p p2 pos pos2 : Pos} (hc : X.calm = true) (hgl : Gl X "list") (hml : X.mg "list" = none) (hg : Gl X "zip") (hm : X.mg "zip" = none) (ha : PA X [e, e2] ta) (h : X.K = K := by rfl)
    (hs : starEach [e, e2] X.env = (false, eval e X.env) :: starEach [e2] X.env := by rfl) (hpl : (backTo pos2 (starEach [e2] X.env)).any (·.1) = false := by rfl)
    (na : starEach [.Call (.Name "zip" p2) [e, e2] [] pos2] X.env = (false, eval (.Call (.Name "zip" p2) [e, e2] [] pos2) X.env) :: starEach [] X.env := by rfl) :
    PE X (.Call (.Name "list" p) [.Call (.Name "zip" p2) [e, e2] [] pos2] [] pos) (tLstZipL K ta) := h ▸ pe_listZipL hc hgl hml hg hm ha hs hpl na
end KD
set_option Elab.async false
set_option linter.all false
set_option maxRecDepth 100000
set_option maxHeartbeats 2000000
namespace KD
open PySem PySem.Spec PyProof.Rows L2
/-! ### sorted of pairs of a text and a number: some order of them -/
def shSI (i : Nat) : Bool := decide (i = 0)
def keyAt (h : Heap) (v : Value) : List (Int ⊕ List Nat) := (tupKey h shSI v).getD []
theorem swo_keys {k : Value → List (Int ⊕ List Nat)} : SrtO.Swo fun v u => lexLt itemOrd (k v) (k u) := by
  refine ⟨fun x y h => ?_, fun x y z h1 h2 => ?_⟩
  · cases e : lexLt itemOrd (k y) (k x) with
    | false => rfl
    | true =>
      have := lex_trans _ _ _ h e
      rw [lex_irrefl] at this; cases this
  · cases e : lexLt itemOrd (k z) (k x) with
    | false => rfl
    | true =>
      rcases lex_negTrans _ (k y) _ e with g | g
      · rw [h2] at g; cases g
      · rw [h1] at g; cases g
/-- a pair of a text and a number in the heap -/
def PairSI (h : Heap) (v : Value) : Prop := ∃ a o s t i u n, v = .ref a ∧ h.get? a = some o ∧ o.cls = .type "tuple" ∧ o.data = .seq #[.str s t, .int i u] n
theorem PairSI.key {h : Heap} {v : Value} (p : PairSI h v) : tupKey h shSI v = some (keyAt h v) := by
  obtain ⟨a, o, s, t, i, u, n, rfl, ho, _, hd⟩ := p
  have e : tupKey h shSI (.ref a) = some [.inr s.cps.toList, .inl i] := by
    unfold tupKey
    dsimp only
    rw [ho]
    dsimp only
    rw [hd]
    rfl
  unfold keyAt
  rw [e]; rfl
theorem PairSI.keeps {h h' : Heap} {v : Value} (p : PairSI h v) (k : ∀ b o, h.get? b = some o → o.cls = .type "tuple" → h'.get? b = some o) : PairSI h' v ∧ keyAt h' v = keyAt h v := by
  obtain ⟨a, o, s, t, i, u, n, rfl, ho, hc, hd⟩ := p
  have ho' := k a o ho hc
  refine ⟨⟨a, o, s, t, i, u, n, rfl, ho', hc, hd⟩, ?_⟩
  unfold keyAt tupKey
  dsimp only
  rw [ho, ho']
theorem tups_si {h : Heap} : ∀ {vs : List Value}, (∀ v ∈ vs, PairSI h v) → ∃ fs, TupsOf h shSI vs fs ∧ fs.length = vs.length
  | [], _ => ⟨[], .nil, rfl⟩
  | v :: vs, hp => by
    obtain ⟨fs, h1, h2⟩ := tups_si (vs := vs) fun u hu => hp u (List.mem_cons_of_mem _ hu)
    obtain ⟨a, o, s, t, i, u, n, rfl, ho, hc, hd⟩ := hp v List.mem_cons_self
    refine ⟨.str s t :: fs, .cons ⟨a, o, _, n, rfl, ho, hc, hd, rfl, (fun z => by cases z), fun _ => ⟨s, t, rfl⟩⟩ h1, by rw [List.length_cons, List.length_cons, h2]⟩
theorem PairSI.of {P : Program} {w : World} {H : Hp} {h : Heap} {t : Addr} {s : Str} {i : Int} (ok : ObjOk P w H h t (.tup [.str s, .int i])) : PairSI h (.ref t) := by
  rcases ok with ⟨_, its, both, o, at_t, kind, mark, cells⟩
  rcases vals2 both with ⟨_, _, rfl, ⟨k1, rfl⟩, ⟨k2, rfl⟩⟩
  exact ⟨t, o, s, k1, i, k2, mark, rfl, at_t, kind, cells⟩
def rSortedSI (K : PySem.W.Frag) : List V → Hp → VK → Prop := fun vs H Q => ∃ (a : Addr) (xs : List V), vs = [V.ref a] ∧ SqL K H a xs ∧ (∀ x ∈ xs, ∃ (t : Addr) (s : Str) (i : Int), x = V.ref t ∧ H t = some (.tup [.str s, .int i])) ∧
  ∀ ys p, ys.Perm xs → H p = none → Q (.ref p) (upd H p (.lst ys))
theorem cr_sortedSI {X : Cx} : CallR X (.builtin "sorted") (rSortedSI X.K) := by
  rintro pins s σ H vs us Q I r ⟨a, xs, rfl, lst, pairs, q⟩
  obtain ⟨its, rv, hl, hz⟩ := I.list lst
  obtain ⟨arg, rfl, at_a⟩ := vals1 r
  obtain rfl : arg = Value.ref a := at_a
  obtain ⟨e1, e2⟩ := refs_back rv fun x m => let ⟨t, _, _, e, _⟩ := pairs x m; ⟨t, e⟩
  have hp : ∀ v ∈ its, PairSI s.heap v := by
    intro v hv
    obtain ⟨b, rfl⟩ := e2 v hv
    obtain ⟨t, k, i, e, ht⟩ := pairs (V.ref b) (e1 ▸ List.mem_map_of_mem (f := backV) hv)
    obtain rfl : b = t := V.ref.inj e
    exact PairSI.of (I.hok b _ ht)
  refine SrtO.sorted_ord (ltv := fun v u => lexLt itemOrd (keyAt s.heap v) (keyAt s.heap u)) swo_keys hl.isList (by rw [← rv.length]; exact hz) (fun h2 h₁ b hb kk => ?_) fun out h1 h2 => ?_
  · intro h' keep
    have kp : ∀ c o, s.heap.get? c = some o → o.cls = .type "tuple" → h'.get? c = some o := fun c o e hc => keep c o (kk c o e).1 (kk c o e).2
    have hp' : ∀ v ∈ its, PairSI h' v ∧ keyAt h' v = keyAt s.heap v := fun v hv => (hp v hv).keeps kp
    obtain ⟨fs, f1, f2⟩ := tups_si fun v hv => (hp' v hv).1
    refine ⟨tuples' true, fun Q E hq => tup_kind (s := { s with heap := h' }) (by rw [f2]; omega) f1 hq, fun p q hm hm' => ?_⟩
    obtain ⟨p1, k1⟩ := hp' _ hm
    obtain ⟨p2, k2⟩ := hp' _ hm'
    refine tup_ltAt (s := { s with heap := h' }) (shape := shSI) true _ _ p.1 q.1 _ _ p1.key p2.key ⟨rfl, ?_⟩
    rw [k1, k2]
  · have h3 : ∀ u ∈ out, ∃ a, u = Value.ref a := fun u hu => e2 u (h2.perm.mem_iff.mp hu)
    refine ⟨.ref (s.heap.objs.size + 1), upd H (s.heap.objs.size + 1) (.lst (out.map backV)), I.laid (t' := s.toks) (fun b o e => PyProof.Rows.sortedAll_old e) (Nat.le_succ _) ⟨?_, out, ?_, vals_back h3, ?_⟩, rfl, q _ _ ?_ (I.hok.fresh (Nat.le_succ _))⟩
    · rw [List.length_map, h2.len, ← rv.length]; exact hz
    · exact (PyProof.Rows.sortedAll_at s.heap its out.toArray).choose
    · exact (PyProof.Rows.sortedAll_at s.heap its out.toArray).choose_spec
    · rw [e1]
      exact h2.perm.map _
theorem cr_sortedSIK (K : PySem.W.Frag) {X : Cx} (h : X.K = K := by rfl) : CallR X (.builtin "sorted") (rSortedSI K) := h ▸ cr_sortedSI
end KD
set_option Elab.async false
set_option linter.all false
set_option maxRecDepth 100000
set_option maxHeartbeats 4000000
namespace KD
open PySem PySem.Spec PyProof.Rows L2
/-! ### the text of data that may hold lists and dicts: sysModules is known to be no list -/
def SysK (K : PySem.W.Frag) : Prop := ∃ o, K.lookup sysModules = some o ∧ o.cls = .type "dict"
section
variable {X : Cx} {pins : List (Addr × Obj)} {σ : L2.St} {H : Hp} {s : Shared}
mutual
theorem Da.reads2 (hS : SysK X.K) (I : Inv X pins σ H s) : ∀ (d : PyData) (v : V) (u : Value), Da X.K H v d → RelV v u → ∃ as, Reads s.heap u d as ∧ sysModules ∉ as
  | .none, _, _, h, r => by
    cases h; cases r
    exact ⟨_, Reads.none, by simp⟩
  | .bool b, _, _, h, r => by
    cases h; cases r
    exact ⟨_, Reads.bool b, by simp⟩
  | .int i, _, _, h, r => by
    cases h
    obtain ⟨t, rfl⟩ := r
    exact ⟨_, Reads.int i t, by simp⟩
  | .str x, _, _, h, r => by
    cases h
    obtain ⟨t, rfl⟩ := r
    exact ⟨_, Reads.str x t, by simp⟩
  | .list ds, _, _, h, r => by
    cases h with
    | lst hs ha =>
      cases r
      obtain ⟨_, its, n, rv, ho⟩ := I.hok _ _ hs
      obtain ⟨as, hr, hz⟩ := Da.reads2All hS I ds _ its ha rv
      refine ⟨_, Reads.list ho rfl rfl hr, fun hm => ?_⟩
      obtain ⟨o, h1, h2⟩ := hS
      rcases List.mem_cons.mp hm with e | hm
      · have := I.kIn _ _ h1
        rw [e, ho] at this
        cases this
        exact absurd (Value.type.inj h2) (by decide)
      · exact hz hm
  | .tuple ds, _, _, h, r => by
    cases h with
    | tup hs ha =>
      cases r
      obtain ⟨_, its, rv, o, ho, hc, n, hd⟩ := I.hok _ _ hs
      obtain ⟨as, hr, hz⟩ := Da.reads2All hS I ds _ its ha rv
      exact ⟨_, Reads.tuple ho hc hd hr, hz⟩
  | .dict ds, _, _, h, r => by
    cases h with
    | dic hs ha =>
      cases r
      obtain ⟨_, hsys, vs, rv, o, es, ep, ho, hex, hd, _, hp, _⟩ := I.hok _ _ hs
      obtain ⟨bs, h1, h2, hz⟩ := Da.reads2Kv hS I ds _ vs es.toList ha rv hp
      refine ⟨_, Reads.dict ho hex.1 hd h1 h2, fun hm => ?_⟩
      rcases List.mem_append.mp hm with hm | hm
      · have e := List.mem_singleton.mp hm
        rw [← e] at hsys; simp at hsys
      · exact hz hm
theorem Da.reads2All (hS : SysK X.K) (I : Inv X pins σ H s) : ∀ (ds : List PyData) (vs : List V) (us : List Value), DaAll X.K H vs ds → Vals vs us → ∃ as, ReadsAll s.heap us ds as ∧ sysModules ∉ as
  | [], _, _, h, r => by
    cases h; cases r
    exact ⟨_, ReadsAll.nil, by simp⟩
  | d :: ds, _, _, h, r => by
    cases h with
    | cons h1 h2 =>
      cases r with
      | cons r1 r2 =>
        obtain ⟨as, q1, z1⟩ := Da.reads2 hS I d _ _ h1 r1
        obtain ⟨bs, q2, z2⟩ := Da.reads2All hS I ds _ _ h2 r2
        exact ⟨_, ReadsAll.cons q1 q2, by simp only [List.mem_append, not_or]; exact ⟨z1, z2⟩⟩
theorem Da.reads2Kv (hS : SysK X.K) (I : Inv X pins σ H s) : ∀ (ds : List (PyData × PyData)) (kvs : List (Key × V)) (vs : List (Key × Value)) (es : List DictEntry),
    DaKv X.K H kvs ds → KV kvs vs → PySem.Pairs (mixKind X.prog X.w) es vs →
    ∃ bs, ReadsAll s.heap (es.map (·.key)) (ds.map (·.1)) [] ∧ ReadsAll s.heap (es.map (·.val)) (ds.map (·.2)) bs ∧ sysModules ∉ bs
  | [], _, _, _, h, r, p => by
    cases h; cases r; cases p
    exact ⟨_, ReadsAll.nil, ReadsAll.nil, by simp⟩
  | d :: ds, _, _, _, h, r, p => by
    cases h with
    | cons h1 h2 =>
      cases r with
      | cons r1 r2 =>
        cases p with
        | cons p1 p2 p3 =>
          obtain ⟨as, q1, z1⟩ := Da.reads2 hS I _ _ _ h1 r1.2
          obtain ⟨bs, q2, q3, z2⟩ := Da.reads2Kv hS I ds _ _ _ h2 r2 p3
          refine ⟨_, ReadsAll.cons (as := []) ?_ q2, ReadsAll.cons (by show Reads _ (DictEntry.val _) _ _; rw [p2]; exact q1) q3, ?_⟩
          · have e := r1.1
            simp only at e
            rw [← e] at p1
            exact keyD_reads p1
          · simp only [List.mem_append, not_or]
            exact ⟨z1, z2⟩
end
end
/-- what repr may be asked of, lists and dicts together -/
def repOk2 (d : PyData) : Bool := d.showable && decide (d.depth ≤ 40) && decide (d.shown.length ≤ 16000000)
def rRepr2 (K : PySem.W.Frag) : List V → Hp → VK → Prop := fun vs H Q => ∃ x d, vs = [x] ∧ Da K H x d ∧ repOk2 d = true ∧ Q (.str d.shown) H
section
variable {X : Cx}
theorem call_repr2 (hS : SysK X.K) (hq : Quiet X.A) (hu : X.A.units + 64 < cLine) : CallR X (.builtin "repr") (rRepr2 X.K) := by
  intro pins s σ H xs us Q I r h
  obtain ⟨x, d, rfl, hd, hok, q⟩ := h
  obtain ⟨u, rfl, rx⟩ := vals1 r
  simp only [repOk2, Bool.and_eq_true, decide_eq_true_eq] at hok
  obtain ⟨⟨hs, hdp⟩, hsz⟩ := hok
  have hsz' : d.shown.length ≤ sizeLine := Nat.le_trans hsz (by decide)
  have key : ∀ a, u = .ref a → wpAny (model X.prog X.w) X.A (call (.builtin "repr") [u]) (EP X pins σ Q) X.xe s := by
    rintro a rfl
    obtain ⟨as, hr, hz⟩ := Da.reads2 hS I d _ _ hd rx
    exact repr_of_reads' (h₀ := s.heap) hr hs (fun _ hm => hz hm) hq (by omega) (fun b o e => e) (fun h' u' tk hk => ⟨.str d.shown, H, I.kept hk, ⟨u', rfl⟩, q⟩) hsz'
  cases hd with
  | non => cases rx; exact PySem.P.repr_of_none ⟨.str _, H, I.tok _, ⟨_, rfl⟩, q⟩
  | bl b => cases rx; exact PySem.P.repr_of_bool ⟨.str _, H, I.tok _, ⟨_, rfl⟩, by cases b <;> exact q⟩
  | int i =>
    obtain ⟨t, rfl⟩ := rx
    exact PySem.P.repr_of_int (by simpa [PyData.showable] using hs) ⟨.str _, H, I.tok _, ⟨_, rfl⟩, q⟩
  | str y =>
    obtain ⟨t, rfl⟩ := rx
    exact PySem.P.repr_of_str ⟨.str _, H, I.tok _, ⟨_, rfl⟩, q⟩ hsz'
  | lst _ _ => exact key _ rx
  | tup _ _ => exact key _ rx
  | dic _ _ => exact key _ rx
theorem call_repr2K (K : PySem.W.Frag) (hS : SysK K) (hq : Quiet X.A) (hu : X.A.units + 64 < cLine) (h : X.K = K := by rfl) : CallR X (.builtin "repr") (rRepr2 K) := by
  subst h
  exact call_repr2 hS hq hu
end
/-! ### a written part with sysModules -/
abbrev objSys (P : Params) : Obj := { cls := .type "dict", data := .dict #[⟨PyData.keyHash P "builtins", .str "builtins" 162, .ref 4⟩, ⟨PyData.keyHash P "__main__", .str "__main__" 163, .ref 5⟩] 2 }
abbrev kHookX := @PySem.W.kHook
section
variable {K : PySem.W.Frag} {o : Obj} {h : Heap}
theorem look_ext (hs : List.lookup sysModules K = none) {a : Addr} {v : Obj} (e : List.lookup a K = some v) : List.lookup a ((sysModules, o) :: K) = some v := by
  have ne : (a == sysModules) = false := by
    by_cases z : a = sysModules
    · subst z; rw [hs] at e; cases e
    · simpa using z
  simp only [List.lookup, ne]
  exact e
theorem tailIn (X : PySem.W.Frag.In ((sysModules, o) :: K) h) (hs : List.lookup sysModules K = none) : K.In h := fun a v e => X a v (look_ext hs e)
theorem code_ext (hs : List.lookup sysModules K = none) {cd : Value} {q : Str} (c : PySem.W.codeIn K cd q = true) : PySem.W.codeIn ((sysModules, o) :: K) cd q = true := by
  unfold PySem.W.codeIn at c ⊢
  cases cd with
  | ref a =>
    dsimp only at c ⊢
    cases e : List.lookup a K with
    | none => rw [e] at c; cases c
    | some v => rw [look_ext hs e]; rw [e] at c; exact c
  | _ => cases c
theorem keep_ext {f : Addr} {oc : Value} {od : Option Addr} {fd : FuncData} {sl : Array (Option Value)} (e : List.lookup f K = some ⟨oc, od, .func fd, sl⟩) : PySem.W.keepIn K (.ref f) = true := by
  unfold PySem.W.keepIn
  dsimp only
  rw [e]
theorem sysK_ext {P : Params} : SysK ((sysModules, objSys P) :: K) := ⟨objSys P, by simp [List.lookup], rfl⟩
end
end KD
set_option Elab.async false
set_option linter.all false
set_option maxRecDepth 100000
set_option maxHeartbeats 2000000
namespace KD
open PySem PySem.Spec PyProof.Rows L2
/-! ### loops that change what they hold -/
/-- t returns z, or goes on where N holds -/
def StepE (K : PySem.W.Frag) (σ : L2.St) (F : Hp) (t : TS) (N : L2.St → Hp → Prop) (z : PyData) : Prop :=
  ∀ G H, Ex F G → Ex G H → ∀ D : Ends, (∀ v G' H', Up G H G' H' → Da K G' v z → D.rt v H') → (∀ σ' G' H', Up G H G' H' → N σ' G' → D.nx σ' H') → t D σ H
section
variable {K : PySem.W.Frag} {σ : L2.St} {F : Hp} {t u tb : TS} {y z d : PyData} {tt : TT} {te : TE} {b : Bool} {i : Nat} {N : L2.St → Hp → Prop}
theorem sp_set (h : EvE K σ F te d) (hN : ∀ v F', Ex F F' → Da K F' v d → N (σ.set i (some v)) F') : StepE K σ F (tAsg te (gName i)) N z :=
  fun G H e1 e2 D q1 q2 => h G H e1 e2 _ fun v G1 H1 u1 dv => q2 _ G1 H1 u1 (hN v G1 (e1.tr u1.g) dv)
theorem sp_guard (h : EvT σ F tt b) (h1 : b = true → EvE K σ F te z) (h2 : b = false → ∀ F', Ex F F' → StepE K σ F' u N z) :
    StepE K σ F (tSeq (tIfS tt (tRet te) tNext) u) N z :=
  fun G H e1 e2 D q1 q2 => h G H e1 e2 _ fun G1 H1 u1 => by
    cases b with
    | true => exact iteT (h1 rfl G1 H1 (e1.tr u1.g) u1.h _ fun w G2 H2 u2 d2 => q1 w G2 H2 (u1.tr u2) d2)
    | false =>
      exact iteF (h2 rfl G1 (e1.tr u1.g) G1 H1 (Ex.rf _) u1.h D (fun v G2 H2 u2 d2 => q1 v G2 H2 (u1.tr u2) d2)
        fun σ2 G2 H2 u2 n2 => q2 σ2 G2 H2 (u1.tr u2) n2)
/-- a loop: J i holds before turn i; each turn returns y or leads to the next; behind the loop u returns y -/
theorem r_loop {wi : TI} {g : TG} {ds : List PyData} (J : Nat → L2.St → Hp → Prop) (hi : EvI K σ F wi ds) (h0 : ∀ F', Ex F F' → J 0 σ F') (hm : ∀ i σ F F', Ex F F' → J i σ F → J i σ F')
    (hs : ∀ i d, ds[i]? = some d → ∀ σ1 F1, Ex F F1 → J i σ1 F1 → ∃ P, Tg K g σ1 d P ∧ ∀ F2 σ2, Ex F1 F2 → P F2 σ2 → StepE K σ2 F2 tb (J (i + 1)) y)
    (hd : ∀ σ1 F1, Ex F F1 → J ds.length σ1 F1 → RetE K σ1 F1 u y) : RetE K σ F (tSeq (tFor wi g tb) u) y := fun G H e1 e2 D q => hi G H e1 e2 _ fun I G1 H1 u1 wk => by
  refine ⟨fun i m σ' H' => m = ds.length - i ∧ i ≤ ds.length ∧ ∃ G', Up G1 H1 G' H' ∧ J i σ' G',
    ⟨_, rfl, Nat.zero_le _, G1, Up.rf u1.h, h0 G1 (e1.tr u1.g)⟩, ?_⟩
  rintro i m σ' H' ⟨rfl, hi', G', u', hJ⟩
  obtain ⟨w1, w2⟩ := wk i G' H' u'.g u'.h
  have eG := (e1.tr u1.g).tr u'.g
  by_cases hlt : i < ds.length
  · have hget := List.getElem?_eq_getElem hlt
    obtain ⟨hgo, hy⟩ := w1 _ hget
    refine .inr ⟨hgo, fun σ2 H2 => ∃ G2, Up G1 H1 G2 H2 ∧ J (i + 1) σ2 G2, ?_, ?_⟩
    · rintro σ2 H2 ⟨G2, a, b⟩
      exact ⟨ds.length - (i + 1), by omega, rfl, hlt, G2, a, b⟩
    · intro x H3 hyl
      obtain ⟨G3, u3, dx⟩ := hy x H3 hyl
      obtain ⟨P, tg, body⟩ := hs i _ hget σ' G' eG hJ
      refine tg G3 H3 x u3.h dx _ fun σ2 hP => ?_
      exact body G3 σ2 u3.g hP G3 H3 (Ex.rf _) u3.h _ (fun v G4 H4 u4 d4 => q v G4 H4 ((u1.tr (u'.tr u3)).tr u4) d4)
        fun σ4 G4 H4 u4 n4 => ⟨G4, (u'.tr u3).tr u4, n4⟩
  · have e : i = ds.length := by omega
    subst e
    exact .inl ⟨w2 (by omega), hd σ' G' eG hJ G' H' (Ex.rf _) u'.h _ fun v G2 H2 u2 d2 => q v G2 H2 ((u1.tr u').tr u2) d2⟩
end
/-! ### [.. for .. in .. for .. in ..] -/
structure Acc (K : PySem.W.Frag) (G1 H1 : Hp) (D : Addr) (G H : Hp) (acc : List V) (zs : List PyData) : Prop where
  g : Ex G1 G
  h : Ex G H
  m : Ex H1 H
  n : ∀ b, H1 b ≠ none → G1 b = none → G b = none
  d : H D = some (.lst acc)
  z : G D = none
  a : DaAll K G acc zs
theorem Acc.up {K : PySem.W.Frag} {G1 H1 G H G' H' : Hp} {D : Addr} {acc : List V} {zs : List PyData} (A : Acc K G1 H1 D G H acc zs) (u : Up G H G' H') : Acc K G1 H1 D G' H' acc zs where
  g := A.g.tr u.g
  h := u.h
  m := A.m.tr u.m
  n := fun b h1 h2 => u.n b (fun z => by
    cases e : H1 b with
    | none => exact h1 e
    | some o => rw [A.m b o e] at z; cases z) (A.n b h1 h2)
  d := u.m _ _ A.d
  z := u.n D (by rw [A.d]; simp) A.z
  a := A.a.mono u.g
theorem Acc.push {K : PySem.W.Frag} {G1 H1 G H : Hp} {D : Addr} {acc : List V} {zs : List PyData} {y : V} {d : PyData} (A : Acc K G1 H1 D G H acc zs) (hD : H1 D = none) (hy : Da K G y d) :
    Acc K G1 H1 D G (upd H D (.lst (acc ++ [y]))) (acc ++ [y]) (zs ++ [d]) where
  g := A.g
  h := fun a o e => by
    rw [upd_ne (ne_of_none e A.z)]
    exact A.h a o e
  m := fun a o e => by
    rw [upd_ne (ne_of_none e hD)]
    exact A.m a o e
  n := A.n
  d := upd_same
  z := A.z
  a := A.a.append (.cons hy .nil)
theorem e_lc2 {K : PySem.W.Frag} {σ : L2.St} {F : Hp} {wi wi1 : TI} {g g1 : TG} {te : TE} {vs vs1 : List Nat} {ds : List PyData} {sub : PyData → List PyData} {f : PyData → PyData → PyData} (hi : EvI K σ F wi ds)
    (hz : (ds.flatMap fun d => (sub d).map (f d)).length ≤ 100000)
    (ht : ∀ d ∈ ds, ∃ P, Tg K g (wipe σ vs) d P ∧ ∀ F' σ', Ex F F' → P F' σ' → wipe σ' vs = wipe σ vs ∧ EvI K σ' F' wi1 (sub d) ∧
      ∀ y ∈ sub d, ∃ P1, Tg K g1 (wipe σ' vs1) y P1 ∧ ∀ F2 σ2, Ex F' F2 → P1 F2 σ2 → wipe σ2 vs1 = wipe σ' vs1 ∧ EvE K σ2 F2 te (f d y)) :
    EvE K σ F (tLc2 wi g tYes wi1 g1 tYes te vs vs1) (.list (ds.flatMap fun d => (sub d).map (f d))) := fun G H e1 e2 Q q => hi G H e1 e2 _ fun J G1 H1 u1 wk => by
  intro D hD
  refine ⟨fun i m H2 => m = ds.length - i ∧ i ≤ ds.length ∧ ∃ (G2 : Hp) (acc : List V), Acc K G1 H1 D G2 H2 acc ((ds.take i).flatMap fun d => (sub d).map (f d)),
    ⟨_, rfl, Nat.zero_le _, G1, [], Ex.rf _, u1.h.tr (Ex.up hD), Ex.up hD, fun _ _ h => h, upd_same, u1.h.fresh hD, .nil⟩, ?_⟩
  rintro i m H2 ⟨rfl, hi', G2, acc, A⟩
  obtain ⟨w1, w2⟩ := wk i G2 H2 A.g A.h
  by_cases hlt : i < ds.length
  · have hget := List.getElem?_eq_getElem hlt
    obtain ⟨hgo, hy⟩ := w1 _ hget
    have hm : ds[i] ∈ ds := List.getElem_mem hlt
    have tk : (ds.take (i + 1)).flatMap (fun d => (sub d).map (f d)) = (ds.take i).flatMap (fun d => (sub d).map (f d)) ++ (sub ds[i]).map (f ds[i]) := by
      rw [List.take_add_one, hget, List.flatMap_append]; simp
    have lz : ((ds.take (i + 1)).flatMap (fun d => (sub d).map (f d))).length ≤ 100000 := by
      refine Nat.le_trans ?_ hz
      conv => rhs; rw [← List.take_append_drop (i + 1) ds, List.flatMap_append, List.length_append]
      exact Nat.le_add_right _ _
    refine .inr ⟨hgo, fun H3 => ∃ (G3 : Hp) (acc : List V), Acc K G1 H1 D G3 H3 acc ((ds.take (i + 1)).flatMap fun d => (sub d).map (f d)), ?_, ?_⟩
    · rintro H3 ⟨G3, acc3, r⟩
      exact ⟨ds.length - (i + 1), by omega, rfl, hlt, G3, acc3, r⟩
    · intro x H3 hyl
      obtain ⟨G3, u3, dx⟩ := hy x H3 hyl
      obtain ⟨P, tg, body⟩ := ht _ hm
      refine tg G3 H3 x u3.h dx _ fun σ' hP => ?_
      obtain ⟨hw, hI, hE⟩ := body G3 σ' ((e1.tr u1.g).tr (A.g.tr u3.g)) hP
      refine ⟨hw, ?_⟩
      simp only [tYes, if_true]
      have A3 := A.up u3
      refine hI G3 H3 (Ex.rf _) u3.h _ fun J1 G4 H4 u4 wk1 => ?_
      have A4 := A3.up u4
      refine ⟨fun j k H5 => k = (sub ds[i]).length - j ∧ j ≤ (sub ds[i]).length ∧ ∃ (G5 : Hp) (acc5 : List V), Ex G4 G5 ∧
        Acc K G1 H1 D G5 H5 acc5 (((ds.take i).flatMap fun d => (sub d).map (f d)) ++ ((sub ds[i]).take j).map (f ds[i])), ⟨_, rfl, Nat.zero_le _, G4, acc, Ex.rf _, ?_⟩, ?_⟩
      · rw [List.take_zero, List.map_nil, List.append_nil]; exact A4
      rintro j k H5 ⟨rfl, hj', G5, acc5, e5, A5⟩
      obtain ⟨x1, x2⟩ := wk1 j G5 H5 e5 A5.h
      by_cases hjl : j < (sub ds[i]).length
      · have hget1 := List.getElem?_eq_getElem hjl
        obtain ⟨hgo1, hy1⟩ := x1 _ hget1
        refine .inr ⟨hgo1, fun H6 => ∃ (G6 : Hp) (acc6 : List V), Ex G4 G6 ∧
          Acc K G1 H1 D G6 H6 acc6 (((ds.take i).flatMap fun d => (sub d).map (f d)) ++ ((sub ds[i]).take (j + 1)).map (f ds[i])), ?_, ?_⟩
        · rintro H6 ⟨G6, acc6, e6, r⟩
          exact ⟨(sub ds[i]).length - (j + 1), by omega, rfl, hjl, G6, acc6, e6, r⟩
        · intro x' H6 hyl1
          obtain ⟨G6, u6, dx1⟩ := hy1 x' H6 hyl1
          obtain ⟨P1, tg1, body1⟩ := hE _ (List.getElem_mem hjl)
          refine tg1 G6 H6 x' u6.h dx1 _ fun σ2 hP1 => ?_
          obtain ⟨hw1, hE1⟩ := body1 G6 σ2 (u4.g.tr (e5.tr u6.g)) hP1
          refine ⟨hw1, ?_⟩
          have A6 := A5.up u6
          refine hE1 G6 H6 (Ex.rf _) u6.h _ fun y' G7 H7 u7 dy => ?_
          have A7 := A6.up u7
          have tk1 : ((sub ds[i]).take (j + 1)).map (f ds[i]) = ((sub ds[i]).take j).map (f ds[i]) ++ [f ds[i] (sub ds[i])[j]] := by
            rw [List.take_add_one, hget1, List.map_append]; rfl
          refine ⟨acc5, A7.d, ?_, G7, acc5 ++ [y'], e5.tr (u6.g.tr u7.g), ?_⟩
          · have l1 := A7.a.length
            rw [List.length_append, List.length_map, List.length_take] at l1
            rw [tk, List.length_append, List.length_map] at lz
            have : acc5.length ≤ 100000 := by omega
            exact Nat.lt_of_le_of_lt this (by decide)
          · rw [tk1, ← List.append_assoc]
            exact A7.push hD dy
      · have e : j = (sub ds[i]).length := by omega
        subst e
        refine .inl ⟨x2 (by omega), G5, acc5, ?_⟩
        rw [tk]
        rw [List.take_of_length_le (Nat.le_refl _)] at A5
        exact A5
  · have hle : ds.length ≤ i := by omega
    have gd := A.z
    refine .inl ⟨w2 (by omega), q _ (upd G2 D (.lst acc)) H2 (u1.tr ⟨A.g.tr (Ex.up gd), ?_, A.m, fun b h1 h2 => ?_⟩) (.lst upd_same ?_)⟩
    · intro a o e
      by_cases h : a = D
      · subst h; rw [upd_same] at e; rw [A.d]; exact e
      · rw [upd_ne h] at e; exact A.h a o e
    · rw [upd_ne (fun z => h1 (by rw [z]; exact hD))]; exact A.n b h1 h2
    · have := A.a
      rw [List.take_of_length_le hle] at this
      exact this.mono (Ex.up gd)
/-! ### the text of data with lists and dicts together -/
theorem c_repr2 {K : PySem.W.Frag} {x : PyData} (h : repOk2 x = true) : CaD K (rRepr2 K) [x] (.str x.shown) := fun G H vs e d Q q => by
  cases d with
  | cons d1 d2 =>
    cases d2
    exact ⟨_, x, rfl, d1.mono e, h, q _ G H (Up.rf e) (.str _)⟩
end KD
set_option Elab.async false
set_option linter.all false
set_option maxRecDepth 100000
set_option maxHeartbeats 4000000
namespace KD
open PySem PySem.Spec PyProof.Rows L2
/-! ### a tuple no times: a new empty tuple -/
theorem tuple_mul0 (l : Addr) (items : Array Value) (n : Nat) (dd : Option Addr) (sl : Array (Option Value)) (u : Tok) (c1 : (items.isEmpty || (0 : Int) == 1) = false) :
    Meets (Builtin.«tuple.__mul__» ⟨[.ref l, .int 0 u], []⟩) (fun _ R s => s.heap.get? l = some { cls := .type "tuple", dict := dd, data := .seq items n, slots := sl } ∧
      R (.ok (.ret (Value.ref s.heap.objs.size))) { s with heap := s.heap.push { cls := Value.type "tuple", data := Data.seq #[] }, toks := s.toks }) :=
  .of_wp fun prog w A R s h => by
    rcases s with ⟨mem, gens, drawn, toks, sys⟩
    rcases h with ⟨hl, h⟩
    have whole := AutoSeq1.idx_int
    have c0 : (decide ((0 : Int) < -(2 ^ 63)) || decide ((0 : Int) ≥ 2 ^ 63)) = false := by decide
    have c2 : (decide ((0 : Int) ≤ 0) || items.isEmpty) = true := by simp
    have hsz : ¬ (#[] : Array Value).size > sizeLine := Nat.not_lt.mpr (Nat.zero_le _)
    wp_walk using wpAny_loadPart' hl
    have d0 := decide_eq_false (show ¬ _ = true from Bool.eq_false_iff.mp c0)
    have d1 := decide_eq_false (show ¬ _ = true from Bool.eq_false_iff.mp c1)
    have d2 := decide_eq_true c2
    have d3 := decide_eq_false hsz
    iterate 4
      try first
        | refine wpAny_ite_false d0 ?_
        | refine wpAny_ite_false d1 ?_
        | refine wpAny_ite_true d2 ?_
        | refine wpAny_ite_false d3 ?_
      try wp_walk using wpAny_loadPart' hl
    exact ⟨_, rfl, h⟩
def rRepT0 (K : PySem.W.Frag) : R2 := fun x y H Q => ∃ l xs, x = .ref l ∧ y = .int 0 ∧ SqT K H l xs ∧ xs ≠ [] ∧ ∀ p, H p = none → Q (.ref p) (upd H p (.tup []))
theorem op_repT0 {X : Cx} : OpR X (binaryOp .Mult) (rRepT0 X.K) := by
  rintro pins s σ H x y v u Q I rx ry ⟨l, xs, rfl, rfl, hT, hne, q⟩
  cases rx
  obtain ⟨t, rfl⟩ := ry
  rcases I.tuple hT with ⟨its, r, ⟨⟨cls, dd, data, sl⟩, ho, kind, n, cells⟩, hs⟩
  obtain rfl : cls = _ := kind
  obtain rfl : data = _ := cells
  have hle : its.length = xs.length := r.length.symm
  have c1 : (its.toArray.isEmpty || (0 : Int) == 1) = false := by
    cases its with
    | nil => exact absurd (List.eq_nil_of_length_eq_zero hle.symm) hne
    | cons a b => rfl
  refine wpAny_binaryOp_repeat_ref (T := "tuple") (U := "int") (by decide) ⟨_, ho, rfl⟩ (fun s' => typeIs_int s' 0 t) noFill_tuple_mul F.fills_int_mul F.slot_int_rmul repeat_tuple F.slot_int_index.lookup
    (call_meets F.slot_int_rmul (typeIs_int s 0 t) F.entry_int_rmul (F.args_int_rmul_2 _ _) (int_rmul_tuple 0 t l its.toArray n dd sl)
      ⟨ho, rfl, ⟨_, ho, rfl⟩, call_meets F.slot_tuple_mul ⟨_, ho, rfl⟩ F.entry_tuple_mul (F.args_tuple_mul_2 _ _) (tuple_mul0 l its.toArray n dd sl t c1) ⟨ho, ?_⟩⟩)
  refine ⟨.ref s.heap.objs.size, _, I.laid (t' := s.toks) (o := .tup []) (fun b ob q => Heap.get?_push_of_some _ q) (Nat.le_refl _) ?_, rfl, q _ (I.hok.fresh (Nat.le_refl _))⟩
  exact ⟨Nat.zero_le _, [], .nil, IsTup.new _ _⟩
/-- a tuple that is not empty, no time and more -/
def rRepZ (K : PySem.W.Frag) : R2 := fun x y H Q => rRepT0 K x y H Q ∨ rRepQ K x y H Q
theorem op_repZ (K : PySem.W.Frag) {X : Cx} (h : X.K = K := by rfl) : OpR X (binaryOp .Mult) (rRepZ K) := by
  subst h
  exact OpR.or op_repT0 (op_repQ X.K)
theorem o_repZ {K : PySem.W.Frag} {xs : List PyData} {k : Nat} (hx : xs ≠ []) (h2 : k ≤ 1000) (hl : xs.length ≤ 1000) : OpD K (rRepZ K) (.tuple xs) (.int (k : Nat)) (.tuple (List.replicate k xs).flatten) := fun G H v u e d1 d2 Q q => by
  cases k with
  | zero =>
    cases d2
    cases d1 with
    | tup g1 a1 =>
      have hwl := a1.length
      refine .inl ⟨_, _, rfl, rfl, SqT.of (e _ _ g1), ?_, fun p hp => q _ _ _ (Up.new e hp _) (.tup upd_same .nil)⟩
      intro z
      rw [z] at hwl
      exact hx (List.length_eq_zero_iff.mp hwl.symm)
  | succ k => exact .inr (o_repT (k := ((k + 1 : Nat) : Int)) hx (by omega) (by omega) hl G H v u e d1 d2 Q q)
/-! ### list(zip(xs, ys)) as data -/
section
variable {K : PySem.W.Frag} {dk cl : Addr} {σ : L2.St} {F : Hp} {m m' m1 m2 : Nat} {te ta tb : TE} {as : TA} {P1 P2 : PyData → Prop}
theorem zip_all {G : Hp} : ∀ {Ts : List Addr} {vs ws : List V} {xs ys : List PyData}, DaAll K G vs xs → DaAll K G ws ys → vs.length = ws.length → Ts.length = vs.length →
    (∀ (j : Nat) (T : Addr) (x y : V), Ts[j]? = some T → vs[j]? = some x → ws[j]? = some y → G T = some (.tup [x, y])) → DaAll K G (Ts.map V.ref) (zipD xs ys)
  | [], vs, ws, xs, ys, h1, h2, l1, l2, _ => by
    have e1 : vs = [] := List.length_eq_zero_iff.mp l2.symm
    subst e1
    cases h1
    exact .nil
  | T :: Ts, [], _, _, _, _, _, _, l2, _ => by cases l2
  | T :: Ts, v :: vs, [], _, _, _, _, l1, _, _ => by cases l1
  | T :: Ts, v :: vs, w :: ws, _, _, h1, h2, l1, l2, ht => by
    cases h1 with | cons a1 b1 => ?_
    cases h2 with | cons a2 b2 => ?_
    refine .cons (.tup (ht 0 T v w rfl rfl rfl) (.cons a1 (.cons a2 .nil))) (zip_all b1 b2 (Nat.succ.inj l1) (Nat.succ.inj l2) fun j T' x y e1 e2 e3 => ht (j + 1) T' x y e1 e2 e3)
theorem e_lzip {xs ys : List PyData} (h : EvA K σ F as [.list xs, .list ys]) (hl : xs.length = ys.length) (hz : xs.length ≤ 1000) : EvE K σ F (tLstZipL K as) (.list (zipD xs ys)) := fun G H e1 e2 Q q => h G H e1 e2 _ fun vs G1 H1 u1 d1 => by
  cases d1 with | cons a1 d1 => ?_
  cases d1 with | cons a2 d1 => ?_
  cases d1
  cases a1 with | lst g1 b1 => ?_
  cases a2 with | lst g2 b2 => ?_
  rename_i a vs b ws
  have l1 := b1.length
  have l2 := b2.length
  refine ⟨a, b, vs, ws, rfl, SqL.of (u1.h _ _ g1), SqL.of (u1.h _ _ g2), by omega, by omega, fun L Ts H2 Z => ?_⟩
  classical
  have hT : ∀ T ∈ Ts, H1 T = none ∧ ∃ x y, H2 T = some (.tup [x, y]) := fun T hT => by
    obtain ⟨j, hj⟩ := List.mem_iff_getElem?.mp hT
    have hjl := (List.getElem?_eq_some_iff.mp hj).1
    have := Z.l
    have j1 : j < vs.length := by omega
    have j2 : j < ws.length := by omega
    have := Z.t j T _ _ hj (List.getElem?_eq_getElem j1) (List.getElem?_eq_getElem j2)
    exact ⟨this.1, _, _, this.2⟩
  let G' : Hp := fun c => if c = L ∨ c ∈ Ts then H2 c else G1 c
  have hfr : ∀ c, c = L ∨ c ∈ Ts → H1 c = none := fun c hc => by
    rcases hc with rfl | hc
    · exact Z.nL
    · exact (hT c hc).1
  have hout : ∀ c, H1 c ≠ none → G' c = G1 c := fun c hc => if_neg fun hz => hc (hfr c hz)
  have eG : Ex G1 G' := fun c o e => by rw [hout c (by rw [u1.h c o e]; simp)]; exact e
  have up : Up G1 H1 G' H2 := ⟨eG, fun c o e => by
      by_cases hc : c = L ∨ c ∈ Ts
      · have : G' c = H2 c := if_pos hc
        rw [this] at e; exact e
      · have : G' c = G1 c := if_neg hc
        rw [this] at e; exact Z.e c o (u1.h c o e), Z.e, fun c h1 h2 => by rw [hout c h1]; exact h2⟩
  refine q _ G' H2 (u1.tr up) (.lst (xs := Ts.map V.ref) ?_ (zip_all (b1.mono eG) (b2.mono eG) (by omega) Z.l fun j T x y e1 e2 e3 => ?_))
  · have : G' L = H2 L := if_pos (.inl rfl)
    rw [this]; exact Z.hL
  · have : G' T = H2 T := if_pos (.inr (List.mem_of_getElem? e1))
    rw [this]; exact (Z.t j T x y e1 e2 e3).2
/-- xs[:e], where e draws -/
theorem n_slHi (ha : EvN K dk cl σ F m ta m1 P1) (hb : EvN K dk cl σ F m1 tb m2 P2) (h1 : ∀ d, P1 d → ∃ xs, d = .list xs) (h2 : ∀ d, P2 d → ∃ i, d = .int i) :
    EvN K dk cl σ F m (tSl (rSlL K) ta tNoPart (tPart tb)) m2 (fun d => ∃ xs i, P1 (.list xs) ∧ P2 (.int i) ∧ d = .list (cutD xs none (some i))) := fun G H e1 e2 hD Q q =>
  ha G H e1 e2 hD _ fun v x G1 H1 u1 hD1 p1 d1 => oo_none G1 H1 (e1.tr u1.g) u1.h _ fun G2 H2 u2 => hb G2 H2 ((e1.tr u1.g).tr u2.g) u2.h (hD1.up u2) _ fun w y G3 H3 u3 hD3 p2 d2 => by
    obtain ⟨xs, rfl⟩ := h1 x p1
    obtain ⟨i, rfl⟩ := h2 y p2
    cases d2
    cases d1 with
    | lst h1 a1 =>
      exact ⟨i, rfl, _, _, rfl, SqL.of (u3.h _ _ (u3.g _ _ (u2.g _ _ h1))), fun p hp =>
        q _ _ _ _ (((u1.tr u2.toM).tr u3).tr (Up.new u3.h hp _).toM) (hD3.up (Up.new u3.h hp _)) ⟨xs, i, p1, p2, rfl⟩ (.lst upd_same ((((a1.cut none (some i)).mono u2.g).mono u3.g).mono (Ex.up (u3.h.fresh hp))))⟩
/-! ### sorted pairs, in some order -/
theorem DaAll.perm {G : Hp} {ws vs : List V} (hp : ws.Perm vs) : ∀ {ds : List PyData}, DaAll K G vs ds → ∃ es : List PyData, es.Perm ds ∧ DaAll K G ws es := by
  induction hp with
  | nil => intro ds h; exact ⟨ds, .refl _, h⟩
  | cons x _ ih =>
    intro ds h
    cases h with
    | cons a b =>
      obtain ⟨es, p, q⟩ := ih b
      exact ⟨_, p.cons _, .cons a q⟩
  | swap x y l =>
    intro ds h
    cases h with
    | cons a b => cases b with
      | cons c d => exact ⟨_, .swap _ _ _, .cons c (.cons a d)⟩
  | trans _ _ ih1 ih2 =>
    intro ds h
    obtain ⟨es, p, q⟩ := ih2 h
    obtain ⟨fs, p2, q2⟩ := ih1 q
    exact ⟨fs, p2.trans p, q2⟩
theorem n_sortedSI {P : PyData → Prop} (h : EvN K dk cl σ F m te m' P) (hx : ∀ d, P d → ∃ xs, d = .list xs ∧ ∀ x ∈ xs, ∃ (s : Str) (i : Int), x = .tuple [.str s, .int i]) :
    EvN K dk cl σ F m (tCB (rSortedSI K) (tCons te tNil)) m' (fun d => ∃ xs ys, P (.list xs) ∧ ys.Perm xs ∧ d = .list ys) := fun G H e1 e2 hD Q q =>
  h G H e1 e2 hD _ fun v x G1 H1 u1 hD1 p1 d1 => by
    obtain ⟨xs, rfl, hs⟩ := hx x p1
    cases d1 with
    | lst g1 a1 =>
      rename_i a vs
      refine ⟨a, vs, rfl, SqL.of (u1.h _ _ g1), fun v hv => ?_, fun ys p hp hn => ?_⟩
      · obtain ⟨j, hj⟩ := List.mem_iff_getElem?.mp hv
        obtain ⟨d, hd, dd⟩ := a1.get hj
        obtain ⟨s, i, rfl⟩ := hs d (List.mem_of_getElem? hd)
        cases dd with
        | tup g2 a2 => cases a2 with
          | cons c1 a2 => cases a2 with
            | cons c2 a2 =>
              cases a2; cases c1; cases c2
              exact ⟨_, s, i, rfl, u1.h _ _ g2⟩
      · obtain ⟨es, pe, da⟩ := DaAll.perm hp a1
        exact q _ _ _ _ (u1.tr (Up.new u1.h hn _).toM) (hD1.up (Up.new u1.h hn _)) ⟨xs, es, p1, pe, rfl⟩ (.lst upd_same (da.mono (Ex.up (u1.h.fresh hn))))
end
end KD
set_option Elab.async false
set_option linter.all false
set_option maxRecDepth 100000
set_option maxHeartbeats 2000000
namespace KD
open PySem PySem.Spec PyProof.Rows L2
/-! ### [x for x in .. if what is drawn] -/
def TuN (K : PySem.W.Frag) (dk cl : Addr) (σ : L2.St) (F : Hp) (m : Nat) (tt : TT) (m' : Nat) : Prop :=
  ∀ G H, Ex F G → Ex G H → Deck G H dk cl m → ∀ Q : Bool → Hp → Prop, (∀ b G' H', UpM dk cl G H G' H' → Deck G' H' dk cl m' → Q b H') → tt σ H Q
section
variable {K : PySem.W.Frag} {dk cl : Addr} {σ : L2.St} {F : Hp} {m m' : Nat} {te : TE} {tt : TT}
theorem tu_test (h : EvN K dk cl σ F m te m' (fun d => ∃ b, d = .bool b)) : TuN K dk cl σ F m (tTest te) m' := fun G H e1 e2 hD Q q =>
  h G H e1 e2 hD _ fun v d G1 H1 u1 hD1 p1 d1 => by
    obtain ⟨b, rfl⟩ := p1
    cases d1
    exact ⟨b, rfl, q b G1 H1 u1 hD1⟩
theorem n_lcT {wi : TI} {i c : Nat} {ds : List PyData} {f : PyData → PyData} (hi : EvI K σ F wi ds) (hz : ds.length ≤ 100000)
    (ht : ∀ (k : Nat) (d : PyData), ds[k]? = some d → ∀ F' v, Ex F F' → Da K F' v d → TuN K dk cl ((wipe σ [i]).set i (some v)) F' (m + c * k) tt (m + c * k + c) ∧ EvE K ((wipe σ [i]).set i (some v)) F' te (f d)) :
    EvN K dk cl σ F m (tLc wi (gName i) tt te [i]) (m + c * ds.length) (fun x => ∃ rs : List PyData, x = .list rs ∧ rs.length ≤ ds.length ∧ ∀ r ∈ rs, ∃ d ∈ ds, r = f d) := fun G H e1 e2 hD Q q =>
  hi G H e1 e2 _ fun J G1 H1 u1 wk => by
  intro D hD0
  have hDk := hD.up u1
  have nd : D ≠ dk := fun z => hDk.dn (by rw [← z]; exact hD0)
  have nc : D ≠ cl := fun z => hDk.cn (by rw [← z]; exact hD0)
  refine ⟨fun k μ H2 => μ = ds.length - k ∧ k ≤ ds.length ∧ ∃ (G2 : Hp) (rs : List PyData), UpM dk cl G1 H1 G2 H2 ∧ Deck G2 H2 dk cl (m + c * k) ∧ ListAt K D rs G2 H2 ∧ rs.length ≤ k ∧
      ∀ r ∈ rs, ∃ d ∈ ds, r = f d, ⟨_, rfl, Nat.zero_le _, G1, [], ?_, ?_, ?_, Nat.le_refl _, ?_⟩, ?_⟩
  · exact ⟨Ex.rf _, u1.h.tr (Ex.up hD0), fun b o _ _ e => Ex.up hD0 b o e, fun _ _ h => h, fun b h => by
      rw [upd_ne (fun z => h (by rw [z]; exact hD0))]; exact h⟩
  · have := hDk
    obtain ⟨cs, t, n, a1, a2, a3⟩ := this.ex
    exact ⟨this.ne, this.gd, this.gc, cs, t, n, by rw [upd_ne (ne_of_none a1 hD0)]; exact a1, by rw [upd_ne (ne_of_none a2 hD0)]; exact a2, by simpa using a3⟩
  · exact ⟨u1.h.fresh hD0, [], upd_same, .nil⟩
  · intro r hr; cases hr
  rintro k μ H2 ⟨rfl, hk, G2, rs, u2, hD2, hL, hlen, hP⟩
  obtain ⟨w1, w2⟩ := wk k G2 H2 u2.g u2.h
  by_cases hlt : k < ds.length
  · obtain ⟨hgo, hy⟩ := w1 _ (List.getElem?_eq_getElem hlt)
    refine .inr ⟨hgo, fun H3 => ∃ (G3 : Hp) (rs : List PyData), UpM dk cl G1 H1 G3 H3 ∧ Deck G3 H3 dk cl (m + c * (k + 1)) ∧ ListAt K D rs G3 H3 ∧ rs.length ≤ k + 1 ∧
      ∀ r ∈ rs, ∃ d ∈ ds, r = f d, ?_, ?_⟩
    · rintro H3 ⟨G3, rs3, r⟩
      exact ⟨ds.length - (k + 1), by omega, rfl, hlt, G3, rs3, r⟩
    · intro x H3 hyl
      obtain ⟨G3, u3, dx⟩ := hy x H3 hyl
      refine ⟨wipe1, ?_⟩
      obtain ⟨hT, hE⟩ := ht k _ (List.getElem?_eq_getElem hlt) G3 x ((e1.tr u1.g).tr (u2.g.tr u3.g)) dx
      refine hT G3 H3 (Ex.rf _) u3.h (hD2.up u3) _ fun b G4 H4 u4 hD4 => ?_
      have hL4 := (hL.up u3).upM nd nc u4
      have up4 := (u2.tr u3.toM).tr u4
      have hc : m + c * (k + 1) = m + c * k + c := by rw [Nat.mul_add, Nat.mul_one, ← Nat.add_assoc]
      cases b with
      | false => exact iteF ⟨G4, rs, up4, by rw [hc]; exact hD4, hL4, by omega, hP⟩
      | true =>
        refine iteT (hE G4 H4 u4.g u4.h _ fun y G5 H5 u5 dvy => ?_)
        have hL5 := hL4.up u5
        obtain ⟨acc, ea, ha⟩ := hL5.ex
        have gl := hL5.gl
        have up5 := up4.tr u5.toM
        have hD5 := hD4.up u5
        refine ⟨acc, ea, ?_, G5, rs ++ [f ds[k]], ⟨up5.g, fun a o e => ?_, fun b o hb1 hb2 e => ?_, up5.n, fun b hb => ?_⟩, ?_, ⟨gl, acc ++ [y], upd_same, ha.append (.cons dvy .nil)⟩, by simp; omega, ?_⟩
        · have := ha.length
          exact Nat.lt_of_le_of_lt (by omega : acc.length ≤ 100000) (by decide)
        · rw [upd_ne (ne_of_none e gl)]; exact up5.h a o e
        · have hbD : b ≠ D := fun z => by rw [z, hD0] at e; cases e
          rw [upd_ne hbD]; exact up5.m b o hb1 hb2 e
        · by_cases hbD : b = D
          · subst hbD; rw [upd_same]; simp
          · rw [upd_ne hbD]; exact up5.t b hb
        · obtain ⟨cs, t, n, a1, a2, a3⟩ := hD5.ex
          exact ⟨hD5.ne, hD5.gd, hD5.gc, cs, t, n, by rw [upd_ne nd.symm]; exact a1, by rw [upd_ne nc.symm]; exact a2, by rw [hc]; exact a3⟩
        · intro r hr
          rcases List.mem_append.mp hr with hr | hr
          · exact hP r hr
          · rw [List.mem_singleton.mp hr]
            exact ⟨_, List.getElem_mem hlt, rfl⟩
  · have hle : ds.length ≤ k := by omega
    have hkk : k = ds.length := by omega
    obtain ⟨G3, g1, g2, g3, g4⟩ := hL.done u2.h
    refine .inl ⟨w2 (by omega), q _ (.list rs) G3 H2 (u1.toM.tr ⟨u2.g.tr g1, g2, u2.m, fun b h1 h2 => ?_, u2.t⟩) ?_ ⟨rs, rfl, by omega, hP⟩ g3⟩
    · have hbD : b ≠ D := fun z => h1 (by rw [z]; exact hD0)
      rw [g4 b hbD]
      exact u2.n b h1 h2
    · obtain ⟨cs, t, n, a1, a2, a3⟩ := hD2.ex
      exact ⟨hD2.ne, by rw [g4 _ nd.symm]; exact hD2.gd, by rw [g4 _ nc.symm]; exact hD2.gc, cs, t, n, a1, a2, by rw [← hkk]; exact a3⟩
/-- x = [..] + .. , a new list of one's own -/
theorem st_catNew {i : Nat} {u : TS} {D : Ends} {G H : Hp} {ta tb : TE} {m1 m2 : Nat} {A B : List PyData → Prop} (h1 : EvN K dk cl σ G m ta m1 (fun d => ∃ xs, d = .list xs ∧ A xs)) (h2 : ∀ G', Ex G G' → EvN K dk cl σ G' m1 tb m2 (fun d => ∃ xs, d = .list xs ∧ B xs)) (e : Ex G H) (hD : Deck G H dk cl m)
    (hn : ∀ xs ys, A xs → B ys → xs.length + ys.length ≤ 100000)
    (q : ∀ L xs ys G' H', UpM dk cl G H G' H' → H L = none → A xs → B ys → Deck G' H' dk cl m2 → Own K dk cl L (xs ++ ys) G' H' → u D (σ.set i (some (.ref L))) H') : tSeq (tAsg (tOp rCat ta tb) (gName i)) u D σ H := by
  refine h1 G H (Ex.rf _) e hD _ fun v d1 G1 H1 u1 hD1 p1 x1 => h2 G1 u1.g G1 H1 (Ex.rf _) u1.h hD1 _ fun w d2 G2 H2 u2 hD2 p2 x2 => ?_
  obtain ⟨xs, rfl, pa⟩ := p1
  obtain ⟨ys, rfl, pb⟩ := p2
  cases x1 with | lst k1 a1 => ?_
  cases x2 with | lst k2 a2 => ?_
  have hnn := hn xs ys pa pb
  have u := u1.tr u2
  refine ⟨_, _, _, _, rfl, rfl, u2.h _ _ (u2.g _ _ k1), u2.h _ _ k2, ?_, fun L hL => ?_⟩
  · rw [a1.length, a2.length]; exact Nat.le_trans hnn (by decide)
  · have hLH := u.none hL
    exact q L xs ys G2 _ (u.own hLH (u2.h.fresh hL)) hLH pa pb (hD2.put (fun z => hD2.dn (by rw [← z]; exact hL)) (fun z => hD2.cn (by rw [← z]; exact hL))) (Own.new hL u2.h hD2 ((a1.mono u2.g).append a2))
end
end KD
set_option Elab.async false
set_option linter.all false
set_option maxRecDepth 100000
set_option maxHeartbeats 2000000
namespace KD
open PySem PySem.Spec PyProof.Rows L2
/-! ### small data of any kind, weighed exactly -/
structure Sz (w k : Nat) (d : PyData) : Prop where
  s : d.leavesShort 60 = true
  h : d.showable = true
  f : fit d = true
  p : d.depth ≤ k
  w : d.weight ≤ w
structure SzA (w k : Nat) (xs : List PyData) : Prop where
  s : PyData.leavesShortAll 60 xs = true
  h : PyData.showableAll xs = true
  f : fitAll xs = true
  p : PyData.depthAll xs ≤ k
  w : PyData.weightAll xs ≤ w
theorem Sz.mono {w k w' k' : Nat} {d : PyData} (h : Sz w k d) (hw : w ≤ w') (hk : k ≤ k') : Sz w' k' d := ⟨h.s, h.h, h.f, Nat.le_trans h.p hk, Nat.le_trans h.w hw⟩
theorem SzA.mono {w k w' k' : Nat} {d : List PyData} (h : SzA w k d) (hw : w ≤ w') (hk : k ≤ k') : SzA w' k' d := ⟨h.s, h.h, h.f, Nat.le_trans h.p hk, Nat.le_trans h.w hw⟩
theorem Sml.z {w k : Nat} {d : PyData} (h : Sml w k d) : Sz w k d := ⟨h.s, h.h, h.f, h.p, h.w⟩
theorem Sz.ok {w k : Nat} {d : PyData} (h : Sz w k d) (hw : w ≤ 200000) (hk : k ≤ 40) : repOk2 d = true := by
  have hs := PyData.shown_le 60 (by decide) d h.s
  have := h.w
  have hd := h.p
  unfold repOk2
  simp only [Bool.and_eq_true, decide_eq_true_eq, h.h, true_and]
  refine ⟨by omega, Nat.le_trans hs ?_⟩
  have : (60 + 2) * d.weight ≤ 62 * 200000 := Nat.mul_le_mul (by decide) (by omega)
  omega
theorem szA_nil {k : Nat} : SzA 0 k [] := ⟨rfl, rfl, rfl, Nat.zero_le _, Nat.le_refl _⟩
theorem szA_cons {w w' k : Nat} {x : PyData} {xs : List PyData} (h : Sz w k x) (r : SzA w' k xs) : SzA (w + 1 + w') k (x :: xs) := by
  refine ⟨?_, ?_, ?_, ?_, ?_⟩
  · show (x.leavesShort 60 && _) = true
    rw [h.s, r.s]; rfl
  · show (x.showable && _) = true
    rw [h.h, r.h]; rfl
  · show (fit x && _) = true
    rw [h.f, r.f]; rfl
  · show max x.depth _ ≤ k
    exact Nat.max_le.mpr ⟨h.p, r.p⟩
  · show x.weight + 1 + PyData.weightAll xs ≤ _
    have := h.w
    have := r.w
    omega
theorem SzA.head {w k : Nat} {x : PyData} {xs : List PyData} (h : SzA w k (x :: xs)) : ∃ a b, Sz a k x ∧ SzA b k xs ∧ a + 1 + b ≤ w := by
  have h1 := Bool.and_eq_true_iff.mp (show (x.leavesShort 60 && PyData.leavesShortAll 60 xs) = true from h.s)
  have h2 := Bool.and_eq_true_iff.mp (show (x.showable && PyData.showableAll xs) = true from h.h)
  have h3 := Bool.and_eq_true_iff.mp (show (fit x && fitAll xs) = true from h.f)
  have h4 := Nat.max_le.mp (show max x.depth (PyData.depthAll xs) ≤ k from h.p)
  exact ⟨x.weight, PyData.weightAll xs, ⟨h1.1, h2.1, h3.1, h4.1, Nat.le_refl _⟩, ⟨h1.2, h2.2, h3.2, h4.2, Nat.le_refl _⟩, h.w⟩
theorem SzA.app {k w' : Nat} {ys : List PyData} (r : SzA w' k ys) : ∀ {xs : List PyData} {w : Nat}, SzA w k xs → SzA (w + w') k (xs ++ ys)
  | [], w, _ => r.mono (by omega) (Nat.le_refl _)
  | x :: xs, w, h => by
    obtain ⟨a, b, h1, h2, hl⟩ := h.head
    exact (szA_cons h1 (r.app h2)).mono (by omega) (Nat.le_refl _)
/-- an item taken out: what stands before, it, and what stands behind -/
theorem SzA.split {k : Nat} : ∀ {xs : List PyData} {w i : Nat} {x : PyData}, SzA w k xs → xs[i]? = some x → ∃ a b c, SzA a k (xs.take i) ∧ Sz b k x ∧ SzA c k (xs.drop (i + 1)) ∧ a + b + 1 + c ≤ w
  | [], _, _, _, _, hx => by cases hx
  | y :: ys, w, 0, x, h, hx => by
    cases hx
    obtain ⟨a, b, h1, h2, hl⟩ := h.head
    exact ⟨0, a, b, szA_nil, h1, h2, by omega⟩
  | y :: ys, w, i + 1, x, h, hx => by
    obtain ⟨a, b, h1, h2, hl⟩ := h.head
    obtain ⟨a', b', c', g1, g2, g3, gl⟩ := h2.split (i := i) hx
    exact ⟨a + 1 + a', b', c', szA_cons h1 g1, g2, g3, by omega⟩
theorem SzA.tup {w k : Nat} {xs : List PyData} (h : SzA w k xs) (hl : xs.length ≤ 10000) : Sz w (k + 1) (.tuple xs) :=
  ⟨h.s, by simpa [PyData.showable] using h.h, by show (decide (xs.length ≤ 10000) && fitAll xs) = true; rw [h.f, decide_eq_true hl]; rfl, Nat.succ_le_succ h.p, h.w⟩
theorem SzA.lst {w k : Nat} {xs : List PyData} (h : SzA w k xs) (hl : xs.length ≤ 10000) : Sz w (k + 1) (.list xs) :=
  ⟨h.s, by simpa [PyData.showable] using h.h, by show (decide (xs.length ≤ 10000) && fitAll xs) = true; rw [h.f, decide_eq_true hl]; rfl, Nat.succ_le_succ h.p, h.w⟩
theorem Sz.items {w k : Nat} {xs : List PyData} (h : Sz w k (.tuple xs)) : ∃ j, k = j + 1 ∧ SzA w j xs := by
  have hp : PyData.depthAll xs + 1 ≤ k := h.p
  refine ⟨k - 1, by omega, ⟨h.s, by simpa [PyData.showable] using h.h, ?_, by omega, h.w⟩⟩
  exact (fit_tuple h.f).2
theorem szA_rep {w k : Nat} {x : PyData} (h : Sz w k x) : ∀ n, SzA (n * (w + 1)) k (List.replicate n x)
  | 0 => szA_nil.mono (by omega) (Nat.le_refl _)
  | n + 1 => (szA_cons h (szA_rep h n)).mono (by rw [Nat.succ_mul]; omega) (Nat.le_refl _)
theorem sz_none {k : Nat} : Sz 1 k .none := sml_none.z.mono (Nat.le_refl _) (Nat.zero_le _)
theorem sz_bool {k : Nat} (b : Bool) : Sz 1 k (.bool b) := (sml_bool b).z.mono (Nat.le_refl _) (Nat.zero_le _)
theorem SN.z {n k : Nat} {s : Str} (h : SN n s) (hn : n ≤ 100000) : Sz n k (.str s) := (h.sml hn).z.mono (Nat.le_refl _) (Nat.zero_le _)
/-- two of them in a tuple -/
theorem sz_two {a b k : Nat} {x y : PyData} (h1 : Sz a k x) (h2 : Sz b k y) : Sz (a + b + 2) (k + 1) (.tuple [x, y]) :=
  ((szA_cons h1 (szA_cons h2 szA_nil)).tup (show 2 ≤ 10000 by decide)).mono (by omega) (Nat.le_refl _)
theorem sz_twoL {a b k : Nat} {x y : PyData} (h1 : Sz a k x) (h2 : Sz b k y) : Sz (a + b + 2) (k + 1) (.list [x, y]) :=
  ((szA_cons h1 (szA_cons h2 szA_nil)).lst (show 2 ≤ 10000 by decide)).mono (by omega) (Nat.le_refl _)
theorem sz_one {a k : Nat} {x : PyData} (h1 : Sz a k x) : Sz (a + 1) (k + 1) (.tuple [x]) :=
  (szA_cons h1 szA_nil).tup (show 1 ≤ 10000 by decide)
theorem sz_oneL {a k : Nat} {x : PyData} (h1 : Sz a k x) : Sz (a + 1) (k + 1) (.list [x]) :=
  (szA_cons h1 szA_nil).lst (show 1 ≤ 10000 by decide)
end KD
set_option Elab.async false
set_option linter.all false
set_option maxHeartbeats 1000000
namespace KM
/-! ### there is a least sheet, and its rows are all different -/
theorem least_of {p : Nat → Prop} : ∀ {n : Nat}, p n → ∃ k, p k ∧ ∀ j, j < k → ¬ p j := by
  intro n
  induction n using Nat.strongRecOn with
  | _ n ih =>
    intro h
    by_cases c : ∃ j, j < n ∧ p j
    · obtain ⟨j, hj, hp⟩ := c
      exact ih j hj hp
    · exact ⟨n, h, fun j hj hp => c ⟨j, hj, hp⟩⟩
section
variable {α : Type} {ar : α → Nat} {s t r : Sheet α} {i j : Nat}
noncomputable def num (s : Sheet α) (i : Nat) : Nat := Classical.choose (least_of (p := fun k => Same s s k i) (Same.rf s i))
theorem num_spec : Same s s (num s i) i ∧ ∀ j, j < num s i → ¬ Same s s j i := Classical.choose_spec (least_of (p := fun k => Same s s k i) (Same.rf s i))
theorem num_le : num s i ≤ i := by
  by_cases c : i < num s i
  · exact absurd (Same.rf s i) (num_spec.2 i c)
  · omega
theorem num_same (hs : Ok ar s) : num s i = num s j ↔ Same s s i j := by
  constructor
  · intro e
    have h1 := (num_spec (s := s) (i := i)).1
    rw [e] at h1
    exact h1.sym.tr hs hs num_spec.1
  · intro h
    have h1 := (num_spec (s := s) (i := i)).1.tr hs hs h
    have h2 := (num_spec (s := s) (i := j)).1.tr hs hs h.sym
    have a1 : ¬ num s i < num s j := fun z => num_spec.2 _ z h1
    have a2 : ¬ num s j < num s i := fun z => num_spec.2 _ z h2
    omega
theorem mem_full {n : Nat} {met : List Nat} (hd : met.Nodup) (hb : ∀ x ∈ met, x < n) (hl : n ≤ met.length) {x : Nat} (hx : x < n) : x ∈ met := by
  by_cases c : x ∈ met
  · exact c
  · have h1 : (x :: met).Nodup := List.nodup_cons.mpr ⟨c, hd⟩
    have := h1.length_le_of_subset (l₂ := List.range n) fun y hy => by
      rcases List.mem_cons.mp hy with rfl | hy
      · exact List.mem_range.mpr hx
      · exact List.mem_range.mpr (hb y hy)
    rw [List.length_range, List.length_cons] at this
    omega
theorem dfs_ex {F : Nat → List Nat} {n : Nat} (hF : ∀ x, x < n → ∀ y ∈ F x, y < n) : ∀ (k : Nat) (st met : List Nat), (∀ x ∈ st, x < n) → (∀ x ∈ met, x < n) → met.Nodup → n ≤ met.length + k → ∃ r, Dfs F st met r
  | k, [], met, _, _, _, _ => ⟨met, .nil⟩
  | k, x :: st, met, hs, hm, hd, hl => by
    by_cases c : x ∈ met
    · obtain ⟨r, h⟩ := dfs_ex hF k st met (fun y hy => hs y (List.mem_cons_of_mem _ hy)) hm hd hl
      exact ⟨r, .skip c h⟩
    · have hx := hs x List.mem_cons_self
      match k with
      | 0 => exact absurd (mem_full hd hm hl hx) c
      | k + 1 =>
        obtain ⟨r, h⟩ := dfs_ex hF k (F x ++ st) (met ++ [x]) (fun y hy => by
            rcases List.mem_append.mp hy with hy | hy
            · exact hF x hx y hy
            · exact hs y (List.mem_cons_of_mem _ hy)) (fun y hy => by
            rcases List.mem_append.mp hy with hy | hy
            · exact hm y hy
            · rw [List.mem_singleton.mp hy]; exact hx)
          (List.nodup_append.mpr ⟨hd, by simp, fun a ha b hb e => c (by rw [List.mem_singleton.mp hb] at e; exact e ▸ ha)⟩) (by rw [List.length_append, List.length_singleton]; omega)
        exact ⟨r, .push c h⟩
termination_by k st => (k, st.length)
theorem isLeast_ex (hs : Ok ar s) (hi : i < s.length) : ∃ r, IsLeast s i r := by
  obtain ⟨z, hz⟩ := tg_lt hi
  obtain ⟨met, hd⟩ := dfs_ex (F := fun c => (fl s c).map (num s)) (n := s.length) (fun x hx y hy => by
    obtain ⟨a, ha, rfl⟩ := List.mem_map.mp hy
    exact Nat.lt_of_le_of_lt num_le (hs.fld ha)) s.length [num s i] [] (fun x hx => by rw [List.mem_singleton.mp hx]; exact Nat.lt_of_le_of_lt num_le hi) (fun _ h => by cases h) .nil (by simp)
  refine ⟨_, num s, fun c => (tg s c).getD z, fun c => (fl s c).map (num s), met, ⟨fun a b _ _ => num_same hs, fun a ha => ?_, fun a ha => ?_, hd, rfl⟩⟩
  · obtain ⟨y, hy⟩ := tg_lt ha
    rw [num_spec.1.tag, hy]; rfl
  · have h := (num_spec (s := s) (i := a)).1
    have hl := hs.len hs h.tag
    refine List.ext_getElem? fun k => ?_
    rw [List.getElem?_map, List.getElem?_map]
    by_cases hk : k < (fl s a).length
    · have hx : (fl s (num s a))[k]? = some ((fl s (num s a))[k]'(by omega)) := List.getElem?_eq_getElem _
      have hy : (fl s a)[k]? = some ((fl s a)[k]) := List.getElem?_eq_getElem _
      rw [hx, hy]
      show some (num s _) = some (num s _)
      rw [(num_same hs).mpr (h.fld hx hy)]
    · rw [List.getElem?_eq_none (by omega), List.getElem?_eq_none (by omega)]
noncomputable def leastR (s : Sheet α) (i : Nat) : Sheet α := by
  classical exact if h : ∃ r, IsLeast s i r then Classical.choose h else []
theorem leastR_is (hs : Ok ar s) (hi : i < s.length) : IsLeast s i (leastR s i) := by
  unfold leastR
  rw [dif_pos (isLeast_ex hs hi)]
  exact Classical.choose_spec (isLeast_ex hs hi)
theorem leastR_of (hs : Ok ar s) (hi : i < s.length) (h : IsLeast s i r) : r = leastR s i := isLeast_uniq hs hs hi (Same.rf s i) h (leastR_is hs hi)
theorem leastR_same (hs : Ok ar s) (ht : Ok ar t) (hi : i < s.length) (hij : Same s t i j) : leastR s i = leastR t j := isLeast_uniq hs ht hi hij (leastR_is hs hi) (leastR_is ht (hij.lt hi))
theorem isLeast_rows (hs : Ok ar s) (hi : i < s.length) (h : IsLeast s i r) : ∃ (num : Nat → Nat) (met : List Nat), met.Nodup ∧ (∀ a b, a < s.length → b < s.length → (num a = num b ↔ Same s s a b)) ∧ r.length = met.length ∧
    ∀ k, k < r.length → ∃ a, a < s.length ∧ met[k]? = some (num a) ∧ Same r s k a := by
  obtain ⟨num, T, F, met, L⟩ := h
  have hcl := L.d.closed (by intro _ h; cases h)
  have hRm : ∀ x ∈ met, ∃ a, a < s.length ∧ x = num a := L.d.inv (P := fun x => ∃ a, a < s.length ∧ x = num a) (by
    rintro _ ⟨a, ha, rfl⟩ y hy
    rw [L.f a ha] at hy
    obtain ⟨z, hz, rfl⟩ := List.mem_map.mp hy
    exact ⟨z, hs.fld hz, rfl⟩) (by intro x hx; rw [List.mem_singleton.mp hx]; exact ⟨i, hi, rfl⟩) (by intro _ h; cases h)
  have hrl : r.length = met.length := by rw [L.r]; unfold rooted; rw [List.length_map]
  have hat : ∀ k a, met[k]? = some (num a) → a < s.length → r[k]? = some (T (num a), (F (num a)).map fun f => met.idxOf f) := fun k a hk ha => by
    rw [L.r]; unfold rooted; rw [List.getElem?_map, hk]; rfl
  refine ⟨num, met, L.d.nodup .nil, L.n, hrl, fun k hk => ?_⟩
  obtain ⟨a, ha, e⟩ := hRm _ (List.getElem_mem (by omega : k < met.length))
  have hka : met[k]? = some (num a) := by rw [List.getElem?_eq_getElem (by omega : k < met.length), e]
  refine ⟨a, ha, hka, same_of (fun k a => a < s.length ∧ met[k]? = some (num a)) (fun k a ⟨ha, hk⟩ => ⟨?_, fun c x y hx hy => ?_⟩) ⟨ha, hka⟩⟩
  · rw [tg_at (hat k a hk ha), L.t a ha]
  · rw [fl_at (hat k a hk ha)] at hx
    have hx : ((F (num a)).map fun f => met.idxOf f)[c]? = some x := hx
    rw [L.f a ha, List.map_map, List.getElem?_map, hy] at hx
    have hx : met.idxOf (num y) = x := Option.some.inj hx
    have hya := hs.fld (List.mem_of_getElem? hy)
    refine ⟨hya, ?_⟩
    have hm : num y ∈ met := hcl (num a) (List.mem_of_getElem? hk) _ (by rw [L.f a ha]; exact List.mem_map_of_mem (List.mem_of_getElem? hy))
    have hlt := List.idxOf_lt_length_iff.mpr hm
    rw [← hx, List.getElem?_eq_getElem hlt, List.getElem_idxOf hlt]
/-- no two rows write the same -/
def Red (r : Sheet α) : Prop := ∀ a b, a < r.length → b < r.length → Same r r a b → a = b
theorem isLeast_red (hs : Ok ar s) (hi : i < s.length) (h : IsLeast s i r) : Red r := by
  obtain ⟨hr, _⟩ := isLeast_same hs hi h
  obtain ⟨num, met, hd, hn, hl, hat⟩ := isLeast_rows hs hi h
  intro a b ha hb hab
  obtain ⟨x, hx, ex, sx⟩ := hat a ha
  obtain ⟨y, hy, ey, sy⟩ := hat b hb
  have e : num x = num y := (hn x y hx hy).mpr ((sx.sym.tr hs hr hab).tr hs hr sy)
  rw [← e, ← ex, List.getElem?_eq_getElem (by omega : a < met.length), List.getElem?_eq_getElem (by omega : b < met.length)] at ey
  exact ((List.getElem_inj hd).mp (Option.some.inj ey)).symm
theorem red_least (red : Red r) {T : Nat → α} (hT : ∀ k, k < r.length → tg r k = some (T k)) {met : List Nat} (d : Dfs (fl r) [i] [] met) : IsLeast r i (rooted T (fl r) met) :=
  ⟨id, T, fl r, met, ⟨fun a b ha hb => ⟨fun e => by cases e; exact Same.rf r a, fun h => red a b ha hb h⟩, hT, fun _ _ => by simp, d, rfl⟩⟩
end
end KM
set_option Elab.async false
set_option linter.all false
set_option maxRecDepth 100000
set_option maxHeartbeats 2000000
namespace KD
open PySem PySem.Spec PyProof.Rows L2
/-! ### defs that may raise an error of an own class -/
section
variable {P : Program} {w : World} {K : PySem.W.Frag} {mg : Str → Option Value} {base : Heap}
theorem okGX {x qual : Str} {st : Stmt} {f : Addr} {fd : FuncData} {N ps : List Str} {k : Nat} {sp : Sp}
    (F : Fun K x qual st f fd) (S : FnScope N ps (defScope st)) (hlen : ∀ vs H Q E, sp vs H Q E → vs.length = ps.length)
    (hbody : ∀ (cdv : Value) (A : Around) (out : List Env) (s : Shared) (H : Hp) (vs : List V) (Q : VK) (E : XK),
      Room k (A.deeper (envOfC qual (defScope st) s.heap.objs.size f cdv)) →
      Quiet (A.deeper (envOfC qual (defScope st) s.heap.objs.size f cdv)) → sp vs H Q E →
      ∃ t, PSs (cxOf (L2.CX P w) P w K mg base N qual (defScope st) f cdv A out s H E) (defBody st) t ∧
        t { nx := fun _ H' => Q .non H', rt := Q } (start N vs) H) : FnG P w K mg base (L2.CX P w) (k + 1) f fd ps sp := by
  obtain ⟨oc, od, kV, doc, pm, an, cdv, ct, osl, rfl, lk, hcd⟩ := F.ex
  exact fnG_of lk hcd S hlen fun A out s H vs Q E hr hg hsp => hbody cdv A out s H vs Q E hr hg hsp
end
section
variable {X : Cx} {CX : CXT} {k : Nat} {f : Addr} {fd : FuncData} {ps ks : List Str} {sp : Sp} {E : L2.St → XK}
  {x : Str} {p pos : Pos} {e : Expr} {es : List Expr} {t tk : TA} {kws : List Keyword} {g : List Value → List Value → List Value} {gV : List V → List V → List V}
/-- f(e, ..) where what it raises is wished for at the slots -/
theorem pe_gS (F : FnG X.prog X.w X.K X.mg X.base CX k f fd ps sp) (hr : Room k X.A) (hq : Quiet X.A) (hg : Gl X x)
    (hm : X.mg x = some (.ref f)) (hk : PySem.W.keepIn X.K (.ref f) = true) (hb : Binds X.K fd ps [])
    (hx : ∀ σ, PassesAt CX X σ (E σ)) (ha : PA X (e :: es) t) (hdb : (x == ("__debug__" : Str)) = false := by decide)
    (he : starEach (e :: es) X.env = (false, eval e X.env) :: starEach es X.env := by rfl)
    (hpl : (backTo pos (starEach es X.env)).any (·.1) = false := by rfl) :
    PE X (.Call (.Name x p) (e :: es) [] pos) (tCallS sp E t) := by
  constructor
  intro pins s σ H Q I h
  refine wpAny_Call_Name_kw (ld_glob I hg hm ?_ hdb)
  have args := ha.run pos pins s σ H _ I h
  refine PySem.W.callWith_K (h₀ := X.base) I.ok.mod.kin hk (thn args ?_) he hpl
  rintro us s1 ⟨vs, H1, I1, r, q⟩
  refine ⟨I1.kIn, ?_⟩
  have ll : us.length = ps.length := by rw [← r.length]; exact F.len _ _ _ _ q
  have bnd := hb s1 us I1.kIn (by rw [List.append_nil]; exact ll)
  rw [List.append_nil] at bnd
  have run := F.run X.A X.stack s1 H1 ⟨us, []⟩ us vs Q (E σ) hr hq I1.env0 bnd r q
  refine wpAny_call (codeAny_mono run fun r s' hq' => ?_)
  match r, hq' with
  | .error e, z => exact hx σ pins H1 s1 e s' I1 z
  | .ok (.ret u), z => exact I1.after z
  | .ok .next, z => exact False.elim z
  | .ok .brk, z => exact False.elim z
  | .ok .cont, z => exact False.elim z
def tCallKS (sp : Sp) (gV : List V → List V → List V) (E : L2.St → XK) (tk : TA) : TE := fun σ H Q => tk σ H fun zs H1 => sp (gV [] zs) H1 Q (E σ)
theorem pe_kwS (F : FnG X.prog X.w X.K X.mg X.base CX k f fd ps sp) (hr : Room k X.A) (hq : Quiet X.A) (hg : Gl X x)
    (hm : X.mg x = some (.ref f)) (hk : PySem.W.keepIn X.K (.ref f) = true) (hb : KBinds X.K fd ps ks g gV) (hx : ∀ σ, PassesAt CX X σ (E σ))
    (hkw : PK X kws tk) (hall : (backToKw pos (keywordEach kws X.env)).all (·.1.isSome) = true := by rfl)
    (hks : (backToKw pos (keywordEach kws X.env)).filterMap (·.1) = ks := by rfl)
    (hdb : (x == ("__debug__" : Str)) = false := by decide)
    (hpl : ((backTo pos (starEach [] X.env)).any (·.1) || (backToKw pos (keywordEach kws X.env)).any (·.1.isNone)) = false := by rfl) :
    PE X (.Call (.Name x p) [] kws pos) (tCallKS sp gV E tk) := by
  constructor
  intro pins s σ H Q I h
  refine wpAny_Call_Name_kw (ld_glob I hg hm ?_ hdb)
  refine PySem.W.callWith_KW0 (h₀ := X.base) I.ok.mod.kin hk hall (thn (hkw.run pos pins s σ H _ I h) ?_) hpl
  rintro ws s2 ⟨zs, H2, I2, rz, q2⟩
  refine ⟨I2.kIn, ?_⟩
  rw [hks]
  have r2 := hb.rel (.nil : Vals [] []) rz
  have hl : (g [] ws).length = ps.length := by rw [← r2.length]; exact F.len _ _ _ _ q2
  have run := F.run X.A X.stack s2 H2 ⟨[], ks.zip ws⟩ (g [] ws) (gV [] zs) Q (E σ) hr hq I2.env0 (hb.to s2 [] ws I2.kIn hl) r2 q2
  refine wpAny_call (codeAny_mono run fun r s' hq' => ?_)
  match r, hq' with
  | .error e, z => exact hx σ pins H2 s2 e s' I2 z
  | .ok (.ret u), z => exact I2.after z
  | .ok .next, z => exact False.elim z
  | .ok .brk, z => exact False.elim z
  | .ok .cont, z => exact False.elim z
end
/-! ### what the written part says of an error's class: C the class, fI its __init__, f its one field -/
structure ErrC (K : PySem.W.Frag) (C fI : Addr) (f : Str) : Prop where
  o : OexC K C
  x : XfC K C
  no : PySem.W.findIn K (.ref C) f = some none
  iC : PySem.W.findIn K (.ref C) "__init__" = some (some (.ref fI))
  tI : PySem.W.typeIn K (.ref fI) = some (.type "function")
  cl : (PySem.W.clsIn K C).isSome = true
  ca : PySem.W.findIn K (.ref C) "__class__" = some (some (.builtin "object.__class__"))
  cn : PySem.W.specialIn K (.builtin "object.__class__") "__get__" = some (some (.builtin "getset_descriptor.__get__"))
  ct : PySem.W.takesIn K (.builtin "object.__class__") = some true
  cm : PySem.W.mroIn K C (.type "object") = some true
  ss : PySem.W.subIn K (.ref C) (.ref C) = some true
theorem kit_ref {K : PySem.W.Frag} {C D : Addr} {b : Bool} (h1 : (PySem.W.clsIn K D).isSome = true) (h2 : PySem.W.typeIn K (.ref D) = some (.type "type"))
    (h3 : PySem.W.subIn K (.ref C) (.ref D) = some b) (h4 : PySem.W.subIn K (.ref C) (.ref C) = some true) : PySem.W.kitOne K (.ref C) (.ref D) = some b := by
  unfold PySem.W.kitOne
  by_cases e : C = D
  · subst e
    rw [h4] at h3
    cases h3
    rw [if_pos (by simp)]
  · rw [if_neg (by simpa using e)]
    show (if ((PySem.W.clsIn K D).isSome && PySem.W.typeIn K (.ref D) == some (.type "type")) = true then PySem.W.subIn K (.ref C) (.ref D) else none) = some b
    rw [h1, h2]
    exact (if_pos (by simp)).trans h3
theorem kit_typ {K : PySem.W.Frag} {C : Addr} {T : String} {b : Bool} (h1 : PySem.W.kitMeta T = true) (h3 : PySem.W.subIn K (.ref C) (.type T) = some b) : PySem.W.kitOne K (.ref C) (.type T) = some b := by
  unfold PySem.W.kitOne
  rw [if_neg (by simp)]
  show (if PySem.W.kitMeta T = true then PySem.W.subIn K (.ref C) (.type T) else none) = some b
  rw [if_pos h1]
  exact h3
theorem exm_of {K : PySem.W.Frag} {C D : Addr} {b : Bool} (h0 : PySem.W.subIn K (.ref D) (.type "BaseException") = some true) (h1 : (PySem.W.clsIn K D).isSome = true) (h2 : PySem.W.typeIn K (.ref D) = some (.type "type"))
    (h3 : PySem.W.subIn K (.ref C) (.ref D) = some b) : PySem.W.exmOne K (.ref C) (.ref D) = some b := by
  unfold PySem.W.exmOne
  rw [h0]
  refine (if_pos (by simp)).trans ?_
  show (if ((PySem.W.clsIn K D).isSome && PySem.W.typeIn K (.ref D) == some (.type "type")) = true then PySem.W.subIn K (.ref C) (.ref D) else none) = some b
  rw [h1, h2]
  exact (if_pos (by simp)).trans h3
theorem ErrC.te {K : PySem.W.Frag} {C fI : Addr} {f : Str} (T : ErrC K C fI f) : PySem.W.exmOne K (.ref C) (.ref C) = some true := exm_of T.o.exC T.cl T.o.tyC T.ss
/-! ### its __init__, and raising it -/
def spErrI (K : PySem.W.Frag) (C : Addr) (f : Str) : Sp := fun vs H Q _ => ∃ (a : Addr) (y : V), vs = [.ref a, y] ∧ OexC K C ∧ PySem.W.findIn K (.ref C) f = some none ∧ H a = some (exo a C none) ∧
  ∀ dx, H dx = none → dx ≠ a → Q .non (upd (upd H dx (exd dx [(f, y)])) a (exo a C (some dx)))
theorem raise_go {K : PySem.W.Frag} {C fI : Addr} {f : Str} (T : ErrC K C fI f) {σ : L2.St} {H : Hp} {ta : TA} {y : V} {W : XK} (ht : ∀ Q : List V → Hp → Prop, Q [y] H → ta σ H Q)
    (h : ∀ d, H d = none → W (.ref C) (some d) (upd H d (.xd [(f, y)]))) : tMkO C (spErrI K C f) [] ta σ H W := by
  refine ht _ ⟨(show 1 ≤ 1000 by decide), fun a ha => ?_⟩
  refine ⟨a, y, rfl, T.o, T.no, upd_same, fun dx hdx hne => ⟨rfl, dx, _, upd_same, by rw [upd_ne hne]; exact upd_same, ?_, ?_⟩⟩
  · rw [upd_ne hne] at hdx; exact hdx
  · rw [upd_ne hne] at hdx
    have e : upd (del (upd (upd (upd H a (exo a C none)) dx (exd dx [(f, y)])) a (exo a C (some dx))) a) dx (.xd [(f, y)]) = upd H dx (.xd [(f, y)]) := by
      funext b
      by_cases h1 : b = dx
      · subst h1; rw [upd_same, upd_same]
      · rw [upd_ne h1, upd_ne h1]
        by_cases h2 : b = a
        · subst h2; rw [del_same, ha]
        · rw [del_ne h2, upd_ne h2, upd_ne h1, upd_ne h2]
    rw [e]
    exact h dx hdx
/-! ### isinstance of the error that a suite holds -/
section
variable {X : Cx} {a D fI : Addr} {oe : Obj} {pn : List (Addr × Obj)} {cls : Value} {d : Option Addr} {f : Str}
def OneV (c : V) (u : Value) : Prop := ∀ w, RelV c w → w = u
theorem one_ref {B : Addr} : OneV (.ref B) (.ref B) := fun _ h => h
theorem one_ty {T : String} : OneV (.ty T) (.type T) := fun _ h => h
theorem one_all : ∀ {cs : List V} {us ws : List Value}, Paired OneV cs us → Vals cs ws → ws = us
  | [], _, _, h, r => by cases h; cases r; rfl
  | _ :: _, _, _, h, r => by
    cases h with | cons h1 h2 => ?_
    cases r with | cons r1 r2 => ?_
    rw [h1 _ r1, one_all h2 r2]
def rIsX (K : PySem.W.Frag) (a : Addr) (cls : Value) (d : Option Addr) (D : Addr) : List V → Hp → VK → Prop := fun xs H Q => cls = .ref D ∧ ∃ (c : V) (cv : Value) (b : Bool) (dd : Addr) (fs : List (Str × V)),
  xs = [.ref a, c] ∧ d = some dd ∧ H dd = some (.xd fs) ∧ OneV c cv ∧ PySem.W.kitOne K (.ref D) cv = some b ∧ Q (.bl b) H
def rIsXT (K : PySem.W.Frag) (a : Addr) (cls : Value) (d : Option Addr) (D : Addr) : List V → Hp → VK → Prop := fun xs H Q => cls = .ref D ∧ ∃ (tp : Addr) (cs : List V) (us : List Value) (b : Bool) (dd : Addr) (fs : List (Str × V)),
  xs = [.ref a, .ref tp] ∧ d = some dd ∧ H dd = some (.xd fs) ∧ H tp = some (.tup cs) ∧ Paired OneV cs us ∧ PySem.W.kitAny K (.ref D) us = some b ∧ Q (.bl b) H
theorem inst_at {pins : List (Addr × Obj)} {σ : L2.St} {H : Hp} {s : Shared} {dd : Addr} {fs : List (Str × V)} (hz : Zc (.ref D) (some dd) oe) (hf : ∃ vs, oe.data = .fields vs) (I : Inv (X.suite a ((a, oe) :: pn)) pins σ H s) (hd : H dd = some (.xd fs)) :
    ∃ od, PySem.W.InstAt s.heap a oe D (some od) := by
  obtain ⟨hget, _⟩ := I.pin (a, oe) (List.mem_append_left _ List.mem_cons_self)
  obtain ⟨vs, hv⟩ := hf
  obtain ⟨mA, hns, _⟩ := (show ObjOk X.prog X.w H s.heap dd (.xd fs) from I.hok dd _ hd)
  obtain ⟨od, ho, _⟩ := lookIn_ns hns
  refine ⟨od, hget, hz.1, ?_, ?_⟩
  · unfold PySem.W.notCls
    rw [hv]
  · rw [hz.2]; exact ho
theorem call_isX (T : ErrC X.K D fI f) (hz : Zc cls d oe) (hf : ∃ vs, oe.data = .fields vs) : CallR (X.suite a ((a, oe) :: pn)) (.builtin "isinstance") (rIsX X.K a cls d D) := by
  rintro pins s σ H xs us Q I r ⟨rfl, c, cv, b, dd, fs, rfl, rfl, held, which, e, q⟩
  obtain ⟨v1, v2, rfl, one, two⟩ := vals2 r
  obtain rfl : v1 = Value.ref a := one
  obtain rfl : v2 = cv := which v2 two
  rcases inst_at hz hf I held with ⟨_, J⟩
  exact PySem.W.kia_one (PySem.W.kitx_exc T.cl T.x.ga T.x.gg T.x.exC T.ca T.cn T.ct T.cm) I.kIn J e (fun z => nomatch z) fun tk => ⟨.bl b, H, I.tok tk, rfl, q⟩
theorem call_isXT (T : ErrC X.K D fI f) (hz : Zc cls d oe) (hf : ∃ vs, oe.data = .fields vs) : CallR (X.suite a ((a, oe) :: pn)) (.builtin "isinstance") (rIsXT X.K a cls d D) := by
  rintro pins s σ H xs us Q I r ⟨rfl, tp, cs, ws, b, dd, fs, rfl, rfl, held, at_tp, each, e, q⟩
  obtain ⟨v1, v2, rfl, one, two⟩ := vals2 r
  obtain rfl : v1 = Value.ref a := one
  obtain rfl : v2 = Value.ref tp := two
  rcases inst_at hz hf I held with ⟨_, J⟩
  rcases (I.hok tp _ at_tp : ObjOk X.prog X.w H s.heap tp (.tup cs)) with ⟨_, its, vals, ⟨kind, _, cells, _⟩, here, isTup, mark, are⟩
  cases one_all each vals
  obtain rfl : kind = _ := isTup
  obtain rfl : cells = _ := are
  have answer : ∀ tk, EP _ pins σ Q (.bool b) { s with toks := tk } := fun tk => ⟨.bl b, H, I.tok tk, rfl, q⟩
  exact PySem.W.kia_tup (PySem.W.kitx_exc T.cl T.x.ga T.x.gg T.x.exC T.ca T.cn T.ct T.cm) I.kIn J here e (fun z => nomatch z) answer
end
/-! ### pure promises told by a relation -/
def spZ (K : PySem.W.Frag) (n : Nat) (R : List PyData → PyData → Prop) : Sp := fun vs H Q _ => vs.length = n ∧
  ∃ (G : Hp) (ds : List PyData) (z : PyData), Ex G H ∧ DaAll K G vs ds ∧ R ds z ∧ ∀ v G' H', Up G H G' H' → Da K G' v z → Q v H'
section
variable {P : Program} {w : World} {K : PySem.W.Frag} {mg : Str → Option Value} {base : Heap}
theorem okZ {x qual : Str} {st : Stmt} {f : Addr} {fd : FuncData} {N ps : List Str} {k n : Nat} {R : List PyData → PyData → Prop}
    (F : Fun K x qual st f fd) (S : FnScope N ps (defScope st)) (hn : ps.length = n)
    (hbody : ∀ (cdv : Value) (A : Around) (out : List Env) (s : Shared) (H : Hp) (vs : List V) (E : XK) (G : Hp) (ds : List PyData) (z : PyData),
      Room k (A.deeper (envOfC qual (defScope st) s.heap.objs.size f cdv)) →
      Quiet (A.deeper (envOfC qual (defScope st) s.heap.objs.size f cdv)) → DaAll K G vs ds → R ds z →
      ∃ t, PSs (cxOf CX0 P w K mg base N qual (defScope st) f cdv A out s H E).nox (defBody st) t ∧ RetE K (start N vs) G t z) :
    FnG P w K mg base CX0 (k + 1) f fd ps (spZ K n R) := by
  refine okG F S (fun vs H Q E h => h.1.trans hn.symm) fun cdv A out s H vs Q E hr hq h => ?_
  obtain ⟨_, G, ds, z, eg, da, hp, q⟩ := h
  obtain ⟨t, ht, hR⟩ := hbody cdv A out s H vs E G ds z hr hq da hp
  exact ⟨t, ht, hR G H (Ex.rf _) eg _ q⟩
variable {σ : L2.St} {F : Hp} {as : TA} {ds : List PyData} {n : Nat} {R : List PyData → PyData → Prop} {z : PyData} {E : XK}
theorem e_callZ (h : EvA K σ F as ds) (hn : ds.length = n) (hp : R ds z) : EvE K σ F (tCall (spZ K n R) [] E as) z :=
  fun G H e1 e2 Q q => h G H e1 e2 _ fun vs G1 H1 u1 d1 =>
    ⟨by rw [List.append_nil, d1.length]; exact hn, G1, ds, z, u1.h, by rw [List.append_nil]; exact d1, hp, fun v G2 H2 u2 d2 => q v G2 H2 (u1.tr u2) d2⟩
theorem e_kwZ (h : EvA K σ F as ds) (hn : ds.length = n) (hp : R ds z) : EvE K σ F (tCallK (spZ K n R) kwG E tNil as) z :=
  fun G H e1 e2 Q q => h G H e1 e2 _ fun vs G1 H1 u1 d1 =>
    ⟨by show vs.length = n; rw [d1.length]; exact hn, G1, ds, z, u1.h, d1, hp, fun v G2 H2 u2 d2 => q v G2 H2 (u1.tr u2) d2⟩
theorem sp_bind {te : TE} {u : TS} {d : PyData} {i : Nat} {N : L2.St → Hp → Prop} (h : EvE K σ F te d) (hu : ∀ v F', Ex F F' → Da K F' v d → StepE K (σ.set i (some v)) F' u N z) : StepE K σ F (tSeq (tAsg te (gName i)) u) N z :=
  fun G H e1 e2 D q1 q2 => h G H e1 e2 _ fun v G1 H1 u1 dv => hu v G1 (e1.tr u1.g) dv G1 H1 (Ex.rf _) u1.h D (fun w G2 H2 u2 d2 => q1 w G2 H2 (u1.tr u2) d2) fun σ2 G2 H2 u2 n2 => q2 σ2 G2 H2 (u1.tr u2) n2
theorem sp_if1 {tt : TT} {te : TE} {N : L2.St → Hp → Prop} (h : EvT σ F tt true) (h1 : EvE K σ F te z) : StepE K σ F (tIfS tt (tRet te) tNext) N z :=
  fun G H e1 e2 D q1 q2 => h G H e1 e2 _ fun G1 H1 u1 => iteT (h1 G1 H1 (e1.tr u1.g) u1.h _ fun w G2 H2 u2 d2 => q1 w G2 H2 (u1.tr u2) d2)
theorem sp_if0 {tt : TT} {te : TE} {N : L2.St → Hp → Prop} (h : EvT σ F tt false) (hN : ∀ F', Ex F F' → N σ F') : StepE K σ F (tIfS tt (tRet te) tNext) N z :=
  fun G H e1 e2 D q1 q2 => h G H e1 e2 _ fun G1 H1 u1 => iteF (q2 σ G1 H1 u1 (hN G1 (e1.tr u1.g)))
end
end KD
set_option Elab.async false
set_option linter.all false
set_option maxRecDepth 100000
set_option maxHeartbeats 1000000
/-! D37: sets of keys of one kind whose walk is known (every member once, in some order). -/
namespace L2
open PySem PySem.Spec PyProof.Rows
section
variable {P : Program} {w : World} {K : Type} [DecidableEq K] {knd : PySem.KeyKind P w K}

/-- no key is shown by both -/
def Apart (knd : PySem.KeyKind P w K) (e f : Int × Value) : Prop := ∀ k, knd.is k e.2 = true → knd.is k f.2 = true → False
theorem Apart.symm {e f : Int × Value} (h : Apart knd e f) : Apart knd f e := fun k a b => h k b a

/-- the entries show the members S, each once -/
structure Shown (knd : PySem.KeyKind P w K) (es : Array (Int × Value)) (S : K → Bool) : Prop where
  el : ElemsOf knd es.toList
  ap : es.toList.Pairwise (Apart knd)
  me : ∀ k, S k = true ↔ ∃ e ∈ es.toList, knd.is k e.2 = true

/-- the table can be walked -/
structure Walked (w : World) (es : Array (Int × Value)) (t : SetTable) : Prop where
  few : es.size < scanBound
  fit : t.fits es.size = true
  ris : Ris t.place.toList
  led : w.params.followText "set-order" = true ∨ t.led = true

def SetG (knd : PySem.KeyKind P w K) (h : Heap) (a : Addr) (S : K → Bool) (n : Nat) : Prop :=
  ∃ o es ep t, (h.get? a = some o ∧ o.ExactSet ∧ o.data = .set es ep t) ∧ Shown knd es S ∧ Walked w es t ∧ es.size = n

theorem SetG.keep {h h' : Heap} {a : Addr} {S : K → Bool} {n : Nat} (R : SetG knd h a S n) (k : ∀ o, h.get? a = some o → h'.get? a = some o) : SetG knd h' a S n := by
  obtain ⟨o, es, ep, t, ⟨ho, r⟩, q⟩ := R
  exact ⟨o, es, ep, t, ⟨k o ho, r⟩, q⟩
theorem SetG.cast {h : Heap} {a : Addr} {S T : K → Bool} {n m : Nat} (R : SetG knd h a S n) (e : ∀ k, S k = T k) (en : n = m) : SetG knd h a T m := by
  cases en
  cases (funext e : S = T)
  exact R

theorem Shown.perm {es fs : Array (Int × Value)} {S : K → Bool} (G : Shown knd es S) (p : fs.toList.Perm es.toList) : Shown knd fs S where
  el := fun e he => G.el e (p.mem_iff.mp he)
  ap := (p.pairwise_iff (fun h => h.symm)).mpr G.ap
  me := fun k => (G.me k).trans ⟨fun ⟨e, a, b⟩ => ⟨e, p.mem_iff.mpr a, b⟩, fun ⟨e, a, b⟩ => ⟨e, p.mem_iff.mp a, b⟩⟩

theorem Shown.more {es fs : Array (Int × Value)} {S : K → Bool} {k : K} {v : Value} (G : Shown knd es S) (hk : knd.is k v = true) (hv : v.scannable = true) (no : S k = false)
    (p : fs.toList.Perm ((knd.hash k, v) :: es.toList)) : Shown knd fs (fun j => S j || decide (j = k)) := by
  have new : ∀ e ∈ es.toList, Apart knd (knd.hash k, v) e := fun e he j a b => by
    have ej : j = k := knd.inj v j k a hk
    have := (G.me j).mpr ⟨e, he, b⟩
    rw [ej, no] at this
    cases this
  refine ⟨fun e he => ?_, (p.pairwise_iff (fun h => h.symm)).mpr (List.pairwise_cons.mpr ⟨new, G.ap⟩), fun j => ?_⟩
  · rcases List.mem_cons.mp (p.mem_iff.mp he) with z | z
    · subst z
      exact ⟨⟨k, hk, rfl⟩, hv⟩
    · exact G.el e z
  · rw [Bool.or_eq_true, decide_eq_true_eq, G.me j]
    constructor
    · rintro (⟨e, a, b⟩ | z)
      · exact ⟨e, p.mem_iff.mpr (List.mem_cons_of_mem _ a), b⟩
      · subst z
        exact ⟨_, p.mem_iff.mpr List.mem_cons_self, hk⟩
    · rintro ⟨e, a, b⟩
      rcases List.mem_cons.mp (p.mem_iff.mp a) with z | z
      · subst z
        exact .inr (knd.inj v j k b hk)
      · exact .inl ⟨e, z, b⟩

/-- the values show the keys, in their order -/
inductive Named (knd : PySem.KeyKind P w K) : List K → List Value → Prop
  | nil : Named knd [] []
  | cons {k v ks vs} : knd.is k v = true → Named knd ks vs → Named knd (k :: ks) (v :: vs)
theorem Named.length {ks : List K} {vs : List Value} (h : Named knd ks vs) : ks.length = vs.length := by
  induction h with
  | nil => rfl
  | cons _ _ ih => rw [List.length_cons, List.length_cons, ih]
/-- values that show keys, none the same, have a row of keys -/
theorem named_of : ∀ vs : List Value, (∀ v ∈ vs, ∃ k, knd.is k v = true) → vs.Pairwise (fun u v => ∀ k, knd.is k u = true → knd.is k v = true → False) →
    ∃ ks : List K, ks.Nodup ∧ (∀ k, k ∈ ks ↔ ∃ v ∈ vs, knd.is k v = true) ∧ Named knd ks vs := by
  intro vs
  induction vs with
  | nil => exact fun _ _ => ⟨[], List.nodup_nil, fun k => ⟨fun h => (nomatch h), fun ⟨e, h, _⟩ => (nomatch h)⟩, .nil⟩
  | cons x l ih =>
    intro a b
    obtain ⟨b1, b2⟩ := List.pairwise_cons.mp b
    obtain ⟨ks, n1, n2, n3⟩ := ih (fun v hv => a v (List.mem_cons_of_mem _ hv)) b2
    obtain ⟨k, hk⟩ := a x List.mem_cons_self
    refine ⟨k :: ks, List.nodup_cons.mpr ⟨fun h => ?_, n1⟩, fun j => ?_, .cons hk n3⟩
    · obtain ⟨e, he, q⟩ := (n2 k).mp h
      exact b1 e he k hk q
    · rw [List.mem_cons, n2 j]
      constructor
      · rintro (z | ⟨e, c, d⟩)
        · subst z
          exact ⟨x, List.mem_cons_self, hk⟩
        · exact ⟨e, List.mem_cons_of_mem _ c, d⟩
      · rintro ⟨e, c, d⟩
        rcases List.mem_cons.mp c with z | z
        · subst z
          exact .inl (knd.inj _ j k d hk)
        · exact .inr ⟨e, z, d⟩
/-- the members, each once, in the order of a walk -/
theorem Shown.names {es : Array (Int × Value)} {S : K → Bool} (G : Shown knd es S) {vs : List Value} (p : vs.Perm (es.toList.map (·.2))) :
    ∃ ks : List K, ks.Nodup ∧ (∀ k, k ∈ ks ↔ S k = true) ∧ Named knd ks vs := by
  obtain ⟨ks, n1, n2, n3⟩ := named_of (knd := knd) vs (fun v hv => by
    obtain ⟨e, he, q⟩ := List.mem_map.mp (p.mem_iff.mp hv)
    obtain ⟨⟨k, hk, _⟩, _⟩ := G.el e he
    exact ⟨k, by rw [← q]; exact hk⟩) ((p.pairwise_iff (fun h k a b => h k b a)).mpr (List.pairwise_map.mpr G.ap))
  refine ⟨ks, n1, fun k => (n2 k).trans (Iff.trans ⟨fun ⟨v, a, b⟩ => ?_, fun ⟨e, a, b⟩ => ⟨e.2, p.mem_iff.mpr (List.mem_map.mpr ⟨e, a, rfl⟩), b⟩⟩ (G.me k).symm), n3⟩
  obtain ⟨e, he, q⟩ := List.mem_map.mp (p.mem_iff.mp a)
  exact ⟨e, he, by rw [q]; exact b⟩
end

section
variable {P : Program} {w : World} {K : Type} [DecidableEq K] [BEq K] [LawfulBEq K] {knd : PySem.KeyKind P w K} {A : Around} {E : Value → Shared → Prop} {s : Shared} {a : Addr} {S : K → Bool} {n : Nat}

theorem setG_tail {g : Bool → Sem Unit} (hg : ∀ b (s1 : Shared) (Q1 : Unit → Shared → Prop), Q1 () s1 → wpAny (model P w) A (g b) Q1 E s1)
    {o : Obj} {es fs : Array (Int × Value)} {ep : Nat} {t u : SetTable} (at0 : s.heap.get? a = some o ∧ o.ExactSet ∧ o.data = .set es ep t) {T : K → Bool} (G : Shown knd fs T) (W : Walked w fs u)
    {old : Bool} {R : Option Bool → Shared → Prop} (fin : ∀ h', Heap.SameBut a s.heap h' → SetG knd h' a T fs.size → R (some true) { s with heap := h' }) :
    wpAny (model P w) A (do
        storeSet a fs u
        if (!old && u.tooFull) = true then do
            g (relayAll u fs (SetTable.grown fs.size)).2.2
            storeSet a (relayAll u fs (SetTable.grown fs.size)).1 (relayAll u fs (SetTable.grown fs.size)).2.1
            pure (some true)
          else pure (some true)) R E s := by
  obtain ⟨ho, hex, hd⟩ := at0
  refine wpAny_bind (wpAny_storeSet_of ho hd ?_ (fits_of_scanBound W.few))
  have at1 := store_at (es' := fs) (t' := u) ho hd
  have same := Heap.SameBut.update s.heap a (Obj.putSet fs u)
  split
  · have p := relayAll_perm u fs (SetTable.grown fs.size)
    have f := relayAll_fits u fs (SetTable.grown fs.size)
    have r := relayAll_ris u fs (SetTable.grown fs.size)
    have l := relayAll_led u fs (SetTable.grown fs.size)
    generalize relayAll u fs (SetTable.grown fs.size) = Z at p f r l ⊢
    obtain ⟨gs, u2, gave⟩ := Z
    dsimp only at p f r l ⊢
    have z : gs.size = fs.size := by rw [← Array.length_toList, p.length_eq, Array.length_toList]
    have W2 : Walked w gs u2 := ⟨by rw [z]; exact W.few, f, r, W.led.imp id fun y => by rw [l]; exact y⟩
    refine wpAny_bind (hg _ _ _ ?_)
    refine wpAny_bind (wpAny_storeSet_of at1 rfl ?_ (fits_of_scanBound W2.few))
    exact wpAny_pure (fin _ (same.trans (Heap.SameBut.update _ a _)) ⟨_, gs, _, u2, ⟨store_at (es' := gs) (t' := u2) at1 rfl, hex, rfl⟩, G.perm p, W2, z⟩)
  · exact wpAny_pure (fin _ same ⟨_, fs, _, u, ⟨at1, hex, rfl⟩, G, W, rfl⟩)

theorem setG_add {k : K} {v : Value} {Q : Bool → Shared → Prop} (hk : knd.is k v = true) (hv : v.scannable = true) (R : SetG knd s.heap a S n) (room : n + 1 < scanBound)
    (fin : ∀ h', Heap.SameBut a s.heap h' → SetG knd h' a (fun j => S j || decide (j = k)) (if S k = true then n else n + 1) → Q (!S k) { s with heap := h' }) :
    wpAny (model P w) A (setAddHashed a v (knd.hash k)) Q E s := by
  rcases R with ⟨o, es, ep, t, ⟨ho, hex, hd⟩, G, W, hn⟩
  have scan := byScan_of hv W.few G.el
  unfold setAddHashed setAddHashedIn
  apply wpAny_holding
  refine wpAny_bind (wpAny_setState_of ho hd W.fit (wp_if_pos scan ?_))
  unfold setAddByScan
  refine wpAny_bind (wpAny_bind (wpAny_rule (wpAny_bind (wpAny_setScan_of hk ho hd W.fit G.el ?_))))
  cases look : List.findIdx? (fun e => knd.is k e.2) es.toList with
  | some j =>
    have yes : S k = true := by
      obtain ⟨lt, is, _⟩ := List.findIdx?_eq_some_iff_getElem.mp look
      exact (G.me k).mpr ⟨_, List.getElem_mem lt, is⟩
    apply wpAny_pure
    apply wpAny_pure
    have q := fin s.heap (Heap.SameBut.refl a s.heap) (SetG.cast ⟨o, es, ep, t, ⟨ho, hex, hd⟩, G, W, hn⟩ (fun i => by
      by_cases c : i = k
      · subst c
        rw [yes] <;> rfl
      · simp [c]) (by rw [if_pos yes]))
    rw [yes] at q
    exact q
  | none =>
    dsimp only
    have no : S k = false := by
      cases q : S k with
      | false => rfl
      | true =>
        obtain ⟨e, he, z⟩ := (G.me k).mp q
        have c := List.findIdx?_eq_none_iff.mp look e he
        rw [z] at c
        cases c
    have gw : ∀ (b : Bool) {s1 : Shared} {Q1 : Unit → Shared → Prop}, Q1 () s1 → wpAny (model P w) A (match b with | true => rule "set.scan.the-table-gave-way" | false => pure ()) Q1 E s1 :=
      fun b s1 Q1 q => by cases b <;> first | exact wpAny_pure q | exact wpAny_rule q
    have p := layNew_perm t es (knd.hash k) v
    have f := layNew_fits t es (knd.hash k) v
    have r := layNew_ris t es (knd.hash k) v W.ris
    have l := layNew_led t es (knd.hash k) v
    generalize layNew t es (knd.hash k) v = Z at p f r l ⊢
    obtain ⟨fs, u, old, gave⟩ := Z
    dsimp only at p f r l ⊢
    rw [Array.toList_push] at p
    have p2 : fs.toList.Perm ((knd.hash k, v) :: es.toList) := p.trans (List.perm_append_singleton _ _)
    have z : fs.size = n + 1 := by rw [← Array.length_toList, p2.length_eq, List.length_cons, Array.length_toList, hn]
    have G1 := G.more hk hv no p2
    have W1 : Walked w fs u := ⟨by rw [z]; exact room, f, r, W.led.imp id fun y => by rw [l]; exact y⟩
    have fin1 : ∀ h', Heap.SameBut a s.heap h' → SetG knd h' a (fun j => S j || decide (j = k)) fs.size → Q true { s with heap := h' } := fun h' sb x => by
      have q := fin h' sb
      rw [no] at q
      exact q (x.cast (fun _ => rfl) z)
    refine wpAny_bind (gw _ ?_)
    split
    · refine wpAny_bind ?_
      rw [hashByValue_scannable 8 hv]
      refine wpAny_pure ?_
      refine setG_tail ?_ ⟨ho, hex, hd⟩ G1 ?_ ?_
      · intro b s1 Q1 q
        cases b <;> first | exact wpAny_pure q | exact wpAny_rule q
      · first
          | (split <;> first | exact W1 | exact ⟨W1.few, SetTable.fits_plain_off W1.fit, W1.ris, W1.led⟩)
          | exact W1
      · intro h' sb x
        dsimp only
        exact wpAny_pure (fin1 h' sb x)
    · refine wpAny_bind (wpAny_pure ?_)
      simp only [↓reduceIte]
      refine setG_tail ?_ ⟨ho, hex, hd⟩ G1 W1 ?_
      · intro b s1 Q1 q
        cases b <;> first | exact wpAny_pure q | exact wpAny_rule q
      · intro h' sb x
        dsimp only
        exact wpAny_pure (fin1 h' sb x)
end
end L2
namespace L2
open PySem PySem.Spec PyProof.Rows
section
variable {P : Program} {w : World} {K : Type} [DecidableEq K] [BEq K] [LawfulBEq K] {knd : PySem.KeyKind P w K} {A : Around} {E : Value → Shared → Prop} {R : Result → Shared → Prop} {s : Shared}

/-- the set of the first i keys -/
def SetUpto (knd : PySem.KeyKind P w K) (h : Heap) (a : Addr) (ks : List K) (i : Nat) : Prop := ∃ n, n ≤ i ∧ SetG knd h a (fun k => decide (k ∈ ks.take i)) n
theorem SetUpto.keep {h h' : Heap} {a : Addr} {ks : List K} {i : Nat} (R : SetUpto knd h a ks i) (k : ∀ o, h.get? a = some o → h'.get? a = some o) : SetUpto knd h' a ks i := by
  obtain ⟨n, hn, r⟩ := R
  exact ⟨n, hn, r.keep k⟩

/-- every item of the walk is put into the set -/
theorem set_fill {I : Addr} {fp wr : List Addr} {G : Array GenState → Array GenState → Prop} {Pv : Nat → Value → Prop} {St : Nat → Shared → Prop} {ks : List K}
    (W : WalksS P w A.in1 I fp wr G ks.length Pv St) (a : Addr) (apart : a ∉ fp) (val : ∀ i v, Pv i v → ∃ k, ks[i]? = some k ∧ knd.is k v = true ∧ v.scannable = true) (few : ks.length + 1 < scanBound) :
    ∀ (m i : Nat) (s : Shared), ks.length - i = m → i ≤ ks.length → St i s → SetUpto knd s.heap a ks i → (∀ s', Moved (a :: wr) G s s' → SetUpto knd s'.heap a ks ks.length → R (.ok (.ret .none)) s') →
      codeAny (model P w) A (.builtin "set.update.loop" ⟨[.ref a, .ref I], []⟩) R s := by
  have nw : a ∉ wr := fun h => apart (W.sub _ h)
  have more : ∀ b ∈ wr, b ∈ a :: wr := fun b hb => List.mem_cons_of_mem _ hb
  intro m
  induction m with
  | zero =>
    intro i s hm hi hst hS fin
    obtain rfl : i = ks.length := by omega
    refine codeAny_builtin PyProof.Rows.F.entry_set_update_loop ?_
    rw [Around.under_plainId PyProof.Rows.F.plain_set_update_loop _]
    show wpAny _ A.in1 (pyNext (.ref I) >>= _) _ _ s
    refine wpAny_bind (W.done s _ _ hst fun s' mv => ?_)
    exact wpAny_pure (fin s' (mv.mono more) (hS.keep fun o e => mv.heap a o nw e))
  | succ m ih =>
    intro i s hm hi hst hS fin
    have lt : i < ks.length := by omega
    refine codeAny_builtin PyProof.Rows.F.entry_set_update_loop ?_
    rw [Around.under_plainId PyProof.Rows.F.plain_set_update_loop _]
    show wpAny _ A.in1 (pyNext (.ref I) >>= _) _ _ s
    refine wpAny_bind (W.item i s _ _ lt hst fun v s' pv hst' mv => ?_)
    obtain ⟨k, ek, hk, hv⟩ := val i v pv
    obtain ⟨n, hn, hG⟩ := hS.keep fun o e => mv.heap a o nw e
    show wpAny _ A.in1 (holding [v] (setAdd a v) >>= _) _ _ s'
    refine wpAny_bind (wpAny_holding ?_)
    unfold setAdd
    refine wpAny_holding ?_
    refine wpAny_bind (knd.pyHash (k := k) hk ?_)
    refine setG_add (s := { s' with toks := s'.toks + 1 }) hk hv hG (by omega) fun h' sb hG2 => ?_
    have up : SetUpto knd h' a ks (i + 1) := by
      refine ⟨_, ?_, hG2.cast (fun j => ?_) rfl⟩
      · split <;> omega
      · have et : ks.take (i + 1) = ks.take i ++ [k] := by rw [List.take_add_one, ek] <;> rfl
        rw [et]
        simp [Bool.decide_or]
    refine wpAny_pure ⟨plainId_quiet PyProof.Rows.F.plain_set_update_loop _, ih (i + 1) _ (by omega) lt (W.frame _ s' _ _ hst' (Nat.le_succ _) fun b hb o e => ?_) up fun s2 mv2 hS2 => ?_⟩
    · rw [sb.2 b (fun z : b = a => apart (by rw [← z]; exact hb))]
      exact e
    · refine fin s2 (Moved.trans W.gtrans ((mv.mono more).then_heap (Nat.le_succ _) fun b o hb e => ?_) mv2) hS2
      rw [sb.2 b (fun z : b = a => hb (by rw [z]; exact List.mem_cons_self))]
      exact e
end
end L2
namespace L2
open PySem PySem.Spec PyProof.Rows
section
variable {P : Program} {w : World} {K : Type} [DecidableEq K] [BEq K] [LawfulBEq K] {knd : PySem.KeyKind P w K} {A : Around} {E : Value → Shared → Prop} {s : Shared}

/-- a set as it is when nothing is in it -/
def bare (w : World) : Obj := { cls := .type "set", dict := none, data := .set #[] 0 (.fresh 0 0 (!w.params.followText "set-order")) }
theorem setG_bare {h : Heap} {a : Addr} (e : h.get? a = some (bare w)) : SetG knd h a (fun _ => false) 0 :=
  ⟨_, #[], 0, _, ⟨e, ⟨rfl, rfl, rfl⟩, rfl⟩, ⟨fun e he => by simp at he, List.Pairwise.nil, fun k => by simp⟩, ⟨by decide, by rfl, List.Pairwise.nil, by
    show _ ∨ (!w.params.followText "set-order") = true
    cases w.params.followText "set-order"
    · exact .inr rfl
    · exact .inl rfl⟩, rfl⟩

set_option maxHeartbeats 3200000 in
/-- set(v): a bare set is made, then its __init__ is asked; what that is to give stands in `start` -/
theorem set_born {v : Value} {T : Heap → Prop} {Q : Value → Shared → Prop}
    (start : ∀ (F : PySem.Fin → Shared → Prop) (E' : Value → Shared → Prop), (∀ h' tk, T h' → F (.done (.ret .none)) { s with heap := h', toks := tk }) →
      wpAny (model P w) A.in1.in1 (Builtin.«set.__init__» ⟨[.ref s.heap.objs.size, v], []⟩) F E' { s with heap := s.heap.push (bare w) })
    (fin : ∀ h' tk, T h' → Q (.ref s.heap.objs.size) { s with heap := h', toks := tk }) : wpAny (model P w) A (call (.type "set") [v]) Q E s := by
  have known := PySem.F.called_set
  rcases known.mro with ⟨first, others, order⟩
  have k1 := known.made
  have k2 := known.sub
  have k3 := known.notType
  have k4 := known.canCreate
  have k5 := PySem.F.typeCall_set_1 v
  apply wpAny_call
  apply codeAny_of_tree
  change wpAny _ _ (callAny (.type "set") _) _ _ _
  apply wpAny_pure
  refine ⟨Code.quiet_builtin _ (by decide +kernel), codeAny_builtin PySem.F.entry_type_call ?_⟩
  have flat := fun B => Around.under_plain (A := B) (weight_type_call_type "set" [v] []) rfl
  rw [flat]
  repeat any_goals first | assumption | wp_step
  have born := code_set_led1 (P := P) (w := w) (A := A.in1) (E := E) (s := s) v (Q₁ := fun ob s1 => ob = .ref s.heap.objs.size ∧ s1 = { s with heap := s.heap.push (bare w) }) ⟨rfl, rfl⟩
  have look := known.init.lookup
  have bound := known.init.bind (.ref s.heap.objs.size)
  have stands : (s.heap.push (bare w)).get? s.heap.objs.size = some (bare w) := Heap.get?_push_size _ rfl
  have isSet : Shared.TypeIs { s with heap := s.heap.push (bare w) } (.ref s.heap.objs.size) "set" := ⟨bare w, stands, rfl⟩
  apply codeAny_mono born
  rintro (err | flow) s1 h
  · exact h
  cases flow
  case ret ob =>
    obtain ⟨rfl, rfl⟩ := h
    repeat any_goals first | assumption | wp_step
    have asked := codeAny_call_builtin (A := A.in1) (R := wants (fun r s2 => r = .none ∧ ∃ h' tk, s2 = { s with heap := h', toks := tk } ∧ T h') E) known.init.plain PySem.F.entry_set_init
      (PySem.check_set_init_1 isSet (start _ _ fun h' tk t => ⟨rfl, h', tk, rfl, t⟩))
    apply codeAny_mono asked
    rintro (err | flow) s2 h
    · exact h
    cases flow
    case ret r =>
      obtain ⟨rfl, h', tk, rfl, t⟩ := h
      repeat any_goals first | assumption | wp_step
      exact fin h' tk t
    all_goals exact h.elim
  all_goals exact h.elim
set_option maxHeartbeats 3200000 in
/-- set(xs), xs a list: `fill` tells what the walk over it makes of a bare set -/
theorem set_from {l : Addr} {items : Array Value} {T : Heap → Prop} {Q : Value → Shared → Prop} (calm : A.handled = none) (hl : s.heap.IsList l items)
    (fill : ∀ (I : Addr) (s0 : Shared) (R : Result → Shared → Prop), I = s.heap.objs.size + 1 →
      WalksS P w A.in1.in1.in1 I [I, l] [I] (fun x y => y = x) items.size (fun i v => items[i]? = some v) (fun i u => u.heap.IsListIter I l i ∧ u.heap.IsList l items) →
      (s0.heap.IsListIter I l 0 ∧ s0.heap.IsList l items) → s.heap.objs.size ∉ [I, l] → s0.heap.get? s.heap.objs.size = some (bare w) → (∀ b o, s.heap.get? b = some o → s0.heap.get? b = some o) →
      (∀ s', Moved [s.heap.objs.size, I] (fun x y => y = x) s0 s' → T s'.heap → R (.ok (.ret .none)) s') →
      codeAny (model P w) A.in1.in1 (.builtin "set.update.loop" ⟨[.ref s.heap.objs.size, .ref I], []⟩) R s0)
    (fin : ∀ h' tk, T h' → (∀ b o, s.heap.get? b = some o → h'.get? b = some o) → Q (.ref s.heap.objs.size) { s with heap := h', toks := tk }) :
    wpAny (model P w) A (call (.type "set") [.ref l]) Q E s := by
  refine set_born (T := fun h' => T h' ∧ ∀ b o, s.heap.get? b = some o → h'.get? b = some o) (fun F E' give => ?_) fun h' tk t => fin h' tk t.1 t.2
  rcases hl with ⟨⟨kind, odict, cells, slots⟩, at_l, isList, mark, are⟩
  obtain rfl : kind = _ := isList
  obtain rfl : cells = _ := are
  have below := Heap.lt_size at_l
  have still : (s.heap.push (bare w)).get? l = _ := Heap.get?_push_of_some _ at_l
  have plain : (s.heap.push (bare w)).IsList l items := ⟨_, still, rfl, mark, rfl⟩
  have n1 := PySem.F.sub_list_set
  have n2 := PySem.F.sub_list_frozenset
  have n3 : ¬ (Value.type "list" == Value.type "dict") = true := by decide
  unfold Builtin.«set.__init__» Builtin.Frozenset.updateFrom noKeywords
  generalize hPI : pyIter = PI
  wp_walk
  subst hPI
  apply wpAny_pyIter_list plain
  apply wpAny_bind
  apply wpAny_runValue
  have size : (s.heap.push (bare w)).objs.size = s.heap.objs.size + 1 := Heap.size_push ..
  have apart : l ≠ (s.heap.push (bare w)).objs.size := size ▸ Nat.ne_of_lt (Nat.lt_succ_of_lt below)
  have out : s.heap.objs.size ∉ [(s.heap.push (bare w)).objs.size, l] := fun z => by
    rcases List.mem_cons.mp z with z | z
    · exact Nat.succ_ne_self _ (z.trans size).symm
    · exact Nat.ne_of_gt below (List.mem_singleton.mp z)
  have kept : ∀ b o, s.heap.get? b = some o → ∀ o' : Obj, ((s.heap.push (bare w)).push o').get? b = some o := fun b o e o' => Heap.get?_push_of_some _ (Heap.get?_push_of_some _ e)
  refine fill _ _ _ size (Walks.list (by simp [calm]) _ l apart items).toS ⟨⟨_, Heap.get?_push_size _ rfl, rfl, rfl⟩, plain.push _⟩ out (Heap.get?_push_of_some _ (Heap.get?_push_size _ rfl)) (fun b o e => kept b o e _) ?_
  rintro ⟨h', gens, drawn, tk, os⟩ moved t
  obtain rfl : gens = s.gens := moved.gens
  obtain rfl : drawn = s.drawn := moved.drawn
  obtain rfl : os = s.os := moved.os
  change wpAny _ _ _ _ _ _
  apply wpAny_pure
  change wpAny _ _ (ret Value.none) _ _ _
  refine wpAny_pure (give h' tk ⟨t, fun b o e => moved.heap b o (fun z => ?_) (kept b o e _)⟩)
  have lt := Heap.lt_size e
  rcases List.mem_cons.mp z with z | z
  · exact Nat.lt_irrefl b (z ▸ lt)
  · rw [(List.mem_singleton.mp z).trans size] at lt
    exact Nat.not_succ_le_self _ (Nat.le_of_lt lt)
/-- set(xs), xs a list of things of one kind -/
theorem set_of_list {l : Addr} {items : Array Value} {ks : List K} {Q : Value → Shared → Prop} (calm : A.handled = none) (hl : s.heap.IsList l items)
    (hi : ∀ (i : Nat) (v : Value), items[i]? = some v → ∃ k, ks[i]? = some k ∧ knd.is k v = true ∧ v.scannable = true) (hz : items.size = ks.length) (few : ks.length + 1 < scanBound)
    (fin : ∀ (h' : Heap) (tk : Nat), SetUpto knd h' s.heap.objs.size ks ks.length → (∀ b o, b < s.heap.objs.size → s.heap.get? b = some o → h'.get? b = some o) →
      Q (.ref s.heap.objs.size) { s with heap := h', toks := tk }) :
    wpAny (model P w) A (call (.type "set") [.ref l]) Q E s := by
  refine set_from (T := fun h' => SetUpto knd h' s.heap.objs.size ks ks.length) calm hl (fun I s0 R _ W st out at_a _ done => ?_) fun h' tk t kept => fin h' tk t fun b o _ e => kept b o e
  rw [hz] at W
  refine set_fill W s.heap.objs.size out hi few ks.length 0 s0 rfl (Nat.zero_le _) st ⟨0, Nat.le_refl _, (setG_bare at_a).cast (fun k => by simp) rfl⟩ fun s' moved t => done s' moved t
end
/-- f(set(a)), f a builtin: what a gives, then set(..) of it, then f of that set -/
theorem ofSet {X : Cx} {f : String} {a : Expr} {ta : TE} {G : VK → VK} {p p2 q pos : Pos} (hg : Gl X f) (hm : X.mg f = none) (bt : bootBuiltins f = some (.builtin f)) (hg2 : Gl X "set") (hm2 : X.mg "set" = none) (ha : PE X a ta)
    (na : starEach [a] X.env = (false, eval a X.env) :: starEach [] X.env)
    (main : ∀ pins s σ Q v, EP X pins σ (G Q) v s →
      wpAny (model X.prog X.w) X.A (call (.type "set") [v]) (fun u s' => wpAny (model X.prog X.w) X.A (call (.builtin f) [u]) (EP X pins σ Q) X.xe s') X.xe s)
    (n1 : (f : Str) ≠ "__name__" := by decide) (n2 : ((f : Str) == ("__debug__" : Str)) = false := by decide) :
    PE X (.Call (.Name f p) [.Call (.Name "set" p2) [a] [] q] [] pos) (fun σ H Q => ta σ H (G Q)) := by
  constructor
  intro pins s σ H Q I h
  refine PyProof.Rows.Call_ (ld_blt I hg hm bt (PyProof.Rows.callWith_builtin1 (PyProof.Rows.args_cons (PyProof.Rows.Call_ ?_) rfl) rfl rfl) n1 n2)
  refine ld_blt I hg2 hm2 PyProof.Rows.boot_set (PyProof.Rows.callWith_type1 (PyProof.Rows.args_cons ?_ na) na rfl)
  refine thn (ha.run pins s σ H _ I h) fun v s1 given => PyProof.Rows.args_nil ?_
  exact thn (main pins s1 σ Q v given) fun u s2 r => PyProof.Rows.args_nil r
end L2
set_option Elab.async false
set_option linter.all false
set_option maxRecDepth 100000
set_option maxHeartbeats 1000000
/-! D38: sorted(set(texts)), len(set(texts)); a target with a star. -/
namespace L2
open PySem PySem.Spec PyProof.Rows
section
variable {P : Program} {w : World}
theorem named_strs : ∀ {ks : List Str} {vs : List Value}, Named (PySem.strKind P w) ks vs → StrsAre vs ks
  | _, _, .nil => .nil
  | _, _, .cons h t => by
    obtain ⟨u, e⟩ := Value.isStrOf_shape h
    subst e
    exact .cons _ _ (named_strs t)
theorem strs_kinds {ks : List Str} {vs : List Value} (h : StrsAre vs ks) : ∀ (i : Nat) (v : Value), vs.toArray[i]? = some v → ∃ k, ks[i]? = some k ∧ (PySem.strKind P w).is k v = true ∧ v.scannable = true := by
  induction h with
  | nil => exact fun i v e => by simp at e
  | cons x t r ih =>
    intro i v e
    cases i with
    | zero =>
      have e1 : Value.str x t = v := by simpa using e
      subst e1
      exact ⟨x, rfl, PySem.strKind_is P w x t, rfl⟩
    | succ i => exact ih i v (by simpa using e)
end
section
variable {X : Cx}
/-- sorted(set(xs)), xs a list of texts -/
def tSortSet (K : PySem.W.Frag) (ta : TE) : TE := fun σ H Q => ta σ H fun x H1 => ∃ (l : Addr) (ks : List Str), x = .ref l ∧ SqL K H1 l (ks.map V.str) ∧ ks.length < 64 ∧
  ∀ ys p, ys.Nodup → (∀ k, k ∈ ys ↔ k ∈ ks) → ys.length ≤ ks.length → sortedS ys = true → H1 p = none → Q (.ref p) (upd H1 p (.lst (ys.map V.str)))
theorem pe_sortSet {a : Expr} {ta : TE} {p p2 q pos : Pos} (hc : X.calm = true) (hg : Gl X "sorted") (hm : X.mg "sorted" = none) (hg2 : Gl X "set") (hm2 : X.mg "set" = none) (ha : PE X a ta)
    (na : starEach [a] X.env = (false, eval a X.env) :: starEach [] X.env := by rfl) : PE X (.Call (.Name "sorted" p) [.Call (.Name "set" p2) [a] [] q] [] pos) (tSortSet X.K ta) := by
  unfold tSortSet
  refine ofSet (ta := ta) hg hm PyProof.Rows.boot_sorted hg2 hm2 ha na fun pins s1 σ Q v ⟨x, H1, I1, r1, l, ks, ex, hq, few, q1⟩ => ?_
  subst ex
  cases r1
  obtain ⟨its, r, pl, hz⟩ := I1.list hq
  have hS := r.strs
  have hl : its.length = ks.length := by
    have z := r.length
    rw [List.length_map] at z
    exact z.symm
  refine set_of_list (knd := PySem.strKind X.prog X.w) (I1.ok.hd hc) pl.isList (ks := ks) (strs_kinds hS) (by simp [hl]) (by unfold scanBound; omega) fun h' tk up keep => ?_
  obtain ⟨n, hn, o, es, ep, t, ⟨ho, hex, hd⟩, G, W, en⟩ := up
  have I2 : Inv X pins σ H1 { s1 with heap := h', toks := tk } := I1.kept fun b o e => keep b o (Heap.lt_size e) e
  refine Calls.call_function_entry PyProof.Rows.kind_sorted PyProof.Rows.plain_sorted PyProof.Rows.entry_sorted (PyProof.Rows.args_sorted1 _) ?_
  unfold Builtin.«sorted»
  refine wpAny_bind (m := checkCount "sorted" 1 1 _) (wpAny_pure ?_)
  refine wpAny_bind (collect_set (s := { s1 with heap := h', toks := tk }) (A := X.A.in1) (I2.ok.hd hc) ⟨o, ho, hex.1, hd⟩ W.fit W.few W.ris W.led fun s2 vs k1 hz2 g1 o1 pm => ?_)
  obtain ⟨ys, y1, y2, y3⟩ := G.names pm
  have hY := named_strs y3
  have ylen : ys.length = n := by rw [y3.length, pm.length_eq, List.length_map, Array.length_toList, en]
  have vlen : vs.length = n := by rw [← y3.length, ylen]
  have I3 : Inv X pins σ H1 { s1 with heap := s2.heap, toks := s2.toks } := I2.kept (t' := s2.toks) k1
  refine wpAny_bind (wpAny_newList ?_ (by rw [vlen, sizeLine_eq]; omega))
  have hoL : (s2.heap.push (seqObj "list" vs.toArray 0)).get? s2.heap.objs.size = some (seqObj "list" vs.toArray 0) := Heap.get?_push_size _ rfl
  show wpAny _ _ _ _ _ { s2 with heap := s2.heap.push (seqObj "list" vs.toArray 0) }
  refine wpAny_bind (wpAny_holding (wpAny_call_entry PyProof.Rows.slot_list_sort ⟨_, hoL, rfl⟩ PyProof.Rows.entry_list_sort
    (list_sort_treeK strKind_oneLt (s := { s2 with heap := s2.heap.push (seqObj "list" vs.toArray 0) }) hoL hY.keysOf (fun v1 v2 rest e => keyKind_strs (by rw [← e]; exact hY)) (by omega) fun st' hp hs => ⟨_, rfl, ?_⟩)
    (PyProof.Rows.args_list_sort _)))
  obtain ⟨zs, z1, z2, z3⟩ := sorted_out_str hY hp hs
  obtain ⟨e', he'⟩ := PyProof.Rows.sortedHeap_at (vs := vs) (out := (arrOf st').map (·.2)) hoL
  have hlen : (zs.map V.str).length ≤ sizeLine := by rw [List.length_map, z2.length_eq, ylen, sizeLine_eq]; omega
  have I4 : Inv X pins σ (upd H1 s2.heap.objs.size (.lst (zs.map V.str))) { s1 with heap := sortedHeap (s2.heap.push (seqObj "list" vs.toArray 0)) s2.heap.objs.size vs ((arrOf st').map (·.2)), toks := s2.toks } :=
    I3.laid (t' := s2.toks) (fun b u e => by
      have hb : b < s2.heap.objs.size := Heap.lt_size e
      rw [PyProof.Rows.sortedHeap_old (Nat.ne_of_lt hb) (by rw [size_push']; exact Nat.lt_succ_of_lt hb)]
      exact Heap.get?_push_of_some _ e) (Nat.le_refl _)
      (show ObjOk X.prog X.w _ _ _ (.lst (zs.map V.str)) from ⟨hlen, ((arrOf st').map (·.2)).toList, e', vals_of_strs z1, by rw [Array.toArray_toList]; exact he'⟩)
  refine wpAny_pure ⟨_, rfl, .ref s2.heap.objs.size, _, ?_, rfl, q1 zs s2.heap.objs.size (z2.nodup_iff.mpr y1) (fun k => ?_) (by rw [z2.length_eq, ylen]; exact hn) z3 (I3.hok.fresh (Nat.le_refl _))⟩
  · obtain ⟨hp2, gn2, dr2, tk2, os2⟩ := s2
    have e1 : gn2 = s1.gens := g1
    have e2 : os2 = s1.os := o1
    subst e1
    subst e2
    exact ⟨I4.ok, I4.os, I4.bare, I4.base, I4.loc, I4.cell, I4.free, I4.freeC, I4.pin, I4.hok, I4.len⟩
  · rw [z2.mem_iff, y2 k, decide_eq_true_eq, List.take_length]
/-- len(set(xs)), xs a list of texts -/
def tLenSet (K : PySem.W.Frag) (ta : TE) : TE := fun σ H Q => ta σ H fun x H1 => ∃ (l : Addr) (ks : List Str), x = .ref l ∧ SqL K H1 l (ks.map V.str) ∧ ks.length ≤ 4000 ∧
  ∀ ys : List Str, ys.Nodup → (∀ k, k ∈ ys ↔ k ∈ ks) → Q (.int (ys.length : Nat)) H1
theorem pe_lenSet {a : Expr} {ta : TE} {p p2 q pos : Pos} (hc : X.calm = true) (hg : Gl X "len") (hm : X.mg "len" = none) (hg2 : Gl X "set") (hm2 : X.mg "set" = none) (ha : PE X a ta)
    (na : starEach [a] X.env = (false, eval a X.env) :: starEach [] X.env := by rfl) : PE X (.Call (.Name "len" p) [.Call (.Name "set" p2) [a] [] q] [] pos) (tLenSet X.K ta) := by
  unfold tLenSet
  refine ofSet (ta := ta) hg hm boot_len hg2 hm2 ha na fun pins s1 σ Q v ⟨x, H1, I1, r1, l, ks, ex, hq, few, q1⟩ => ?_
  subst ex
  cases r1
  obtain ⟨its, r, pl, hz⟩ := I1.list hq
  have hl : its.length = ks.length := by
    have z := r.length
    rw [List.length_map] at z
    exact z.symm
  refine set_of_list (knd := PySem.strKind X.prog X.w) (I1.ok.hd hc) pl.isList (ks := ks) (strs_kinds r.strs) (by simp [hl]) (by unfold scanBound; omega) fun h' tk up keep => ?_
  obtain ⟨n, hn, o, es, ep, t, ⟨ho, hex, hd⟩, G, W, en⟩ := up
  have I2 : Inv X pins σ H1 { s1 with heap := h', toks := tk } := I1.kept fun b o e => keep b o (Heap.lt_size e) e
  obtain ⟨ys, y1, y2, y3⟩ := G.names (List.Perm.refl _)
  have ylen : ys.length = es.size := by rw [y3.length, List.length_map, Array.length_toList]
  exact call_len_set ho hex hd W.fit (by omega) ⟨.int ys.length, H1, I2.tok _, ⟨_, by rw [ylen]⟩, q1 ys y1 fun k => by rw [y2 k, decide_eq_true_eq, List.take_length]⟩

/-- a, *rest = a list -/
def gStar (K : PySem.W.Frag) (t u : TG) : TG := fun v σ H Q => ∃ (a : Addr) (x : V) (xs : List V), v = .ref a ∧ SqL K H a (x :: xs) ∧ ∀ p, H p = none → t x σ (upd H p (.lst xs)) fun σ1 H1 => u (.ref p) σ1 H1 Q
theorem walk_rest {P : Program} {w : World} {A : Around} {I : Addr} {fp wr : List Addr} {G : Array GenState → Array GenState → Prop} {n : Nat} {Pv : Nat → Value → Prop} {St : Nat → Shared → Prop}
    (W : WalksS P w A I fp wr G (n + 1) Pv St) : WalksS P w A I fp wr G n (fun i => Pv (i + 1)) (fun i => St (i + 1)) where
  sub := W.sub
  grefl := W.grefl
  gtrans := W.gtrans
  frame := fun i => W.frame (i + 1)
  item := fun i s Q E hi => W.item (i + 1) s Q E (Nat.succ_lt_succ hi)
  done := W.done
  self := fun i => W.self (i + 1)
theorem pg_star {e f : Expr} {pf : Pos} {k : Nat} {pos : Pos} {t u : TG} (hc : X.calm = true) (h1 : PG X e t) (h2 : PG X f u)
    (hs : assignEach [e, .Starred f pf] X.env = [(false, assign e X.env), (true, assign f X.env)] := by rfl) : PG X (.Tuple [e, .Starred f pf] k pos) (gStar X.K t u) := by
  refine ⟨fun pins s σ H v w Q I r hw => ?_⟩
  obtain ⟨a, x, xs, ev, hq, hw⟩ := hw
  subst ev
  cases r
  obtain ⟨its, rv, pl, hz⟩ := I.list hq
  have hla := pl.isList
  rw [assign_Tuple]
  refine wpAny_bind (wpAny_standAt ?_)
  rw [hs]
  unfold unpack
  refine wpAny_bind (wpAny_holding ?_)
  show wpAny _ _ (unpackItems (.ref a) 2 (some 1)) _ _ _
  cases rv with
  | @cons _ y _ ys ry rys =>
    have lys : ys.length = xs.length := rys.length.symm
    unfold unpackItems
    refine wpAny_bind ?_
    unfold notIterableAtAll
    refine wpAny_bind (wpAny_specialOf hla.typeIs PySem.F.slot_list_iter.lookup ?_)
    refine wpAny_pure ?_
    simp only [Bool.false_eq_true, if_false]
    refine wpAny_bind (wpAny_holding (wpAny_pyIter_list hla ?_))
    have old : a < s.heap.objs.size := by
      obtain ⟨o, ho, _⟩ := hla
      exact Heap.lt_size ho
    have W := (Walks.list (prog := X.prog) (w := X.w) (A := X.A.in1) (I.ok.hd hc) s.heap.objs.size a (Nat.ne_of_lt old) (y :: ys).toArray).toS
    have zl : (y :: ys).toArray.size = ys.length + 1 := by simp
    rw [zl] at W
    refine wpAny_bind (wpAny_holding ?_)
    show wpAny _ _ (pyNext (.ref s.heap.objs.size) >>= _) _ _ _
    refine wpAny_bind (W.of_in1.item 0 { s with heap := s.heap.push { cls := .type "list_iterator", data := .fields #[.ref a, .int 0 0] } } _ _ (Nat.succ_pos _) ⟨⟨_, Heap.get?_push_size _ rfl, rfl, rfl⟩, hla.push _⟩ fun v1 s1 pv st1 m1 => ?_)
    have ey : v1 = y := by
      have z : (y :: ys).toArray[0]? = some v1 := pv
      simpa using z.symm
    subst ey
    refine wpAny_bind (wpAny_holding (wpAny_pure ?_))
    refine wpAny_pure ?_
    rw [if_neg (by simp)]
    have sz1 : s1.heap.objs.size > s.heap.objs.size := by
      obtain ⟨o, ho, _⟩ := st1.1
      exact Heap.lt_size ho
    refine wpAny_bind (wpAny_holding (wpAny_collect_iter (T := "list_iterator") (.inr (.inr (.inl rfl))) (walk_rest W) (fun i s st => by
        obtain ⟨o, ho, hc1, _⟩ := st.1
        exact ⟨o, ho, hc1⟩) st1 (fun b hb => ?_) (by simp) (fun s2 acc m2 its2 => ?_) (by rw [lys]; exact Nat.le_of_succ_le (by simpa using hz))))
    · rcases List.mem_cons.mp hb with z | z
      · rw [z]
        exact sz1
      · rw [List.mem_singleton.mp z]
        exact Nat.lt_trans old sz1
    · have ea : acc.toList = ys := items_out (Pv := fun i v => (v1 :: ys).toArray[i + 1]? = some v) its2 fun j v q => by simpa using q
      rw [if_neg (by simp)]
      have k2 : ∀ b o, s.heap.get? b = some o → s2.heap.get? b = some o := fun b o e => by
        have nb : b ∉ [s.heap.objs.size] := fun z => Nat.lt_irrefl _ ((List.mem_singleton.mp z) ▸ Heap.lt_size e)
        exact m2.heap b o nb (m1.heap b o nb (Heap.get?_push_of_some _ e))
      obtain ⟨hp2, gn2, dr2, tk2, os2⟩ := s2
      have eg : gn2 = s.gens := Eq.trans m2.gens m1.gens
      have eo : os2 = s.os := Eq.trans m2.os m1.os
      have ed : dr2 = s.drawn := Eq.trans m2.drawn m1.drawn
      subst eg
      subst eo
      subst ed
      have I1 : Inv X pins σ H { s with heap := hp2, toks := tk2 } := I.kept (t' := tk2) k2
      have z1 : xs.length ≤ sizeLine := Nat.le_of_succ_le (by simpa using hz)
      have en : acc.toList.take (acc.toList.length - (2 - 1 - 1)) = ys := by simp [ea]
      have ed : acc.toList.drop (acc.toList.length - (2 - 1 - 1)) = [] := by simp
      rw [en, ed]
      refine wpAny_bind (wpAny_newList ?_ (by rw [lys]; exact z1))
      refine wpAny_pure ?_
      have I2 : Inv X pins σ (upd H hp2.objs.size (.lst xs)) { s with heap := hp2.push { cls := .type "list", data := .seq ys.toArray }, toks := tk2 } :=
        I1.laid (t' := tk2) (fun b o e => Heap.get?_push_of_some _ e) (Nat.le_refl _) (show ObjOk X.prog X.w _ _ _ (.lst xs) from ⟨z1, ys, 0, rys, Heap.get?_push_size _ rfl⟩)
      show wpAny _ _ (assignInOrder [assign e X.env, assign f X.env] [v1, .ref hp2.objs.size]) _ _ _
      refine assignInOrder_cons (thn (h1.run pins _ σ _ _ _ _ I2 ry (hw _ (I1.hok.fresh (Nat.le_refl _)))) fun _ s3 ⟨σ1, H3, I3, q3⟩ => ?_)
      exact assignInOrder_cons (thn (h2.run pins s3 σ1 H3 (.ref hp2.objs.size) _ _ I3 rfl q3) fun _ s4 q4 => assignInOrder_nil q4)
theorem pe_sortSetK (K : PySem.W.Frag) {a : Expr} {ta : TE} {p p2 q pos : Pos} (hc : X.calm = true) (hg : Gl X "sorted") (hm : X.mg "sorted" = none) (hg2 : Gl X "set") (hm2 : X.mg "set" = none) (ha : PE X a ta) (h : X.K = K := by rfl)
    (na : starEach [a] X.env = (false, eval a X.env) :: starEach [] X.env := by rfl) : PE X (.Call (.Name "sorted" p) [.Call (.Name "set" p2) [a] [] q] [] pos) (tSortSet K ta) := h ▸ pe_sortSet hc hg hm hg2 hm2 ha na
theorem pe_lenSetK (K : PySem.W.Frag) {a : Expr} {ta : TE} {p p2 q pos : Pos} (hc : X.calm = true) (hg : Gl X "len") (hm : X.mg "len" = none) (hg2 : Gl X "set") (hm2 : X.mg "set" = none) (ha : PE X a ta) (h : X.K = K := by rfl)
    (na : starEach [a] X.env = (false, eval a X.env) :: starEach [] X.env := by rfl) : PE X (.Call (.Name "len" p) [.Call (.Name "set" p2) [a] [] q] [] pos) (tLenSet K ta) := h ▸ pe_lenSet hc hg hm hg2 hm2 ha na
theorem pg_starK (K : PySem.W.Frag) {e f : Expr} {pf : Pos} {k : Nat} {pos : Pos} {t u : TG} (hc : X.calm = true) (h1 : PG X e t) (h2 : PG X f u) (h : X.K = K := by rfl)
    (hs : assignEach [e, .Starred f pf] X.env = [(false, assign e X.env), (true, assign f X.env)] := by rfl) : PG X (.Tuple [e, .Starred f pf] k pos) (gStar K t u) := h ▸ pg_star hc h1 h2 hs
theorem mt_indexK (K : PySem.W.Frag) (h : X.K = K := by rfl) : MtR X "list.index" (rIndex K) := h ▸ mt_index
end
end L2
set_option Elab.async false
set_option linter.all false
set_option maxRecDepth 100000
set_option maxHeartbeats 1000000
/-! M9: the texts of sheets, and what repr shows of keys: read back, and none the same. -/
namespace KD
open PySem PySem.Spec PyProof.Rows L2
open TL (tl tl_append tl_join joinL spl_join split_join join_eq tl_num numL numL_digits numL_ne numL_free numL_inj)

def numS (n : Nat) : Str := Str.ofString (toString (n : Int))
theorem tl_numS (n : Nat) : tl (numS n) = numL n := tl_num n
/-- a name of small letters -/
structure Lw (s : Str) : Prop where
  ne : tl s ≠ []
  c : ∀ c ∈ tl s, 97 ≤ c ∧ c ≤ 122
def lwB (s : Str) : Bool := !(tl s).isEmpty && (tl s).all fun c => decide (97 ≤ c) && decide (c ≤ 122)
theorem Lw.of {s : Str} (h : lwB s = true) : Lw s := by
  obtain ⟨h1, h2⟩ := Bool.and_eq_true_iff.mp h
  refine ⟨fun e => (by rw [e] at h1; cases h1), fun c hc => ?_⟩
  have := Bool.and_eq_true_iff.mp (List.all_eq_true.mp h2 c hc)
  exact ⟨of_decide_eq_true this.1, of_decide_eq_true this.2⟩
theorem Lw.free {s : Str} (h : Lw s) {c : Nat} (hc : c < 97) : c ∉ tl s := fun m => by
  have := h.c c m
  omega
theorem mem_joinL {S : List Nat} {c : Nat} : ∀ {ps : List (List Nat)}, c ∈ joinL S ps → c ∈ S ∨ ∃ p ∈ ps, c ∈ p
  | [], h => by cases h
  | [p], h => .inr ⟨p, List.mem_cons_self, h⟩
  | p :: q :: r, h => by
    rcases List.mem_append.mp (show c ∈ p ++ (S ++ joinL S (q :: r)) from h) with h | h
    · exact .inr ⟨p, List.mem_cons_self, h⟩
    · rcases List.mem_append.mp h with h | h
      · exact .inl h
      · rcases mem_joinL h with h | ⟨x, hx, h⟩
        · exact .inl h
        · exact .inr ⟨x, List.mem_cons_of_mem _ hx, h⟩
/-! ### rows and lines -/
def rowText (r : Str × List Nat) : Str := Txt.join " " (r.1 :: r.2.map numS)
def lineText (s : KM.Sheet Str) : Str := Txt.join "; " (s.map rowText)
theorem tl_blank : tl (" " : Str) = [32] := by decide +kernel
theorem tl_semi : tl ("; " : Str) = [59, 32] := by decide +kernel
theorem num_free {n c : Nat} (h : c < 48 ∨ 57 < c) : c ∉ tl (numS n) := by
  rw [tl_numS]
  exact numL_free h
theorem row_parts {r : Str × List Nat} (h : Lw r.1) {c : Nat} (hc : c < 48 ∨ (57 < c ∧ c < 97)) : ∀ p ∈ r.1 :: r.2.map numS, c ∉ tl p := fun p hp => by
  rcases List.mem_cons.mp hp with e | hp
  · rw [e]
    exact h.free (by omega)
  · obtain ⟨n, _, e⟩ := List.mem_map.mp hp
    rw [← e]
    exact num_free (by omega)
theorem row_split {r : Str × List Nat} (h : Lw r.1) : Txt.split (rowText r) " " = r.1 :: r.2.map numS :=
  split_join tl_blank (by decide +kernel) (by simp) (row_parts h (by decide))
theorem row_free {r : Str × List Nat} (h : Lw r.1) : 59 ∉ tl (rowText r) := fun m => by
  unfold rowText at m
  rw [join_eq, tl_join, tl_blank] at m
  rcases mem_joinL m with e | ⟨p, hp, e⟩
  · rw [List.mem_singleton] at e
    cases e
  · obtain ⟨x, hx, e2⟩ := List.mem_map.mp hp
    rw [← e2] at e
    exact row_parts h (c := 59) (by decide) x hx e
theorem line_split {s : KM.Sheet Str} (h : ∀ r ∈ s, Lw r.1) (p : 0 < s.length) : Txt.split (lineText s) "; " = s.map rowText :=
  split_join tl_semi (by decide +kernel) (fun e => by rw [List.map_eq_nil_iff.mp e] at p; cases p) fun x hx => by
    obtain ⟨r, hr, e⟩ := List.mem_map.mp hx
    rw [← e]
    exact row_free (h r hr)
/-! ### numbers in texts -/
theorem num_digit {n c : Nat} (h : c ∈ tl (numS n)) : 48 ≤ c ∧ c ≤ 57 := by
  rw [tl_numS] at h
  exact numL_digits n c h
theorem num_ascii (n : Nat) : Txt.isascii (numS n) = true := by
  show (numS n).cps.all (· < 128) = true
  rw [← Array.all_toList, List.all_eq_true]
  intro c hc
  have := num_digit (n := n) (c := c) hc
  exact decide_eq_true (by omega)
theorem digit_ok : ∀ c, 48 ≤ c → c ≤ 57 → Unicode.isDigit c = true := by
  intro c h1 h2
  have : c = 48 ∨ c = 49 ∨ c = 50 ∨ c = 51 ∨ c = 52 ∨ c = 53 ∨ c = 54 ∨ c = 55 ∨ c = 56 ∨ c = 57 := by omega
  rcases this with e | e | e | e | e | e | e | e | e | e <;> subst e <;> decide +kernel
theorem num_isdigit (n : Nat) : Txt.isdigit (numS n) = true := by
  show ((numS n).length > 0 && (numS n).cps.all Unicode.isDigit) = true
  rw [Bool.and_eq_true]
  constructor
  · refine decide_eq_true ?_
    show 0 < (numS n).cps.size
    rw [← Array.length_toList]
    exact List.length_pos_iff.mpr (fun e => numL_ne n (by rw [← tl_numS]; exact e))
  · rw [← Array.all_toList, List.all_eq_true]
    intro c hc
    obtain ⟨h1, h2⟩ := num_digit (n := n) (c := c) hc
    exact digit_ok c h1 h2
theorem numL_mono : ∀ (m n : Nat), n ≤ m → (numL n).length ≤ (numL m).length := by
  intro m
  induction m using Nat.strongRecOn with
  | _ m ih =>
    intro n h
    by_cases hn : n < 10
    · rw [TL.numL_lt hn]
      exact List.length_pos_iff.mpr (numL_ne m)
    · rw [TL.numL_step (n := n) (by omega), TL.numL_step (n := m) (by omega), List.length_append, List.length_append]
      have := ih (m / 10) (by omega) (n / 10) (Nat.div_le_div_right h)
      simp only [List.length_cons, List.length_nil]
      omega
theorem num_len (n : Nat) : (numS n).length = (numL n).length := by
  rw [← tl_numS]
  exact (Array.length_toList).symm
theorem num_short {n : Nat} (h : n < 10 ^ 10) : (numS n).length ≤ 10 := by
  rw [num_len]
  exact TL.numL_len (by decide) h
theorem num_read {n : Nat} (h : n < 10 ^ 10) : PySem.intText? (numS n) = some (n : Int) := TL.int_num (Nat.le_trans (TL.numL_len (k := 10) (by decide) h) (by decide))
/-! ### keys -/
def Atom (d : PyData) : Prop := (∃ s, d = .str s ∧ Lw s) ∨ ∃ n : Nat, d = nD n
theorem fold_plain {q : Nat} : ∀ (l : List Nat) (acc : Array Nat), (∀ c ∈ l, Builtin.Str.reprChar q c = [c]) → (l.foldl (fun out c => out ++ (Builtin.Str.reprChar q c).toArray) acc).toList = acc.toList ++ l
  | [], acc, _ => by simp
  | c :: l, acc, h => by
    rw [List.foldl_cons, fold_plain l _ fun d hd => h d (List.mem_cons_of_mem _ hd), h c List.mem_cons_self]
    simp
theorem plain_ok : ∀ c, 97 ≤ c → c ≤ 122 → Builtin.Str.reprChar 39 c = [c] := by
  have : ((List.range 26).all fun i => decide (Builtin.Str.reprChar 39 (97 + i) = [97 + i])) = true := by decide +kernel
  intro c h1 h2
  have z := of_decide_eq_true (List.all_eq_true.mp this (c - 97) (List.mem_range.mpr (by omega)))
  rw [show 97 + (c - 97) = c by omega] at z
  exact z
theorem shown_name {s : Str} (h : Lw s) : tl (PyData.shown (.str s)) = 39 :: (tl s ++ [39]) := by
  have hq : reprQuote s = 39 := by
    unfold reprQuote
    have : s.cps.contains 39 = false := by
      rw [← Array.contains_toList]
      cases e : s.cps.toList.contains 39 with
      | false => rfl
      | true => exact absurd (List.contains_iff_mem.mp e) (h.free (by decide))
    rw [this]
    rfl
  rw [PyData.shown_str]
  unfold reprText
  rw [hq]
  show (Array.push _ 39).toList = _
  rw [Array.toList_push, ← Array.foldl_toList, fold_plain (tl s) #[39] fun c hc => plain_ok c (h.c c hc).1 (h.c c hc).2]
  rfl
theorem shown_num (n : Nat) : tl (PyData.shown (nD n)) = numL n := by
  rw [PyData.shown_int]
  exact tl_num n
theorem Atom.free {d : PyData} (h : Atom d) : 44 ∉ tl d.shown := by
  rcases h with ⟨s, rfl, h⟩ | ⟨n, rfl⟩
  · rw [shown_name h]
    intro m
    rcases List.mem_cons.mp m with e | m
    · cases e
    · rcases List.mem_append.mp m with m | m
      · exact h.free (by decide) m
      · rw [List.mem_singleton] at m
        cases m
  · rw [shown_num]
    exact numL_free (by decide)
theorem Atom.ne {d : PyData} (h : Atom d) : tl d.shown ≠ [] := by
  rcases h with ⟨s, rfl, h⟩ | ⟨n, rfl⟩
  · rw [shown_name h]
    exact List.cons_ne_nil _ _
  · rw [shown_num]
    exact numL_ne n
theorem Atom.inj {d e : PyData} (h : Atom d) (g : Atom e) (q : tl d.shown = tl e.shown) : d = e := by
  rcases h with ⟨s, rfl, h⟩ | ⟨n, rfl⟩ <;> rcases g with ⟨t, rfl, g⟩ | ⟨m, rfl⟩
  · rw [shown_name h, shown_name g] at q
    have := List.append_cancel_right (List.cons.inj q).2
    rw [TL.ext_tl this]
  · rw [shown_name h, shown_num] at q
    have := numL_digits m 39 (by rw [← q]; exact List.mem_cons_self)
    omega
  · rw [shown_name g, shown_num] at q
    have := numL_digits n 39 (by rw [q]; exact List.mem_cons_self)
    omega
  · rw [shown_num, shown_num] at q
    rw [numL_inj q]
theorem cut_eq {c : Nat} : ∀ {a b r s : List Nat}, c ∉ a → c ∉ b → a ++ c :: r = b ++ c :: s → a = b ∧ r = s
  | [], [], _, _, _, _, h => ⟨rfl, (List.cons.inj h).2⟩
  | [], y :: b, _, _, _, hb, h => absurd (by rw [(List.cons.inj h).1]; exact List.mem_cons_self) hb
  | x :: a, [], _, _, ha, _, h => absurd (by rw [(List.cons.inj h).1]; exact List.mem_cons_self) ha
  | x :: a, y :: b, _, _, ha, hb, h => by
    obtain ⟨e1, e2⟩ := List.cons.inj h
    obtain ⟨z1, z2⟩ := cut_eq (fun m => ha (List.mem_cons_of_mem _ m)) (fun m => hb (List.mem_cons_of_mem _ m)) e2
    exact ⟨by rw [e1, z1], z2⟩
theorem shownAll_map : ∀ xs : List PyData, PyData.shownAll xs = xs.map PyData.shown
  | [] => PyData.shownAll_nil
  | x :: xs => by rw [PyData.shownAll_cons, shownAll_map xs]; rfl
theorem atoms_inj : ∀ {xs ys : List PyData}, (∀ x ∈ xs, Atom x) → (∀ y ∈ ys, Atom y) → xs.map (fun x => tl x.shown) = ys.map (fun x => tl x.shown) → xs = ys
  | [], [], _, _, _ => rfl
  | [], _ :: _, _, _, h => by simp at h
  | _ :: _, [], _, _, h => by simp at h
  | x :: xs, y :: ys, hx, hy, h => by
    obtain ⟨h1, h2⟩ := List.cons.inj h
    rw [(hx x List.mem_cons_self).inj (hy y List.mem_cons_self) h1, atoms_inj (fun z hz => hx z (List.mem_cons_of_mem _ hz)) (fun z hz => hy z (List.mem_cons_of_mem _ hz)) h2]
theorem join_inj {xs ys : List PyData} (hx : ∀ x ∈ xs, Atom x) (hy : ∀ y ∈ ys, Atom y) (h : joinL [44, 32] (xs.map fun x => tl x.shown) = joinL [44, 32] (ys.map fun x => tl x.shown)) : xs = ys := by
  have ne : ∀ {zs : List PyData}, zs ≠ [] → (∀ z ∈ zs, Atom z) → joinL [44, 32] (zs.map fun x => tl x.shown) ≠ [] := fun {zs} hn hz e => by
    match zs, hn, hz, e with
    | [z], _, hz, e => exact (hz z List.mem_cons_self).ne e
    | z :: z2 :: r, _, hz, e => exact (hz z List.mem_cons_self).ne (List.append_eq_nil_iff.mp (show tl z.shown ++ _ = [] from e)).1
  by_cases ex : xs = []
  · by_cases ey : ys = []
    · rw [ex, ey]
    · exact absurd (by rw [← h, ex]; rfl) (ne ey hy)
  · by_cases ey : ys = []
    · exact absurd (by rw [h, ey]; rfl) (ne ex hx)
    · refine atoms_inj hx hy ?_
      have free : ∀ {zs : List PyData}, (∀ z ∈ zs, Atom z) → ∀ p ∈ zs.map (fun x => tl x.shown), 44 ∉ p := fun {zs} hz p hp => by
        obtain ⟨z, hz1, e⟩ := List.mem_map.mp hp
        rw [← e]
        exact (hz z hz1).free
      rw [← spl_join (s := 44) (S := [32]) (parts := xs.map fun x => tl x.shown) (fun e => ex (List.map_eq_nil_iff.mp e)) (free hx), h, spl_join (fun e => ey (List.map_eq_nil_iff.mp e)) (free hy)]
def keyOfD (a : PyData) (bs : List PyData) : PyData := .tuple [a, .list bs]
theorem tl_comma : tl (", " : Str) = [44, 32] := by decide +kernel
theorem shown_key (a : PyData) (bs : List PyData) : tl (keyOfD a bs).shown = 40 :: (tl a.shown ++ 44 :: 32 :: 91 :: (joinL [44, 32] (bs.map fun x => tl x.shown) ++ [93, 41])) := by
  unfold keyOfD
  rw [PyData.shown_tuple, tl_append, tl_append, tl_join, shownAll_map, tl_comma]
  have e1 : tl ("(" : Str) = [40] := by decide +kernel
  have e2 : tl ((if ([a, PyData.list bs].length == 1) = true then ",)" else ")" : String) : Str) = [41] := show tl (Str.ofString ")") = [41] by decide +kernel
  rw [e1, e2]
  show [40] ++ (tl a.shown ++ ([44, 32] ++ tl (PyData.list bs).shown)) ++ [41] = _
  rw [PyData.shown_list, tl_append, tl_append, tl_join, shownAll_map, tl_comma, List.map_map]
  have e3 : tl ("[" : Str) = [91] := by decide +kernel
  have e4 : tl ("]" : Str) = [93] := by decide +kernel
  rw [e3, e4]
  simp [Function.comp_def]
theorem key_inj {a b : PyData} {xs ys : List PyData} (ha : Atom a) (hb : Atom b) (hx : ∀ x ∈ xs, Atom x) (hy : ∀ y ∈ ys, Atom y) : (keyOfD a xs).shown = (keyOfD b ys).shown ↔ a = b ∧ xs = ys := by
  constructor
  · intro h
    have e := congrArg tl h
    rw [shown_key, shown_key] at e
    obtain ⟨e1, e2⟩ := cut_eq ha.free hb.free (List.cons.inj e).2
    have e3 := (List.cons.inj (List.cons.inj e2).2).2
    exact ⟨ha.inj hb e1, join_inj hx hy (List.append_cancel_right e3)⟩
  · rintro ⟨e1, e2⟩
    rw [e1, e2]
end KD
set_option Elab.async false
set_option linter.all false
set_option maxRecDepth 100000
set_option maxHeartbeats 1000000
/-! D39: pure pieces for texts: what sorts, what is counted, what is read. -/
namespace L2
open PySem PySem.Spec PyProof.Rows
def rJoin (K : PySem.W.Frag) : V → List V → Hp → VK → Prop := fun x xs H Q => ∃ a p, ∃ ys : List Str, x = .str a ∧ xs = [.ref p] ∧ (SqL K H p (ys.map V.str) ∨ SqT K H p (ys.map V.str)) ∧
  (ys.map (·.length)).sum + ys.length * a.length ≤ 16777216 ∧ Q (.str (Txt.join a ys)) H
theorem pe_joinK {X : Cx} (K : PySem.W.Frag) {o e : Expr} {to te : TE} {apos pos : Pos} (ho : PE X o to) (he : PE X e te) (h : X.K = K := by rfl) (hs : starEach [e] X.env = [(false, eval e X.env)] := by rfl)
    (hbase : attributeBase o "join" X.env (eval o X.env) = eval o X.env := by rfl) (hline : (apos.endLine == pos.line) = true := by rfl) : PE X (.Call (.Attribute o "join" apos) [e] [] pos) (tM1 (rJoin K) to te) := h ▸ pe_join ho he hs hbase hline
theorem pe_indexK {X : Cx} (K : PySem.W.Frag) {o e : Expr} {to te : TE} {apos cpos : Pos} (ho : PE X o to) (he : PE X e te) (h : X.K = K := by rfl)
    (hbase : attributeBase o "index" X.env (eval o X.env) = eval o X.env := by rfl)
    (hfew : ((backTo cpos (starEach [e] X.env)).all (fun x => !x.1) && (backToKw cpos (keywordEach [] X.env)).all (fun x => x.1.isSome)
      && decide ([e].length + ([] : List Keyword).length + (if ([] : List Keyword).isEmpty then 0 else 1) < 30)) = true := by rfl)
    (hline : (apos.endLine == cpos.line) = true := by rfl) (hs : starEach [e] X.env = (false, eval e X.env) :: starEach [] X.env := by rfl) :
    PE X (.Call (.Attribute o "index" apos) [e] [] cpos) (tBM K "list" (rIndex K) to (tCons te tNil)) := h ▸ pe_bm PySem.F.plainAttrs_list PySem.F.slot_list_index PySem.F.type_list_index mt_index ho (pa_cons he pa_nil hs) hbase hfew hline hs rfl
end L2
namespace KD
open PySem PySem.Spec PyProof.Rows L2
section
variable {K : PySem.W.Frag} {dk cl : Addr} {σ : L2.St} {F G H : Hp} {m m' m1 m2 : Nat} {ta tb te to : TE} {P1 P2 : PyData → Prop} {u : TS} {D : Ends} {i : Nat}
/-- xs[e:], where e draws -/
theorem n_slLo (ha : EvN K dk cl σ F m ta m1 P1) (hb : EvN K dk cl σ F m1 tb m2 P2) (h1 : ∀ d, P1 d → ∃ xs, d = .list xs) (h2 : ∀ d, P2 d → ∃ i, d = .int i) :
    EvN K dk cl σ F m (tSl (rSlL K) ta (tPart tb) tNoPart) m2 (fun d => ∃ xs i, P1 (.list xs) ∧ P2 (.int i) ∧ d = .list (cutD xs (some i) none)) := fun G H e1 e2 hD Q q =>
  ha G H e1 e2 hD _ fun v x G1 H1 u1 hD1 p1 d1 => hb G1 H1 (e1.tr u1.g) u1.h hD1 _ fun w y G3 H3 u3 hD3 p2 d2 => by
    obtain ⟨xs, rfl⟩ := h1 x p1
    obtain ⟨i, rfl⟩ := h2 y p2
    cases d2
    refine ⟨i, rfl, oo_none G3 H3 ((e1.tr u1.g).tr u3.g) u3.h _ fun G4 H4 u4 => ?_⟩
    cases d1 with
    | lst h1 a1 =>
      exact ⟨_, _, rfl, SqL.of (u4.h _ _ (u4.g _ _ (u3.g _ _ h1))), fun p hp =>
        q _ _ _ _ (((u1.tr u3).tr u4.toM).tr (Up.new u4.h hp _).toM) ((hD3.up u4).up (Up.new u4.h hp _)) ⟨xs, i, p1, p2, rfl⟩ (.lst upd_same ((((a1.cut (some i) none).mono u3.g).mono u4.g).mono (Ex.up (u4.h.fresh hp))))⟩
/-- sorted(xs), texts -/
theorem n_sortedS (h : EvN K dk cl σ F m te m' P1) (hx : ∀ d, P1 d → ∃ ss : List Str, d = .list (ss.map .str) ∧ ss.length < 64) :
    EvN K dk cl σ F m (tCB (rSortedS K) (tCons te tNil)) m' (fun d => ∃ ss ys : List Str, P1 (.list (ss.map .str)) ∧ ys.Perm ss ∧ d = .list (ys.map .str)) := fun G H e1 e2 hD Q q =>
  h G H e1 e2 hD _ fun v x G1 H1 u1 hD1 p1 d1 => by
    obtain ⟨ss, rfl, hl⟩ := hx x p1
    cases d1 with
    | lst g1 a1 =>
      have := strs_of a1
      subst this
      exact ⟨_, ss, rfl, SqL.of (u1.h _ _ g1), hl, fun ys p hp _ hn => q _ _ _ _ (u1.tr (Up.new u1.h hn _).toM) (hD1.up (Up.new u1.h hn _)) ⟨ss, ys, p1, hp, rfl⟩ (.lst upd_same (daAll_strs ys))⟩
/-- a value that is there -/
def tV (v : V) : TE := fun _ H Q => Q v H
theorem e_v {v : V} {d : PyData} (h : Da K F v d) : EvE K σ F (tV v) d := fun G H e1 e2 Q q => q v G H (Up.rf e2) (h.mono e1)
/-- [e for x in what is drawn], e draws c times at most -/
theorem n_lcN {i c k : Nat} {P : PyData → PyData → Prop} (h : EvN K dk cl σ F m te m1 P1) (hx : ∀ d, P1 d → ∃ ds, d = .list ds ∧ ds.length ≤ k) (hk : k ≤ 100000)
    (ht : ∀ (ds : List PyData) (j : Nat) (d : PyData), P1 (.list ds) → ds[j]? = some d → ∀ F' v, Ex F F' → Da K F' v d → EvN K dk cl ((wipe σ [i]).set i (some v)) F' (m1 + c * j) tb (m1 + c * j + c) (P d)) :
    EvN K dk cl σ F m (tLc (iList K te) (gName i) tYes tb [i]) (m1 + c * k) (fun x => ∃ ds rs : List PyData, P1 (.list ds) ∧ x = .list rs ∧ rs.length = ds.length ∧ ∀ (k : Nat) (d r : PyData), ds[k]? = some d → rs[k]? = some r → P d r) := fun G H e1 e2 hD Q q =>
  h G H e1 e2 hD _ fun v x G1 H1 u1 hD1 p1 d1 => by
    obtain ⟨ds, rfl, hl⟩ := hx x p1
    exact (n_lc1 (K := K) (σ := σ) (F := G1) (m := m1) (c := c) (P := P) (i_list (e_v d1)) (Nat.le_trans hl hk) fun j d hj F' w e dv => ht ds j d p1 hj F' w (e1.tr (u1.g.tr e)) dv) G1 H1 (Ex.rf _) u1.h hD1 _
      fun w y G2 H2 u2 hD2 ⟨rs, e, hr, hp⟩ dw => q w y G2 H2 (u1.tr u2) (hD2.mono (Nat.add_le_add_left (Nat.mul_le_mul_left c hl) m1)) ⟨ds, rs, p1, e, hr, hp⟩ dw
/-- names = sorted(set(xs)) -/
theorem st_sortSet {ks : List Str} (h : EvE K σ G te (.list (ks.map .str))) (e : Ex G H) (hl : ks.length < 64)
    (q : ∀ v (ys : List Str) G' H', Up G H G' H' → ys.Nodup → (∀ k, k ∈ ys ↔ k ∈ ks) → ys.length ≤ ks.length → Da K G' v (.list (ys.map .str)) → u D (σ.set i (some v)) H') : tSeq (tAsg (tSortSet K te) (gName i)) u D σ H :=
  h G H (Ex.rf _) e _ fun v G1 H1 u1 d1 => by
    cases d1 with
    | lst g1 a1 =>
      have := strs_of a1
      subst this
      exact ⟨_, ks, rfl, SqL.of (u1.h _ _ g1), hl, fun ys p hy hm hle _ hn => q _ ys _ _ (u1.tr (Up.new u1.h hn _)) hy hm hle (.lst upd_same (daAll_strs ys))⟩
/-! ### index -/
theorem atomV {v : V} {d : PyData} (h : Da K G v d) (a : Atom d) : flatV v = true := by
  rcases a with ⟨s, rfl, _⟩ | ⟨n, rfl⟩ <;> cases h <;> rfl
/-- texts and numbers alike -/
def FlatD (d : PyData) : Prop := (∃ s, d = .str s) ∨ ∃ n : Int, d = .int n
theorem flat_of {v : V} {d : PyData} (h : Da K G v d) (a : FlatD d) : flatV v = true := by
  rcases a with ⟨s, rfl⟩ | ⟨n, rfl⟩ <;> cases h <;> rfl
theorem flat_eq {v w : V} {d e : PyData} (h : Da K G v d) (g : Da K G w e) (a : FlatD d) (b : FlatD e) : eqV v w = true ↔ d = e := by
  rcases a with ⟨s, rfl⟩ | ⟨n, rfl⟩ <;> rcases b with ⟨t, rfl⟩ | ⟨k, rfl⟩ <;> cases h <;> cases g
  · show ((s == t) = true) ↔ _
    rw [beq_iff_eq]
    exact ⟨fun z => by rw [z], fun z => PyData.str.inj z⟩
  · exact ⟨fun z => (nomatch z), fun z => (nomatch z)⟩
  · exact ⟨fun z => (nomatch z), fun z => (nomatch z)⟩
  · show ((n == k) = true) ↔ _
    rw [beq_iff_eq]
    exact ⟨fun z => by rw [z], fun z => PyData.int.inj z⟩
theorem e_index {ds : List PyData} {y : PyData} {j : Nat} (ho : EvE K σ F to (.list ds)) (hy : EvE K σ F te y) (fd : ∀ d ∈ ds, FlatD d) (fy : FlatD y) (hj : ds[j]? = some y) (no : ∀ k, k < j → ds[k]? ≠ some y) :
    EvE K σ F (tBM K "list" (rIndex K) to (tCons te tNil)) (.int (j : Nat)) := fun G H e1 e2 Q q =>
  ho G H e1 e2 _ fun v G1 H1 u1 d1 => by
    cases d1 with
    | lst g1 a1 =>
      rename_i a vs
      refine ⟨.inl ⟨rfl, _, SqL.of (u1.h _ _ g1)⟩, hy G1 H1 (e1.tr u1.g) u1.h _ fun w G2 H2 u2 d2 => ?_⟩
      have a2 := a1.mono u2.g
      have at_ : ∀ {k : Nat} {z : V}, vs[k]? = some z → ∃ d, ds[k]? = some d ∧ Da K G2 z d := fun {k z} h => a2.get h
      obtain ⟨z, hz⟩ : ∃ z, vs[j]? = some z := ⟨_, List.getElem?_eq_getElem (by rw [a2.length]; exact (List.getElem?_eq_some_iff.mp hj).1)⟩
      obtain ⟨d, hd, dz⟩ := at_ hz
      rw [hj] at hd
      cases hd
      refine ⟨a, vs, w, j, z, rfl, rfl, SqL.of (u2.h _ _ (u2.g _ _ g1)), flat_of d2 fy, List.all_eq_true.mpr fun x hx => ?_, hz, (flat_eq dz d2 fy fy).mpr rfl, fun k z' hk hz' => ?_, q _ G2 H2 (u1.tr u2) (.int _)⟩
      · obtain ⟨k, hk⟩ := List.mem_iff_getElem?.mp hx
        obtain ⟨d, hd, dz⟩ := at_ hk
        exact flat_of dz (fd d (List.mem_of_getElem? hd))
      · obtain ⟨d, hd, dz'⟩ := at_ hz'
        cases hb : eqV z' w with
        | false => rfl
        | true =>
          have := (flat_eq dz' d2 (fd d (List.mem_of_getElem? hd)) fy).mp hb
          rw [this] at hd
          exact absurd hd (no k hk)
theorem idx_first {α : Type} [DecidableEq α] : ∀ {ds : List α} {y : α}, y ∈ ds → ds[ds.idxOf y]? = some y ∧ ∀ k, k < ds.idxOf y → ds[k]? ≠ some y
  | [], _, h => by cases h
  | d :: ds, y, h => by
    by_cases e : d = y
    · subst e
      rw [List.idxOf_cons_self]
      exact ⟨rfl, fun k hk => by cases hk⟩
    · have ei : (d :: ds).idxOf y = ds.idxOf y + 1 := by
        rw [List.idxOf_cons, show (d == y) = false from beq_eq_false_iff_ne.mpr e]
        rfl
      rw [ei]
      obtain ⟨h1, h2⟩ := idx_first (ds := ds) (List.mem_of_ne_of_mem (fun z => e z.symm) h)
      refine ⟨h1, fun k hk z => ?_⟩
      cases k with
      | zero => exact e (Option.some.inj z)
      | succ k => exact h2 k (Nat.lt_of_succ_lt_succ hk) z
/-! ### joined, and rows taken apart -/
theorem e_join {a : Str} {ys : List Str} (h1 : EvE K σ F to (.str a)) (h2 : EvE K σ F te (.list (ys.map .str))) (hl : (ys.map (·.length)).sum + ys.length * a.length ≤ 1000000) : EvE K σ F (tM1 (rJoin K) to te) (.str (Txt.join a ys)) :=
  e_m1 h1 h2 fun G H u e d Q q => by
    cases d with
    | lst g1 a1 =>
      have := strs_of a1
      subst this
      exact ⟨a, _, ys, rfl, rfl, .inl (SqL.of (e _ _ g1)), Nat.le_trans hl (by decide), q _ G H (Up.rf e) (.str _)⟩
theorem wipe_wipe {vs : List Nat} {σ : L2.St} : wipe (wipe σ vs) vs = wipe σ vs := by
  apply List.ext_getElem?
  intro k
  rw [wipe_at, wipe_at]
  by_cases h : k ∈ vs
  · rw [if_pos h, if_pos h]
    cases σ[k]? <;> rfl
  · rw [if_neg h, if_neg h]
theorem e_lcP {wi : TI} {i j : Nat} {ds : List PyData} {f : PyData → PyData} (hi : EvI K σ F wi ds) (hz : ds.length ≤ 100000)
    (ht : ∀ d ∈ ds, ∃ d1 d2, d = .tuple [d1, d2] ∧ ∀ F' v w, Ex F F' → Da K F' v d1 → Da K F' w d2 → EvE K (((wipe σ [i, j]).set i (some v)).set j (some w)) F' te (f d)) :
    EvE K σ F (tLc wi (gTup K 2 (gCons (gName i) (gCons (gName j) gNil))) tYes te [i, j]) (.list (ds.map f)) :=
  (e_lc (p := fun _ => true) (f := f) hi hz fun d hd => by
    obtain ⟨d1, d2, rfl, hE⟩ := ht d hd
    refine ⟨_, g_tup2, fun F' σ' ef hP => ?_⟩
    obtain ⟨v, w, dv, dw, rfl⟩ := hP
    exact ⟨(wipe_set (by simp)).trans ((wipe_set (by simp)).trans wipe_wipe), t_yes, fun _ => hE F' v w ef dv dw⟩).is (by rw [List.filter_eq_self.mpr (fun _ _ => rfl)])
/-! ### reading -/
theorem e_ascii {a : Str} (h : EvE K σ F to (.str a)) : EvE K σ F (tM0 (fun x xs H Q => ∃ a, x = .str a ∧ xs = [] ∧ True ∧ Q (.bl (Txt.isascii a)) H) to) (.bool (Txt.isascii a)) :=
  e_m0 h fun G H e Q q => ⟨a, rfl, rfl, trivial, q _ G H (Up.rf e) (.bl _)⟩
theorem e_digit {a : Str} (h : EvE K σ F to (.str a)) : EvE K σ F (tM0 (fun x xs H Q => ∃ a, x = .str a ∧ xs = [] ∧ True ∧ Q (.bl (Txt.isdigit a)) H) to) (.bool (Txt.isdigit a)) :=
  e_m0 h fun G H e Q q => ⟨a, rfl, rfl, trivial, q _ G H (Up.rf e) (.bl _)⟩
theorem c_intT {a : Str} {n : Int} (h : PySem.intText? a = some n) (hl : a.length ≤ 640) : CaD K (fun xs H Q => ∃ a n, xs = [.str a] ∧ PySem.intText? a = some n ∧ a.length ≤ 640 ∧ Q (.int n) H) [.str a] (.int n) := fun G H vs e d Q q => by
  cases d with
  | cons d1 d2 =>
    cases d2
    cases d1
    exact ⟨a, n, rfl, h, hl, q _ G H (Up.rf e) (.int _)⟩
end
end KD
set_option Elab.async false
set_option linter.all false
set_option maxRecDepth 100000
set_option maxHeartbeats 1000000
/-! D40: own errors without an __init__ of their own. -/
namespace KD
open PySem PySem.Spec PyProof.Rows L2
abbrev mroVE : List Value := [.type "ValueError", .type "Exception", .type "BaseException", .type "object"]
/-- C(), C an own error over ValueError without an __init__ of its own -/
theorem pmk_bare {X : Cx} {C : Addr} {x : Str} {p pos : Pos} (q : PySem.W.excIn X.K C mroVE "ValueError.__new__" = true) (gC : X.mg x = some (.ref C)) (kC : PySem.W.keepIn X.K (.ref C) = true) (r : Raises X (.ref C)) (hg : Gl X x)
    (hdb : (x == ("__debug__" : Str)) = false := by decide) : PMk X (.Call (.Name x p) [] [] pos) (fun _ H Q => Q (.ref C) none H) := by
  intro pins s σ H Q I h
  refine wpAny_Call_Name_kw (ld_glob I hg gC ?_ hdb)
  refine PySem.W.callWith_K0 I.kIn kC ?_
  show wpAny _ _ (call (.ref C) []) _ _ _
  obtain ⟨bm, N, nm, qn, bs, hdct, sn, sub, ab, col, dd, k0, k1, k2, k3, k5, mN, hC, hN, hni, T⟩ := exc_obj I.kIn q
  refine wpAny_call_exc_subT PySem.F.excBase_ValueError T hC hN hni (fun h' e hm => ?_) (Nat.zero_le _)
  exact mk_of I hm r h (I.hok.gone hm.new)
/-- what is known of such a class -/
structure ErrB (K : PySem.W.Frag) (C : Addr) : Prop where
  q : PySem.W.excIn K C mroVE "ValueError.__new__" = true
  k : PySem.W.keepIn K (.ref C) = true
  c : ExcC K C
  t : PySem.W.typeIn K (.ref C) = some (.type "type")
  cl : (PySem.W.clsIn K C).isSome = true
  ss : PySem.W.subIn K (.ref C) (.ref C) = some true
theorem ErrB.te {K : PySem.W.Frag} {C : Addr} (T : ErrB K C) : PySem.W.exmOne K (.ref C) (.ref C) = some true := exm_of T.c.hs T.cl T.t T.ss
theorem ErrB.mk0 {X : Cx} {C : Addr} {x : Str} {p pos : Pos} (T : ErrB X.K C) (gC : X.mg x = some (.ref C)) (hg : Gl X x) (hdb : (x == ("__debug__" : Str)) = false := by decide) :
    PMk X (.Call (.Name x p) [] [] pos) (fun _ H Q => Q (.ref C) none H) := pmk_bare T.q gC T.k (raises_own T.c.hs T.t) hg hdb
/-- isinstance(e, c), e the caught error, which has no dict -/
def rIsZ (K : PySem.W.Frag) (a : Addr) (cls : Value) (d : Option Addr) (D : Addr) : List V → Hp → VK → Prop := fun xs H Q => cls = .ref D ∧ d = none ∧ rIsE K D a xs H Q
theorem call_isZ {X : Cx} {a D : Addr} {oe : Obj} {pn : List (Addr × Obj)} {cls : Value} {d : Option Addr} (T : ErrB X.K D) (hz : Zc cls d oe) (hf : ∃ vs, oe.data = .fields vs) : CallR (X.suite a ((a, oe) :: pn)) (.builtin "isinstance") (rIsZ X.K a cls d D) := by
  intro pins s σ H xs us Q I r h
  obtain ⟨rfl, rfl, q⟩ := h
  exact call_isE T.c hz hf pins s σ H xs us Q I r q
/-- list(text) -/
def rListStr : List V → Hp → VK → Prop := fun xs H Q => ∃ z : Str, xs = [.str z] ∧ z.length ≤ 100000 ∧ ∀ l, H l = none → Q (.ref l) (upd H l (.lst ((tlS z).map fun c => V.str ⟨#[c]⟩)))
where tlS (z : Str) : List Nat := z.cps.toList
theorem call_listStr {X : Cx} (hc : X.calm = true) : CallR X (.type "list") rListStr := by
  intro pins s σ H xs us Q I r h
  obtain ⟨z, rfl, hz, q⟩ := h
  obtain ⟨u, rfl, t, rfl⟩ := vals1 r
  refine PySem.call_list_str (I.ok.hd hc) z t (hn := Nat.le_trans (show z.cps.size ≤ 100000 from hz) (by decide)) fun h' tk acc c' hk hS hacc => ?_
  have hlen : acc.toList.length = z.cps.toList.length := by rw [Array.length_toList, Array.length_toList, hacc.1]
  have vals : Vals ((z.cps.toList).map fun c => V.str ⟨#[c]⟩) acc.toList := by
    refine vals_get (by rw [List.length_map, hlen]) fun j v hv => ?_
    obtain ⟨c, u, hc2, rfl⟩ := hacc.2 j v (by rw [← Array.getElem?_toList]; exact hv)
    exact ⟨V.str ⟨#[c]⟩, by rw [List.getElem?_map, Array.getElem?_toList, hc2]; rfl, u, rfl⟩
  exact ⟨.ref s.heap.objs.size, _, I.laid (t' := tk) hk (Nat.le_refl _) (show ObjOk X.prog X.w _ h' _ (.lst ((z.cps.toList).map fun c => V.str ⟨#[c]⟩)) from
    ⟨by rw [List.length_map, Array.length_toList]; exact Nat.le_trans (show z.cps.size ≤ 100000 from hz) (by decide), acc.toList, c', vals, by rw [Array.toArray_toList]; exact hS⟩), rfl, q _ (I.hok.fresh (Nat.le_refl _))⟩
where vals_get : ∀ {xs : List V} {us : List Value}, xs.length = us.length → (∀ (j : Nat) (v : Value), us[j]? = some v → ∃ x, xs[j]? = some x ∧ RelV x v) → Vals xs us
  | [], [], _, _ => .nil
  | x :: xs, u :: us, hl, h => by
    obtain ⟨y, e, r⟩ := h 0 u rfl
    cases (Option.some.inj e : x = y)
    exact .cons r (vals_get (by simpa using hl) fun j v hv => by
      obtain ⟨y, e, r⟩ := h (j + 1) v (by simpa using hv)
      exact ⟨y, by simpa using e, r⟩)
  | [], _ :: _, hl, _ => by simp at hl
  | _ :: _, [], hl, _ => by simp at hl
theorem c_listStr {K : PySem.W.Frag} {z : Str} (hz : z.length ≤ 100000) : CaD K rListStr [.str z] (.list (sgns z)) := fun G H vs e d Q q => by
  cases d with
  | cons d1 d2 =>
    cases d2
    cases d1
    refine ⟨z, rfl, hz, fun l hl => q _ _ _ (Up.new e hl _) (.lst upd_same ?_)⟩
    show DaAll K _ (z.cps.toList.map fun c => V.str ⟨#[c]⟩) (z.cps.toList.map fun c => PyData.str ⟨#[c]⟩)
    generalize z.cps.toList = l
    induction l with
    | nil => exact .nil
    | cons c l ih => exact .cons (.str _) ih
end KD
set_option Elab.async false
set_option linter.all false
set_option maxRecDepth 100000
set_option maxHeartbeats 1000000
/-! M10: texts that may be no sheet's: numbers read, pieces, lengths. -/
namespace KD
open PySem PySem.Spec PyProof.Rows L2
open TL (tl tl_append tl_join joinL spl spl_join split_join join_eq tl_num numL numL_digits numL_ne numL_free numL_inj)
open NumText (digitsVal AllDigits digitsVal_snoc)

/-! ### numbers -/
def digB (l : List Nat) : Bool := !l.isEmpty && l.all fun c => decide (48 ≤ c) && decide (c ≤ 57)
def canB (l : List Nat) : Bool := decide (l = [48]) || decide (l.head? ≠ some 48)
theorem digB_iff {l : List Nat} : digB l = true ↔ l ≠ [] ∧ AllDigits l := by
  unfold digB AllDigits
  rw [Bool.and_eq_true, List.all_eq_true]
  constructor
  · rintro ⟨h1, h2⟩
    exact ⟨fun e => (by rw [e] at h1; cases h1), fun c hc => by
      have := Bool.and_eq_true_iff.mp (h2 c hc)
      exact ⟨of_decide_eq_true this.1, of_decide_eq_true this.2⟩⟩
  · rintro ⟨h1, h2⟩
    refine ⟨by cases l with | nil => exact absurd rfl h1 | cons a b => rfl, fun c hc => ?_⟩
    rw [Bool.and_eq_true]
    exact ⟨decide_eq_true (h2 c hc).1, decide_eq_true (h2 c hc).2⟩
theorem numL_head : ∀ n : Nat, 1 ≤ n → (numL n).head? ≠ some 48 := by
  intro n
  induction n using Nat.strongRecOn with
  | _ n ih =>
    intro h1
    by_cases h : n < 10
    · rw [TL.numL_lt h]
      intro e
      have := Option.some.inj e
      omega
    · rw [TL.numL_step (by omega)]
      have h2 := ih (n / 10) (by omega) (by omega)
      intro e
      have ne := numL_ne (n / 10)
      cases q : numL (n / 10) with
      | nil => exact ne q
      | cons a b =>
        rw [q] at e h2
        exact h2 e
theorem canB_num (n : Nat) : canB (numL n) = true := by
  unfold canB
  rw [Bool.or_eq_true]
  rcases Nat.eq_zero_or_pos n with h | h
  · subst h
    exact .inl (decide_eq_true (TL.numL_lt (by decide)))
  · exact .inr (decide_eq_true (numL_head n h))
theorem digB_num (n : Nat) : digB (numL n) = true := digB_iff.mpr ⟨numL_ne n, numL_digits n⟩
theorem canon : ∀ (k : Nat) (l : List Nat), l.length = k → digB l = true → canB l = true → numL (digitsVal l) = l := by
  intro k
  induction k with
  | zero =>
    intro l hl hd _
    exact absurd (List.length_eq_zero_iff.mp hl) (digB_iff.mp hd).1
  | succ k ih =>
    intro l hl hd hc
    obtain ⟨h1, h2⟩ := digB_iff.mp hd
    obtain ⟨l', c, rfl⟩ : ∃ l' c, l = l' ++ [c] := ⟨l.dropLast, l.getLast h1, (List.dropLast_concat_getLast h1).symm⟩
    rw [List.length_append, List.length_singleton] at hl
    have hcd := h2 c (List.mem_append_right _ (List.mem_singleton.mpr rfl))
    rw [digitsVal_snoc]
    by_cases e : l' = []
    · subst e
      show numL (0 * 10 + (c - 48)) = [c]
      rw [TL.numL_lt (by omega)]
      rw [show 48 + (0 * 10 + (c - 48)) = c by omega]
    · have hd' : digB l' = true := digB_iff.mpr ⟨e, fun d hd => h2 d (List.mem_append_left _ hd)⟩
      have hh : (l' ++ [c]).head? = l'.head? := by
        cases l' with
        | nil => exact absurd rfl e
        | cons a b => rfl
      have h48 : l'.head? ≠ some 48 := by
        unfold canB at hc
        rcases Bool.or_eq_true_iff.mp hc with z | z
        · have z := of_decide_eq_true z
          cases l' with
          | nil => exact absurd rfl e
          | cons a b =>
            have := congrArg List.length z
            simp at this
        · have z := of_decide_eq_true z
          rw [hh] at z
          exact z
      have hc' : canB l' = true := by
        unfold canB
        rw [Bool.or_eq_true]
        exact .inr (decide_eq_true h48)
      have hv := ih l' (by omega) hd' hc'
      have pos : 1 ≤ digitsVal l' := by
        rcases Nat.eq_zero_or_pos (digitsVal l') with z | z
        · rw [z, TL.numL_lt (by decide)] at hv
          exact absurd (by rw [← hv]; rfl) h48
        · exact z
      rw [TL.numL_step (by omega), show (digitsVal l' * 10 + (c - 48)) / 10 = digitsVal l' by omega, show (digitsVal l' * 10 + (c - 48)) % 10 = c - 48 by omega, hv, show 48 + (c - 48) = c by omega]
/-- a word, read as a number below n -/
def numW (w : Str) (n : Nat) : Option Nat := if (digB (tl w) && canB (tl w) && decide (digitsVal (tl w) < n)) = true then some (digitsVal (tl w)) else none
theorem numW_some {w : Str} {n k : Nat} (h : numW w n = some k) : k < n ∧ w = numS k := by
  unfold numW at h
  split at h
  · rename_i c
    obtain ⟨c1, c2⟩ := Bool.and_eq_true_iff.mp c
    obtain ⟨c3, c4⟩ := Bool.and_eq_true_iff.mp c1
    cases h
    refine ⟨of_decide_eq_true c2, TL.ext_tl ?_⟩
    rw [tl_numS]
    exact (canon _ _ rfl c3 c4).symm
  · cases h
theorem numW_num {n k : Nat} (h : k < n) : numW (numS k) n = some k := by
  unfold numW
  rw [tl_numS, TL.numL_val, digB_num, canB_num, decide_eq_true h]
  rfl
theorem ascii_digit : ∀ c, c < 128 → (Unicode.isDigit c = true ↔ 48 ≤ c ∧ c ≤ 57) := by
  have : ((List.range 128).all fun c => Unicode.isDigit c == (decide (48 ≤ c) && decide (c ≤ 57))) = true := by decide +kernel
  intro c h
  have z := beq_iff_eq.mp (List.all_eq_true.mp this c (List.mem_range.mpr h))
  rw [z, Bool.and_eq_true, decide_eq_true_eq, decide_eq_true_eq]
theorem isdigit_iff {w : Str} (h : ∀ c ∈ tl w, c < 128) : Txt.isdigit w = digB (tl w) := by
  rw [Bool.eq_iff_iff, digB_iff]
  show ((w.length > 0 && w.cps.all Unicode.isDigit) = true) ↔ _
  rw [Bool.and_eq_true, ← Array.all_toList, List.all_eq_true, decide_eq_true_eq]
  have hl : w.length = (tl w).length := (Array.length_toList).symm
  rw [hl]
  constructor
  · rintro ⟨h1, h2⟩
    exact ⟨List.length_pos_iff.mp h1, fun c hc => (ascii_digit c (h c hc)).mp (h2 c hc)⟩
  · rintro ⟨h1, h2⟩
    exact ⟨List.length_pos_iff.mpr h1, fun c hc => (ascii_digit c (h c hc)).mpr (h2 c hc)⟩
theorem isascii_of {w : Str} (h : ∀ c ∈ tl w, c < 128) : Txt.isascii w = true := by
  show w.cps.all (· < 128) = true
  rw [← Array.all_toList, List.all_eq_true]
  intro c hc
  exact decide_eq_true (h c hc)
theorem int_dig {w : Str} (h : digB (tl w) = true) (hl : w.length ≤ 4300) : PySem.intText? w = some ((digitsVal (tl w) : Nat) : Int) :=
  PySem.intText_digits (digB_iff.mp h).2 (digB_iff.mp h).1 hl

/-! ### pieces -/
theorem spl_ne {S : List Nat} : ∀ (l : List Nat) (k : Nat) (acc : List Nat), spl S k acc l ≠ []
  | [], _, _ => by simp [spl]
  | c :: r, 0, acc => by
    unfold spl
    split
    · exact List.cons_ne_nil _ _
    · exact spl_ne r 0 _
  | _ :: r, k + 1, acc => by
    unfold spl
    exact spl_ne r k acc
theorem spl_mem {S : List Nat} : ∀ (l : List Nat) (k : Nat) (acc : List Nat), ∀ p ∈ spl S k acc l, ∀ c ∈ p, c ∈ acc ∨ c ∈ l
  | [], _, acc, p, hp, c, hc => by
    rw [spl] at hp
    rw [List.mem_singleton.mp hp] at hc
    exact .inl hc
  | d :: r, 0, acc, p, hp, c, hc => by
    rw [spl] at hp
    split at hp
    · rcases List.mem_cons.mp hp with e | hp
      · rw [e] at hc
        exact .inl hc
      · rcases spl_mem r _ _ p hp c hc with h | h
        · cases h
        · exact .inr (List.mem_cons_of_mem _ h)
    · rcases spl_mem r _ _ p hp c hc with h | h
      · rcases List.mem_append.mp h with h | h
        · exact .inl h
        · rw [List.mem_singleton.mp h]
          exact .inr List.mem_cons_self
      · exact .inr (List.mem_cons_of_mem _ h)
  | d :: r, k + 1, acc, p, hp, c, hc => by
    rw [spl] at hp
    rcases spl_mem r _ _ p hp c hc with h | h
    · exact .inl h
    · exact .inr (List.mem_cons_of_mem _ h)
end KD
namespace KD
open PySem PySem.Spec PyProof.Rows L2
open TL (tl tl_append tl_join joinL spl spl_join split_join join_eq)
/-! ### what pieces weigh -/
def wt (f : Nat → Nat) (l : List Nat) : Nat := (l.map f).sum
theorem wt_app {f : Nat → Nat} {a b : List Nat} : wt f (a ++ b) = wt f a + wt f b := by
  unfold wt
  rw [List.map_append, List.sum_append]
def wts (f : Nat → Nat) (ps : List (List Nat)) : Nat := (ps.map (wt f)).sum
theorem wts_app {f : Nat → Nat} {a b : List (List Nat)} : wts f (a ++ b) = wts f a + wts f b := by
  unfold wts
  rw [List.map_append, List.sum_append]
theorem wts_cons {f : Nat → Nat} {a : List Nat} {b : List (List Nat)} : wts f (a :: b) = wt f a + wts f b := by
  unfold wts
  rw [List.map_cons, List.sum_cons]
theorem wt_join {f : Nat → Nat} {S : List Nat} : ∀ {ps : List (List Nat)}, ps ≠ [] → wt f (joinL S ps) + wt f S = wts f ps + ps.length * wt f S
  | [], h => absurd rfl h
  | [p], _ => by
    show wt f p + wt f S = wts f [p] + 1 * wt f S
    rw [wts_cons]
    show _ = wt f p + 0 + _
    omega
  | p :: q :: r, _ => by
    have ih := wt_join (f := f) (S := S) (ps := q :: r) (List.cons_ne_nil _ _)
    show wt f (p ++ (S ++ joinL S (q :: r))) + wt f S = _
    rw [wt_app, wt_app, wts_cons, List.length_cons, Nat.succ_mul]
    omega
theorem wt_join_le {f : Nat → Nat} {S : List Nat} {ps : List (List Nat)} : wt f (joinL S ps) ≤ wts f ps + ps.length * wt f S := by
  by_cases h : ps = []
  · subst h
    exact Nat.zero_le _
  · have := wt_join (f := f) (S := S) h
    omega
theorem wt_mem {f : Nat → Nat} {p : List Nat} : ∀ {ps : List (List Nat)}, p ∈ ps → wt f p ≤ wts f ps
  | q :: ps, h => by
    rw [wts_cons]
    rcases List.mem_cons.mp h with e | h
    · subst e; omega
    · have := wt_mem (f := f) h
      omega
theorem wts_cut {f : Nat → Nat} {ps : List (List Nat)} (i : Nat) : wts f (ps.take i) + wts f (ps.drop i) = wts f ps := by
  rw [← wts_app, List.take_append_drop]
theorem wts_drop {f : Nat → Nat} {ps : List (List Nat)} (i : Nat) : wts f (ps.drop i) ≤ wts f ps := by
  have := wts_cut (f := f) (ps := ps) i
  omega
theorem wts_dropS {f : Nat → Nat} {ps : List (List Nat)} (i : Nat) : wts f (ps.drop (i + 1)) ≤ wts f (ps.drop i) := by
  rw [← List.drop_drop]
  exact wts_drop 1
abbrev one : Nat → Nat := fun _ => 1
abbrev semi : Nat → Nat := fun c => if c = 59 then 1 else 0
theorem wt_one : ∀ l : List Nat, wt one l = l.length
  | [] => rfl
  | c :: l => by
    show 1 + wt one l = _
    rw [wt_one l, List.length_cons]
    omega
theorem spl_len {S : List Nat} : ∀ (l : List Nat) (k : Nat) (acc : List Nat), (spl (59 :: S) k acc l).length ≤ 1 + wt semi l
  | [], _, _ => by simp [spl]
  | c :: r, 0, acc => by
    show (spl (59 :: S) 0 acc (c :: r)).length ≤ 1 + (semi c + wt semi r)
    rw [spl]
    split
    · rename_i h
      have hc : c = 59 := by
        have : TL.pre (59 :: S) (c :: r) = true := h
        unfold TL.pre at this
        simp at this
        exact this.1
      rw [List.length_cons]
      have := spl_len (S := S) r ((59 :: S).length - 1) []
      have e : semi c = 1 := if_pos hc
      omega
    · have := spl_len (S := S) r 0 (acc ++ [c])
      omega
  | c :: r, k + 1, acc => by
    show (spl (59 :: S) (k + 1) acc (c :: r)).length ≤ 1 + (semi c + wt semi r)
    rw [spl]
    have := spl_len (S := S) r k acc
    omega
/-- a text of small signs, not too long, with few semicolons -/
structure Tx (A B : Nat) (x : Str) : Prop where
  c : ∀ c ∈ tl x, c < 128
  l : (tl x).length ≤ A
  n : wt semi (tl x) ≤ B
theorem Tx.mono {A B A' B' : Nat} {x : Str} (h : Tx A B x) (ha : A ≤ A') (hb : B ≤ B') : Tx A' B' x := ⟨h.c, Nat.le_trans h.l ha, Nat.le_trans h.n hb⟩
theorem Tx.len {A B : Nat} {x : Str} (h : Tx A B x) : x.length ≤ A := by
  have e : x.length = (tl x).length := (Array.length_toList).symm
  rw [e]
  exact h.l
section
variable {x y : Str} {S : List Nat} {s : Nat}
theorem split_tl (ey : tl y = s :: S) (hk : y.cps.all (· < 256) = true) : (Txt.split x y).map tl = spl (s :: S) 0 [] (tl x) := by
  rw [TL.split_spl _ y (by rw [ey]; simp) (TL.kind_ok hk), ey]
theorem split_ne (ey : tl y = s :: S) (hk : y.cps.all (· < 256) = true) : Txt.split x y ≠ [] := fun e => by
  have := split_tl (x := x) ey hk
  rw [e] at this
  exact spl_ne _ _ _ this.symm
theorem split_mem (ey : tl y = s :: S) (hk : y.cps.all (· < 256) = true) {p : Str} (hp : p ∈ Txt.split x y) {c : Nat} (hc : c ∈ tl p) : c ∈ tl x := by
  have : tl p ∈ spl (s :: S) 0 [] (tl x) := by
    rw [← split_tl ey hk]
    exact List.mem_map_of_mem hp
  rcases spl_mem _ _ _ _ this c hc with h | h
  · cases h
  · exact h
theorem split_wt (f : Nat → Nat) (ey : tl y = s :: S) (hk : y.cps.all (· < 256) = true) : wt f (tl x) + wt f (s :: S) = wts f ((Txt.split x y).map tl) + (Txt.split x y).length * wt f (s :: S) := by
  have h := StrLaws.join_split x y
  have h2 := congrArg tl h
  rw [tl_join, ey] at h2
  rw [← h2]
  have := wt_join (f := f) (S := s :: S) (ps := (Txt.split x y).map tl) (fun e => split_ne ey hk (List.map_eq_nil_iff.mp e))
  rw [List.length_map] at this
  exact this
end
theorem tl_cut {a : Str} (lo hi : Option Int) : tl (cutS a lo hi) = ((tl a).drop (HT.sIx a.length 0 lo)).take (HT.sIx a.length a.length hi - HT.sIx a.length 0 lo) := rfl
theorem len_tl (a : Str) : a.length = (tl a).length := (Array.length_toList).symm
theorem tl_hi {a : Str} {i : Nat} : tl (cutS a none (some (i : Int))) = (tl a).take i := by
  rw [tl_cut, HT.sIx_nat, HT.sIx_none, List.drop_zero, Nat.sub_zero, len_tl]
  by_cases h : i ≤ (tl a).length
  · rw [Nat.min_eq_left h]
  · rw [Nat.min_eq_right (by omega), List.take_length, List.take_of_length_le (by omega)]
theorem tl_lo {a : Str} {i : Nat} : tl (cutS a (some (i : Int)) none) = (tl a).drop i := by
  rw [tl_cut, HT.sIx_nat, HT.sIx_none, len_tl]
  by_cases h : i ≤ (tl a).length
  · rw [Nat.min_eq_left h]
    exact List.take_of_length_le (by rw [List.length_drop]; exact Nat.le_refl _)
  · rw [Nat.min_eq_right (by omega), List.drop_of_length_le (show (tl a).length ≤ i by omega), List.drop_of_length_le (Nat.le_refl _), List.take_nil]
theorem wt_take {f : Nat → Nat} {l : List Nat} (i : Nat) : wt f (l.take i) + wt f (l.drop i) = wt f l := by
  rw [← wt_app, List.take_append_drop]
theorem wt_dropS {f : Nat → Nat} {l : List Nat} (i : Nat) : wt f (l.drop (i + 1)) ≤ wt f (l.drop i) := by
  have := wt_take (f := f) (l := l.drop i) 1
  rw [List.drop_drop] at this
  omega
/-- what is written anew from pieces of a text -/
theorem Tx.of {A B : Nat} {x : Str} (hc : ∀ c ∈ tl x, c < 128) (hl : wt one (tl x) ≤ A) (hn : wt semi (tl x) ≤ B) : Tx A B x := ⟨hc, by rw [← wt_one]; exact hl, hn⟩
theorem Tx.w {A B : Nat} {x : Str} (h : Tx A B x) : wt one (tl x) ≤ A := by rw [wt_one]; exact h.l
end KD
set_option Elab.async false
set_option linter.all false
set_option maxRecDepth 100000
set_option maxHeartbeats 2000000
namespace KD
open PySem PySem.Spec PyProof.Rows L2
/-! ### lists that are filled by a loop, which may return -/
/-- nothing changes but L -/
structure UpX (L : Addr) (G H G' H' : Hp) : Prop where
  g : Ex G G'
  h : Ex G' H'
  m : ∀ b o, b ≠ L → H b = some o → H' b = some o
  n : ∀ b, H b ≠ none → G b = none → G' b = none
  l : H L ≠ none → H' L ≠ none
section
variable {K : PySem.W.Frag} {σ : L2.St} {F G H G1 H1 G2 H2 : Hp} {L : Addr} {vs : List Nat} {i k : Nat} {t u tb : TS} {te : TE} {tt : TT} {z y : PyData} {o : Option PyData} {b : Bool} {D : Ends}
theorem UpX.of (u : Up G H G1 H1) : UpX L G H G1 H1 := ⟨u.g, u.h, fun b o _ e => u.m b o e, u.n, fun z e => by
  cases h : H L with
  | none => exact z h
  | some o => rw [u.m _ _ h] at e; cases e⟩
theorem UpX.tr (a : UpX L G H G1 H1) (b : UpX L G1 H1 G2 H2) : UpX L G H G2 H2 where
  g := a.g.tr b.g
  h := b.h
  m := fun c o h e => b.m c o h (a.m c o h e)
  n := fun c h1 h2 => b.n c (fun z => by
    by_cases e : c = L
    · subst e; exact a.l h1 z
    · cases h : H c with
      | none => exact h1 h
      | some o => rw [a.m c o e h] at z; cases z) (a.n c h1 h2)
  l := fun z => b.l (a.l z)
theorem UpX.put {ob : HO} (a : UpX L G H G1 H1) (h : G1 L = none) : UpX L G H G1 (upd H1 L ob) where
  g := a.g
  h := fun c p e => by rw [upd_ne (ne_of_none e h)]; exact a.h c p e
  m := fun c p hc e => by rw [upd_ne hc]; exact a.m c p hc e
  n := a.n
  l := fun _ => by rw [upd_same]; simp
/-- L was new: what is outside L is as it was -/
theorem UpX.up {ob : HO} (a : UpX L G (upd H L ob) G1 H1) (e : Ex G H) (h : H L = none) : Up G H G1 H1 where
  g := a.g
  h := a.h
  m := fun c p hp => a.m c p (fun z => by rw [z, h] at hp; cases hp) (by rw [upd_ne (fun z => by rw [z, h] at hp; cases hp)]; exact hp)
  n := fun c h1 h2 => a.n c (by rw [upd_ne (fun z => h1 (by rw [z]; exact h))]; exact h1) h2
/-- L is closed: from now on it is data -/
theorem UpX.close {acc : List V} {ys : List PyData} (a : UpX L G H G1 H1) (g0 : G1 L = none) (hL : H1 L = some (.lst acc)) (da : DaAll K G1 acc ys) (n : ∀ b, b ≠ L → H b ≠ none → G b = none → True) :
    Ex G1 (upd G1 L (.lst acc)) ∧ Ex (upd G1 L (.lst acc)) H1 ∧ Da K (upd G1 L (.lst acc)) (.ref L) (.list ys) := by
  refine ⟨Ex.up g0, fun c p e => ?_, .lst upd_same (da.mono (Ex.up g0))⟩
  by_cases z : c = L
  · rw [z, upd_same] at e; rw [z, hL]; exact e
  · rw [upd_ne z] at e; exact a.h c p e
/-- one turn: returns z where o is none, else adds what o says to L -/
def StepA (K : PySem.W.Frag) (σ : L2.St) (F : Hp) (vs : List Nat) (L : Addr) (k : Nat) (t : TS) (z : PyData) (o : Option PyData) : Prop :=
  ∀ G H acc, Ex F G → Ex G H → H L = some (.lst acc) → G L = none → acc.length = k → ∀ D : Ends,
    (o = none → ∀ v G' H', UpX L G H G' H' → Da K G' v z → D.rt v H') →
    (∀ y, o = some y → ∀ σ' v G' H', wipe σ' vs = wipe σ vs → UpX L G H G' H' → H' L = some (.lst (acc ++ [v])) → Da K G' v y → D.nx σ' H') → t D σ H
def allO (f : PyData → Option PyData) : List PyData → Option (List PyData)
  | [] => some []
  | d :: ds => (f d).bind fun y => (allO f ds).map (y :: ·)
theorem allO_snoc {f : PyData → Option PyData} {d : PyData} : ∀ {ds : List PyData}, allO f (ds ++ [d]) = (allO f ds).bind fun ys => (f d).map fun y => ys ++ [y]
  | [] => by
    show (f d).bind _ = _
    cases f d <;> rfl
  | x :: ds => by
    show (f x).bind (fun y => (allO f (ds ++ [d])).map (y :: ·)) = ((f x).bind fun y => (allO f ds).map (y :: ·)).bind _
    rw [allO_snoc]
    cases f x with
    | none => rfl
    | some y =>
      cases allO f ds with
      | none => rfl
      | some ys => cases f d <;> rfl
theorem allO_app {f : PyData → Option PyData} {es : List PyData} : ∀ {ds : List PyData}, allO f ds = none → allO f (ds ++ es) = none
  | [], h => by cases h
  | x :: ds, h => by
    have h : (f x).bind (fun y => (allO f ds).map (y :: ·)) = none := h
    show (f x).bind (fun y => (allO f (ds ++ es)).map (y :: ·)) = none
    cases e : f x with
    | none => rfl
    | some y =>
      rw [e] at h
      cases e2 : allO f ds with
      | none => rw [allO_app e2]; rfl
      | some ys => rw [e2] at h; cases h
theorem sa_guard (h : EvT σ F tt b) (h1 : b = true → o = none ∧ EvE K σ F te z) (h2 : b = false → ∀ F', Ex F F' → StepA K σ F' vs L k u z o) : StepA K σ F vs L k (tSeq (tIfS tt (tRet te) tNext) u) z o :=
  fun G H acc eF e hL gL hk D q0 q1 => h G H eF e _ fun G1 H1 u1 => by
    have g1 : G1 L = none := u1.n _ (by rw [hL]; simp) gL
    cases b with
    | true =>
      obtain ⟨ho, hv⟩ := h1 rfl
      exact iteT (hv G1 H1 (eF.tr u1.g) u1.h _ fun w G2 H2 u2 d2 => q0 ho w G2 H2 (UpX.of (u1.tr u2)) d2)
    | false => exact iteF (h2 rfl G1 (eF.tr u1.g) G1 H1 acc (Ex.rf _) u1.h (u1.m _ _ hL) g1 hk D (fun ho v G2 H2 u2 d2 => q0 ho v G2 H2 ((UpX.of u1).tr u2) d2)
        fun y hy σ' v G2 H2 hw u2 hl dv => q1 y hy σ' v G2 H2 hw ((UpX.of u1).tr u2) hl dv)
theorem sa_app (hv : σ[i]? = some (some (.ref L))) (h : EvE K σ F te y) (hk : k ≤ 100000) : StepA K σ F vs L k (tDrop (tBM K "list" rAppend (tVar i) (tCons te tNil))) z (some y) :=
  fun G H acc eF e hL gL hl D q0 q1 => by
    refine ⟨.ref L, hv, .inl ⟨rfl, acc, SqL.of hL⟩, h G H eF e _ fun v G1 H1 u1 dv => ?_⟩
    have g1 : G1 L = none := u1.n _ (by rw [hL]; simp) gL
    refine ⟨L, acc, v, rfl, rfl, u1.m _ _ hL, ?_, q1 y rfl σ v G1 _ rfl ((UpX.of u1).put g1) upd_same dv⟩
    rw [hl]
    exact Nat.lt_of_le_of_lt hk (by decide)
theorem sa_set {j : Nat} {d : PyData} (h : EvE K σ F te d) (hj : j ∈ vs) (hu : ∀ v F', Ex F F' → Da K F' v d → StepA K (σ.set j (some v)) F' vs L k u z o) : StepA K σ F vs L k (tSeq (tAsg te (gName j)) u) z o :=
  fun G H acc eF e hL gL hl D q0 q1 => h G H eF e _ fun v G1 H1 u1 dv => by
    refine hu v G1 (eF.tr u1.g) dv G1 H1 acc (Ex.rf _) u1.h (u1.m _ _ hL) (u1.n _ (by rw [hL]; simp) gL) hl D (fun ho w G2 H2 u2 d2 => q0 ho w G2 H2 ((UpX.of u1).tr u2) d2)
      fun y hy σ' w G2 H2 hw u2 hl dw => q1 y hy σ' w G2 H2 (hw.trans (wipe_set hj)) ((UpX.of u1).tr u2) hl dw
/-- the loop -/
theorem loopA {wi : TI} {g : TG} {ds : List PyData} {f : PyData → Option PyData} (hi : EvI K σ F wi ds)
    (hs : ∀ k d, ds[k]? = some d → ∀ σ1, wipe σ1 vs = wipe σ vs → ∃ P, Tg K g σ1 d P ∧ ∀ F2 σ2, Ex F F2 → P F2 σ2 → wipe σ2 vs = wipe σ vs ∧ StepA K σ2 F2 vs L k tb z (f d))
    (e1 : Ex F G) (e2 : Ex G H) (hL : H L = some (.lst [])) (gL : G L = none)
    (q0 : allO f ds = none → ∀ v G' H', UpX L G H G' H' → Da K G' v z → D.rt v H')
    (q1 : ∀ ys, allO f ds = some ys → ∀ σ' acc G' H', wipe σ' vs = wipe σ vs → UpX L G H G' H' → G' L = none → H' L = some (.lst acc) → DaAll K G' acc ys → D.nx σ' H') : tFor wi g tb D σ H := hi G H e1 e2 _ fun J G1 H1 u1 wk => by
  have g1 : G1 L = none := u1.n _ (by rw [hL]; simp) gL
  refine ⟨fun k m σ' H' => m = ds.length - k ∧ k ≤ ds.length ∧ wipe σ' vs = wipe σ vs ∧ ∃ ys acc G', allO f (ds.take k) = some ys ∧ UpX L G1 H1 G' H' ∧ G' L = none ∧ H' L = some (.lst acc) ∧ DaAll K G' acc ys ∧ acc.length = k,
    ⟨_, rfl, Nat.zero_le _, rfl, [], [], G1, rfl, UpX.of (Up.rf u1.h), g1, u1.m _ _ hL, .nil, rfl⟩, ?_⟩
  rintro k m σ' H' ⟨rfl, hk, hw, ys, acc, G', hy, u', gn, hl, da, hkl⟩
  obtain ⟨w1, w2⟩ := wk k G' H' u'.g u'.h
  by_cases hlt : k < ds.length
  · have hget := List.getElem?_eq_getElem hlt
    obtain ⟨hgo, hyl⟩ := w1 _ hget
    have tk : ds.take (k + 1) = ds.take k ++ [ds[k]] := by rw [List.take_add_one, hget]; rfl
    refine .inr ⟨hgo, fun σ2 H2 => wipe σ2 vs = wipe σ vs ∧ ∃ ys acc G', allO f (ds.take (k + 1)) = some ys ∧ UpX L G1 H1 G' H2 ∧ G' L = none ∧ H2 L = some (.lst acc) ∧ DaAll K G' acc ys ∧ acc.length = k + 1, ?_, ?_⟩
    · rintro σ2 H2 ⟨a, ys2, acc2, G2, b⟩
      exact ⟨ds.length - (k + 1), by omega, rfl, hlt, a, ys2, acc2, G2, b⟩
    · intro x H3 hy3
      obtain ⟨G3, u3, dx⟩ := hyl x H3 hy3
      obtain ⟨P, tg, body⟩ := hs k _ hget σ' hw
      refine tg G3 H3 x u3.h dx _ fun σ2 hP => ?_
      have e3 := (e1.tr u1.g).tr (u'.g.tr u3.g)
      obtain ⟨hw2, hb⟩ := body G3 σ2 e3 hP
      have uX := u'.tr (UpX.of (L := L) u3)
      have g3 : G3 L = none := u3.n _ (by rw [hl]; simp) gn
      refine hb G3 H3 acc (Ex.rf _) u3.h (u3.m _ _ hl) g3 hkl _ (fun ho v G4 H4 u4 d4 => ?_) fun y ho σ4 v G4 H4 hw4 u4 hl4 d4 => ⟨hw4.trans hw2, ?_⟩
      · refine q0 ?_ v G4 H4 (((UpX.of u1).tr uX).tr u4) d4
        rw [← List.take_append_drop (k + 1) ds]
        refine allO_app ?_
        rw [tk, allO_snoc, hy, ho]; rfl
      · refine ⟨ys ++ [y], acc ++ [v], G4, ?_, uX.tr u4, u4.n _ (by rw [u3.m _ _ hl]; simp) g3, hl4, (da.mono (u3.g.tr u4.g)).append (.cons d4 .nil), by rw [List.length_append, hkl]; rfl⟩
        rw [tk, allO_snoc, hy, ho]; rfl
  · have hle : ds.length ≤ k := by omega
    rw [List.take_of_length_le hle] at hy
    exact .inl ⟨w2 (by omega), q1 ys hy σ' acc G' H' hw ((UpX.of u1).tr u') gn hl da⟩
/-- i = []; for ..: ..; then u, where i is data -/
theorem st_fill {wi : TI} {g : TG} {ds : List PyData} {f : PyData → Option PyData} (e : Ex G H)
    (hi : ∀ L, EvI K (σ.set i (some (.ref L))) G wi ds)
    (hs : ∀ L k d, ds[k]? = some d → ∀ σ1, wipe σ1 vs = wipe (σ.set i (some (.ref L))) vs → ∃ P, Tg K g σ1 d P ∧ ∀ F2 σ2, Ex G F2 → P F2 σ2 → wipe σ2 vs = wipe (σ.set i (some (.ref L))) vs ∧ StepA K σ2 F2 vs L k tb z (f d))
    (q0 : allO f ds = none → ∀ v G' H', Up G H G' H' → Da K G' v z → D.rt v H')
    (q1 : ∀ ys, allO f ds = some ys → ∀ L σ' G' H', wipe σ' vs = wipe (σ.set i (some (.ref L))) vs → Up G H G' H' → Da K G' (.ref L) (.list ys) → u D σ' H') :
    tSeq (tAsg (tLst tNil) (gName i)) (tSeq (tFor wi g tb) u) D σ H := by
  refine ⟨Nat.zero_le _, fun L hL => ?_⟩
  have gL := e.fresh hL
  refine loopA (K := K) (L := L) (vs := vs) (hi L) (hs L) (Ex.rf _) (e.tr (Ex.up hL)) upd_same gL (fun h v G' H' u' dv => q0 h v G' H' (u'.up e hL) dv) fun ys hy σ' acc G' H' hw u' gn hl da => ?_
  obtain ⟨c1, c2, c3⟩ := u'.close gn hl da fun _ _ _ _ => trivial
  have up := u'.up e hL
  refine q1 ys hy L σ' _ H' hw ⟨up.g.tr c1, c2, up.m, fun b h1 h2 => ?_⟩ c3
  rw [upd_ne (fun z => h1 (by rw [z]; exact hL))]
  exact up.n b h1 h2
theorem wipe_sub {ws : List Nat} {σ' : L2.St} (h : wipe σ' ws = wipe σ ws) (hs : ∀ k ∈ ws, k ∈ vs) : wipe σ' vs = wipe σ vs := by
  apply List.ext_getElem?
  intro k
  rw [wipe_at, wipe_at]
  by_cases hk : k ∈ vs
  · rw [if_pos hk, if_pos hk]
    have hl : σ'.length = σ.length := len_of_wipe h
    by_cases h1 : k < σ.length
    · rw [List.getElem?_eq_getElem h1, List.getElem?_eq_getElem (by rw [hl]; exact h1)]; rfl
    · rw [List.getElem?_eq_none (by omega), List.getElem?_eq_none (by omega)]
  · rw [if_neg hk, if_neg hk]
    exact get_of_wipe h fun z => hk (hs k z)
theorem o_notInS {c : Nat} {b : Str} : OpD K (fun x y H Q => ∃ (c : Nat) (z : Str), x = .str ⟨#[c]⟩ ∧ y = .str z ∧ Q (.bl (!decide (c ∈ z.cps.toList))) H) (.str ⟨#[c]⟩) (.str b) (.bool (!decide (c ∈ b.cps.toList))) :=
  fun G H v u e d1 d2 Q q => by cases d1; cases d2; exact ⟨c, b, rfl, rfl, q _ G H (Up.rf e) (.bl _)⟩
/-- a, i = e, []: what comes of it -/
theorem st_par0 {j : Nat} {d : PyData} (h : EvE K σ G te d) (e : Ex G H)
    (q : ∀ v L G' H', Up G H G' H' → H' L = none → G' L = none → Da K G' v d → u D ((σ.set i (some v)).set j (some (.ref L))) (upd H' L (.lst []))) :
    tSeq (tPar i j (tCons te (tCons (tLst tNil) tNil))) u D σ H := h G H (Ex.rf _) e _ fun v G1 H1 u1 dv =>
  ⟨Nat.zero_le _, fun L hL => ⟨v, .ref L, rfl, q v L G1 H1 u1 hL (u1.h.fresh hL) dv⟩⟩
end
end KD
set_option Elab.async false
set_option linter.all false
set_option maxRecDepth 100000
set_option maxHeartbeats 1000000
/-! D43: sets of nested tuples of numbers, and such a set sorted. -/
namespace KD
open PySem PySem.Spec PyProof.Rows L2
mutual
/-- no text in the key -/
def numK : NestedKey → Bool
  | .none => true
  | .num _ => true
  | .text _ => false
  | .tup ks => numKs ks
def numKs : List NestedKey → Bool
  | [] => true
  | k :: ks => numK k && numKs ks
end
mutual
theorem key_reads {h : Heap} : ∀ (k : NestedKey) (u : Value) (as : List Addr), Reads h u k.data as → NestedIs h k u
  | .none, _, _, r => by cases r; exact .none
  | .num i, _, _, r => by cases r; exact .int _ _
  | .text x, _, _, r => by cases r; exact .text _ _
  | .tup ks, _, _, r => by
    have r2 : Reads h _ (.tuple (NestedKey.datas ks)) _ := r
    cases r2 with
    | tuple a1 a2 a3 a4 => exact .tup a1 a2 a3 (keys_reads ks _ _ a4)
theorem keys_reads {h : Heap} : ∀ (ks : List NestedKey) (us : List Value) (as : List Addr), ReadsAll h us (NestedKey.datas ks) as → NestedAll h ks us
  | [], _, _, r => by cases r; exact .nil
  | k :: ks, _, _, r => by
    have r2 : ReadsAll h _ (k.data :: NestedKey.datas ks) _ := r
    cases r2 with
    | cons a1 a2 => exact .cons (key_reads k _ _ a1) (keys_reads ks _ _ a2)
end
mutual
/-- a key's reading stays while the tuples stay -/
theorem reads_seqs {h h' : Heap} (hk : ∀ a o vs n, h.get? a = some o → o.data = .seq vs n → h'.get? a = some o) : ∀ (k : NestedKey) (u : Value) (as : List Addr), Reads h u k.data as → Reads h' u k.data as
  | .none, _, _, r => by cases r; exact .none
  | .num i, _, _, r => by cases r; exact .int _ _
  | .text x, _, _, r => by cases r; exact .str _ _
  | .tup ks, _, _, r => by
    have r2 : Reads h _ (.tuple (NestedKey.datas ks)) _ := r
    show Reads h' _ (.tuple (NestedKey.datas ks)) _
    cases r2 with
    | tuple a1 a2 a3 a4 => exact .tuple (hk _ _ _ _ a1 a3) a2 a3 (reads_seqs_all hk ks _ _ a4)
theorem reads_seqs_all {h h' : Heap} (hk : ∀ a o vs n, h.get? a = some o → o.data = .seq vs n → h'.get? a = some o) : ∀ (ks : List NestedKey) (us : List Value) (as : List Addr), ReadsAll h us (NestedKey.datas ks) as → ReadsAll h' us (NestedKey.datas ks) as
  | [], _, _, r => by cases r; exact .nil
  | k :: ks, _, _, r => by
    have r2 : ReadsAll h _ (k.data :: NestedKey.datas ks) _ := r
    show ReadsAll h' _ (k.data :: NestedKey.datas ks) _
    cases r2 with
    | cons a1 a2 => exact .cons (reads_seqs hk k _ _ a1) (reads_seqs_all hk ks _ _ a2)
end
/-- a key of numbers that the heap has at b -/
structure NkAt (h : Heap) (k : NestedKey) (b : Addr) : Prop where
  rd : ∃ as, Reads h (.ref b) k.data as ∧ as = []
  dp : k.depth ≤ 8
  nm : numK k = true
theorem NkAt.is {h : Heap} {k : NestedKey} {b : Addr} (x : NkAt h k b) : NestedIs h k (.ref b) := by
  obtain ⟨as, r, _⟩ := x.rd
  exact key_reads _ _ _ r
theorem NkAt.keep {h h' : Heap} {k : NestedKey} {b : Addr} (x : NkAt h k b) (hk : ∀ c o, h.get? c = some o → h'.get? c = some o) : NkAt h' k b := by
  obtain ⟨as, r, e⟩ := x.rd
  exact ⟨⟨as, PyProof.Rows.Reads.keeps hk r, e⟩, x.dp, x.nm⟩
/-- a loop that no turn of stops or changes -/
theorem calm_loop {M : Model} {A : Around} {E : Value → Shared → Prop} {s : Shared} {σ : Type} {g : Value → σ → Sem (ForInStep σ)} {c : σ} {Q : σ → Shared → Prop} :
    ∀ vs : List Value, (∀ u ∈ vs, ∀ K : ForInStep σ → Shared → Prop, K (.yield c) s → wpAny M A (g u c) K E s) → Q c s → wpAny M A (forIn vs c g) Q E s
  | [], _, q => wpAny_pure q
  | u :: vs, each, q => by
    rw [List.forIn_cons]
    exact wpAny_bind (each u List.mem_cons_self _ (calm_loop vs (fun z hz => each z (List.mem_cons_of_mem _ hz)) q))
section
variable {P : Program} {w : World}
/-- v is of no class statement, n levels down -/
def NoCls (P : Program) (w : World) (n : Nat) (s : Shared) (v : Value) : Prop := ∀ (A : Around) (E : Value → Shared → Prop) (Q : Bool → Shared → Prop), Q false s → wpAny (model P w) A (ofAClassStatement n v) Q E s
/-- v's hash hangs on its value alone, n levels down -/
def ByVal (P : Program) (w : World) (n : Nat) (s : Shared) (v : Value) : Prop := ∀ (A : Around) (E : Value → Shared → Prop) (Q : Bool → Shared → Prop), Q true s → wpAny (model P w) A (hashByValue n v) Q E s
mutual
theorem noCls_key : ∀ (k : NestedKey) (v : Value) (n : Nat) (s : Shared), NestedIs s.heap k v → k.depth ≤ n → NoCls P w n s v
  | .none, _, n, s, x, _ => by cases x; cases n <;> exact fun A E Q q => wpAny_pure q
  | .num i, _, n, s, x, _ => by cases x <;> cases n <;> exact fun A E Q q => wpAny_pure q
  | .text y, _, n, s, x, _ => by cases x; cases n <;> exact fun A E Q q => wpAny_pure q
  | .tup ks, _, n, s, x, hn => by
    cases x with
    | @tup b o vs m _ g1 g2 g3 g4 =>
      simp only [NestedKey.depth] at hn
      cases n with
      | zero => omega
      | succ n =>
        have inner := noCls_keys ks _ n s g4 (by omega)
        intro A E Q q
        unfold ofAClassStatement
        refine wpAny_bind (wpAny_typeOf ⟨o, g1, g2⟩ ?_)
        dsimp only
        refine wp_if_pos rfl (wpAny_bind (wpAny_pure (wp_if_neg (by decide) ?_)))
        change wpAny _ _ (seqItems? _ >>= _) _ _ _
        refine wpAny_bind (wpAny_seqItems g1 g3 (wpAny_bind ?_))
        change wpAny _ _ (forIn vs _ _) _ _ _
        rw [← Array.forIn_toList]
        exact calm_loop _ (fun u hu K k => wpAny_bind (inner u hu _ _ _ (wp_if_neg Bool.false_ne_true (wpAny_pure k)))) (wpAny_pure q)
theorem noCls_keys : ∀ (ks : List NestedKey) (vs : List Value) (n : Nat) (s : Shared), NestedAll s.heap ks vs → NestedKey.depthAll ks ≤ n → ∀ v ∈ vs, NoCls P w n s v
  | [], _, _, _, all, _ => by cases all; exact fun _ no => nomatch no
  | k :: ks, _, n, s, all, deep => by
    cases all with
    | cons one rest => exact List.forall_mem_cons.mpr ⟨noCls_key k _ n s one (Nat.le_trans (Nat.le_max_left _ _) deep), noCls_keys ks _ n s rest (Nat.le_trans (Nat.le_max_right _ _) deep)⟩
end
mutual
theorem byVal_key : ∀ (k : NestedKey) (v : Value) (n : Nat) (s : Shared), NestedIs s.heap k v → k.depth ≤ n → numK k = true → ByVal P w n s v
  | .none, _, n, s, x, _, _ => by cases x; cases n <;> exact fun A E Q q => wpAny_pure q
  | .num i, _, n, s, x, _, _ => by cases x <;> cases n <;> exact fun A E Q q => wpAny_pure q
  | .text y, _, n, s, x, _, hm => by simp [numK] at hm
  | .tup ks, _, n, s, x, hn, hm => by
    cases x with
    | @tup b o vs m _ g1 g2 g3 g4 =>
      simp only [NestedKey.depth] at hn
      rw [numK] at hm
      cases n with
      | zero => omega
      | succ n =>
        have inner := byVal_keys ks _ n s g4 (by omega) hm
        intro A E Q q
        unfold hashByValue
        apply wpAny_bind
        refine wpAny_specialOf ⟨o, g1, g2⟩ F.slot_tuple_hash.lookup ?_
        change wpAny _ _ (seqItems? _ >>= _) _ _ _
        refine wpAny_bind (wpAny_seqItems g1 g3 (wpAny_bind ?_))
        change wpAny _ _ (forIn vs _ _) _ _ _
        rw [← Array.forIn_toList]
        exact calm_loop _ (fun u hu K k => wpAny_bind (inner u hu _ _ _ (wp_if_neg (by decide) (wpAny_pure k)))) (wpAny_pure q)
theorem byVal_keys : ∀ (ks : List NestedKey) (vs : List Value) (n : Nat) (s : Shared), NestedAll s.heap ks vs → NestedKey.depthAll ks ≤ n → numKs ks = true → ∀ v ∈ vs, ByVal P w n s v
  | [], _, _, _, all, _, _ => by cases all; exact fun _ no => nomatch no
  | k :: ks, _, n, s, all, deep, num => by
    rw [numKs, Bool.and_eq_true] at num
    cases all with
    | cons one rest => exact List.forall_mem_cons.mpr ⟨byVal_key k _ n s one (Nat.le_trans (Nat.le_max_left _ _) deep) num.1, byVal_keys ks _ n s rest (Nat.le_trans (Nat.le_max_right _ _) deep) num.2⟩
end
end
section
variable {P : Program} {w : World} {A : Around} {E : Value → Shared → Prop} {s : Shared} {k : NestedKey} {b : Addr}
theorem NkAt.hash {Q : Int → Shared → Prop} (x : NkAt s.heap k b) (hu : A.units + 8 < cLine) (q : Q (k.hash w) { s with toks := s.toks + k.draws }) : wpAny (model P w) A (pyHash (.ref b)) Q E s :=
  pyHash_key k _ A s Q x.is (by have := x.dp; omega) q
theorem NkAt.eq {l : NestedKey} {c : Addr} {Q : Bool → Shared → Prop} (x : NkAt s.heap k b) (y : NkAt s.heap l c) (hu : A.units + 8 < cLine) (q : Q (decide (k = l)) s) : wpAny (model P w) A (eqBool (.ref b) (.ref c)) Q E s :=
  eqAt_key k l A s _ _ x.is y.is (by have := x.dp; omega) _ _ _ _ (by rw [← NestedKey.decide_eq]; exact q)
/-- a search among such keys is seen by nobody -/
theorem unseen {Q : Bool → Shared → Prop} (x : NkAt s.heap k b) {ys : List Value} (hy : ∀ y ∈ ys, ∃ l c, y = Value.ref c ∧ NkAt s.heap l c) (q : Q false s) : wpAny (model P w) A (searchCouldBeSeen (.ref b) ys) Q E s := by
  unfold searchCouldBeSeen
  apply wpAny_bind
  refine calm_loop ys (fun u hu K keep => ?_) (wpAny_pure q)
  obtain ⟨l, c, rfl, y⟩ := hy u hu
  dsimp only
  split
  · exact wpAny_pure keep
  · refine wpAny_bind (quiet_key k _ 8 _ x.is x.dp _ _ _ (wp_if_neg (by decide) ?_))
    refine wpAny_bind (quiet_key l _ 8 _ y.is y.dp _ _ _ (wp_if_neg (by decide) ?_))
    refine wpAny_bind (noCls_key k _ 8 _ x.is x.dp _ _ _ (wp_if_neg (by decide) ?_))
    exact wpAny_bind (noCls_key l _ 8 _ y.is y.dp _ _ _ (wp_if_neg (by decide) (wpAny_pure keep)))
end
/-! ### the set: L its members, at which addresses -/
def rowN (w : World) (p : Addr × NestedKey) : Int × Value := (p.2.hash w, .ref p.1)
structure SetN (w : World) (h : Heap) (a : Addr) (L : List (Addr × NestedKey)) (es : Array (Int × Value)) (ep : Nat) (t : SetTable) : Prop where
  ob : ∃ o, h.get? a = some o ∧ o.ExactSet ∧ o.data = .set es ep t
  rows : es.toList = L.map (rowN w)
  tab : TabOk t (L.map fun p => p.2.hash w)
  nd : (L.map (·.2)).Nodup
  mem : ∀ p ∈ L, NkAt h p.2 p.1
  plain : t.plain = true
  led : w.params.followText "set-order" = true ∨ t.led = true
  room : L.length * 5 < t.mask * 3
  few : L.length < 64
section
variable {P : Program} {w : World} {A : Around} {E : Value → Shared → Prop} {s : Shared} {a : Addr} {L : List (Addr × NestedKey)} {es : Array (Int × Value)} {ep : Nat} {t : SetTable} {x : Addr} {k : NestedKey}
theorem rows_size {L : List (Addr × NestedKey)} {es : Array (Int × Value)} (e : es.toList = L.map (rowN w)) : es.size = L.length := by
  rw [← Array.length_toList, e, List.length_map]
theorem rows_at {L : List (Addr × NestedKey)} {es : Array (Int × Value)} (e : es.toList = L.map (rowN w)) {i : Nat} {p : Addr × NestedKey} (h : L[i]? = some p) : es[i]? = some (p.2.hash w, Value.ref p.1) := by
  rw [← Array.getElem?_toList, e, List.getElem?_map, h]
  rfl
theorem SetN.placed (R : SetN w s.heap a L es ep t) : t.place.toList.length = L.length := by
  have z := R.tab.sz
  rw [List.length_map] at z
  rw [Array.length_toList, z]
theorem SetN.fit (R : SetN w s.heap a L es ep t) : t.fits es.size = true := by
  have z1 := R.placed
  have z2 := R.room
  have z3 := rows_size R.rows
  rw [Array.length_toList] at z1
  unfold SetTable.fits SetTable.fill
  rw [R.tab.dm, Bool.and_eq_true, beq_iff_eq, decide_eq_true_eq]
  refine ⟨by rw [z1, z3], ?_⟩
  show t.place.size + 0 ≤ t.mask
  omega
theorem SetN.sound (R : SetN w s.heap a L es ep t) : ¬ t.gaveWay = true := by
  unfold SetTable.gaveWay
  rw [mask_odd R.tab.mok]
  decide
/-- the c-th probe of a search -/
abbrev prb (t : SetTable) (h : Int) (c : Nat) : SetTable.Probe := nth t.mask (runAt t.mask (SetTable.bits h % (t.mask + 1)) (SetTable.bits h)) c
theorem prb_dummy (t : SetTable) (h : Int) (c : Nat) : (prb t h c).dummy = none := by
  have gen : ∀ (n : Nat) (p : SetTable.Probe), p.dummy = none → (nth t.mask p n).dummy = none := by
    intro n
    induction n with
    | zero => exact fun p e => e
    | succ n ih =>
      intro p e
      refine ih (adv t.mask p) ?_
      unfold adv
      split <;> exact e
  exact gen c _ rfl
theorem prb_from (t : SetTable) (h : Int) (c q : Nat) : nth t.mask (prb t h c) q = prb t h (c + q) := (nth_add t.mask c _ q).symm
theorem seek (R : SetN w s.heap a L es ep t) (hx : NkAt s.heap k x) (hu : A.units + 8 < cLine) {K : Nat} (kf : K < 10 * SetTable.turns t.mask)
    (kn : way t.mask (k.hash w) K ∉ t.place.toList) (kb : ∀ c, c < K → way t.mask (k.hash w) c ∈ t.place.toList) {Q : SetFound → Shared → Prop}
    (yes : k ∈ L.map (·.2) → Q (.there none) s) (no : k ∉ L.map (·.2) → Q (.free (way t.mask (k.hash w) K) false) s) :
    ∀ (f c : Nat) (st : Option SetTable.Probe), st.getD (t.probeStart (k.hash w)) = prb t (k.hash w) c → c ≤ K → K - c < f →
      (∀ (i : Nat) p, L[i]? = some p → p.2 = k → ∃ d, c ≤ d ∧ d < K ∧ t.place.toList[i]? = some (way t.mask (k.hash w) d)) →
      wpAny (model P w) A (setSearchFrom a (.ref x) (k.hash w) true f st) Q E s := by
  obtain ⟨o, ho, hex, hd⟩ := R.ob
  intro f
  induction f with
  | zero => exact fun c st _ _ hf => absurd hf (Nat.not_lt_zero _)
  | succ f ih =>
    intro c st hst hc hf hre
    rw [setSearchFrom_succ]
    refine wpAny_bind (wpAny_setState_of ho hd R.fit ?_)
    dsimp only
    refine wp_if_neg R.sound ?_
    try refine wpAny_bind (wpAny_pure ?_)
    have ej : ∀ q, (nth t.mask (prb t (k.hash w) c) q).j = way t.mask (k.hash w) (c + q) := fun q => congrArg SetTable.Probe.j (prb_from t _ c q)
    have ce : c + (K - c) = K := by omega
    have hsh : ∀ (i : Nat) (p : Addr × NestedKey), L[i]? = some p → (fun (i : Nat) => (es[i]?.map (·.1)).getD 0) i = p.2.hash w := fun i p hp => by
      dsimp only
      rw [rows_at R.rows hp]
      rfl
    -- none of k is left out
    have hit : ∀ (i : Nat) (p : Addr × NestedKey) (q : Nat), L[i]? = some p → p.2 = k → (∀ (k' i' : Nat), k' < q → t.place.toList[i']? = some (nth t.mask (prb t (k.hash w) c) k').j → (fun (i : Nat) => (es[i]?.map (·.1)).getD 0) i' ≠ k.hash w) →
        ∃ d, c + q ≤ d ∧ d < K ∧ t.place.toList[i]? = some (way t.mask (k.hash w) d) := fun i p q hp hk hno => by
      obtain ⟨d, d1, d2, d3⟩ := hre i p hp hk
      refine ⟨d, ?_, d2, d3⟩
      rcases Nat.lt_or_ge d (c + q) with z | z
      · exact absurd ((hsh i p hp).trans (by rw [hk])) (hno (d - c) i (by omega) (by rw [ej, show c + (d - c) = d by omega]; exact d3))
      · exact z
    rcases go_spec t R.tab.ris R.tab.dm (fun i => (es[i]?.map (·.1)).getD 0) (k.hash w) (10 * SetTable.turns t.mask) (K - c) _ (prb_dummy t _ c) (by omega)
      (fun q hq => by rw [ej]; exact kb (c + q) (by omega)) (by rw [ej, ce]; exact kn) with ⟨q, i, hq, hi, hh, hno, hpr⟩ | ⟨hno, hpr⟩
    · rw [ej, prb_from] at hpr
      rw [ej] at hi
      have met : t.probe (fun i => (es[i]?.map (·.1)).getD 0) (k.hash w) (st.getD (t.probeStart (k.hash w))) = some (.candidate (way t.mask (k.hash w) (c + q)) i (prb t (k.hash w) (c + (q + 1)))) := by
        rw [hst]
        exact hpr
      rw [met]
      dsimp only
      have il : i < L.length := by
        rw [← R.placed]
        exact (List.getElem?_eq_some_iff.mp hi).1
      obtain ⟨p, hp⟩ : ∃ p, L[i]? = some p := ⟨_, List.getElem?_eq_getElem il⟩
      have pm : p ∈ L := List.mem_of_getElem? hp
      have main : wpAny (model P w) A (searchRest a (.ref x) (k.hash w) true f es t (way t.mask (k.hash w) (c + q)) i (prb t (k.hash w) (c + (q + 1)))) Q E s := by
        unfold searchRest
        rw [rows_at R.rows hp]
        dsimp only
        refine wpAny_bind (wpAny_holding ((R.mem p pm).eq hx hu ?_))
        refine wpAny_bind (wpAny_setState_of ho hd R.fit ?_)
        dsimp only
        by_cases same : p.2 = k
        · exact wp_if_pos (by simp [same]) (wpAny_pure (yes (List.mem_map.mpr ⟨p, pm, same⟩)))
        · refine wp_if_neg (by simp [same]) ?_
          try refine wpAny_bind (wpAny_pure ?_)
          rw [sameMem]
          dsimp only
          have live := slot_live R.tab.ris hi
          simp only [if_true, live, rows_at R.rows hp]
          refine wpAny_bind (wpAny_isSame_ref_self (wpAny_bind (wpAny_pure ?_)))
          simp only [if_true]
          refine wp_if_neg (by simp [same]) ?_
          refine ih (c + (q + 1)) _ rfl (by omega) (by omega) fun i0 p0 h0 e0 => ?_
          obtain ⟨d, d1, d2, d3⟩ := hit i0 p0 q h0 e0 hno
          refine ⟨d, ?_, d2, d3⟩
          rcases Nat.lt_or_ge (c + q) d with z | z
          · omega
          · obtain rfl : d = c + q := Nat.le_antisymm z d1
            have l2 := slot_live R.tab.ris d3
            rw [live] at l2
            injection l2 with l2
            rw [← l2, hp] at h0
            exact absurd ((congrArg Prod.snd (Option.some.inj h0)).trans e0) same
      by_cases hl : t.led = true
      · refine wp_if_neg (by simp [hl]) ?_
        try refine wpAny_bind (wpAny_pure ?_)
        exact main
      · refine wp_if_pos (by simp [hl]) ?_
        refine wpAny_bind (unseen hx (fun y hy => ?_) ?_)
        · obtain ⟨e, he, ee⟩ := List.mem_map.mp hy
          have h1 : e ∈ es ∧ e.1 = k.hash w := by simpa using he
          have h2 : e ∈ es.toList := by simpa using h1.1
          rw [R.rows] at h2
          obtain ⟨p2, hp2, e2⟩ := List.mem_map.mp h2
          exact ⟨p2.2, p2.1, by rw [← ee, ← e2]; rfl, R.mem p2 hp2⟩
        · refine wp_if_neg (by decide) ?_
          try refine wpAny_bind (wpAny_pure ?_)
          exact main
    · rw [ej, ce] at hpr
      have met : t.probe (fun i => (es[i]?.map (·.1)).getD 0) (k.hash w) (st.getD (t.probeStart (k.hash w))) = some (.empty (way t.mask (k.hash w) K) none) := by
        rw [hst]
        exact hpr
      rw [met]
      dsimp only
      refine wpAny_pure (no fun hm => ?_)
      obtain ⟨p, hp, e⟩ := List.mem_map.mp hm
      obtain ⟨i, hi, e2⟩ := List.getElem_of_mem hp
      obtain ⟨d, d1, d2, _⟩ := hit i p (K - c) (by rw [List.getElem?_eq_getElem hi, e2]) e hno
      omega
/-- a search from the first slot on -/
theorem seek_add (R : SetN w s.heap a L es ep t) (hx : NkAt s.heap k x) (hu : A.units + 8 < cLine) {Q : SetFound → Shared → Prop} (yes : k ∈ L.map (·.2) → Q (.there none) s)
    (no : ∀ K, k ∉ L.map (·.2) → way t.mask (k.hash w) K ∉ t.place.toList → (∀ c, c < K → way t.mask (k.hash w) c ∈ t.place.toList) → Q (.free (way t.mask (k.hash w) K) false) s) :
    wpAny (model P w) A (setSearch a (.ref x) (k.hash w) true) Q E s := by
  have rm := R.room
  obtain ⟨K, k1, k2, k3⟩ := R.tab.first (by rw [List.length_map]; omega) (k.hash w)
  have big : K < 100000 := by
    have : 10 * SetTable.turns t.mask ≤ 1420 := by
      unfold SetTable.turns
      rcases R.tab.mok with e | e | e <;> omega
    omega
  refine seek R hx hu k1 k2 k3 yes (fun hn => no K hn k2 k3) 100000 0 none rfl (Nat.zero_le _) (by omega) fun i p hp e => ?_
  have il : i < t.place.toList.length := by
    rw [R.placed]
    exact (List.getElem?_eq_some_iff.mp hp).1
  have hj := List.getElem?_eq_getElem il
  obtain ⟨c, c1, c2⟩ := R.tab.before (h := k.hash w) k2 (by rw [List.getElem?_map, hp, ← e]; rfl) hj
  exact ⟨c, Nat.zero_le _, c1, by rw [hj, c2]⟩
theorem NkAt.beside {h h' : Heap} {o : Obj} (hb : NkAt h k x) (ho : h.get? a = some o) (hd : o.data = .set es ep t) (sb : Heap.SameBut a h h') : NkAt h' k x := by
  obtain ⟨as, r, e⟩ := hb.rd
  refine ⟨⟨as, reads_seqs (fun b u vs n q z => (sb.2 b fun c => ?_).trans q) k _ _ r, e⟩, hb.dp, hb.nm⟩
  subst c
  rw [ho] at q
  cases q
  rw [hd] at z
  cases z
theorem perm_in {α : Type} (l : List α) (p : Nat) (y : α) : (l.take p ++ y :: l.drop p).Perm (y :: l) := by
  have z : (l.take p ++ y :: l.drop p).Perm (y :: (l.take p ++ l.drop p)) := List.perm_middle
  rwa [List.take_append_drop] at z
theorem rows_in {β : Type} (g : Addr × NestedKey → β) (l : List (Addr × NestedKey)) (p : Nat) (y : Addr × NestedKey) : (l.take p ++ y :: l.drop p).map g = (l.map g).take p ++ g y :: (l.map g).drop p := by
  rw [List.map_append, List.map_cons, List.map_take, List.map_drop]
theorem pick_all {α : Type} (l : List α) : (List.range l.length).filterMap (fun i => l[i]?) = l := by
  have key : ∀ n, n ≤ l.length → (List.range n).filterMap (fun i => l[i]?) = l.take n := by
    intro n
    induction n with
    | zero => exact fun _ => rfl
    | succ n ih =>
      intro hn
      have lt : n < l.length := hn
      rw [List.range_succ, List.filterMap_append, ih (Nat.le_of_lt lt), List.filterMap_cons_some (List.getElem?_eq_getElem lt), List.take_succ, List.getElem?_eq_getElem lt]
      rfl
  rw [key l.length (Nat.le_refl _), List.take_length]
/-- the rows in another order -/
theorem rows_order {es : Array (Int × Value)} {order : Array Nat} (hr : es.toList = L.map (rowN w)) (hp : order.toList.Perm (List.range L.length)) :
    ∃ M : List (Addr × NestedKey), (order.filterMap (es[·]?)).toList = M.map (rowN w) ∧ M.Perm L ∧ (M.map fun p => p.2.hash w) = order.toList.map fun i => (es.map (·.1)).getD i 0 := by
  have gen : ∀ l : List Nat, (∀ i ∈ l, i < L.length) → ∃ M : List (Addr × NestedKey), l.filterMap (fun i => es[i]?) = M.map (rowN w) ∧ M = l.filterMap (fun i => L[i]?) ∧ (M.map fun p => p.2.hash w) = l.map fun i => (es.map (·.1)).getD i 0 := by
    intro l
    induction l with
    | nil => exact fun _ => ⟨[], rfl, rfl, rfl⟩
    | cons i l ih =>
      intro hl
      have hi := hl i List.mem_cons_self
      have e0 := List.getElem?_eq_getElem hi
      have e1 := rows_at hr e0
      obtain ⟨M, m1, m2, m3⟩ := ih fun j hj => hl j (List.mem_cons_of_mem _ hj)
      refine ⟨L[i] :: M, ?_, ?_, ?_⟩
      · rw [List.filterMap_cons_some e1, m1]; rfl
      · rw [List.filterMap_cons_some e0, m2]
      · have e2 : (es.map (·.1))[i]? = some ((L[i]).2.hash w) := by rw [Array.getElem?_map, e1]; rfl
        rw [List.map_cons, List.map_cons, m3]
        simp [Array.getD_eq_getD_getElem?, e2]
  obtain ⟨M, m1, m2, m3⟩ := gen order.toList fun i hi => List.mem_range.mp (hp.mem_iff.mp hi)
  refine ⟨M, by first | (rw [Array.toList_filterMap]; exact m1) | simpa using m1, ?_, m3⟩
  have z := hp.filterMap fun i => L[i]?
  rw [pick_all] at z
  rw [m2]
  exact z
/-- a larger table is laid -/
theorem laid_anew {o : Obj} (ho : s.heap.get? a = some o) (hex : o.ExactSet) (hd : o.data = .set es ep t) (rows : es.toList = L.map (rowN w)) (hsz : t.place.size = es.size) (hdm : t.dummies = #[]) (hfl : es.size ≤ t.mask)
    (nd : (L.map (·.2)).Nodup) (mem : ∀ p ∈ L, NkAt s.heap p.2 p.1) (pl : t.plain = true) (ld : w.params.followText "set-order" = true ∨ t.led = true) (few : L.length < 64) {want M : Nat}
    (hw : SetTable.sizeAbove want - 1 = M) (hM : MaskOk M) (hw2 : SetTable.sizeAbove want ≤ 128) (hn : L.length * 5 < M * 3) {Q : Unit → Shared → Prop}
    (q : ∀ h' L2 es2 ep2 t2, Heap.SameBut a s.heap h' → SetN w h' a L2 es2 ep2 t2 → L2.Perm L → Q () { s with heap := h' }) : wpAny (model P w) A (setRelay a want) Q E s := by
  have len := rows_size rows
  have fit : t.fits es.size = true := by
    unfold SetTable.fits SetTable.fill
    rw [hdm, Bool.and_eq_true, beq_iff_eq, decide_eq_true_eq]
    exact ⟨hsz, by show t.place.size + 0 ≤ t.mask; omega⟩
  obtain ⟨t2, order, e, hp, T, em, el, e5, ed⟩ := relaid_ok t (hs := es.map (·.1)) (wanted := want) hw hM (by rw [Array.size_map, len]; omega)
  rw [Array.size_map, len] at hp
  obtain ⟨L2, r1, r2, r3⟩ := rows_order rows hp
  rw [← r3] at T
  have len2 := rows_size r1
  rw [r2.length_eq] at len2
  rw [setRelay_eq]
  refine wpAny_bind (wpAny_setState_of ho hd fit ?_)
  dsimp only
  have cap := sizeLine_eq
  have alike : (order.filterMap (es[·]?)).size = es.size := len2.trans len.symm
  rw [e]
  first
    | refine wp_if_neg (by omega) (wpAny_bind (wp_if_neg (by simp [alike]) (wpAny_pure ?_)))
    | refine wp_if_neg (by omega) (wpAny_bind (wpAny_pure (wpAny_bind (wp_if_neg (by simp [alike]) (wpAny_bind (wpAny_pure (wpAny_pure ?_)))))))
  refine wpAny_storeSet_of ho hd ?_ (by show (order.filterMap (es[·]?)).size ≤ _; omega)
  have sb : Heap.SameBut a s.heap (s.heap.update a (Obj.putSet (order.filterMap (es[·]?)) t2)) := Heap.SameBut.update ..
  refine q _ L2 (order.filterMap (es[·]?)) (ep + 1) t2 sb ⟨⟨_, store_at ho hd, ⟨hex.1, hex.2.1, hex.2.2⟩, rfl⟩, r1, T, (r2.map (·.2)).nodup_iff.mpr nd, fun p hpm => (mem p (r2.mem_iff.mp hpm)).beside ho hd sb, by rw [e5]; exact pl, by rw [el]; exact ld, ?_, by rw [r2.length_eq]; exact few⟩ r2
  rw [r2.length_eq, em]
  exact hn
/-- one key put in -/
theorem put_key (R : SetN w s.heap a L es ep t) (hx : NkAt s.heap k x) (hu : A.units + 8 < cLine) (few : L.length + 1 < 64) {Q : Bool → Shared → Prop}
    (q : ∀ b h' L2 es2 ep2 t2, Heap.SameBut a s.heap h' → SetN w h' a L2 es2 ep2 t2 → (k ∈ L.map (·.2) → L2 = L) → (k ∉ L.map (·.2) → L2.Perm ((x, k) :: L)) → Q b { s with heap := h' }) :
    wpAny (model P w) A (setAddHashed a (.ref x) (k.hash w)) Q E s := by
  obtain ⟨o, ho, hex, hd⟩ := R.ob
  have len := rows_size R.rows
  have rm := R.room
  have hashed : ¬ byScan (.ref x) es = true := by simp [byScan, Value.scannable]
  have turn := setAddHashedIn_succ a (.ref x) (k.hash w) 99999
  apply wpAny_holding
  show wpAny _ _ (setAddHashedIn a (.ref x) (k.hash w) (99999 + 1)) Q E s
  rw [turn]
  refine wpAny_bind (wpAny_setState_of ho hd R.fit (wp_if_neg hashed ?_))
  refine wpAny_bind (seek_add R hx hu (fun hm => ?_) fun K hm kn kb => ?_)
  · dsimp only
    exact wpAny_pure (q false s.heap L es ep t (Heap.SameBut.refl a s.heap) R (fun _ => rfl) fun z => absurd hm z)
  · dsimp only
    refine wpAny_bind (wpAny_setState_of ho hd R.fit ?_)
    dsimp only
    obtain ⟨q1, q2, q3, q4, q5, q6, q7, q8, q9⟩ := R.tab.put kn kb
    have pl : (t.put (way t.mask (k.hash w) K)).1.plain = true := by rw [q6]; exact R.plain
    generalize hpt : t.put (way t.mask (k.hash w) K) = pt at q1 q3 q4 q5 q6 q7 q8 q9 pl ⊢
    obtain ⟨u, p⟩ := pt
    dsimp only at q1 q3 q4 q5 q6 q7 q8 q9 pl ⊢
    subst q1
    have bv : ByVal P w 8 s (.ref x) := byVal_key k _ 8 s hx.is hx.dp hx.nm
    first
      | (refine wpAny_bind ?_; refine wp_if_pos pl ?_; refine bv _ _ _ ?_)
      | refine wp_if_pos pl (wpAny_bind (bv _ _ _ ?_))
    simp only [if_true]
    have rows : (SetTable.insertAt es (SetTable.below t.place (way t.mask (k.hash w) K)) (k.hash w, Value.ref x)).toList = (L.take (SetTable.below t.place (way t.mask (k.hash w) K)) ++ (x, k) :: L.drop (SetTable.below t.place (way t.mask (k.hash w) K))).map (rowN w) := by
      rw [SetTable.toList_insertAt, rows_in, R.rows]
      rfl
    generalize SetTable.below t.place (way t.mask (k.hash w) K) = p at q2 q3 rows ⊢
    have pm := perm_in L p (x, k)
    have hsh := rows_in (fun p : Addr × NestedKey => p.2.hash w) L p (x, k)
    dsimp only at hsh
    rw [← hsh] at q3
    generalize SetTable.insertAt es p (k.hash w, Value.ref x) = es1 at rows ⊢
    generalize L.take p ++ (x, k) :: L.drop p = L1 at pm q3 rows
    have len1 : L1.length = L.length + 1 := pm.length_eq
    have es1z := rows_size rows
    have nd : (L1.map (·.2)).Nodup := (pm.map (·.2)).nodup_iff.mpr (by rw [List.map_cons]; exact List.nodup_cons.mpr ⟨hm, R.nd⟩)
    refine wpAny_bind (wpAny_storeSet_of ho hd ?_ (by rw [es1z, sizeLine_eq]; omega))
    have sb : Heap.SameBut a s.heap (s.heap.update a (Obj.putSet es1 u)) := Heap.SameBut.update ..
    have ho1 := store_at (es' := es1) (t' := u) ho hd
    generalize s.heap.update a (Obj.putSet es1 u) = h1 at sb ho1 ⊢
    have mem : ∀ p ∈ L1, NkAt h1 p.2 p.1 := fun p hp => by
      rcases List.mem_cons.mp (pm.mem_iff.mp hp) with e | hp
      · rw [e]; exact hx.beside ho hd sb
      · exact (R.mem p hp).beside ho hd sb
    have ld : w.params.followText "set-order" = true ∨ u.led = true := by rw [q5]; exact R.led
    by_cases full : u.tooFull = true
    · first
        | (refine wpAny_bind ?_; refine wp_if_pos (by simp [full]) ?_)
        | (refine wp_if_pos (by simp [full]) ?_; refine wpAny_bind ?_)
      have f2 : (L.length + 1) * 5 ≥ u.mask * 3 := by
        have z := full
        unfold SetTable.tooFull at z
        rw [decide_eq_true_eq, q9, List.length_map] at z
        exact z
      rw [len]
      have sz1 : u.place.size = es1.size := by
        have z := q3.sz
        rw [List.length_map] at z
        rw [z, es1z]
      have grow : ∀ M, SetTable.sizeAbove (SetTable.grown (L.length + 1)) - 1 = M → MaskOk M → SetTable.sizeAbove (SetTable.grown (L.length + 1)) ≤ 128 → (L.length + 1) * 5 < M * 3 → L.length < t.mask →
          wpAny (model P w) A (setRelay a (SetTable.grown (L.length + 1))) (fun _ s' => wpAny (model P w) A (pure true) Q E s') E { s with heap := h1 } := fun M m1 m2 m3 m4 m5 => by
        refine laid_anew (s := { s with heap := h1 }) ho1 ⟨hex.1, hex.2.1, hex.2.2⟩ rfl rows sz1 q3.dm (by rw [es1z, q4, len1]; exact m5) nd mem pl ld (by rw [len1]; exact few) m1 m2 m3 (by rw [len1]; exact m4) ?_
        intro h2 L2 es2 ep2 t2 sb2 R2 pm2
        exact wpAny_pure (q true h2 L2 es2 ep2 t2 (sb.trans sb2) R2 (fun z => absurd z hm) fun _ => pm2.trans pm)
      rcases R.tab.mok with e | e | e
      · have e2 : L.length = 4 := by rw [q4, e] at f2; rw [e] at rm; omega
        exact grow 31 (by rw [e2, size_20]) (.inr (.inl rfl)) (by rw [e2, size_20]; decide) (by omega) (by omega)
      · have e2 : L.length = 18 := by rw [q4, e] at f2; rw [e] at rm; omega
        exact grow 127 (by rw [e2, size_76]) (.inr (.inr rfl)) (by rw [e2, size_76]; decide) (by omega) (by omega)
      · exfalso
        rw [q4, e] at f2
        omega
    · first
        | refine wp_if_neg (by simp [full]) ?_
        | (refine wpAny_bind ?_; refine wp_if_neg (by simp [full]) ?_; refine wpAny_pure ?_)
      refine wpAny_pure (q true h1 L1 es1 (ep + 1) u sb ⟨⟨_, ho1, ⟨hex.1, hex.2.1, hex.2.2⟩, rfl⟩, rows, q3, nd, mem, pl, ld, ?_, by rw [len1]; exact few⟩ (fun z => absurd z hm) fun _ => pm)
      have z := full
      unfold SetTable.tooFull at z
      rw [decide_eq_true_eq, q9, List.length_map] at z
      rw [len1]
      omega
end
/-! ### a set made of a list -/
/-- what the set has of the first i keys -/
structure Has (ks : List (Addr × NestedKey)) (i : Nat) (L : List (Addr × NestedKey)) : Prop where
  sub : ∀ p ∈ L, p ∈ ks.take i
  all : ∀ p ∈ ks.take i, p.2 ∈ L.map (·.2)
  len : L.length ≤ i
theorem Has.next {ks L L2 : List (Addr × NestedKey)} {i : Nat} {x : Addr × NestedKey} (g : Has ks i L) (h : ks[i]? = some x) (old : x.2 ∈ L.map (·.2) → L2 = L) (new : x.2 ∉ L.map (·.2) → L2.Perm (x :: L)) : Has ks (i + 1) L2 := by
  have tk : ks.take (i + 1) = ks.take i ++ [x] := by rw [List.take_add_one, h]; rfl
  by_cases c : x.2 ∈ L.map (·.2)
  · rw [old c]
    refine ⟨fun p hp => by rw [tk]; exact List.mem_append_left _ (g.sub p hp), fun p hp => ?_, Nat.le_succ_of_le g.len⟩
    rw [tk] at hp
    exact (List.mem_append.mp hp).elim (g.all p) fun z => List.mem_singleton.mp z ▸ c
  · have pm := new c
    have inside : ∀ p, p ∈ L2 ↔ p = x ∨ p ∈ L := fun p => pm.mem_iff.trans List.mem_cons
    have named : ∀ k, k ∈ L2.map (·.2) ↔ k = x.2 ∨ k ∈ L.map (·.2) := fun k => (pm.map _).mem_iff.trans List.mem_cons
    refine ⟨?_, ?_, pm.length_eq ▸ Nat.succ_le_succ g.len⟩
    · simp only [tk, List.mem_append, List.mem_singleton, inside]
      exact fun p hp => hp.symm.imp (g.sub p) id
    · simp only [tk, List.mem_append, List.mem_singleton, named]
      exact fun p hp => hp.symm.imp (congrArg Prod.snd) (g.all p)
theorem SetN.keep {w : World} {h h' : Heap} {a : Addr} {L : List (Addr × NestedKey)} {es : Array (Int × Value)} {ep : Nat} {t : SetTable} (R : SetN w h a L es ep t) (ha : ∀ o, h.get? a = some o → h'.get? a = some o) (hm : ∀ p ∈ L, NkAt h' p.2 p.1) : SetN w h' a L es ep t := by
  obtain ⟨o, ho, r⟩ := R.ob
  exact ⟨⟨o, ha o ho, r⟩, R.rows, R.tab, R.nd, hm, R.plain, R.led, R.room, R.few⟩
theorem SetN.bare {w : World} {h : Heap} {a : Addr} (e : h.get? a = some (bare w)) : SetN w h a [] #[] 0 (.fresh 0 0 (!w.params.followText "set-order")) where
  ob := ⟨L2.bare w, e, ⟨rfl, rfl, rfl⟩, rfl⟩
  rows := rfl
  tab := TabOk.mk List.Pairwise.nil rfl rfl (Or.inl rfl) (fun _ no => nomatch no) fun i h j no => by rw [List.map_nil, List.getElem?_nil] at no; cases no
  nd := .nil
  mem := fun _ no => nomatch no
  plain := rfl
  led := (Bool.eq_false_or_eq_true (w.params.followText "set-order")).imp id fun no => by rw [no]; rfl
  room := (by decide : 0 * 5 < 7 * 3)
  few := (by decide : 0 < 64)
def SetN0 (w : World) (h : Heap) (a : Addr) (ks : List (Addr × NestedKey)) (i : Nat) : Prop := ∃ L es ep t, SetN w h a L es ep t ∧ Has ks i L
section
variable {P : Program} {w : World} {A : Around} {E : Value → Shared → Prop} {R : Result → Shared → Prop} {s : Shared}
/-- every key of the walk is put in -/
theorem fillN {I : Addr} {fp wr : List Addr} {G : Array GenState → Array GenState → Prop} {Pv : Nat → Value → Prop} {St : Nat → Shared → Prop} {ks : List (Addr × NestedKey)}
    (W : WalksS P w A.in1 I fp wr G ks.length Pv St) (a : Addr) (apart : a ∉ fp) (val : ∀ i v, Pv i v → ∃ p, ks[i]? = some p ∧ v = .ref p.1) (few : ks.length < 64) (h0 : Heap) (at0 : ∀ p ∈ ks, NkAt h0 p.2 p.1)
    (na : h0.get? a = none) (nw : ∀ b ∈ wr, h0.get? b = none) (hu : A.in1.units + 8 < cLine) :
    ∀ (m i : Nat) (s : Shared), ks.length - i = m → i ≤ ks.length → St i s → (∀ b o, h0.get? b = some o → s.heap.get? b = some o) → SetN0 w s.heap a ks i →
      (∀ s', Moved (a :: wr) G s s' → SetN0 w s'.heap a ks ks.length → (∀ b o, h0.get? b = some o → s'.heap.get? b = some o) → R (.ok (.ret .none)) s') →
      codeAny (model P w) A (.builtin "set.update.loop" ⟨[.ref a, .ref I], []⟩) R s := by
  have aw : a ∉ wr := fun h => apart (W.sub _ h)
  have more : ∀ b ∈ wr, b ∈ a :: wr := fun b hb => List.mem_cons_of_mem _ hb
  have stay : ∀ {s s' : Shared}, Moved wr G s s' → (∀ b o, h0.get? b = some o → s.heap.get? b = some o) → ∀ b o, h0.get? b = some o → s'.heap.get? b = some o := fun mv kp b o e =>
    mv.heap b o (fun hb => by rw [nw b hb] at e; cases e) (kp b o e)
  have moved : ∀ {s s' : Shared} {i : Nat}, Moved wr G s s' → (∀ b o, h0.get? b = some o → s'.heap.get? b = some o) → SetN0 w s.heap a ks i → SetN0 w s'.heap a ks i := fun mv kp ⟨L, es, ep, t, S, g⟩ =>
    ⟨L, es, ep, t, S.keep (fun o e => mv.heap a o aw e) fun p hp => (at0 p (List.mem_of_mem_take (g.sub p hp))).keep kp, g⟩
  intro m
  induction m with
  | zero =>
    intro i s hm hi hst kp hS fin
    obtain rfl : i = ks.length := by omega
    refine codeAny_builtin PyProof.Rows.F.entry_set_update_loop ?_
    rw [Around.under_plainId PyProof.Rows.F.plain_set_update_loop _]
    show wpAny _ A.in1 (pyNext (.ref I) >>= _) _ _ s
    refine wpAny_bind (W.done s _ _ hst fun s' mv => ?_)
    exact wpAny_pure (fin s' (mv.mono more) (moved mv (stay mv kp) hS) (stay mv kp))
  | succ m ih =>
    intro i s hm hi hst kp hS fin
    have lt : i < ks.length := by omega
    refine codeAny_builtin PyProof.Rows.F.entry_set_update_loop ?_
    rw [Around.under_plainId PyProof.Rows.F.plain_set_update_loop _]
    show wpAny _ A.in1 (pyNext (.ref I) >>= _) _ _ s
    refine wpAny_bind (W.item i s _ _ lt hst fun v s' pv hst' mv => ?_)
    obtain ⟨p, ep, rfl⟩ := val i v pv
    have kp1 := stay mv kp
    obtain ⟨L, es, epo, t, S, g⟩ := moved mv kp1 hS
    have hx : NkAt s'.heap p.2 p.1 := (at0 p (List.mem_of_getElem? ep)).keep kp1
    show wpAny _ A.in1 (holding [Value.ref p.1] (setAdd a (.ref p.1)) >>= _) _ _ s'
    refine wpAny_bind (wpAny_holding ?_)
    unfold setAdd
    refine wpAny_holding ?_
    refine wpAny_bind (hx.hash hu ?_)
    refine put_key (s := { s' with toks := s'.toks + p.2.draws }) S hx hu (by have := g.len; omega) fun b h' L2 es2 ep2 t2 sb S2 c1 c2 => ?_
    have kp2 : ∀ b o, h0.get? b = some o → h'.get? b = some o := fun b o e => (sb.2 b (fun z => by rw [z, na] at e; cases e)).trans (kp1 b o e)
    refine wpAny_pure ⟨plainId_quiet PyProof.Rows.F.plain_set_update_loop _, ih (i + 1) _ (by omega) lt (W.frame _ s' _ _ hst' (Nat.le_add_right _ _) fun b hb o e => ?_) kp2 ⟨L2, es2, ep2, t2, S2, g.next ep c1 c2⟩ fun s2 mv2 hS2 kp3 => ?_⟩
    · rw [sb.2 b (fun z : b = a => apart (by rw [← z]; exact hb))]
      exact e
    · refine fin s2 (Moved.trans W.gtrans ((mv.mono more).then_heap (Nat.le_add_right _ _) fun b o hb e => ?_) mv2) hS2 kp3
      rw [sb.2 b (fun z : b = a => hb (by rw [z]; exact List.mem_cons_self))]
      exact e
/-- set(xs), xs a list of such keys -/
theorem setN_list {l : Addr} {items : Array Value} {ks : List (Addr × NestedKey)} {Q : Value → Shared → Prop} (calm : A.handled = none) (hl : s.heap.IsList l items) (hit : items.toList = ks.map fun p => Value.ref p.1)
    (at0 : ∀ p ∈ ks, NkAt s.heap p.2 p.1) (few : ks.length < 64) (hu : A.units + 20 < cLine)
    (fin : ∀ (h' : Heap) (tk : Nat), SetN0 w h' s.heap.objs.size ks ks.length → (∀ b o, s.heap.get? b = some o → h'.get? b = some o) → Q (.ref s.heap.objs.size) { s with heap := h', toks := tk }) :
    wpAny (model P w) A (call (.type "set") [.ref l]) Q E s := by
  have many : items.size = ks.length := by rw [← Array.length_toList, hit, List.length_map]
  have free : ∀ b, s.heap.objs.size ≤ b → s.heap.get? b = none := fun b le => Option.eq_none_iff_forall_ne_some.mpr fun o e => absurd (Heap.lt_size e) (Nat.not_lt.mpr le)
  refine set_from (T := fun h' => SetN0 w h' s.heap.objs.size ks ks.length) calm hl (fun I s0 R eI W st out at_a old done => ?_) fin
  rw [many] at W
  have each : ∀ (i : Nat) (v : Value), items[i]? = some v → ∃ p, ks[i]? = some p ∧ v = Value.ref p.1 := fun i v e => by
    rw [← Array.getElem?_toList, hit, List.getElem?_map] at e
    obtain ⟨p, e1, e2⟩ := Option.map_eq_some_iff.mp e
    exact ⟨p, e1, e2.symm⟩
  refine fillN W s.heap.objs.size out each few s.heap at0 (free _ (Nat.le_refl _)) (fun b hb => free b (by rw [List.mem_singleton.mp hb, eI]; exact Nat.le_succ _)) (by simp only [Around.in1_units]; omega) ks.length 0 s0 rfl (Nat.zero_le _) st old
    ⟨[], #[], 0, _, SetN.bare at_a, ⟨fun p h => (by cases h), fun p h => (by simp at h), Nat.le_refl _⟩⟩ fun s' moved t _ => done s' moved t
end
/-! ### the rule: sorted(set(keys)) -/
mutual
theorem key_noAs {h : Heap} : ∀ (k : NestedKey) (u : Value) (as : List Addr), Reads h u k.data as → as = []
  | .none, _, _, r => by cases r; rfl
  | .num i, _, _, r => by cases r; rfl
  | .text x, _, _, r => by cases r; rfl
  | .tup ks, _, _, r => by
    have r2 : Reads h _ (.tuple (NestedKey.datas ks)) _ := r
    cases r2 with
    | tuple a1 a2 a3 a4 => exact keys_noAs ks _ _ a4
theorem keys_noAs {h : Heap} : ∀ (ks : List NestedKey) (us : List Value) (as : List Addr), ReadsAll h us (NestedKey.datas ks) as → as = []
  | [], _, _, r => by cases r; rfl
  | k :: ks, _, _, r => by
    have r2 : ReadsAll h _ (k.data :: NestedKey.datas ks) _ := r
    cases r2 with
    | cons a1 a2 => rw [key_noAs k _ _ a1, keys_noAs ks _ _ a2]; rfl
end
mutual
theorem key_depth : ∀ k : NestedKey, k.data.depth ≤ k.depth
  | .none => Nat.le_refl _
  | .num _ => Nat.le_refl _
  | .text _ => Nat.le_refl _
  | .tup ks => by
    have z := keys_depth ks
    show (PyData.tuple (NestedKey.datas ks)).depth ≤ NestedKey.depthAll ks + 1
    simp only [PyData.depth]
    omega
theorem keys_depth : ∀ ks : List NestedKey, PyData.depthAll (NestedKey.datas ks) ≤ NestedKey.depthAll ks
  | [] => Nat.le_refl _
  | k :: ks => by
    have z1 := key_depth k
    have z2 := keys_depth ks
    show PyData.depthAll (k.data :: NestedKey.datas ks) ≤ max k.depth (NestedKey.depthAll ks)
    simp only [PyData.depthAll]
    omega
end
theorem perm_back {α β : Type} {f : α → β} {ys xs : List β} (h : ys.Perm xs) : ∀ L : List α, ys = L.map f → ∃ M : List α, M.Perm L ∧ xs = M.map f := by
  induction h with
  | nil =>
    intro L e
    cases L with
    | nil => exact ⟨[], List.Perm.refl _, rfl⟩
    | cons a b => cases e
  | cons x _ ih =>
    intro L e
    cases L with
    | nil => cases e
    | cons a b =>
      cases e
      obtain ⟨M, p, e⟩ := ih b rfl
      exact ⟨a :: M, p.cons a, by rw [e]; rfl⟩
  | swap x y l =>
    intro L e
    match L, e with
    | a :: b :: c, e =>
      cases e
      exact ⟨b :: a :: c, .swap .., rfl⟩
  | trans _ _ ih1 ih2 =>
    intro L e
    obtain ⟨M, p, e1⟩ := ih1 L e
    obtain ⟨N, p2, e2⟩ := ih2 M e1
    exact ⟨N, p2.trans p, e2⟩
/-- what keys a key of a set may be -/
def KeyT (k : NestedKey) : Prop := (∃ a r, k = .tup (a :: r)) ∧ numK k = true ∧ k.depth ≤ 8
section
variable {X : Cx} {pins : List (Addr × Obj)} {σ : L2.St} {H : Hp} {s : Shared}
theorem keys_at {G : Hp} (eg : Ex G H) (I : Inv X pins σ H s) : ∀ {ks : List NestedKey} {xs : List V} {its : List Value}, DaAll X.K G xs (ks.map NestedKey.data) → Vals xs its → (∀ k ∈ ks, KeyT k) →
    ∃ ps : List (Addr × NestedKey), ps.map (·.2) = ks ∧ its = ps.map (fun p => Value.ref p.1) ∧ ∀ p ∈ ps, NkAt s.heap p.2 p.1 ∧ Da X.K G (.ref p.1) p.2.data
  | [], _, _, d, r, _ => by
    cases d
    cases r
    exact ⟨[], rfl, rfl, fun _ h => by cases h⟩
  | k :: ks, _, _, d, r, hk => by
    have d' : DaAll X.K G _ (k.data :: ks.map NestedKey.data) := d
    cases d' with
    | cons d1 d2 =>
      cases r with
      | cons r1 r2 =>
        obtain ⟨ps, e1, e2, h⟩ := keys_at eg I d2 r2 fun k hk' => hk k (List.mem_cons_of_mem _ hk')
        obtain ⟨⟨a, r, rfl⟩, nm, dp⟩ := hk _ List.mem_cons_self
        obtain ⟨as, rd, _⟩ := Da.reads I _ _ _ (Da.mono eg _ d1) r1
        have e0 := key_noAs _ _ _ rd
        subst e0
        have d1' : Da X.K G _ (.tuple (NestedKey.datas (a :: r))) := d1
        cases d1' with
        | tup g1 g2 =>
          cases r1
          refine ⟨(_, .tup (a :: r)) :: ps, by rw [List.map_cons, e1], by rw [List.map_cons, e2], fun p hp => ?_⟩
          rcases List.mem_cons.mp hp with e | hp
          · subst e
            exact ⟨⟨⟨[], rd, rfl⟩, dp, nm⟩, d1⟩
          · exact h p hp
theorem each_vals : ∀ {out : List Value} {zs : List NestedKey}, PySem.W.EachIs (fun v k => ∃ t, v = Value.ref t ∧ Da X.K H (.ref t) k.data) out zs → ∃ ys : List V, Vals ys out ∧ DaAll X.K H ys (zs.map NestedKey.data)
  | _, _, .nil => ⟨[], .nil, .nil⟩
  | _, _, .cons ⟨t, e, d⟩ r => by
    obtain ⟨ys, h1, h2⟩ := each_vals r
    exact ⟨.ref t :: ys, .cons (by rw [e]; rfl) h1, .cons d h2⟩
end
theorem le_total (a b : PyData) : (!PySem.W.dataLt b a) = true ∨ (!PySem.W.dataLt a b) = true := by
  cases e : PySem.W.dataLt b a with
  | false => exact .inl rfl
  | true =>
    refine .inr ?_
    cases e2 : PySem.W.dataLt a b with
    | false => rfl
    | true =>
      have := lex_trans (O := itemOrd) _ _ _ e e2
      rw [lex_irrefl] at this; cases this
theorem le_trans3 {a b c : PyData} (h1 : (!PySem.W.dataLt b a) = true) (h2 : (!PySem.W.dataLt c b) = true) : (!PySem.W.dataLt c a) = true := by
  cases e : PySem.W.dataLt c a with
  | false => rfl
  | true =>
    rcases lex_negTrans (O := itemOrd) _ (PySem.W.keyToks b) _ e with g | g
    · have g : PySem.W.dataLt c b = true := g
      rw [g] at h2; cases h2
    · have g : PySem.W.dataLt b a = true := g
      rw [g] at h1; cases h1
section
variable {X : Cx}
/-- sorted(set(xs)), xs a list of keys -/
def tSortSetN (K : PySem.W.Frag) (ta : TE) : TE := fun σ H Q => ta σ H fun x H1 => ∃ (l : Addr) (xs : List V) (ks : List NestedKey) (G1 : Hp), x = .ref l ∧ SqL K H1 l xs ∧ Ex G1 H1 ∧ DaAll K G1 xs (ks.map NestedKey.data) ∧
  (∀ k ∈ ks, KeyT k) ∧ PySem.W.AllAlike (ks.map NestedKey.data) ∧ ks.length < 64 ∧
  ∀ (ys : List V) (zs : List NestedKey) (p : Addr), zs.Nodup → (∀ k, k ∈ zs ↔ k ∈ ks) → zs.Pairwise (fun a b => (!PySem.W.dataLt b.data a.data) = true) → DaAll K G1 ys (zs.map NestedKey.data) → H1 p = none → Q (.ref p) (upd H1 p (.lst ys))
theorem pe_sortSetN {a : Expr} {ta : TE} {p p2 q pos : Pos} (hc : X.calm = true) (hu : X.A.units + 64 < cLine) (hg : Gl X "sorted") (hm : X.mg "sorted" = none) (hg2 : Gl X "set") (hm2 : X.mg "set" = none) (ha : PE X a ta)
    (na : starEach [a] X.env = (false, eval a X.env) :: starEach [] X.env := by rfl) : PE X (.Call (.Name "sorted" p) [.Call (.Name "set" p2) [a] [] q] [] pos) (tSortSetN X.K ta) := by
  unfold tSortSetN
  refine ofSet (ta := ta) hg hm PyProof.Rows.boot_sorted hg2 hm2 ha na fun pins s1 σ Q v ⟨x, H1, I1, r1, l, xs, ks, G1, ex, hq, eg1, da, hk, hal, few, q1⟩ => ?_
  subst ex
  cases r1
  obtain ⟨its, r, pl, hz⟩ := I1.list hq
  obtain ⟨ps, e1, e2, at0⟩ := keys_at eg1 I1 da r hk
  have pl2 : ps.length = ks.length := by rw [← e1, List.length_map]
  refine setN_list (I1.ok.hd hc) pl.isList (ks := ps) e2 (fun p hp => (at0 p hp).1) (by omega) (by omega) fun h' tk up keep => ?_
  obtain ⟨L, es, ep, t, S, g⟩ := up
  have sub : ∀ p ∈ L, p ∈ ps := fun p hp => List.mem_of_mem_take (g.sub p hp)
  have I2 : Inv X pins σ H1 { s1 with heap := h', toks := tk } := I1.kept keep
  obtain ⟨o, ho, hex, hd⟩ := S.ob
  have Ll := S.few
  have esz := rows_size S.rows
  refine Calls.call_function_entry PyProof.Rows.kind_sorted PyProof.Rows.plain_sorted PyProof.Rows.entry_sorted (PyProof.Rows.args_sorted1 _) ?_
  unfold Builtin.«sorted»
  refine wpAny_bind (m := checkCount "sorted" 1 1 _) (wpAny_pure ?_)
  refine wpAny_bind (collect_set (s := { s1 with heap := h', toks := tk }) (A := X.A.in1) (I2.ok.hd hc) ⟨o, ho, hex.1, hd⟩ (SetN.fit (s := { s1 with heap := h', toks := tk }) S) (by rw [esz]; unfold scanBound; omega) S.tab.ris S.led fun s2 vs k1 hz2 g1 o1 pm => ?_)
  have er : es.toList.map (·.2) = L.map fun p => Value.ref p.1 := by
    rw [S.rows, List.map_map]
    rfl
  rw [er] at pm
  obtain ⟨M, pM, eM⟩ := perm_back (f := fun p : Addr × NestedKey => Value.ref p.1) pm.symm L rfl
  have vlen : vs.length = M.length := by rw [eM, List.length_map]
  have Ml : M.length < 64 := by rw [pM.length_eq]; exact Ll
  have I3 : Inv X pins σ H1 { s1 with heap := s2.heap, toks := s2.toks } := I2.kept (t' := s2.toks) k1
  refine wpAny_bind (wpAny_newList ?_ (by rw [vlen, sizeLine_eq]; omega))
  have hoL : (s2.heap.push (seqObj "list" vs.toArray 0)).get? s2.heap.objs.size = some (seqObj "list" vs.toArray 0) := Heap.get?_push_size _ rfl
  show wpAny _ _ _ _ _ { s2 with heap := s2.heap.push (seqObj "list" vs.toArray 0) }
  have Mk : ∀ p ∈ M, NkAt s1.heap p.2 p.1 ∧ Da X.K G1 (.ref p.1) p.2.data := fun p hp => at0 p (sub p (pM.mem_iff.mp hp))
  have keep3 : ∀ b o, s1.heap.get? b = some o → (s2.heap.push (seqObj "list" vs.toArray 0)).get? b = some o := fun b o e => Heap.get?_push_of_some _ (k1 b o (keep b o e))
  have EI : PySem.W.EachIs (fun v k => ∃ t, v = Value.ref t ∧ Da X.K G1 (.ref t) k.data) vs (M.map (·.2)) ∧ PySem.W.EachIs (fun v (k : NestedKey) => ∃ as, Reads (s2.heap.push (seqObj "list" vs.toArray 0)) v k.data as ∧ s2.heap.objs.size ∉ as) vs (M.map (·.2)) := by
    rw [eM]
    have gen : ∀ (h0 : Heap), (∀ b o, s1.heap.get? b = some o → h0.get? b = some o) → ∀ N : List (Addr × NestedKey), (∀ p ∈ N, p ∈ M) → PySem.W.EachIs (fun v k => ∃ t, v = Value.ref t ∧ Da X.K G1 (.ref t) k.data) (N.map fun p => Value.ref p.1) (N.map (·.2)) ∧
        PySem.W.EachIs (fun v (k : NestedKey) => ∃ as, Reads h0 v k.data as ∧ s2.heap.objs.size ∉ as) (N.map fun p => Value.ref p.1) (N.map (·.2)) := by
      intro h0 k0 N
      induction N with
      | nil => exact fun _ => ⟨.nil, .nil⟩
      | cons p N ih =>
        intro hN
        obtain ⟨i1, i2⟩ := ih fun p hp => hN p (List.mem_cons_of_mem _ hp)
        obtain ⟨nk, d⟩ := Mk p (hN p List.mem_cons_self)
        obtain ⟨as, rd, ea⟩ := (nk.keep k0).rd
        exact ⟨.cons ⟨p.1, rfl, d⟩ i1, .cons ⟨as, rd, by rw [ea]; exact List.not_mem_nil⟩ i2⟩
    rw [eM] at keep3
    exact gen _ keep3 M fun _ h => h
  have bsub : ∀ k ∈ M.map (·.2), k ∈ ks := fun k hk' => by
    obtain ⟨p, hp, rfl⟩ := List.mem_map.mp hk'
    rw [← e1]
    exact List.mem_map_of_mem (sub p (pM.mem_iff.mp hp))
  refine wpAny_bind (wpAny_holding (PySem.W.list_sort_data (s := { s2 with heap := s2.heap.push (seqObj "list" vs.toArray 0) }) (bs := M.map (·.2)) (enc := NestedKey.data) hoL EI.1 EI.2 (fun d hd d' hd' => ?_) (.inl fun d hd => ?_) (by rw [List.length_map, sizeLine_eq]; omega) (fun k hk' => ?_) fun out ol eo => ?_))
  · obtain ⟨k, hk1, rfl⟩ := List.mem_map.mp hd
    obtain ⟨k', hk2, rfl⟩ := List.mem_map.mp hd'
    exact hal _ (List.mem_map_of_mem (bsub k hk1)) _ (List.mem_map_of_mem (bsub k' hk2))
  · obtain ⟨k, hk1, rfl⟩ := List.mem_map.mp hd
    obtain ⟨⟨a, r, rfl⟩, _⟩ := hk k (bsub k hk1)
    exact ⟨a.data, NestedKey.datas r, rfl⟩
  · have z := (hk k (bsub k hk')).2.2
    have e := key_depth k
    simp only [Around.in1_units]
    omega
  · generalize hzs : (M.map (·.2)).mergeSort (PySem.W.dataLe false NestedKey.data) = zs at eo
    have pz : zs.Perm (M.map (·.2)) := by rw [← hzs]; exact List.mergeSort_perm _ _
    have sz : zs.Pairwise (fun a b => (!PySem.W.dataLt b.data a.data) = true) := by
      rw [← hzs]
      refine List.pairwise_mergeSort (le := PySem.W.dataLe false NestedKey.data) (fun a b c h1 h2 => ?_) (fun a b => ?_) _
      · exact le_trans3 h1 h2
      · have z := le_total a.data b.data
        show ((!PySem.W.dataLt b.data a.data) || (!PySem.W.dataLt a.data b.data)) = true
        rcases z with z | z <;> rw [z] <;> simp
    obtain ⟨ys, v1, v2⟩ := each_vals eo
    obtain ⟨e', he'⟩ := PyProof.Rows.sortedHeap_at (vs := vs) (out := out.toArray) hoL
    have yl : ys.length ≤ sizeLine := by rw [v1.length, ol, List.length_map, sizeLine_eq]; omega
    have I4 : Inv X pins σ (upd H1 s2.heap.objs.size (.lst ys)) { s1 with heap := sortedHeap (s2.heap.push (seqObj "list" vs.toArray 0)) s2.heap.objs.size vs out.toArray, toks := s2.toks } :=
      I3.laid (t' := s2.toks) (fun b u e => by
        have hb : b < s2.heap.objs.size := Heap.lt_size e
        rw [PyProof.Rows.sortedHeap_old (Nat.ne_of_lt hb) (by rw [size_push']; exact Nat.lt_succ_of_lt hb)]
        exact Heap.get?_push_of_some _ e) (Nat.le_refl _) (show ObjOk X.prog X.w _ _ _ (.lst ys) from ⟨yl, out, e', v1, he'⟩)
    refine wpAny_pure ⟨_, rfl, .ref s2.heap.objs.size, _, ?_, rfl, q1 ys zs s2.heap.objs.size ((pz.trans (pM.map (·.2))).nodup_iff.mpr S.nd) (fun k => ?_) sz v2 (I3.hok.fresh (Nat.le_refl _))⟩
    · obtain ⟨hp2, gn2, dr2, tk2, os2⟩ := s2
      have e1 : gn2 = s1.gens := g1
      have e2 : os2 = s1.os := o1
      subst e1
      subst e2
      exact ⟨I4.ok, I4.os, I4.bare, I4.base, I4.loc, I4.cell, I4.free, I4.freeC, I4.pin, I4.hok, I4.len⟩
    · rw [(pz.trans (pM.map (·.2))).mem_iff]
      constructor
      · intro hm
        obtain ⟨p, hp, rfl⟩ := List.mem_map.mp hm
        rw [← e1]
        exact List.mem_map_of_mem (sub p hp)
      · intro hm
        rw [← e1] at hm
        obtain ⟨p, hp, rfl⟩ := List.mem_map.mp hm
        exact g.all p (by rw [List.take_length]; exact hp)
theorem pe_sortSetNK (K : PySem.W.Frag) {a : Expr} {ta : TE} {p p2 q pos : Pos} (hc : X.calm = true) (hu : X.A.units + 64 < cLine) (hg : Gl X "sorted") (hm : X.mg "sorted" = none) (hg2 : Gl X "set") (hm2 : X.mg "set" = none) (ha : PE X a ta) (h : X.K = K := by rfl)
    (na : starEach [a] X.env = (false, eval a X.env) :: starEach [] X.env := by rfl) : PE X (.Call (.Name "sorted" p) [.Call (.Name "set" p2) [a] [] q] [] pos) (tSortSetN K ta) := h ▸ pe_sortSetN hc hu hg hm hg2 hm2 ha na
end
end KD
set_option Elab.async false
set_option linter.all false
set_option maxRecDepth 100000
set_option maxHeartbeats 1000000
/-! D44: sorted(set(texts)) as one list; keys of ranks; index of a key; a walk over zip of two lists. -/
namespace KD
open PySem PySem.Spec PyProof.Rows L2
theorem rising_pair : ∀ (l : List Str) (p : Str), risingS p l = true → (p :: l).Pairwise (fun a b => a.cps.toList ≤ b.cps.toList)
  | [], p, _ => List.pairwise_singleton _ _
  | x :: r, p, h => by
    have h : (!ltCps x.cps.toList p.cps.toList && risingS x r) = true := h
    rw [Bool.and_eq_true, ltCps_eq] at h
    obtain ⟨h1, h2⟩ := h
    have h3 : p.cps.toList ≤ x.cps.toList := List.not_lt.mp (by simpa using h1)
    have ih := rising_pair r x h2
    refine List.pairwise_cons.mpr ⟨fun y hy => ?_, ih⟩
    rcases List.mem_cons.mp hy with e | hy
    · rw [e]; exact h3
    · exact List.le_trans h3 ((List.pairwise_cons.mp ih).1 y hy)
theorem sorted_pair {l : List Str} (h : sortedS l = true) : l.Pairwise (fun a b => a.cps.toList ≤ b.cps.toList) := by
  cases l with
  | nil => exact .nil
  | cons x r => exact rising_pair r x h
theorem cps_inj {a b : Str} (h : a.cps.toList = b.cps.toList) : a = b := by
  cases a; cases b
  simpa using h
theorem pw_uniq {α : Type} {le : α → α → Prop} (an : ∀ a b, le a b → le b a → a = b) : ∀ {xs ys : List α}, xs.Perm ys → xs.Pairwise le → ys.Pairwise le → xs = ys
  | [], ys, p, _, _ => by rw [List.nil_perm.mp p]
  | x :: xs, [], p, _, _ => by have := p.length_eq; simp at this
  | x :: xs, y :: ys, p, hx, hy => by
    obtain ⟨hx1, hx2⟩ := List.pairwise_cons.mp hx
    obtain ⟨hy1, hy2⟩ := List.pairwise_cons.mp hy
    have e : x = y := by
      rcases List.mem_cons.mp (p.mem_iff.mp List.mem_cons_self) with e | m
      · exact e
      · rcases List.mem_cons.mp (p.mem_iff.mpr List.mem_cons_self) with e | m2
        · exact e.symm
        · exact an x y (hx1 y m2) (hy1 x m)
    subst e
    rw [pw_uniq an p.cons_inv hx2 hy2]
theorem srt_uniq {xs ys : List Str} (hx : xs.Nodup) (hy : ys.Nodup) (hm : ∀ k, k ∈ xs ↔ k ∈ ys) (sx : sortedS xs = true) (sy : sortedS ys = true) : xs = ys :=
  pw_uniq (fun a b h1 h2 => cps_inj (List.le_antisymm h1 h2)) ((List.perm_ext_iff_of_nodup hx hy).mpr hm) (sorted_pair sx) (sorted_pair sy)
open Classical in
/-- the texts of a list, each once, sorted -/
noncomputable def srtS (ws : List Str) : List Str := if h : ∃ ys : List Str, ys.Nodup ∧ (∀ k, k ∈ ys ↔ k ∈ ws) ∧ sortedS ys = true then Classical.choose h else []
theorem srtS_is {ws ys : List Str} (h1 : ys.Nodup) (h2 : ∀ k, k ∈ ys ↔ k ∈ ws) (h3 : sortedS ys = true) : srtS ws = ys := by
  have h : ∃ ys : List Str, ys.Nodup ∧ (∀ k, k ∈ ys ↔ k ∈ ws) ∧ sortedS ys = true := ⟨ys, h1, h2, h3⟩
  unfold srtS
  rw [dif_pos h]
  obtain ⟨a, b, c⟩ := Classical.choose_spec h
  exact srt_uniq a h1 (fun k => (b k).trans (h2 k).symm) c h3
section
variable {K : PySem.W.Frag} {σ : L2.St} {F G H : Hp} {te to : TE} {u : TS} {D : Ends} {i : Nat}
/-- sorted(set(texts)).index(text) -/
theorem e_sortIdx {ks : List Str} {y : Str} (h : EvE K σ F te (.list (ks.map .str))) (hl : ks.length < 64) (hy : EvE K σ F to (.str y)) (hm : y ∈ ks) : EvE K σ F (tBM K "list" (rIndex K) (tSortSet K te) (tCons to tNil)) (.int ((srtS ks).idxOf y : Nat)) := fun G H e1 e2 Q q =>
  h G H e1 e2 _ fun v G1 H1 u1 d1 => by
    cases d1 with
    | lst g1 a1 =>
      have z := strs_of a1
      subst z
      refine ⟨_, ks, rfl, SqL.of (u1.h _ _ g1), hl, fun ys p n1 n2 n3 n4 hn => ?_⟩
      have es := srtS_is n1 n2 n4
      have hmy : y ∈ ys := (n2 y).mpr hm
      obtain ⟨i1, i2⟩ := idx_first hmy
      have j1 : (ys.map PyData.str)[ys.idxOf y]? = some (.str y) := by rw [List.getElem?_map, i1]; rfl
      have j2 : ∀ k, k < ys.idxOf y → (ys.map PyData.str)[k]? ≠ some (.str y) := fun k hk z => by
        rw [List.getElem?_map] at z
        obtain ⟨a, ha, e⟩ := Option.map_eq_some_iff.mp z
        rw [PyData.str.inj e] at ha
        exact i2 k hk ha
      have uN := Up.new u1.h hn (HO.lst (ys.map V.str))
      have dN : Da K (upd G1 p (.lst (ys.map V.str))) (.ref p) (.list (ys.map .str)) := .lst upd_same (daAll_strs ys)
      refine (e_index (K := K) (σ := σ) (F := upd G1 p (.lst (ys.map V.str))) (to := tV (.ref p)) (te := to) (ds := ys.map .str) (y := .str y) (j := ys.idxOf y) (e_v dN) (hy.mono (e1.tr (u1.g.tr uN.g))) (fun d hd => ?_) (.inl ⟨y, rfl⟩) j1 j2) _ _ (Ex.rf _) uN.h Q fun w G2 H2 u2 dw => ?_
      · obtain ⟨s, _, rfl⟩ := List.mem_map.mp hd
        exact .inl ⟨s, rfl⟩
      · rw [← es] at dw
        exact q w G2 H2 (u1.tr (uN.tr u2)) dw
end
/-! keys of ranks -/
abbrev kNum (n : Nat) : NestedKey := .num (n : Int)
def rkK (k : Nat × List Nat) : NestedKey := .tup [kNum k.1, .tup (k.2.map kNum)]
abbrev numD' (n : Nat) : PyData := .int (n : Int)
def rkD (k : Nat × List Nat) : PyData := .tuple [numD' k.1, .tuple (k.2.map numD')]
theorem datas_nums : ∀ l : List Nat, NestedKey.datas (l.map kNum) = l.map numD'
  | [] => rfl
  | x :: l => by
    show (kNum x).data :: NestedKey.datas (l.map kNum) = _
    rw [datas_nums l]
    rfl
theorem rkK_data (k : Nat × List Nat) : (rkK k).data = rkD k := by
  show PyData.tuple [(kNum k.1).data, .tuple (NestedKey.datas (k.2.map kNum))] = _
  rw [datas_nums]
  rfl
theorem rkK_inj {a b : Nat × List Nat} (h : rkK a = rkK b) : a = b := by
  obtain ⟨x, l⟩ := a
  obtain ⟨y, m⟩ := b
  have h : NestedKey.tup [kNum x, .tup (l.map kNum)] = .tup [kNum y, .tup (m.map kNum)] := h
  injection h with h
  injection h with h1 h2
  injection h1 with h1
  injection h2 with h2
  injection h2 with h2
  have e1 : x = y := by omega
  have e2 : l = m := (List.map_inj_right fun a b e => by injection e with e; omega).mp h2
  rw [e1, e2]
theorem rkK_ok (k : Nat × List Nat) : KeyT (rkK k) := by
  have n : ∀ l : List Nat, numKs (l.map kNum) = true := by
    intro l
    induction l with
    | nil => rfl
    | cons a r ih => show (true && numKs (r.map kNum)) = true; rw [ih]; rfl
  have d : ∀ l : List Nat, NestedKey.depthAll (l.map kNum) = 0 := by
    intro l
    induction l with
    | nil => rfl
    | cons a r ih => show max 0 (NestedKey.depthAll (r.map kNum)) = 0; rw [ih]; rfl
  refine ⟨⟨_, _, rfl⟩, ?_, ?_⟩
  · show (true && (numKs (k.2.map kNum) && true)) = true
    rw [n]; rfl
  · show max 0 (max (NestedKey.depthAll (k.2.map kNum) + 1) 0) + 1 ≤ 8
    rw [d]; decide
theorem rkD_alike (a b : Nat × List Nat) : PySem.W.alike (rkD a) (rkD b) = true := by
  have l : ∀ l m : List Nat, PySem.W.alikeAll (l.map numD') (m.map numD') = true := by
    intro l
    induction l with
    | nil => intro m; cases m <;> rfl
    | cons x l ih =>
      intro m
      cases m with
      | nil => rfl
      | cons y m => show (true && PySem.W.alikeAll (l.map numD') (m.map numD')) = true; rw [ih]; rfl
  show (true && (PySem.W.alikeAll (a.2.map numD') (b.2.map numD') && true)) = true
  rw [l]; rfl
theorem map_rk {ks : List (Nat × List Nat)} : (ks.map rkK).map NestedKey.data = ks.map rkD := by
  rw [List.map_map]
  exact List.map_congr_left fun k _ => rkK_data k
theorem back_rk {ks : List (Nat × List Nat)} : ∀ {zs : List NestedKey}, (∀ k ∈ zs, k ∈ ks.map rkK) → ∃ ys : List (Nat × List Nat), zs = ys.map rkK
  | [], _ => ⟨[], rfl⟩
  | z :: zs, h => by
    obtain ⟨ys, e⟩ := back_rk (zs := zs) fun k hk => h k (List.mem_cons_of_mem _ hk)
    obtain ⟨y, _, ey⟩ := List.mem_map.mp (h z List.mem_cons_self)
    exact ⟨y :: ys, by rw [e, ← ey]; rfl⟩
section
variable {K : PySem.W.Frag} {σ : L2.St} {F G H : Hp} {te to : TE} {u : TS} {D : Ends} {i : Nat}
/-- order = sorted(set(keys)) -/
theorem st_sortSetN {ks : List (Nat × List Nat)} (h : EvE K σ G te (.list (ks.map rkD))) (e : Ex G H) (hl : ks.length < 64)
    (q : ∀ v (ys : List (Nat × List Nat)) G' H', Up G H G' H' → ys.Nodup → (∀ k, k ∈ ys ↔ k ∈ ks) → ys.Pairwise (fun a b => (!PySem.W.dataLt (rkD b) (rkD a)) = true) → Da K G' v (.list (ys.map rkD)) → u D (σ.set i (some v)) H') : tSeq (tAsg (tSortSetN K te) (gName i)) u D σ H :=
  h G H (Ex.rf _) e _ fun v G1 H1 u1 d1 => by
    cases d1 with
    | lst g1 a1 =>
      refine ⟨_, _, ks.map rkK, G1, rfl, SqL.of (u1.h _ _ g1), u1.h, by rw [map_rk]; exact a1, fun k hk => ?_, fun d hd d' hd' => ?_, by rw [List.length_map]; exact hl, fun xs zs p n1 n2 n3 n4 hn => ?_⟩
      · obtain ⟨x, _, rfl⟩ := List.mem_map.mp hk
        exact rkK_ok x
      · rw [map_rk] at hd hd'
        obtain ⟨x, _, rfl⟩ := List.mem_map.mp hd
        obtain ⟨y, _, rfl⟩ := List.mem_map.mp hd'
        exact rkD_alike x y
      · obtain ⟨ys, rfl⟩ := back_rk (ks := ks) fun k hk => (n2 k).mp hk
        have mem : ∀ k, k ∈ ys ↔ k ∈ ks := fun k => by
          have back : ∀ l : List (Nat × List Nat), rkK k ∈ l.map rkK ↔ k ∈ l := fun l => ⟨fun h => by
            obtain ⟨y, hy, e⟩ := List.mem_map.mp h
            rw [← rkK_inj e]; exact hy, fun h => List.mem_map_of_mem h⟩
          rw [← back ys, ← back ks]
          exact n2 (rkK k)
        rw [map_rk] at n4
        refine q _ ys _ _ (u1.tr (Up.new u1.h hn _)) (List.Pairwise.of_map rkK (fun a b hne e => hne (by rw [e])) n1) mem ?_ (.lst upd_same (n4.mono (Ex.up (u1.h.fresh hn))))
        refine (List.pairwise_map.mp n3).imp fun {a b} h => ?_
        rw [rkK_data, rkK_data] at h
        exact h
end
theorem walk_zipL {K : PySem.W.Frag} {a b : Addr} {xs ys : List V} (hl : xs.length = ys.length) : Walk (Itz K a b) xs.length (fun H => SqL K H a xs ∧ SqL K H b ys) (YPair (fun i => xs[i]?) (fun i => ys[i]?)) := by
  refine ⟨fun i _ hi q => ⟨xs, ys, _, _, q.1, q.2, List.getElem?_eq_getElem hi, List.getElem?_eq_getElem (by omega)⟩, fun _ q => ⟨xs, ys, q.1, q.2, .inl (Nat.le_refl _)⟩, fun i H v H' _ q y => ?_⟩
  obtain ⟨T, x, z, h1, h2, h3, h4, h5⟩ := y
  exact ⟨T, x, z, h1, h2, h3, h4 xs q.1, h5 ys q.2⟩
/-! ### l.index(key) -/
mutual
theorem dp_key {K : PySem.W.Frag} {H : Hp} : ∀ (k : NestedKey) {v : V}, Da K H v k.data → Dp K H v k.data
  | .none, _, h => by cases h; exact .non
  | .num i, _, h => by cases h; exact .int i
  | .text x, _, h => by cases h; exact .str x
  | .tup ks, _, h => by
    have h2 : Da K H _ (.tuple (NestedKey.datas ks)) := h
    show Dp K H _ (.tuple (NestedKey.datas ks))
    cases h2 with
    | tup a1 a2 => exact .tup (SqT.of a1) (dp_keys ks a2)
theorem dp_keys {K : PySem.W.Frag} {H : Hp} : ∀ (ks : List NestedKey) {vs : List V}, DaAll K H vs (NestedKey.datas ks) → DpAll K H vs (NestedKey.datas ks)
  | [], _, h => by cases h; exact .nil
  | k :: ks, _, h => by
    have h2 : DaAll K H _ (k.data :: NestedKey.datas ks) := h
    show DpAll K H _ (k.data :: NestedKey.datas ks)
    cases h2 with
    | cons a1 a2 => exact .cons (dp_key k a1) (dp_keys ks a2)
end
theorem datas_map : ∀ ks : List NestedKey, NestedKey.datas ks = ks.map NestedKey.data
  | [] => rfl
  | k :: ks => by
    show k.data :: NestedKey.datas ks = _
    rw [datas_map ks]
    rfl
theorem nums_eqv : ∀ {xs ys : List Nat}, PyData.eqvAll (xs.map numD') (ys.map numD') = decide (xs = ys)
  | [], [] => rfl
  | [], _ :: _ => rfl
  | _ :: _, [] => rfl
  | x :: xs, y :: ys => by
    show (PyData.eqv (numD' x) (numD' y) && PyData.eqvAll (xs.map numD') (ys.map numD')) = _
    rw [nums_eqv]
    have h : PyData.eqv (numD' x) (numD' y) = decide (x = y) := by
      show PyData.eqv (.int (x : Int)) (.int (y : Int)) = _
      by_cases e : x = y
      · subst e; simp [PyData.eqv]
      · have h1 : ¬ ((x : Int) = (y : Int)) := by omega
        simp [PyData.eqv, e, h1]
    rw [h]
    by_cases e : x = y <;> simp [e]
theorem rkD_eqv {a b : Nat × List Nat} : PyData.eqv (rkD a) (rkD b) = decide (a = b) := by
  obtain ⟨x, l⟩ := a
  obtain ⟨y, m⟩ := b
  show (PyData.eqv (.int (x : Int)) (.int (y : Int)) && (PyData.eqvAll (l.map numD') (m.map numD') && true)) = _
  rw [nums_eqv]
  by_cases e1 : x = y
  · subst e1
    by_cases e2 : l = m <;> simp [PyData.eqv, e2]
  · have h1 : ¬ ((x : Int) = (y : Int)) := by omega
    simp [PyData.eqv, e1, h1]
theorem rkD_shaped {ks : List (Nat × List Nat)} : SeqAt.shaped (.list (ks.map rkD)) = true ∧ ∀ k, SeqAt.shaped (rkD k) = true := by
  have lay : ∀ l : List Nat, PyData.canLayAll0 (l.map numD') = true := by
    intro l
    induction l with
    | nil => rfl
    | cons a r ih => show (true && PyData.canLayAll0 (r.map numD')) = true; rw [ih]; rfl
  have dep : ∀ l : List Nat, PyData.depthAll (l.map numD') = 0 := by
    intro l
    induction l with
    | nil => rfl
    | cons a r ih => show max 0 (PyData.depthAll (r.map numD')) = 0; rw [ih]; rfl
  have l1 : ∀ k, PyData.canLay0 (rkD k) = true := fun k => by
    show (true && (PyData.canLayAll0 (k.2.map numD') && true)) = true
    rw [lay]; rfl
  have d1 : ∀ k, PyData.depth (rkD k) ≤ 2 := fun k => by
    show max 0 (max (PyData.depthAll (k.2.map numD') + 1) 0) + 1 ≤ 2
    rw [dep]; decide
  have l2 : ∀ ks : List (Nat × List Nat), PyData.canLayAll0 (ks.map rkD) = true := by
    intro ks
    induction ks with
    | nil => rfl
    | cons a r ih => show (PyData.canLay0 (rkD a) && PyData.canLayAll0 (r.map rkD)) = true; rw [ih, l1]; rfl
  have d2 : ∀ ks : List (Nat × List Nat), PyData.depthAll (ks.map rkD) ≤ 2 := by
    intro ks
    induction ks with
    | nil => exact Nat.zero_le _
    | cons a r ih =>
      have := d1 a
      show max (PyData.depth (rkD a)) (PyData.depthAll (r.map rkD)) ≤ 2
      omega
  unfold SeqAt.shaped
  refine ⟨?_, fun k => ?_⟩
  · have h2 : PyData.depth (.list (ks.map rkD)) ≤ 64 := by
      have := d2 ks
      show PyData.depthAll (ks.map rkD) + 1 ≤ 64
      omega
    rw [decide_eq_true h2, Bool.and_true]
    exact l2 ks
  · rw [l1, decide_eq_true (Nat.le_trans (d1 k) (by decide))]; rfl
section
variable {K : PySem.W.Frag} {σ : L2.St} {F : Hp} {te to : TE}
def posK (ks : List (Nat × List Nat)) (k : Nat × List Nat) : Nat := @List.idxOf _ instBEqOfDecidableEq k ks
theorem posK_at {ks : List (Nat × List Nat)} {k : Nat × List Nat} (h : k ∈ ks) : ks[posK ks k]? = some k ∧ ∀ m, m < posK ks k → ks[m]? ≠ some k := idx_first h
theorem posK_inj {ks : List (Nat × List Nat)} {a b : Nat × List Nat} (ha : a ∈ ks) (hb : b ∈ ks) : posK ks a = posK ks b ↔ a = b := by
  constructor
  · intro e
    have h1 := (posK_at ha).1
    rw [e, (posK_at hb).1] at h1
    exact (Option.some.inj h1).symm
  · intro e; rw [e]
theorem posK_lt {ks : List (Nat × List Nat)} {a : Nat × List Nat} (ha : a ∈ ks) : posK ks a < ks.length := (List.getElem?_eq_some_iff.mp (posK_at ha).1).1
theorem e_indexN {ks : List (Nat × List Nat)} {k : Nat × List Nat} (ho : EvE K σ F to (.list (ks.map rkD))) (hy : EvE K σ F te (rkD k)) (hm : k ∈ ks) :
    EvE K σ F (tBM K "list" (rIndexD K) to (tCons te tNil)) (.int (posK ks k : Nat)) := fun G H e1 e2 Q q =>
  ho G H e1 e2 _ fun v G1 H1 u1 d1 => by
    cases d1 with
    | lst g1 a1 =>
      refine ⟨.inl ⟨rfl, _, SqL.of (u1.h _ _ g1)⟩, hy G1 H1 (e1.tr u1.g) u1.h _ fun w G2 H2 u2 d2 => ?_⟩
      obtain ⟨i1, i2⟩ := posK_at hm
      have gH : Ex G1 H2 := u2.g.tr u2.h
      refine ⟨_, w, rkD k, ks.map rkD, posK ks k, rkD k, rfl, rfl, .lst (SqL.of (gH _ _ g1)) ?_, ?_, rkD_shaped.1, rkD_shaped (ks := []).2 k, by rw [List.getElem?_map, i1]; rfl, by rw [rkD_eqv]; simp, fun m z hlt hz => ?_, q _ G2 H2 (u1.tr u2) (.int _)⟩
      · have z := DaAll.mono gH _ a1
        rw [← map_rk, ← datas_map] at z ⊢
        exact dp_keys _ z
      · have z := Da.mono u2.h _ d2
        rw [← rkK_data] at z ⊢
        exact dp_key _ z
      · rw [List.getElem?_map] at hz
        obtain ⟨y, hy2, e⟩ := Option.map_eq_some_iff.mp hz
        rw [← e, rkD_eqv]
        refine decide_eq_false fun z => ?_
        rw [z] at hy2
        exact i2 m hlt hy2
end
theorem pe_indexDK {X : Cx} (K : PySem.W.Frag) {o e : Expr} {to te : TE} {apos cpos : Pos} (hu : X.A.units + 65 < cLine) (ho : PE X o to) (he : PE X e te) (h : X.K = K := by rfl)
    (hbase : attributeBase o "index" X.env (eval o X.env) = eval o X.env := by rfl)
    (hfew : ((backTo cpos (starEach [e] X.env)).all (fun x => !x.1) && (backToKw cpos (keywordEach [] X.env)).all (fun x => x.1.isSome)
      && decide ([e].length + ([] : List Keyword).length + (if ([] : List Keyword).isEmpty then 0 else 1) < 30)) = true := by rfl)
    (hline : (apos.endLine == cpos.line) = true := by rfl) (hs : starEach [e] X.env = (false, eval e X.env) :: starEach [] X.env := by rfl) :
    PE X (.Call (.Attribute o "index" apos) [e] [] cpos) (tBM K "list" (rIndexD K) to (tCons te tNil)) := h ▸ pe_bm PySem.F.plainAttrs_list PySem.F.slot_list_index PySem.F.type_list_index (mt_indexD hu) ho (pa_cons he pa_nil hs) hbase hfew hline hs rfl
end KD
set_option Elab.async false
set_option linter.all false
set_option maxRecDepth 100000
set_option maxHeartbeats 2000000
/-! D45: list(zip(list, tuple)), reversed(list). -/
namespace KD
open PySem PySem.Spec PyProof.Rows L2
/-! ### list(zip(xs, ys)) of a list and a tuple -/
def tLstZipM (K : PySem.W.Frag) (ta : TA) : TE := fun σ H Q => ta σ H fun vs H1 => ∃ a b xs ys, vs = [.ref a, .ref b] ∧ SqL K H1 a xs ∧ SqT K H1 b ys ∧ xs.length = ys.length ∧ xs.length ≤ 1000 ∧
  ∀ (L : Addr) (Ts : List Addr) (H2 : Hp), ZipMade H1 H2 L Ts xs ys → Q (.ref L) H2
theorem pe_listZipM {X : Cx} {e e2 : Expr} {ta : TA} {p p2 pos pos2 : Pos} (hc : X.calm = true) (hgl : Gl X "list") (hml : X.mg "list" = none) (hg : Gl X "zip") (hm : X.mg "zip" = none) (ha : PA X [e, e2] ta)
    (hs : starEach [e, e2] X.env = (false, eval e X.env) :: starEach [e2] X.env := by rfl) (hpl : (backTo pos2 (starEach [e2] X.env)).any (·.1) = false := by rfl)
    (na : starEach [.Call (.Name "zip" p2) [e, e2] [] pos2] X.env = (false, eval (.Call (.Name "zip" p2) [e, e2] [] pos2) X.env) :: starEach [] X.env := by rfl) :
    PE X (.Call (.Name "list" p) [.Call (.Name "zip" p2) [e, e2] [] pos2] [] pos) (tLstZipM X.K ta) := by
  refine ⟨fun pins s σ H Q I h => ?_⟩
  refine Call_ (ld_blt I hgl hml boot_list (PyProof.Rows.callWith_type1 (args_cons (Call_ (ld_blt I hg hm PyProof.Rows.boot_zip (PyProof.Rows.callWith_type1 (thn (ha.run pos2 pins s σ H _ I h) ?_) hs hpl))) na) na))
  rintro us s1 ⟨vs, H1, I1, r1, a, b, xs, ys, rfl, qx, qy, hxy, hx1, q⟩
  cases r1 with | cons r r1 => ?_
  cases r1 with | cons r' r1 => ?_
  cases r1; cases r; cases r'
  obtain ⟨its, rv, p1, _⟩ := I1.list qx
  obtain ⟨jts, rw2, p2', _⟩ := I1.tuple qy
  obtain ⟨ob, hob, _⟩ := id p2'
  have l1 := rv.length
  have l2 := rw2.length
  have la := p1.lt
  have lb := Heap.lt_size hob
  have hh : X.A.in1.handled = none := I1.ok.hd hc
  refine zip_begins2 (begins_list a its.toArray) (begins_tuple b jts.toArray) p1.isList p2' fun h' hz hTI hTO e1 e2 hsz hk => args_nil ?_
  have hS : ZipSep2 (s1.heap.objs.size + 4) (s1.heap.objs.size + 2) (s1.heap.objs.size + 3) s1.heap.objs.size (s1.heap.objs.size + 1) [s1.heap.objs.size, a] [s1.heap.objs.size + 1, b] := by
    have hla : @LT.lt Nat instLTNat a s1.heap.objs.size := la
    have hlb : @LT.lt Nat instLTNat b s1.heap.objs.size := lb
    generalize s1.heap.objs.size = n at hla hlb
    have ne : ∀ {x y : Nat}, x ≠ y → ¬ ((x : Addr) = y) := fun h => h
    constructor <;> first
      | exact List.mem_cons_self
      | (refine ne ?_; show ¬ (_ : Nat) = _; omega)
      | (simp only [List.mem_cons, List.not_mem_nil, or_false, not_or]; refine ⟨ne ?_, ne ?_⟩ <;> (show ¬ (_ : Nat) = _; omega))
  have ha1 : h'.IsList a its.toArray := (show s1.heap.IsList a its.toArray from p1.isList).at fun o y => hk a o y
  have hb1 : h'.IsTuple b jts.toArray := (show s1.heap.IsTuple b jts.toArray from p2').at fun o y => hk b o y
  have hsz1 : its.toArray.size = xs.length := by rw [List.size_toArray]; exact l1.symm
  have hsz2 : jts.toArray.size = xs.length := by rw [List.size_toArray]; omega
  have D1 := Draws.list (prog := X.prog) (w := X.w) (A := X.A.in1.in1.in1) hh s1.heap.objs.size a (Nat.ne_of_lt la) its.toArray
  have D2 := Draws.tuple (prog := X.prog) (w := X.w) (A := X.A.in1.in1.in1) hh (s1.heap.objs.size + 1) b (Nat.ne_of_lt (Nat.lt_succ_of_lt lb)) jts.toArray
  rw [hsz1] at D1
  rw [hsz2] at D2
  refine list_zip_call (s := { s1 with heap := h' }) hS D1 D2 hx1 ⟨.inl hz, hTI, ⟨_, _, hTO⟩⟩ hz ⟨⟨_, e1, rfl, rfl⟩, ha1⟩ ⟨⟨_, e2, rfl, rfl⟩, hb1⟩ (fun c hc => ?_) (fun c hc => ?_) fun s' Ts c hkk g1 g2 g3 hl hln hnd hT => ?_
  · show c < h'.objs.size
    rw [hsz]
    rcases mem2 hc with rfl | rfl
    · exact Nat.lt_add_of_pos_right (by decide)
    · exact Nat.lt_of_lt_of_le la (Nat.le_add_right _ _)
  · show c < h'.objs.size
    rw [hsz]
    rcases mem2 hc with rfl | rfl
    · exact Nat.add_lt_add_left (by decide) _
    · exact Nat.lt_of_lt_of_le lb (Nat.le_add_right _ _)
  · have hl : s'.heap.get? h'.objs.size = some { cls := .type "list", dict := none, data := .seq (Ts.map Value.ref).toArray c, slots := #[] } := hl
    have hT : ∀ (j : Nat) (T : Addr), Ts[j]? = some T → h'.objs.size < T ∧ ∃ x y, its.toArray[j]? = some x ∧ jts.toArray[j]? = some y ∧ IsTupOf2 s'.heap T x y := hT
    show EP X pins σ Q (.ref h'.objs.size) s'
    rw [hsz] at hl hT ⊢
    have old : ∀ b u, s1.heap.get? b = some u → s'.heap.get? b = some u := fun b u e => by
      refine hkk b u (fun hm => ?_) (hk b u e)
      have hlt := Heap.lt_size e
      rcases mem5 hm with z | z | z | z | z
      · rw [z] at hlt; exact absurd hlt (Nat.not_lt.mpr (Nat.le_add_right _ _))
      · rw [z] at hlt; exact absurd hlt (Nat.not_lt.mpr (Nat.le_add_right _ _))
      · rw [z] at hlt; exact absurd hlt (Nat.not_lt.mpr (Nat.le_add_right _ _))
      · rw [z] at hlt; exact absurd hlt (Nat.lt_irrefl _)
      · rw [z] at hlt; exact absurd hlt (Nat.not_lt.mpr (Nat.le_add_right _ _))
    -- the heap as we see it
    obtain ⟨H2, hH2⟩ : ∃ H2 : Hp, ∀ x, H2 x = if x = s1.heap.objs.size + 5 then some (.lst (Ts.map V.ref)) else if x ∈ Ts then some (.tup [xs.getD (Ts.idxOf x) .non, ys.getD (Ts.idxOf x) .non]) else H1 x :=
      ⟨fun x => if x = s1.heap.objs.size + 5 then some (.lst (Ts.map V.ref)) else if x ∈ Ts then some (.tup [xs.getD (Ts.idxOf x) .non, ys.getD (Ts.idxOf x) .non]) else H1 x, fun _ => rfl⟩
    have big : ∀ T ∈ Ts, s1.heap.objs.size + 5 < T := fun T hm => by
      obtain ⟨j, hj⟩ := List.mem_iff_getElem?.mp hm
      exact (hT j T hj).1
    have ex12 : Ex H1 H2 := fun x o e => by
      rw [hH2, if_neg, if_neg]
      · exact e
      · intro z
        rw [I1.hok.fresh (Nat.le_of_lt (Nat.lt_of_le_of_lt (Nat.le_add_right _ _) (big x z)))] at e
        cases e
      · intro z
        rw [z, I1.hok.fresh (Nat.le_add_right _ _)] at e
        cases e
    have hTat : ∀ {j : Nat} {T : Addr}, Ts[j]? = some T → H2 T = some (.tup [xs.getD j .non, ys.getD j .non]) := fun {j T} hj => by
      have hm := List.mem_of_getElem? hj
      have hjl := (List.getElem?_eq_some_iff.mp hj).1
      have hidx : Ts.idxOf T = j := by
        rw [← (List.getElem?_eq_some_iff.mp hj).2]
        exact List.Nodup.idxOf_getElem hnd j hjl
      rw [hH2, if_neg (fun z => absurd (big T hm) (by rw [z]; exact Nat.lt_irrefl _)), if_pos hm, hidx]
    have rel : ∀ (j : Nat) (u1 u2 : Value), its.toArray[j]? = some u1 → jts.toArray[j]? = some u2 → ∃ x y, xs[j]? = some x ∧ ys[j]? = some y ∧ RelV x u1 ∧ RelV y u2 := fun j u1 u2 h1 h2 => by
      have h1 : its[j]? = some u1 := by simpa using h1
      have h2 : jts[j]? = some u2 := by simpa using h2
      have hjx : j < xs.length := by rw [l1]; exact (List.getElem?_eq_some_iff.mp h1).1
      have hjy : j < ys.length := by omega
      obtain ⟨v1, q1, r1⟩ := rv.get (List.getElem?_eq_getElem hjx)
      obtain ⟨v2, q2, r2⟩ := rw2.get (List.getElem?_eq_getElem hjy)
      rw [h1] at q1; cases q1
      rw [h2] at q2; cases q2
      exact ⟨_, _, List.getElem?_eq_getElem hjx, List.getElem?_eq_getElem hjy, r1, r2⟩
    have I2 : Inv X pins σ H2 { s1 with heap := s'.heap, toks := s'.toks } := by
      refine inv_many I1 old ex12 fun x u e hn => ?_
      rw [hH2] at e
      by_cases e1 : x = s1.heap.objs.size + 5
      · rw [if_pos e1] at e
        cases e
        refine ⟨by rw [e1]; exact Nat.le_add_right _ _, ?_⟩
        refine ⟨?_, Ts.map Value.ref, c, ?_, by rw [e1]; exact hl⟩
        · rw [List.length_map, hln]
          exact Nat.le_trans hx1 (by decide)
        · exact vals_refs Ts
      · rw [if_neg e1] at e
        by_cases e2 : x ∈ Ts
        · rw [if_pos e2] at e
          cases e
          obtain ⟨j, hj⟩ := List.mem_iff_getElem?.mp e2
          obtain ⟨h1, u1, u2, p1, p2, p3⟩ := hT j x hj
          obtain ⟨v1, v2, q1, q2, r1, r2⟩ := rel j u1 u2 p1 p2
          have hjl := (List.getElem?_eq_some_iff.mp hj).1
          have hidx : Ts.idxOf x = j := by
            rw [← (List.getElem?_eq_some_iff.mp hj).2]
            exact List.Nodup.idxOf_getElem hnd j hjl
          refine ⟨Nat.le_of_lt (Nat.lt_of_le_of_lt (Nat.le_add_right _ _) h1), ?_⟩
          rw [hidx, List.getD_eq_getElem?_getD, q1, List.getD_eq_getElem?_getD, q2]
          exact ⟨by show 2 ≤ sizeLine; decide, [u1, u2], .cons r1 (.cons r2 .nil), ⟨_, p3, rfl, _, rfl⟩⟩
        · rw [if_neg e2, hn] at e; cases e
    have es : ({ s1 with heap := s'.heap, toks := s'.toks } : Shared) = s' := by
      obtain ⟨a1, a2, a3, a4, a5⟩ := s'
      have g1 : a2 = s1.gens := g1
      have g2 : a3 = s1.drawn := g2
      have g3 : a5 = s1.os := g3
      subst g1 g2 g3
      rfl
    rw [es] at I2
    refine ⟨.ref (s1.heap.objs.size + 5), H2, I2, rfl, q _ Ts H2 ⟨ex12, I1.hok.fresh (Nat.le_add_right _ _), by rw [hH2, if_pos rfl], hln, fun j T x y h1 h2 h3 => ⟨I1.hok.fresh (Nat.le_of_lt (Nat.lt_of_le_of_lt (Nat.le_add_right _ _) (hT j T h1).1)), ?_⟩⟩⟩
    rw [hTat h1, List.getD_eq_getElem?_getD, h2, List.getD_eq_getElem?_getD, h3]
    rfl
theorem pe_listZipMK (K : PySem.W.Frag) {X : Cx} {e e2 : Expr} {ta : TA} {p p2 pos pos2 : Pos} (hc : X.calm = true) (hgl : Gl X "list") (hml : X.mg "list" = none) (hg : Gl X "zip") (hm : X.mg "zip" = none) (ha : PA X [e, e2] ta) (h : X.K = K := by rfl)
    (hs : starEach [e, e2] X.env = (false, eval e X.env) :: starEach [e2] X.env := by rfl) (hpl : (backTo pos2 (starEach [e2] X.env)).any (·.1) = false := by rfl)
    (na : starEach [.Call (.Name "zip" p2) [e, e2] [] pos2] X.env = (false, eval (.Call (.Name "zip" p2) [e, e2] [] pos2) X.env) :: starEach [] X.env := by rfl) :
    PE X (.Call (.Name "list" p) [.Call (.Name "zip" p2) [e, e2] [] pos2] [] pos) (tLstZipM K ta) := h ▸ pe_listZipM hc hgl hml hg hm ha hs hpl na
section
variable {K : PySem.W.Frag} {σ : L2.St} {F : Hp} {as : TA} {te : TE}
theorem e_lzipM {xs ys : List PyData} (h : EvA K σ F as [.list xs, .tuple ys]) (hl : xs.length = ys.length) (hz : xs.length ≤ 1000) : EvE K σ F (tLstZipM K as) (.list (zipD xs ys)) := fun G H e1 e2 Q q => h G H e1 e2 _ fun vs G1 H1 u1 d1 => by
  cases d1 with | cons a1 d1 => ?_
  cases d1 with | cons a2 d1 => ?_
  cases d1
  cases a1 with | lst g1 b1 => ?_
  cases a2 with | tup g2 b2 => ?_
  rename_i a vs b ws
  have l1 := b1.length
  have l2 := b2.length
  refine ⟨a, b, vs, ws, rfl, SqL.of (u1.h _ _ g1), SqT.of (u1.h _ _ g2), by omega, by omega, fun L Ts H2 Z => ?_⟩
  classical
  have hT : ∀ T ∈ Ts, H1 T = none ∧ ∃ x y, H2 T = some (.tup [x, y]) := fun T hT => by
    obtain ⟨j, hj⟩ := List.mem_iff_getElem?.mp hT
    have hjl := (List.getElem?_eq_some_iff.mp hj).1
    have := Z.l
    have j1 : j < vs.length := by omega
    have j2 : j < ws.length := by omega
    have := Z.t j T _ _ hj (List.getElem?_eq_getElem j1) (List.getElem?_eq_getElem j2)
    exact ⟨this.1, _, _, this.2⟩
  let G' : Hp := fun c => if c = L ∨ c ∈ Ts then H2 c else G1 c
  have hfr : ∀ c, c = L ∨ c ∈ Ts → H1 c = none := fun c hc => by
    rcases hc with rfl | hc
    · exact Z.nL
    · exact (hT c hc).1
  have hout : ∀ c, H1 c ≠ none → G' c = G1 c := fun c hc => if_neg fun hz => hc (hfr c hz)
  have eG : Ex G1 G' := fun c o e => by rw [hout c (by rw [u1.h c o e]; simp)]; exact e
  have up : Up G1 H1 G' H2 := ⟨eG, fun c o e => by
      by_cases hc : c = L ∨ c ∈ Ts
      · have : G' c = H2 c := if_pos hc
        rw [this] at e; exact e
      · have : G' c = G1 c := if_neg hc
        rw [this] at e; exact Z.e c o (u1.h c o e), Z.e, fun c h1 h2 => by rw [hout c h1]; exact h2⟩
  refine q _ G' H2 (u1.tr up) (.lst (xs := Ts.map V.ref) ?_ (zip_all (b1.mono eG) (b2.mono eG) (by omega) Z.l fun j T x y e1 e2 e3 => ?_))
  · have : G' L = H2 L := if_pos (.inl rfl)
    rw [this]; exact Z.hL
  · have : G' T = H2 T := if_pos (.inr (List.mem_of_getElem? e1))
    rw [this]; exact (Z.t j T x y e1 e2 e3).2
theorem i_rev {ds : List PyData} (h : EvA K σ F as [.list ds]) : EvI K σ F (iRev K as) ds.reverse := fun G H e1 e2 R q => h G H e1 e2 _ fun vs G1 H1 u1 d1 => by
  cases d1 with
  | cons da db =>
    cases db
    cases da with
    | @lst a xs _ h1 a1 =>
      have hl := a1.length
      refine ⟨a, xs, rfl, SqL.of (u1.h _ _ h1), q _ G1 H1 u1 fun i G2 H2 e3 e4 => ⟨fun d hd => ?_, fun hi => ?_⟩⟩
      · have il := (List.getElem?_eq_some_iff.mp hd).1
        rw [List.length_reverse] at il
        rw [List.getElem?_reverse il] at hd
        have hd2 : ds[xs.length - 1 - i]? = some d := by rw [hl]; exact hd
        obtain ⟨x, hx, dx⟩ := a1.at hd2
        have hs : SqL K H2 a xs := SqL.of (e4 _ _ (e3 _ _ h1))
        refine ⟨⟨by omega, xs, x, hs, hx⟩, ?_⟩
        rintro y H' ⟨rfl, hy⟩
        have e := hy xs hs
        rw [hx] at e; cases e
        exact ⟨G2, Up.rf e4, dx.mono e3⟩
      · rw [List.length_reverse] at hi
        show xs.length ≤ i
        omega
theorem pi_revK {X : Cx} {tg e : Expr} {ta : TA} {p pos : Pos} (K : PySem.W.Frag) (hg : Gl X "reversed") (hm : X.mg "reversed" = none) (ha : PA X [e] ta) (h : X.K = K := by rfl) (hs : starEach [e] X.env = [(false, eval e X.env)] := by rfl) : PI X tg (.Call (.Name "reversed" p) [e] [] pos) (iRev K ta) := h ▸ pi_reversed hg hm ha hs
end
end KD
set_option linter.all false
set_option maxHeartbeats 1000000
/-! ### a value in which another one stands at a path -/
namespace KM
section
variable {α : Type} {ar : α → Nat} {s t R s' t' R' : Sheet α}
/-- from x on R writes what s writes from i on, but at the path p what t writes -/
def RepAt (s t R : Sheet α) : List Nat → Nat → Nat → Prop
  | [], _, x => Same t R 0 x
  | f :: p, i, x => tg R x = tg s i ∧ (∃ y z, (fl s i)[f]? = some y ∧ (fl R x)[f]? = some z ∧ RepAt s t R p y z) ∧ ∀ (a u v : Nat), a ≠ f → (fl s i)[a]? = some u → (fl R x)[a]? = some v → Same s R u v
theorem get_of_len {xs ys : List Nat} (h : xs.length = ys.length) {a x : Nat} (hx : xs[a]? = some x) : ∃ y, ys[a]? = some y :=
  ⟨_, List.getElem?_eq_getElem (by rw [← h]; exact (List.getElem?_eq_some_iff.mp hx).1)⟩
theorem RepAt.move (hs : Ok ar s) (ht : Ok ar t) (hR : Ok ar R) (hR' : Ok ar R') : ∀ {p : List Nat} {i x x' : Nat}, RepAt s t R p i x → Same R R' x x' → RepAt s t R' p i x'
  | [], _, _, _, h, e => Same.tr ht hR h e
  | f :: p, i, x, x', ⟨h1, ⟨y, z, h2, h3, h4⟩, h5⟩, e => by
    have hl := hR.len hR' e.tag
    obtain ⟨z', hz'⟩ := get_of_len hl h3
    refine ⟨e.tag.symm.trans h1, ⟨y, z', h2, hz', h4.move hs ht hR hR' (e.fld h3 hz')⟩, fun a u v ha hu hv => ?_⟩
    obtain ⟨w, hw⟩ := get_of_len hl.symm hv
    exact Same.tr hs hR (h5 a u w ha hu hw) (e.fld hw hv)
/-- the same values are put together from the same ones -/
theorem RepAt.same (hs : Ok ar s) (ht : Ok ar t) (hR : Ok ar R) (hs' : Ok ar s') (ht' : Ok ar t') (hR' : Ok ar R') (e : Same t t' 0 0) {p : List Nat} {i x i' x' : Nat} (h : RepAt s t R p i x) (h' : RepAt s' t' R' p i' x') (hi : Same s s' i i') : Same R R' x x' := by
  refine same_of (fun x x' => Same R R' x x' ∨ ∃ p i i', RepAt s t R p i x ∧ RepAt s' t' R' p i' x' ∧ Same s s' i i') (fun x x' hx => ?_) (.inr ⟨p, i, i', h, h', hi⟩)
  rcases hx with hx | ⟨p, i, i', h, h', hi⟩
  · exact ⟨hx.tag, fun a u v hu hv => .inl (hx.fld hu hv)⟩
  · cases p with
    | nil =>
      have z : Same R R' x x' := (Same.sym h).tr hR ht (e.tr ht ht' h')
      exact ⟨z.tag, fun a u v hu hv => .inl (z.fld hu hv)⟩
    | cons f p =>
      obtain ⟨h1, ⟨y, z, h2, h3, h4⟩, h5⟩ := h
      obtain ⟨g1, ⟨y', z', g2, g3, g4⟩, g5⟩ := h'
      refine ⟨h1.trans (hi.tag.trans g1.symm), fun a u v hu hv => ?_⟩
      by_cases c : a = f
      · subst c
        rw [h3] at hu; cases hu
        rw [g3] at hv; cases hv
        exact .inr ⟨p, y, y', h4, g4, hi.fld h2 g2⟩
      · obtain ⟨w, hw⟩ := get_of_len (hR.len hs h1) hu
        obtain ⟨w', hw'⟩ := get_of_len (hR'.len hs' g1) hv
        exact .inl (((h5 a w u c hw hu).sym.tr hR hs (hi.fld hw hw')).tr hR hs' (g5 a w' v c hw' hv))
/-- the row at a path -/
def wlk (s : Sheet α) : Nat → List Nat → Option Nat
  | i, [] => some i
  | i, f :: p => ((fl s i)[f]?).bind fun j => wlk s j p
/-- what was there is put back -/
theorem RepAt.back {d q : Sheet α} (hs : Ok ar s) (ht : Ok ar t) (hd : Ok ar d) (hq : Ok ar q) (hR : Ok ar R) {p : List Nat} {i j x k : Nat} (h : RepAt d q R p j x) (g : RepAt s t d p i j) (hk : wlk s i p = some k) (e : Same q s 0 k) : Same R s x i := by
  refine same_of (fun x i => Same R s x i ∨ ∃ p j, RepAt d q R p j x ∧ RepAt s t d p i j ∧ wlk s i p = some k) (fun x i hx => ?_) (.inr ⟨p, j, h, g, hk⟩)
  rcases hx with hx | ⟨p, j, h, g, hk⟩
  · exact ⟨hx.tag, fun a u v hu hv => .inl (hx.fld hu hv)⟩
  · cases p with
    | nil =>
      have ek : i = k := Option.some.inj hk
      rw [← ek] at e
      have z : Same R s x i := (Same.sym h).tr hR hq e
      exact ⟨z.tag, fun a u v hu hv => .inl (z.fld hu hv)⟩
    | cons f p =>
      obtain ⟨h1, ⟨y, z, h2, h3, h4⟩, h5⟩ := h
      obtain ⟨g1, ⟨y', z', g2, g3, g4⟩, g5⟩ := g
      rw [h2] at g3
      cases g3
      refine ⟨h1.trans g1, fun a u v hu hv => ?_⟩
      by_cases c : a = f
      · subst c
        rw [h3] at hu; cases hu
        rw [g2] at hv; cases hv
        refine .inr ⟨p, y, h4, g4, ?_⟩
        unfold wlk at hk
        rw [g2] at hk
        exact hk
      · obtain ⟨w, hw⟩ := get_of_len (hR.len hd h1) hu
        exact .inl ((h5 a w u c hw hu).sym.tr hR hd (g5 a v w c hv hw).sym)
/-! rows that stand in a longer list -/
theorem sub_same {k : Nat} (h : ∀ (i : Nat) r, s[i]? = some r → R[k + i]? = some (r.1, r.2.map (k + ·))) {i : Nat} (hs : Ok ar s) (hi : i < s.length) : Same s R i (k + i) :=
  same_of (fun i j => i < s.length ∧ j = k + i) (by
    rintro i j ⟨hi, rfl⟩
    obtain ⟨r, h1, h2⟩ := at_lt hi
    have h3 := h i r h1
    rw [tg_at h1, tg_at h3, fl_at h1, fl_at h3]
    refine ⟨rfl, fun a x y hx hy => ?_⟩
    have hy : (r.2.map (k + ·))[a]? = some y := hy
    rw [List.getElem?_map, hx] at hy
    exact ⟨hs.f r h2 x (List.mem_of_getElem? hx), (Option.some.inj hy).symm⟩) ⟨hi, rfl⟩
/-- the rows moved behind so many others -/
def mvd (s : Sheet α) (k : Nat) : Sheet α := s.map fun r => (r.1, r.2.map (k + ·))
theorem mvd_at {k i : Nat} {r : α × List Nat} (h : s[i]? = some r) : (mvd s k)[i]? = some (r.1, r.2.map (k + ·)) := by
  unfold mvd; rw [List.getElem?_map, h]; rfl
theorem mvd_len {k : Nat} : (mvd s k).length = s.length := by unfold mvd; rw [List.length_map]
theorem mvd_mem {k : Nat} {r : α × List Nat} (h : r ∈ mvd s k) : ∃ q ∈ s, r = (q.1, q.2.map (k + ·)) := by
  obtain ⟨q, hq, rfl⟩ := List.mem_map.mp h
  exact ⟨q, hq, rfl⟩
/-- one row, another field -/
def edit (s : Sheet α) (i f root : Nat) : Option (α × List Nat) := s[i]?.map fun r => (r.1, r.2.set f root)
/-- a row of its own above a value that is put together -/
theorem RepAt.up (hs : Ok ar s) (ht : Ok ar t) {p : List Nat} {i y f root x : Nat} {r : α × List Nat} {fs : List Nat} (hr : s[i]? = some r) (hy : r.2[f]? = some y) (hx : R[x]? = some (r.1, fs)) (hl : fs.length = r.2.length) (hf : fs[f]? = some root)
    (hsm : ∀ (a u v : Nat), a ≠ f → r.2[a]? = some u → fs[a]? = some v → Same s R u v) (h : RepAt s t R p y root) : RepAt s t R (f :: p) i x := by
  refine ⟨by rw [tg_at hx, tg_at hr], ⟨y, root, by rw [fl_at hr]; exact hy, by rw [fl_at hx]; exact hf, h⟩, fun a u v ha hu hv => ?_⟩
  rw [fl_at hr] at hu
  rw [fl_at hx] at hv
  exact hsm a u v ha hu hv
/-! the program's rows: above the old ones and the others a row for each step, from the last to the first -/
def bld (s : Sheet α) : List (Nat × Nat) → Sheet α × Nat → Sheet α × Nat
  | [], c => c
  | (i, f) :: ps, (R, root) => match s[i]? with
    | some r => bld s ps (R ++ [(r.1, r.2.set f root)], R.length)
    | none => (R, root)
/-- the rows that a path passes -/
def pas (s : Sheet α) : Nat → List Nat → List Nat
  | _, [] => []
  | i, f :: p => i :: pas s (((fl s i)[f]?).getD 0) p
theorem pas_length : ∀ {p : List Nat} {i : Nat}, (pas s i p).length = p.length
  | [], _ => rfl
  | f :: p, i => by show (pas s _ p).length + 1 = p.length + 1; rw [pas_length]
structure Stack (ar : α → Nat) (s t R : Sheet α) : Prop where
  ok : Ok ar R
  a : ∀ (i : Nat) r, s[i]? = some r → R[i]? = some r
  b : ∀ (i : Nat) r, t[i]? = some r → R[s.length + i]? = some (r.1, r.2.map (s.length + ·))
  o : ∀ r ∈ R, ∃ q, (q ∈ s ∨ q ∈ t) ∧ r.1 = q.1 ∧ r.2.length = q.2.length
theorem Stack.start (hs : Ok ar s) (ht : Ok ar t) : Stack ar s t (s ++ mvd t s.length) := by
  refine ⟨⟨fun r hr => ?_, fun r hr x hx => ?_⟩, fun i r h => ?_, fun i r h => ?_, fun r hr => ?_⟩
  · rcases List.mem_append.mp hr with hr | hr
    · exact hs.a r hr
    · obtain ⟨q, hq, rfl⟩ := mvd_mem hr
      show (List.map _ _).length = _
      rw [List.length_map]; exact ht.a q hq
  · rw [List.length_append, mvd_len]
    rcases List.mem_append.mp hr with hr | hr
    · have := hs.f r hr x hx; omega
    · obtain ⟨q, hq, rfl⟩ := mvd_mem hr
      obtain ⟨y, hy, rfl⟩ := List.mem_map.mp hx
      have := ht.f q hq y hy; omega
  · rw [List.getElem?_append_left (List.getElem?_eq_some_iff.mp h).1]; exact h
  · rw [List.getElem?_append_right (by omega), Nat.add_sub_cancel_left]; exact mvd_at h
  · rcases List.mem_append.mp hr with hr | hr
    · exact ⟨r, .inl hr, rfl, rfl⟩
    · obtain ⟨q, hq, rfl⟩ := mvd_mem hr
      exact ⟨q, .inr hq, rfl, List.length_map _⟩
theorem Stack.same1 (S : Stack ar s t R) (hs : Ok ar s) {i : Nat} (hi : i < s.length) : Same s R i i := by
  have z := sub_same (s := s) (R := R) (k := 0) (fun i r h => by
    rw [Nat.zero_add, S.a i r h]
    have e : r.2.map (0 + ·) = r.2 := by simp
    rw [e]) hs hi
  rw [Nat.zero_add] at z; exact z
theorem Stack.same2 (S : Stack ar s t R) (ht : Ok ar t) {i : Nat} (hi : i < t.length) : Same t R i (s.length + i) := sub_same S.b ht hi
theorem Stack.len (S : Stack ar s t R) : s.length ≤ R.length := by
  rcases Nat.lt_or_ge R.length s.length with c | c
  · obtain ⟨r, h, _⟩ := at_lt c
    have := (List.getElem?_eq_some_iff.mp (S.a _ _ h)).1
    omega
  · exact c
theorem Stack.put (S : Stack ar s t R) {i f root : Nat} {r : α × List Nat} (hs : Ok ar s) (hr : s[i]? = some r) (hroot : root < R.length) : Stack ar s t (R ++ [(r.1, r.2.set f root)]) ∧ ∀ x, x < R.length → Same R (R ++ [(r.1, r.2.set f root)]) x x := by
  have keep : ∀ (i : Nat) q, R[i]? = some q → (R ++ [(r.1, r.2.set f root)])[i]? = some q := fun i q h => by
    rw [List.getElem?_append_left (List.getElem?_eq_some_iff.mp h).1]; exact h
  have hl := S.len
  refine ⟨⟨⟨fun q hq => ?_, fun q hq x hx => ?_⟩, fun i q h => keep _ _ (S.a i q h), fun i q h => keep _ _ (S.b i q h), fun q hq => ?_⟩, fun x hx => ?_⟩
  · rcases List.mem_append.mp hq with hq | hq
    · exact S.ok.a q hq
    · rw [List.mem_singleton.mp hq]
      show (r.2.set f root).length = _
      rw [List.length_set]; exact hs.a r (List.mem_of_getElem? hr)
  · rw [List.length_append, List.length_singleton]
    rcases List.mem_append.mp hq with hq | hq
    · have := S.ok.f q hq x hx; omega
    · rw [List.mem_singleton.mp hq] at hx
      rcases List.mem_or_eq_of_mem_set hx with hx | hx
      · have := hs.f r (List.mem_of_getElem? hr) x hx; omega
      · omega
  · rcases List.mem_append.mp hq with hq | hq
    · exact S.o q hq
    · rw [List.mem_singleton.mp hq]
      exact ⟨r, .inl (List.mem_of_getElem? hr), rfl, List.length_set ..⟩
  · have z := sub_same (s := R) (R := R ++ [(r.1, r.2.set f root)]) (k := 0) (fun i q h => by
      rw [Nat.zero_add, keep i q h]
      have e : q.2.map (0 + ·) = q.2 := by simp
      rw [e]) S.ok hx
    rw [Nat.zero_add] at z; exact z
/-- the pairs of a path, from the last to the first -/
abbrev prs (s : Sheet α) (i : Nat) (p : List Nat) : List (Nat × Nat) := (pas s i p).zip p
theorem bld_app : ∀ {xs ys : List (Nat × Nat)} {c : Sheet α × Nat}, (∀ x ∈ xs, x.1 < s.length) → bld s (xs ++ ys) c = bld s ys (bld s xs c)
  | [], _, _, _ => rfl
  | (i, f) :: xs, ys, (R, root), h => by
    obtain ⟨r, hr, _⟩ := at_lt (h (i, f) List.mem_cons_self)
    have e1 : ∀ zs, bld s ((i, f) :: zs) (R, root) = bld s zs (R ++ [(r.1, r.2.set f root)], R.length) := fun zs => by
      simp only [bld, hr]
    show bld s ((i, f) :: (xs ++ ys)) (R, root) = bld s ys (bld s ((i, f) :: xs) (R, root))
    rw [e1, e1]
    exact bld_app fun x hx => h x (List.mem_cons_of_mem _ hx)
theorem prs_lt (hs : Ok ar s) : ∀ {p : List Nat} {i k : Nat}, i < s.length → wlk s i p = some k → (∀ x ∈ prs s i p, x.1 < s.length) ∧ k < s.length
  | [], i, k, hi, h => by
    cases h
    exact ⟨fun x hx => by simp [prs, pas] at hx, hi⟩
  | f :: p, i, k, hi, h => by
    obtain ⟨j, hj, h2⟩ := Option.bind_eq_some_iff.mp h
    have hjl := hs.fld (List.mem_of_getElem? hj)
    obtain ⟨z1, z2⟩ := prs_lt hs hjl h2
    refine ⟨fun x hx => ?_, z2⟩
    have hx : x ∈ (i, f) :: prs s (((fl s i)[f]?).getD 0) p := hx
    rw [hj] at hx
    rcases List.mem_cons.mp hx with e | hx
    · rw [e]; exact hi
    · exact z1 x hx
theorem bld_rep (hs : Ok ar s) (ht : Ok ar t) (h0 : 0 < t.length) : ∀ {p : List Nat} {i k : Nat}, i < s.length → wlk s i p = some k →
    ∃ R root, bld s (prs s i p).reverse (s ++ mvd t s.length, s.length) = (R, root) ∧ Stack ar s t R ∧ root < R.length ∧ R.length = s.length + t.length + p.length ∧ RepAt s t R p i root
  | [], i, k, hi, h => by
    refine ⟨_, _, rfl, Stack.start hs ht, by rw [List.length_append, mvd_len]; omega, by rw [List.length_append, mvd_len]; rfl, ?_⟩
    exact (Stack.start hs ht).same2 ht h0
  | f :: p, i, k, hi, h => by
    obtain ⟨j, hj, h2⟩ := Option.bind_eq_some_iff.mp h
    have hjl := hs.fld (List.mem_of_getElem? hj)
    obtain ⟨R, root, e, S, h3, h5, h4⟩ := bld_rep hs ht h0 hjl h2
    obtain ⟨r, hr, hrm⟩ := at_lt hi
    have lt := (prs_lt hs hjl h2).1
    obtain ⟨S2, sm⟩ := S.put (f := f) (root := root) hs hr h3
    rw [fl_at hr] at hj
    have hjf := (List.getElem?_eq_some_iff.mp hj).1
    refine ⟨R ++ [(r.1, r.2.set f root)], R.length, ?_, S2, by simp, by rw [List.length_append, h5]; rfl, ?_⟩
    · have ep : prs s i (f :: p) = (i, f) :: prs s j p := by
        show (i, f) :: prs s (((fl s i)[f]?).getD 0) p = _
        rw [fl_at hr, hj]; rfl
      rw [ep, List.reverse_cons, bld_app (fun x hx => lt x (List.mem_reverse.mp hx)), e]
      show (match s[i]? with | some r => bld s [] (R ++ [(r.1, r.2.set f root)], R.length) | none => (R, root)) = _
      rw [hr]
      rfl
    · refine RepAt.up hs ht hr hj (fs := r.2.set f root) (root := root) (by rw [List.getElem?_append_right (Nat.le_refl _), Nat.sub_self]; rfl) (by rw [List.length_set]) (by rw [List.getElem?_set_self hjf]) (fun a u v ha hu hv => ?_) (h4.move hs ht S.ok S2.ok (sm root h3))
      rw [List.getElem?_set_ne (Ne.symm ha), hu] at hv
      cases hv
      exact S2.same1 hs (hs.f r hrm u (List.mem_of_getElem? hu))
end
end KM
set_option Elab.async false
set_option linter.all false
set_option maxRecDepth 100000
set_option maxHeartbeats 2000000
/-! D46: loops that fill a list, with a state of their own. -/
namespace KD
open PySem PySem.Spec PyProof.Rows L2
section
variable {K : PySem.W.Frag} {σ : L2.St} {F G H G1 H1 G2 H2 : Hp} {L : Addr} {i j : Nat} {t u tb : TS} {te : TE} {tt : TT} {y d d1 d2 : PyData} {b : Bool} {D : Ends} {ys : List PyData} {N : L2.St → Hp → List PyData → Prop}
/-- what a piece makes of the state and of the list L, in which ys stand -/
def StepX (K : PySem.W.Frag) (σ : L2.St) (F : Hp) (L : Addr) (t : TS) (ys : List PyData) (N : L2.St → Hp → List PyData → Prop) : Prop :=
  ∀ G H acc, Ex F G → Ex G H → H L = some (.lst acc) → G L = none → DaAll K G acc ys → ∀ D : Ends,
    (∀ σ' G' H' acc' ys', UpX L G H G' H' → H' L = some (.lst acc') → G' L = none → DaAll K G' acc' ys' → N σ' G' ys' → D.nx σ' H') → t D σ H
theorem sx_next (h : ∀ G, Ex F G → N σ G ys) : StepX K σ F L tNext ys N := fun G H acc eF e hL gL da D q => q σ G H acc ys (UpX.of (Up.rf e)) hL gL da (h G eF)
theorem sx_set (h : EvE K σ F te d) (hu : ∀ v F', Ex F F' → Da K F' v d → StepX K (σ.set i (some v)) F' L u ys N) : StepX K σ F L (tSeq (tAsg te (gName i)) u) ys N := fun G H acc eF e hL gL da D q =>
  h G H eF e _ fun v G1 H1 u1 dv => hu v G1 (eF.tr u1.g) dv G1 H1 acc (Ex.rf _) u1.h (u1.m _ _ hL) (u1.n _ (by rw [hL]; simp) gL) (da.mono u1.g) D fun σ' G' H' acc' ys' u2 a b c n => q σ' G' H' acc' ys' ((UpX.of u1).tr u2) a b c n
theorem sx_setE (h : EvE K σ F te d) (hu : ∀ v F', Ex F F' → Da K F' v d → N (σ.set i (some v)) F' ys) : StepX K σ F L (tAsg te (gName i)) ys N := fun G H acc eF e hL gL da D q =>
  h G H eF e _ fun v G1 H1 u1 dv => q _ G1 H1 acc ys (UpX.of u1) (u1.m _ _ hL) (u1.n _ (by rw [hL]; simp) gL) (da.mono u1.g) (hu v G1 (eF.tr u1.g) dv)
theorem sx_pair (h : EvE K σ F te (.tuple [d1, d2])) (hu : ∀ v w F', Ex F F' → Da K F' v d1 → Da K F' w d2 → StepX K ((σ.set i (some v)).set j (some w)) F' L u ys N) :
    StepX K σ F L (tSeq (tAsg te (gTup K 2 (gCons (gName i) (gCons (gName j) gNil)))) u) ys N := fun G H acc eF e hL gL da D q =>
  h G H eF e _ fun v G1 H1 u1 dv => by
    refine g_tup2 (K := K) G1 H1 _ u1.h dv _ ?_
    rintro _ ⟨x, y, a, b, rfl⟩
    exact hu x y G1 (eF.tr u1.g) a b G1 H1 acc (Ex.rf _) u1.h (u1.m _ _ hL) (u1.n _ (by rw [hL]; simp) gL) (da.mono u1.g) D fun σ' G' H' acc' ys' u2 a b c n => q σ' G' H' acc' ys' ((UpX.of u1).tr u2) a b c n
theorem sx_app (hv : σ[i]? = some (some (.ref L))) (h : EvE K σ F te y) (hk : ys.length ≤ 100000) (hu : ∀ F', Ex F F' → StepX K σ F' L u (ys ++ [y]) N) : StepX K σ F L (tSeq (tDrop (tBM K "list" rAppend (tVar i) (tCons te tNil))) u) ys N := fun G H acc eF e hL gL da D q => by
  refine ⟨.ref L, hv, .inl ⟨rfl, acc, SqL.of hL⟩, h G H eF e _ fun v G1 H1 u1 dv => ?_⟩
  have g1 : G1 L = none := u1.n _ (by rw [hL]; simp) gL
  refine ⟨L, acc, v, rfl, rfl, u1.m _ _ hL, by rw [da.length]; exact Nat.lt_of_le_of_lt hk (by decide), ?_⟩
  have uP : UpX L G H G1 (upd H1 L (.lst (acc ++ [v]))) := (UpX.of u1).put g1
  exact hu G1 (eF.tr u1.g) G1 _ (acc ++ [v]) (Ex.rf _) uP.h upd_same g1 ((da.mono u1.g).append (.cons dv .nil)) D fun σ' G' H' acc' ys' u2 a b c n => q σ' G' H' acc' ys' (uP.tr u2) a b c n
theorem sx_appE (hv : σ[i]? = some (some (.ref L))) (h : EvE K σ F te y) (hk : ys.length ≤ 100000) (hu : ∀ F', Ex F F' → N σ F' (ys ++ [y])) : StepX K σ F L (tDrop (tBM K "list" rAppend (tVar i) (tCons te tNil))) ys N := fun G H acc eF e hL gL da D q => by
  refine ⟨.ref L, hv, .inl ⟨rfl, acc, SqL.of hL⟩, h G H eF e _ fun v G1 H1 u1 dv => ?_⟩
  have g1 : G1 L = none := u1.n _ (by rw [hL]; simp) gL
  refine ⟨L, acc, v, rfl, rfl, u1.m _ _ hL, by rw [da.length]; exact Nat.lt_of_le_of_lt hk (by decide), ?_⟩
  have uP : UpX L G H G1 (upd H1 L (.lst (acc ++ [v]))) := (UpX.of u1).put g1
  exact q σ G1 _ (acc ++ [v]) (ys ++ [y]) uP upd_same g1 ((da.mono u1.g).append (.cons dv .nil)) (hu G1 (eF.tr u1.g))
/-- i = len(xs) - 1 -/
theorem sx_lenE {k : Nat} (hv : σ[j]? = some (some (.ref L))) (hN : ∀ F', Ex F F' → N (σ.set i (some (.int ((ys.length : Int) - k)))) F' ys) (hl : ys.length ≤ 100000) :
    StepX K σ F L (tAsg (tOp (rI0 fun a b => .int (a - b)) (tCB (rLenQ K) (tCons (tVar j) tNil)) (tC (.int (k : Int)))) (gName i)) ys N := fun G H acc eF e hL gL da D q => by
  refine ⟨.ref L, hv, L, acc, rfl, .inl (SqL.of hL), ⟨_, _, rfl, rfl, q _ G H acc ys (UpX.of (Up.rf e)) hL gL da ?_⟩⟩
  rw [da.length]
  exact hN G eF
/-- the loop -/
theorem loopX {wi : TI} {g : TG} {ds : List PyData} {acc0 : List V} {ys0 : List PyData} (J : Nat → L2.St → Hp → List PyData → Prop) (hi : EvI K σ F wi ds) (hJ : ∀ k σ G G' ys, Ex G G' → J k σ G ys → J k σ G' ys)
    (h0 : J 0 σ G ys0) (hs : ∀ k d, ds[k]? = some d → ∀ σ1 F1 ys, Ex G F1 → J k σ1 F1 ys → ∃ P, Tg K g σ1 d P ∧ ∀ F2 σ2, Ex F1 F2 → P F2 σ2 → StepX K σ2 F2 L tb ys fun σ' F' ys' => J (k + 1) σ' F' ys')
    (e1 : Ex F G) (e2 : Ex G H) (hL : H L = some (.lst acc0)) (gL : G L = none) (da : DaAll K G acc0 ys0)
    (q : ∀ σ' acc ys G' H', UpX L G H G' H' → G' L = none → H' L = some (.lst acc) → DaAll K G' acc ys → J ds.length σ' G' ys → D.nx σ' H') : tFor wi g tb D σ H := hi G H e1 e2 _ fun I G1 H1 u1 wk => by
  have g1 : G1 L = none := u1.n _ (by rw [hL]; simp) gL
  refine ⟨fun k m σ' H' => m = ds.length - k ∧ k ≤ ds.length ∧ ∃ ys acc G', UpX L G1 H1 G' H' ∧ G' L = none ∧ H' L = some (.lst acc) ∧ DaAll K G' acc ys ∧ J k σ' G' ys,
    ⟨_, rfl, Nat.zero_le _, ys0, acc0, G1, UpX.of (Up.rf u1.h), g1, u1.m _ _ hL, da.mono u1.g, hJ _ _ _ _ _ u1.g h0⟩, ?_⟩
  rintro k m σ' H' ⟨rfl, hk, ys, acc, G', u', gn, hl, da', j⟩
  obtain ⟨w1, w2⟩ := wk k G' H' u'.g u'.h
  by_cases hlt : k < ds.length
  · have hget := List.getElem?_eq_getElem hlt
    obtain ⟨hgo, hyl⟩ := w1 _ hget
    refine .inr ⟨hgo, fun σ2 H2 => ∃ ys acc G', UpX L G1 H1 G' H2 ∧ G' L = none ∧ H2 L = some (.lst acc) ∧ DaAll K G' acc ys ∧ J (k + 1) σ2 G' ys, ?_, ?_⟩
    · rintro σ2 H2 ⟨ys2, acc2, G2, r⟩
      exact ⟨ds.length - (k + 1), by omega, rfl, hlt, ys2, acc2, G2, r⟩
    · intro x H3 hy3
      obtain ⟨G3, u3, dx⟩ := hyl x H3 hy3
      obtain ⟨P, tg, body⟩ := hs k _ hget σ' G' ys (u1.g.tr u'.g) j
      refine tg G3 H3 x u3.h dx _ fun σ2 hP => ?_
      have uX := u'.tr (UpX.of (L := L) u3)
      have g3 : G3 L = none := u3.n _ (by rw [hl]; simp) gn
      refine body G3 σ2 u3.g hP G3 H3 acc (Ex.rf _) u3.h (u3.m _ _ hl) g3 (da'.mono u3.g) _ fun σ4 G4 H4 acc4 ys4 u4 a b c n => ?_
      exact ⟨ys4, acc4, G4, uX.tr u4, b, a, c, n⟩
  · obtain rfl : k = ds.length := by omega
    exact .inl ⟨w2 rfl, q σ' acc ys G' H' ((UpX.of u1).tr u') gn hl da' j⟩
/-- xs = ys + zs, a list that is to change -/
theorem st_catX {ta tc : TE} {xs zs : List PyData} (h1 : EvE K σ G ta (.list xs)) (h2 : EvE K σ G tc (.list zs)) (e : Ex G H) (hl : xs.length + zs.length ≤ 100000)
    (q : ∀ L acc G' H', Up G H G' H' → H' L = none → G' L = none → H L = none → DaAll K G' acc (xs ++ zs) → u D (σ.set i (some (.ref L))) (upd H' L (.lst acc))) : tSeq (tAsg (tOp rCat ta tc) (gName i)) u D σ H :=
  h1 G H (Ex.rf _) e _ fun v1 G1 H1 u1 d1 => h2 G1 H1 u1.g u1.h _ fun v2 G2 H2 u2 d2 => by
    cases d1 with
    | lst g1 a1 =>
      cases d2 with
      | lst g2 a2 =>
        refine ⟨_, _, _, _, rfl, rfl, u2.h _ _ (u2.g _ _ g1), u2.h _ _ g2, ?_, fun p hp => ?_⟩
        · rw [a1.length, a2.length]; exact Nat.le_trans hl (by decide)
        · exact q p _ G2 H2 (u1.tr u2) hp (u2.h.fresh hp) ((u1.tr u2).m.fresh hp) ((a1.mono u2.g).append a2)
/-- xs = [], a list that is to change -/
theorem st_newX (e : Ex G H) (q : ∀ L, H L = none → G L = none → u D (σ.set i (some (.ref L))) (upd H L (.lst []))) : tSeq (tAsg (tLst tNil) (gName i)) u D σ H :=
  ⟨Nat.zero_le _, fun L hL => q L hL (e.fresh hL)⟩
/-- the list has come to rest: it is data -/
theorem UpX.rest {acc : List V} {ob : HO} (e : Ex G H) (hL : H L = none) (a : UpX L G (upd H L ob) G1 H1) (g1 : G1 L = none) (h1 : H1 L = some (.lst acc)) (da : DaAll K G1 acc ys) :
    Up G H (upd G1 L (.lst acc)) H1 ∧ Da K (upd G1 L (.lst acc)) (.ref L) (.list ys) := by
  have u := a.up e hL
  refine ⟨⟨u.g.tr (Ex.up g1), fun c p e => ?_, u.m, fun c z1 z2 => ?_⟩, .lst upd_same (da.mono (Ex.up g1))⟩
  · by_cases z : c = L
    · rw [z, upd_same] at e; rw [z, h1]; exact e
    · rw [upd_ne z] at e; exact u.h c p e
  · rw [upd_ne (fun z => z1 (by rw [z]; exact hL))]
    exact u.n c z1 z2
end
end KD
set_option Elab.async false
set_option linter.all false
set_option maxRecDepth 100000
set_option maxHeartbeats 2000000
/-! D47: what a written part tells is told by the one with sysModules too. -/
namespace KD
open PySem PySem.Spec PyProof.Rows L2
section
variable {K : PySem.W.Frag} {o : Obj} {n : Str} {a : Addr} {v t base : Value}
theorem ext_ns (hs : List.lookup sysModules K = none) {r : Option Value} (e : PySem.W.nsIn K a n = some r) : PySem.W.nsIn ((sysModules, o) :: K) a n = some r := by
  unfold PySem.W.nsIn at e ⊢
  cases z : List.lookup a K with
  | none => rw [z] at e; cases e
  | some w => rw [look_ext hs z]; rw [z] at e; exact e
theorem ext_own (hs : List.lookup sysModules K = none) {r : Option Value} (e : PySem.W.ownIn K n v = some r) : PySem.W.ownIn ((sysModules, o) :: K) n v = some r := by
  unfold PySem.W.ownIn at e ⊢
  cases v with
  | ref a =>
    dsimp only at e ⊢
    cases z : List.lookup a K with
    | none => rw [z] at e; cases e
    | some w =>
      rw [look_ext hs z]
      rw [z] at e
      split at e
      · rename_i h
        cases h
        exact ext_ns hs e
      · cases e
  | _ => exact e
theorem ext_along (hs : List.lookup sysModules K = none) {r : Option Value} : ∀ {cs : List Value}, PySem.W.alongIn K n cs = some r → PySem.W.alongIn ((sysModules, o) :: K) n cs = some r
  | [], e => e
  | c :: cs, e => by
    unfold PySem.W.alongIn at e ⊢
    cases z : PySem.W.ownIn K n c with
    | none => rw [z] at e; cases e
    | some w =>
      rw [ext_own hs z]
      rw [z] at e
      cases w with
      | some w => exact e
      | none => exact ext_along hs e
theorem ext_find (hs : List.lookup sysModules K = none) {r : Option Value} (e : PySem.W.findIn K v n = some r) : PySem.W.findIn ((sysModules, o) :: K) v n = some r := by
  unfold PySem.W.findIn at e ⊢
  cases v with
  | ref a =>
    dsimp only at e ⊢
    cases z : List.lookup a K with
    | none => rw [z] at e; cases e
    | some w =>
      rw [look_ext hs z]
      rw [z] at e
      split at e
      · rename_i h
        cases h
        exact ext_along hs e
      · cases e
  | _ => exact e
theorem ext_type (hs : List.lookup sysModules K = none) (e : PySem.W.typeIn K v = some t) : PySem.W.typeIn ((sysModules, o) :: K) v = some t := by
  unfold PySem.W.typeIn at e ⊢
  cases v with
  | ref a =>
    dsimp only at e ⊢
    cases z : List.lookup a K with
    | none => rw [z] at e; cases e
    | some w => rw [look_ext hs z]; rw [z] at e; exact e
  | _ => exact e
theorem ext_special (hs : List.lookup sysModules K = none) {r : Option Value} (e : PySem.W.specialIn K v n = some r) : PySem.W.specialIn ((sysModules, o) :: K) v n = some r := by
  obtain ⟨t, a, b⟩ := Option.bind_eq_some_iff.mp e
  unfold PySem.W.specialIn
  rw [ext_type hs a]
  exact ext_find hs b
theorem ext_takes (hs : List.lookup sysModules K = none) {r : Bool} (e : PySem.W.takesIn K v = some r) : PySem.W.takesIn ((sysModules, o) :: K) v = some r := by
  unfold PySem.W.takesIn at e ⊢
  cases z : PySem.W.specialIn K v "__set__" with
  | none => rw [z] at e; cases e
  | some w =>
    rw [ext_special hs z]
    rw [z] at e
    cases w with
    | some w => exact e
    | none =>
      obtain ⟨y, hy, rfl⟩ := Option.map_eq_some_iff.mp e
      dsimp only
      rw [ext_special hs hy]
      rfl
theorem ext_cls (hs : List.lookup sysModules K = none) {r : ClassData} (e : PySem.W.clsIn K a = some r) : PySem.W.clsIn ((sysModules, o) :: K) a = some r := by
  unfold PySem.W.clsIn at e ⊢
  cases z : List.lookup a K with
  | none => rw [z] at e; cases e
  | some w => rw [look_ext hs z]; rw [z] at e; exact e
theorem ext_mro (hs : List.lookup sysModules K = none) {r : Bool} (e : PySem.W.mroIn K a base = some r) : PySem.W.mroIn ((sysModules, o) :: K) a base = some r := by
  obtain ⟨t, h, b⟩ := Option.bind_eq_some_iff.mp e
  unfold PySem.W.mroIn
  rw [ext_cls hs h]
  exact b
theorem ext_sub (hs : List.lookup sysModules K = none) {r : Bool} (e : PySem.W.subIn K t base = some r) : PySem.W.subIn ((sysModules, o) :: K) t base = some r := by
  unfold PySem.W.subIn at e ⊢
  cases t with
  | ref C => exact ext_mro hs e
  | _ => exact e
theorem ext_inst (hs : List.lookup sysModules K = none) {r : Bool} (e : PySem.W.instIn K v base = some r) : PySem.W.instIn ((sysModules, o) :: K) v base = some r := by
  obtain ⟨t, h, b⟩ := Option.bind_eq_some_iff.mp e
  unfold PySem.W.instIn
  rw [ext_type hs h]
  exact ext_sub hs b
theorem ext_any (hs : List.lookup sysModules K = none) {p : ClassData → Bool} (e : (PySem.W.clsIn K a).any p = true) : (PySem.W.clsIn ((sysModules, o) :: K) a).any p = true := by
  cases z : PySem.W.clsIn K a with
  | none => rw [z] at e; cases e
  | some w => rw [ext_cls hs z]; rw [z] at e; exact e
theorem ext_hasDict (hs : List.lookup sysModules K = none) (e : PySem.W.hasDictIn K a = true) : PySem.W.hasDictIn ((sysModules, o) :: K) a = true := ext_any hs e
theorem ext_over (hs : List.lookup sysModules K = none) (e : PySem.W.plainOver K a = true) : PySem.W.plainOver ((sysModules, o) :: K) a = true := ext_any hs e
theorem ext_isCls (hs : List.lookup sysModules K = none) (e : PySem.W.isClsIn K a = true) : PySem.W.isClsIn ((sysModules, o) :: K) a = true := by
  unfold PySem.W.isClsIn at e ⊢
  cases z : PySem.W.clsIn K a with
  | none => rw [z] at e; cases e
  | some w => rw [ext_cls hs z]; rfl
theorem ext_get (hs : List.lookup sysModules K = none) (e : PySem.W.plainGet K a n = true) : PySem.W.plainGet ((sysModules, o) :: K) a n = true := by
  unfold PySem.W.plainGet at e ⊢
  obtain ⟨h1, h2⟩ := Bool.and_eq_true_iff.mp e
  rw [ext_find hs (eq_of_beq h1), ext_find hs (eq_of_beq h2)]
  simp
theorem ext_isFn (hs : List.lookup sysModules K = none) (e : PySem.W.isFn K v = true) : PySem.W.isFn ((sysModules, o) :: K) v = true := by
  unfold PySem.W.isFn at e ⊢
  rw [ext_type hs (eq_of_beq e)]
  simp
theorem ext_keep (hs : List.lookup sysModules K = none) (e : PySem.W.keepIn K v = true) : PySem.W.keepIn ((sysModules, o) :: K) v = true := by
  unfold PySem.W.keepIn at e ⊢
  cases v with
  | ref a =>
    dsimp only at e ⊢
    cases z : List.lookup a K with
    | none => rw [z] at e; cases e
    | some w =>
      rw [look_ext hs z]
      rw [z] at e
      obtain ⟨c, d, p, sl⟩ := w
      cases p with
      | func _ => rfl
      | cls cd =>
        dsimp only at e ⊢
        rw [ext_special hs (eq_of_beq e)]
        simp
      | _ => exact e
  | _ => exact e
theorem ext_makes (hs : List.lookup sysModules K = none) (e : PySem.W.makesIn K a = true) : PySem.W.makesIn ((sysModules, o) :: K) a = true := by
  unfold PySem.W.makesIn at e ⊢
  cases z : List.lookup a K with
  | none => rw [z] at e; cases e
  | some w =>
    rw [look_ext hs z]
    rw [z] at e
    obtain ⟨c, d, p, sl⟩ := w
    cases p with
    | cls cd =>
      dsimp only at e ⊢
      obtain ⟨e1, h2⟩ := Bool.and_eq_true_iff.mp e
      obtain ⟨e0, h1⟩ := Bool.and_eq_true_iff.mp e1
      rw [ext_special hs (eq_of_beq h1), ext_inst hs (eq_of_beq h2), e0]
      simp
    | _ => exact e
end
end KD
set_option Elab.async false
set_option linter.all false
set_option maxRecDepth 100000
set_option maxHeartbeats 2000000
/-! D50: defs f(*pv, pk = a constant): what is passed is a new tuple, beside it the keyword's value. -/
namespace KD
open PySem PySem.Spec PyProof.Rows L2
/-- a def whose one keyword-only parameter pk has the default v -/
def FunK (K : PySem.W.Frag) (x : Str) (st : Stmt) (fd : FuncData) (pk : Str) (v : Value) : Prop := ∃ (D : Addr) (doc pm : Value) (an : Option Addr) (cdv ct : Value),
  fd = PySem.W.fnOf x x (defArgs st) (defBody st) (defScope st) .none (.ref D) doc pm an cdv ct ∧ PySem.W.nsIn K D pk = some (some v)
/-- what the binding comes to: v for pk, a new tuple of us for pv -/
def BindsS (K : PySem.W.Frag) (fd : FuncData) (args : Args) (pk pv : Str) (v : Value) (us : List Value) : Prop := ∀ (M : Model) (A : Around) (E : Value → Shared → Prop) (Q : List (Str × Value) → Shared → Prop) (s : Shared),
  K.In s.heap → us.length ≤ sizeLine → (∀ t, Q [(pk, v), (pv, .ref t)] { s with heap := s.heap.push { cls := .type "tuple", data := .seq us.toArray } } ∨ t ≠ s.heap.objs.size) → wpAny M A (bindArgs fd args) Q E s
theorem bindsS_kw {K : PySem.W.Frag} {fd : FuncData} {args : Args} {pk pv : Str} {v : Value} {us : List Value} (h : bindArgs fd args = (newTuple us >>= fun t => pure [(pk, v), (pv, t)])) : BindsS K fd args pk pv v us := fun M A E Q s _ hz q => by
  rw [h]
  refine wpAny_bind (wpAny_newTuple (wpAny_pure ?_) hz)
  exact (q s.heap.objs.size).resolve_right fun n => n rfl
theorem bindsS_dflt {K : PySem.W.Frag} {x : Str} {st : Stmt} {fd : FuncData} {args : Args} {pk pv : Str} {v : Value} {us : List Value} (F : FunK K x st fd pk v)
    (h : ∀ (D : Addr) (doc pm : Value) (an : Option Addr) (cdv ct : Value), ∃ (β γ : Type) (k1 : Option Value → Sem β) (k2 : β → Sem γ) (k3 : γ → Sem (List (Str × Value))) (a : β),
      bindArgs (PySem.W.fnOf x x (defArgs st) (defBody st) (defScope st) .none (.ref D) doc pm an cdv ct) args = ((nsGet D pk >>= k1) >>= k2) >>= k3 ∧ k1 (some v) = pure a ∧ (k2 a >>= k3) = (newTuple us >>= fun t => pure [(pk, v), (pv, t)])) :
    BindsS K fd args pk pv v us := fun M A E Q s X hz q => by
  obtain ⟨D, doc, pm, an, cdv, ct, rfl, at_D⟩ := F
  obtain ⟨β, γ, k1, k2, k3, a, e1, e2, e3⟩ := h D doc pm an cdv ct
  have look : PySem.W.Looks M s.heap (nsGet D pk >>= k1) a := (PySem.W.looks_nsIn X at_D).andThen (PySem.W.Looks.of_pure e2)
  rw [e1, bind_assoc]
  refine wpAny_bind (look.here ?_)
  rw [e3]
  refine wpAny_bind (wpAny_newTuple (wpAny_pure ?_) hz)
  exact (q s.heap.objs.size).resolve_right fun n => n rfl
/-- the promise of such a def -/
structure FnS (P : Program) (w : World) (K : PySem.W.Frag) (mg : Str → Option Value) (base : Heap) (k : Nat) (f : Addr) (fd : FuncData) (pk pv : Str) (sp : Sp) : Prop where
  run : ∀ {A : Around} {out : List Env} {s : Shared} {H : Hp} {args : Args} {v : Value} {vv : V} {us : List Value} {vs : List V} {Q : VK} {E : XK}, Room k A → Quiet A → Env0 P w K mg base A out s H → RelV vv v → Vals vs us → vs.length ≤ sizeLine →
    BindsS K fd args pk pv v us → (∀ t, H t = none → sp [vv, .ref t] (upd H t (.tup vs)) Q E) → codeAny (model P w) A (.call (.ref f) args) (CR CX0 out P w H s Q E) s
theorem okS {P : Program} {w : World} {K : PySem.W.Frag} {mg : Str → Option Value} {base : Heap} {k : Nat} {x qual : Str} {st : Stmt} {f : Addr} {fd : FuncData} {N : List Str} {pk pv : Str} {sp : Sp} (F : Fun K x qual st f fd) (S : FnScope N [pk, pv] (defScope st))
    (hbody : ∀ (cdv : Value) (A : Around) (out : List Env) (s : Shared) (H : Hp) (vs : List V) (Q : VK) (E : XK),
      Room k (A.deeper (envOfC qual (defScope st) s.heap.objs.size f cdv)) → Quiet (A.deeper (envOfC qual (defScope st) s.heap.objs.size f cdv)) → sp vs H Q E →
      ∃ t, PSs (cxOf CX0 P w K mg base N qual (defScope st) f cdv A out s H E).nox (defBody st) t ∧ t { nx := fun _ H' => Q .non H', rt := Q } (start N vs) H) : FnS P w K mg base (k + 1) f fd pk pv sp := by
  constructor
  intro A out s H args v vv us vs Q E hr hq e0 rv r hz hb hs
  obtain ⟨oc, od, kV, doc, pm, an, cdv, ct, osl, rfl, lk, hcd⟩ := F.ex
  have free : H s.heap.objs.size = Option.none := e0.hok.fresh (Nat.le_refl _)
  refine StX.run_bnd lk hcd S hr e0 (G := fun xs H2 => ∃ t, H t = Option.none ∧ xs = [vv, .ref t] ∧ H2 = upd H t (.tup vs)) (fun A' Ex Q' h => ?_) ?_
  · have X : K.In s.heap := e0.mod.kin.keeps fun b o e => (e0.bs b o e).1
    refine hb _ _ _ _ s X (by rw [← r.length]; exact hz) fun t => ?_
    by_cases c : t = s.heap.objs.size
    · subst c
      refine .inl (h _ _ [vv, .ref s.heap.objs.size] [v, .ref s.heap.objs.size] (StX.env0_laid e0 ?_) ?_ rfl (fun e s' z => z) (.cons rv (.cons rfl .nil)) rfl ⟨_, free, rfl, rfl⟩)
      · exact ⟨hz, us, r, ⟨_, Heap.get?_push_size _ rfl, rfl, _, rfl⟩⟩
      · exact StX.un_laid free
    · exact .inr c
  · rintro s2 H2 xs ⟨t, ht, rfl, rfl⟩ hr'
    obtain ⟨b, hb, q⟩ := hbody cdv A out s2 _ _ Q E hr' hq (hs t ht)
    exact ⟨b, hb.nox, q⟩
theorem FnS.mono {P : Program} {w : World} {K : PySem.W.Frag} {mg : Str → Option Value} {base : Heap} {i k : Nat} {f : Addr} {fd : FuncData} {pk pv : Str} {sp : Sp} (F : FnS P w K mg base i f fd pk pv sp) (le : i ≤ k) : FnS P w K mg base k f fd pk pv sp :=
  ⟨fun hr hq e0 rv r hz hb hs => F.run (hr.mono le) hq e0 rv r hz hb hs⟩
def tCallS (sp : Sp) (dv : V) (ta : TA) : TE := fun σ H Q => ta σ H fun vs H1 => vs.length ≤ 1000 ∧ ∀ t, H1 t = none → sp [dv, .ref t] (upd H1 t (.tup vs)) Q fun _ _ _ => False
def tCallSK (sp : Sp) (ta tk : TA) : TE := fun σ H Q => ta σ H fun vs H1 => tk σ H1 fun zs H2 => ∃ z, zs = [z] ∧ vs.length ≤ 1000 ∧ ∀ t, H2 t = none → sp [z, .ref t] (upd H2 t (.tup vs)) Q fun _ _ _ => False
section
variable {X : Cx} {k : Nat} {f : Addr} {fd : FuncData} {pk pv : Str} {sp : Sp} {x : Str} {p pos : Pos} {e : Expr} {es : List Expr} {kws : List Keyword} {ta tk : TA} {dv : V} {v0 : Value}
theorem run_s {pins : List (Addr × Obj)} {σ : L2.St} {H : Hp} {s : Shared} {Q : VK} {us ps : List Value} {kvs : List (Str × Value)} {v : Value} {vv : V} {vs : List V} (F : FnS X.prog X.w X.K X.mg X.base k f fd pk pv sp) (hr : Room k X.A) (hq : Quiet X.A) (I : Inv X pins σ H s) (rv : RelV vv v) (r : Vals vs us) (hz : vs.length ≤ 1000)
    (hb : BindsS X.K fd ⟨ps, kvs⟩ pk pv v us) (h : ∀ t, H t = none → sp [vv, .ref t] (upd H t (.tup vs)) Q fun _ _ _ => False) : wpAny (model X.prog X.w) X.A (call (.ref f) ps kvs) (EP X pins σ Q) X.xe s := by
  have run := F.run (E := fun _ _ _ => False) hr hq I.env0 rv r (Nat.le_trans hz (by decide)) hb h
  refine wpAny_call (codeAny_mono run ?_)
  rintro (err | fl) s' z
  · exact False.elim z
  · cases fl with
    | ret u => exact I.after z
    | _ => exact False.elim z
/-- f(e, ..) -/
theorem pe_s (F : FnS X.prog X.w X.K X.mg X.base k f fd pk pv sp) (hr : Room k X.A) (hq : Quiet X.A) (hg : Gl X x) (hm : X.mg x = some (.ref f)) (hk : PySem.W.keepIn X.K (.ref f) = true) (rv : RelV dv v0)
    (hb : ∀ us : List Value, BindsS X.K fd ⟨us, []⟩ pk pv v0 us) (ha : PA X (e :: es) ta) (hdb : (x == ("__debug__" : Str)) = false := by decide)
    (hes : starEach (e :: es) X.env = (false, eval e X.env) :: starEach es X.env := by rfl) (hpl : (backTo pos (starEach es X.env)).any (·.1) = false := by rfl) :
    PE X (.Call (.Name x p) (e :: es) [] pos) (tCallS sp dv ta) := by
  refine ⟨fun pins s σ H Q I h => wpAny_Call_Name_kw (ld_glob I hg hm ?_ hdb)⟩
  refine PySem.W.callWith_K (h₀ := X.base) I.ok.mod.kin hk (thn (ha.run pos pins s σ H _ I h) ?_) hes hpl
  rintro us s1 ⟨vs, H1, I1, r, hz, q⟩
  exact ⟨I1.kIn, run_s F hr hq I1 rv r hz (hb us) q⟩
/-- f() -/
theorem pe_s0 (F : FnS X.prog X.w X.K X.mg X.base k f fd pk pv sp) (hr : Room k X.A) (hq : Quiet X.A) (hg : Gl X x) (hm : X.mg x = some (.ref f)) (hk : PySem.W.keepIn X.K (.ref f) = true) (rv : RelV dv v0)
    (hb : ∀ us : List Value, BindsS X.K fd ⟨us, []⟩ pk pv v0 us) (hdb : (x == ("__debug__" : Str)) = false := by decide) :
    PE X (.Call (.Name x p) [] [] pos) (tCallS sp dv tNil) := by
  refine ⟨fun pins s σ H Q I h => wpAny_Call_Name_kw (ld_glob I hg hm ?_ hdb)⟩
  obtain ⟨hz, q⟩ := h
  exact PySem.W.callWith_K0 I.kIn hk (run_s (us := []) F hr hq I rv .nil hz (hb []) q)
/-- f(e, .., pk = e') -/
theorem pe_sk (F : FnS X.prog X.w X.K X.mg X.base k f fd pk pv sp) (hr : Room k X.A) (hq : Quiet X.A) (hg : Gl X x) (hm : X.mg x = some (.ref f)) (hk : PySem.W.keepIn X.K (.ref f) = true)
    (hb : ∀ (u : Value) (us : List Value), BindsS X.K fd ⟨us, [(pk, u)]⟩ pk pv u us) (ha : PA X (e :: es) ta) (hkw : PK X kws tk)
    (hall : (backToKw pos (keywordEach kws X.env)).all (·.1.isSome) = true := by rfl) (hks : (backToKw pos (keywordEach kws X.env)).filterMap (·.1) = [pk] := by rfl)
    (hdb : (x == ("__debug__" : Str)) = false := by decide) (hes : starEach (e :: es) X.env = (false, eval e X.env) :: starEach es X.env := by rfl)
    (hpl : ((backTo pos (starEach (e :: es) X.env)).any (·.1) || (backToKw pos (keywordEach kws X.env)).any (·.1.isNone)) = false := by rfl) :
    PE X (.Call (.Name x p) (e :: es) kws pos) (tCallSK sp ta tk) := by
  refine ⟨fun pins s σ H Q I h => wpAny_Call_Name_kw (ld_glob I hg hm ?_ hdb)⟩
  refine PySem.W.callWith_KW (h₀ := X.base) I.ok.mod.kin hk hall (thn (ha.run pos pins s σ H _ I h) ?_) hpl hes
  rintro us s1 ⟨vs, H1, I1, r, h1⟩
  refine thn (hkw.run pos pins s1 σ H1 _ I1 h1) ?_
  rintro ws s2 ⟨zs, H2, I2, rz, z, rfl, hz, q⟩
  refine ⟨I2.kIn, ?_⟩
  rw [hks]
  cases rz with | cons rv rz => ?_
  cases rz
  exact run_s F hr hq I2 rv r hz (hb _ us) q
/-- f(pk = e') -/
theorem pe_sk0 (F : FnS X.prog X.w X.K X.mg X.base k f fd pk pv sp) (hr : Room k X.A) (hq : Quiet X.A) (hg : Gl X x) (hm : X.mg x = some (.ref f)) (hk : PySem.W.keepIn X.K (.ref f) = true)
    (hb : ∀ (u : Value) (us : List Value), BindsS X.K fd ⟨us, [(pk, u)]⟩ pk pv u us) (hkw : PK X kws tk)
    (hall : (backToKw pos (keywordEach kws X.env)).all (·.1.isSome) = true := by rfl) (hks : (backToKw pos (keywordEach kws X.env)).filterMap (·.1) = [pk] := by rfl)
    (hdb : (x == ("__debug__" : Str)) = false := by decide)
    (hpl : ((backTo pos (starEach [] X.env)).any (·.1) || (backToKw pos (keywordEach kws X.env)).any (·.1.isNone)) = false := by rfl) :
    PE X (.Call (.Name x p) [] kws pos) (tCallSK sp tNil tk) := by
  refine ⟨fun pins s σ H Q I h => wpAny_Call_Name_kw (ld_glob I hg hm ?_ hdb)⟩
  refine PySem.W.callWith_KW0 (h₀ := X.base) I.ok.mod.kin hk hall (thn (hkw.run pos pins s σ H _ I h) ?_) hpl
  rintro ws s2 ⟨zs, H2, I2, rz, z, rfl, hz, q⟩
  refine ⟨I2.kIn, ?_⟩
  rw [hks]
  cases rz with | cons rv rz => ?_
  cases rz
  exact run_s (us := []) F hr hq I2 rv .nil hz (hb _ []) q
end
end KD
set_option Elab.async false
set_option linter.all false
set_option maxRecDepth 100000
set_option maxHeartbeats 2000000
/-! D51: sorted(zip(xs, ys)) of two lists; sorted(set(numbers)), len(set(numbers)). -/
namespace KD
open PySem PySem.Spec PyProof.Rows L2
section
variable {prog : Program} {w : World} {A : Around} {z TI TO i1 i2 : Addr} {fp1 fp2 : List Addr} {n : Nat} {P1 P2 : Nat → Value → Prop} {St1 St2 : Nat → Heap → Prop}
theorem zip_gathered {E : Value → Shared → Prop} {s : Shared} {Q : List Value → Shared → Prop} (S : ZipSep2 z TI TO i1 i2 fp1 fp2) (D1 : Draws prog w A.in1.in1 i1 fp1 n P1 St1) (D2 : Draws prog w A.in1.in1 i2 fp2 n P2 St2) (hn : n ≤ 1000)
    (hz : Zst z TI TO i1 i2 s.heap) (h0 : IsZip s.heap z TI TO .none) (st1 : St1 0 s.heap) (st2 : St2 0 s.heap) (hf1 : ∀ b ∈ fp1, b < s.heap.objs.size) (hf2 : ∀ b ∈ fp2, b < s.heap.objs.size)
    (hQ : ∀ (s' : Shared) (Ts : List Addr), (∀ b o, b ∉ [z, TI, TO, i1, i2] → s.heap.get? b = some o → s'.heap.get? b = some o) → s'.gens = s.gens → s'.drawn = s.drawn → s'.os = s.os → Ts.length = n → Ts.Nodup →
      (∀ (j : Nat) (T : Addr), Ts[j]? = some T → s.heap.objs.size < T ∧ ∃ x y, P1 j x ∧ P2 j y ∧ IsTupOf2 s'.heap T x y) → Q (Ts.map Value.ref) s') :
    wpAny (model prog w) A (collect (.ref z)) Q E s := by
  have lt : ∀ {b : Addr} {o : Obj}, s.heap.get? b = some o → b < s.heap.objs.size := fun h => Heap.lt_size h
  obtain ⟨o1, l1⟩ := D1.live _ _ st1
  obtain ⟨o2, l2⟩ := D2.live _ _ st2
  obtain ⟨ta, tb, lo⟩ := hz.c
  have hL : s.heap.objs.size ∉ [z, TI, TO, i1, i2] := by
    simp only [List.mem_cons, List.not_mem_nil, or_false, not_or]
    exact ⟨Nat.ne_of_gt (lt h0), Nat.ne_of_gt (lt hz.b), Nat.ne_of_gt (lt lo), Nat.ne_of_gt (lt l1), Nat.ne_of_gt (lt l2)⟩
  have hL1 : s.heap.objs.size ∉ fp1 := fun h => Nat.lt_irrefl _ (hf1 _ h)
  have hL2 : s.heap.objs.size ∉ fp2 := fun h => Nat.lt_irrefl _ (hf2 _ h)
  have flat1 := fun B => Around.under_plainId (A := B) PySem.F.plain_proto_collect
  have flat2 := fun B => Around.under_plainId (A := B) PySem.F.plain_list_iadd
  unfold collect
  apply wpAny_bind
  refine wpAny_runValue (codeAny_builtin PySem.F.entry_proto_collect ?_)
  rw [flat1]
  change wpAny _ A.in1 (newList [] >>= fun l => again (.builtin "list.__iadd__" ⟨[l, .ref z], []⟩)) _ _ s
  apply wpAny_bind
  refine wpAny_newObj_type (wpAny_pure ⟨plainId_quiet PySem.F.plain_list_iadd _, codeAny_builtin PySem.F.entry_list_iadd ?_⟩)
  rw [flat2]
  have hS2 : (s.heap.push { cls := .type "list", data := .seq ([] : List Value).toArray }).get? s.heap.objs.size = some { cls := .type "list", data := .seq ([] : List Value).toArray } := Heap.get?_push_size _ rfl
  have k2 : ∀ b o, s.heap.get? b = some o → (s.heap.push { cls := .type "list", data := .seq ([] : List Value).toArray }).get? b = some o := fun b o e => Heap.get?_push_of_some _ e
  have z2 : (s.heap.push { cls := .type "list", data := .seq ([] : List Value).toArray }).objs.size = s.heap.objs.size + 1 := Heap.size_push ..
  generalize s.heap.push { cls := .type "list", data := .seq ([] : List Value).toArray } = h2 at hS2 k2 z2
  change wpAny _ A.in1 (Builtin.List.listExtendWith (.ref s.heap.objs.size) (.ref z) (.ref s.heap.objs.size)) _ _ _
  have isZip : IsZip ({ s with heap := h2 } : Shared).heap z TI TO .none := k2 _ _ h0
  have kind : ({ s with heap := h2 } : Shared).TypeIs (.ref z) "zip" := ⟨_, isZip, rfl⟩
  have apart : Builtin.List.listSameRef (.ref s.heap.objs.size) (.ref z) = false := by
    have : s.heap.objs.size ≠ z := Nat.ne_of_gt (lt h0)
    simp [Builtin.List.listSameRef, this]
  unfold Builtin.List.listExtendWith
  refine wpAny_bind (wpAny_typeOf kind ?_)
  simp only [apart, (by decide : (Value.type "zip" == Value.type "list") = false), (by decide : (Value.type "zip" == Value.type "tuple") = false), Bool.or_false, Bool.false_eq_true, if_false]
  refine wpAny_bind (wpAny_pyIter_zip isZip (wpAny_bind (wpAny_holding ?_)))
  unfold Builtin.List.listLengthHint
  refine wpAny_bind (wpAny_specialOf kind zip_no_len (wpAny_bind (m := specialOf (Value.ref z) (Str.ofString "__length_hint__")) (wpAny_specialOf kind zip_no_hint (wpAny_pure ?_))))
  change wpAny _ A.in1 (rule "list.extend.makes-room" >>= fun _ => Builtin.List.listTouch (.ref s.heap.objs.size) >>= fun _ => again (.builtin "list.extend.loop" ⟨[.ref s.heap.objs.size, .ref z, .ref s.heap.objs.size], []⟩)) _ _ _
  refine wpAny_bind (wpAny_rule (wpAny_bind ?_))
  change wpAny _ A.in1 (updateSeq s.heap.objs.size (·.push .none) >>= fun _ => updateSeq s.heap.objs.size (·.pop)) _ _ _
  apply wpAny_bind
  refine wpAny_updateSeq hS2 rfl ?_
  have hS3 := Heap.get?_update_self (Obj.mapSeq (·.push Value.none)) hS2 rfl
  refine wpAny_updateSeq (hz := by seq_fits) hS3 rfl ?_
  have hS4 := Heap.get?_update_self (Obj.mapSeq (·.pop)) hS3 rfl
  have k4 : ∀ b o, s.heap.get? b = some o → ((h2.update s.heap.objs.size (Obj.mapSeq (·.push Value.none))).update s.heap.objs.size (Obj.mapSeq (·.pop))).get? b = some o := fun b o e =>
    (Heap.get?_update_other _ _ (Ne.symm (Nat.ne_of_lt (lt e)))).trans ((Heap.get?_update_other _ _ (Ne.symm (Nat.ne_of_lt (lt e)))).trans (k2 b o e))
  have z4 : ((h2.update s.heap.objs.size (Obj.mapSeq (·.push Value.none))).update s.heap.objs.size (Obj.mapSeq (·.pop))).objs.size = s.heap.objs.size + 1 := by
    rw [(Heap.SameBut.update (a := s.heap.objs.size) (h := h2.update s.heap.objs.size (Obj.mapSeq (·.push Value.none))) ..).1, (Heap.SameBut.update (a := s.heap.objs.size) (h := h2) ..).1, z2]
  generalize (h2.update s.heap.objs.size (Obj.mapSeq (·.push Value.none))).update s.heap.objs.size (Obj.mapSeq (·.pop)) = h4 at hS4 k4 z4
  refine wpAny_pure ⟨plainId_quiet PySem.F.plain_extend_loop _, zip_loop S D1 D2 hn ⟨hL, hL1, hL2⟩ (fun _ => True) n 0 { s with heap := h4 } [] _ rfl (Nat.zero_le _) ⟨.inl (k4 _ _ h0), k4 _ _ hz.b, ⟨ta, tb, k4 _ _ lo⟩⟩ (D1.frame _ _ _ st1 fun b _ o e => k4 b o e) (D2.frame _ _ _ st2 fun b _ o e => k4 b o e) hS4 rfl .nil (fun j T h => by simp at h) fun s' Ts c hk g1 g2 g3 hl hln hnd hT => ?_⟩
  change wpAny _ A (load s.heap.objs.size >>= _) _ _ s'
  refine wpAny_bind (wpAny_load hl (wpAny_pure (hQ s' Ts (fun b o hb e => hk b o (fun h => ?_) (k4 b o e)) g1 g2 g3 hln hnd fun j T hj => ?_)))
  · rcases List.mem_cons.mp h with h | h
    · exact absurd (lt e) (by rw [h]; exact Nat.lt_irrefl _)
    · exact hb h
  · obtain ⟨a1, a2⟩ := hT j T hj
    refine ⟨?_, a2⟩
    rcases a1 with a1 | a1
    · simp at a1
    · have a1 : h4.objs.size ≤ T := a1
      rw [z4] at a1
      exact a1
end
section
variable {X : Cx} {pins : List (Addr × Obj)} {σ : L2.St} {H : Hp} {s : Shared}
theorem each_keys {G : Hp} (eg : Ex G H) (I : Inv X pins σ H s) {h2 : Heap} (keep : ∀ b o, s.heap.get? b = some o → h2.get? b = some o) (a : Addr) : ∀ {ks : List NestedKey} {ys : List V} {vs : List Value}, Vals ys vs → DaAll X.K G ys (ks.map NestedKey.data) →
    PySem.W.EachIs (fun v (k : NestedKey) => ∃ y, RelV y v ∧ Da X.K G y k.data) vs ks ∧ PySem.W.EachIs (fun v (k : NestedKey) => ∃ as, Reads h2 v k.data as ∧ a ∉ as) vs ks
  | [], _, _, r, d => by
    cases d
    cases r
    exact ⟨.nil, .nil⟩
  | k :: ks, _, _, r, d => by
    have d' : DaAll X.K G _ (k.data :: ks.map NestedKey.data) := d
    cases d' with
    | cons d1 d2 =>
      cases r with
      | cons r1 r2 =>
        obtain ⟨i1, i2⟩ := each_keys eg I keep a r2 d2
        obtain ⟨as, rd, _⟩ := Da.reads I _ _ _ (Da.mono eg _ d1) r1
        have none := key_noAs _ _ _ rd
        exact ⟨.cons ⟨_, r1, d1⟩ i1, .cons ⟨as, PyProof.Rows.Reads.keeps keep rd, by rw [none]; exact List.not_mem_nil⟩ i2⟩
theorem each_back {G : Hp} : ∀ {out : List Value} {zs : List NestedKey}, PySem.W.EachIs (fun v (k : NestedKey) => ∃ y, RelV y v ∧ Da X.K G y k.data) out zs → ∃ ys : List V, Vals ys out ∧ DaAll X.K G ys (zs.map NestedKey.data)
  | _, _, .nil => ⟨[], .nil, .nil⟩
  | _, _, .cons ⟨y, r, d⟩ rest => by
    obtain ⟨ys, h1, h2⟩ := each_back rest
    exact ⟨y :: ys, .cons r h1, .cons d h2⟩
/-- sorted(zip(xs, ys)): the pairs, in order -/
def tSortZip (K : PySem.W.Frag) (ta : TA) : TE := fun σ H Q => ta σ H fun vs H1 => ∃ (a b : Addr) (xs ys : List V) (ds es : List PyData) (ks : List NestedKey) (G1 : Hp), vs = [.ref a, .ref b] ∧ SqL K H1 a xs ∧ SqL K H1 b ys ∧ xs.length = ys.length ∧ xs.length ≤ 1000 ∧
  Ex G1 H1 ∧ DaAll K G1 xs ds ∧ DaAll K G1 ys es ∧ zipD ds es = ks.map NestedKey.data ∧ (∀ k ∈ ks, (∃ x r, k.data = .tuple (x :: r)) ∧ k.depth ≤ 8) ∧ PySem.W.AllAlike (ks.map NestedKey.data) ∧
  ∀ (v : V) (zs : List NestedKey) (G2 H2 : Hp), Up G1 H1 G2 H2 → zs.Perm ks → zs.Pairwise (fun a b => (!PySem.W.dataLt b.data a.data) = true) → Da K G2 v (.list (zs.map NestedKey.data)) → Q v H2
theorem pe_sortZip {e e2 : Expr} {ta : TA} {p p2 pos pos2 : Pos} (hc : X.calm = true) (hu : X.A.units + 64 < cLine) (hgl : Gl X "sorted") (hml : X.mg "sorted" = none) (hg : Gl X "zip") (hm : X.mg "zip" = none) (ha : PA X [e, e2] ta)
    (hs : starEach [e, e2] X.env = (false, eval e X.env) :: starEach [e2] X.env := by rfl) (hpl : (backTo pos2 (starEach [e2] X.env)).any (·.1) = false := by rfl)
    (na : starEach [.Call (.Name "zip" p2) [e, e2] [] pos2] X.env = (false, eval (.Call (.Name "zip" p2) [e, e2] [] pos2) X.env) :: starEach [] X.env := by rfl) :
    PE X (.Call (.Name "sorted" p) [.Call (.Name "zip" p2) [e, e2] [] pos2] [] pos) (tSortZip X.K ta) := by
  refine ⟨fun pins s σ H Q I h => ?_⟩
  refine Call_ (ld_blt I hgl hml PyProof.Rows.boot_sorted (PyProof.Rows.callWith_builtin1 (args_cons (Call_ (ld_blt I hg hm PyProof.Rows.boot_zip (PyProof.Rows.callWith_type1 (thn (ha.run pos2 pins s σ H _ I h) ?_) hs hpl))) na) na))
  rintro us s1 ⟨vs, H1, I1, r1, a, b, xs, ys, ds, es, ks, G1, rfl, qx, qy, hxy, hx1, eg1, dx, dy, zk, hkey, hal, q⟩
  cases r1 with | cons r r1 => ?_
  cases r1 with | cons r' r1 => ?_
  cases r1; cases r; cases r'
  obtain ⟨its, rv, p1, _⟩ := I1.list qx
  obtain ⟨jts, rw2, p2', _⟩ := I1.list qy
  have l1 := rv.length
  have l2 := rw2.length
  have la := p1.lt
  have lb := p2'.lt
  have hh : X.A.in1.handled = none := I1.ok.hd hc
  refine zip_begins2 (begins_list a its.toArray) (begins_list b jts.toArray) p1.isList p2'.isList fun h' hz hTI hTO e1 e2 hsz hk => args_nil ?_
  have hS : ZipSep2 (s1.heap.objs.size + 4) (s1.heap.objs.size + 2) (s1.heap.objs.size + 3) s1.heap.objs.size (s1.heap.objs.size + 1) [s1.heap.objs.size, a] [s1.heap.objs.size + 1, b] := by
    have hla : @LT.lt Nat instLTNat a s1.heap.objs.size := la
    have hlb : @LT.lt Nat instLTNat b s1.heap.objs.size := lb
    generalize s1.heap.objs.size = n at hla hlb
    have ne : ∀ {x y : Nat}, x ≠ y → ¬ ((x : Addr) = y) := fun h => h
    constructor <;> first
      | exact List.mem_cons_self
      | (refine ne ?_; show ¬ (_ : Nat) = _; omega)
      | (simp only [List.mem_cons, List.not_mem_nil, or_false, not_or]; refine ⟨ne ?_, ne ?_⟩ <;> (show ¬ (_ : Nat) = _; omega))
  have ha1 : h'.IsList a its.toArray := (show s1.heap.IsList a its.toArray from p1.isList).at fun o y => hk a o y
  have hb1 : h'.IsList b jts.toArray := (show s1.heap.IsList b jts.toArray from p2'.isList).at fun o y => hk b o y
  have hsz1 : its.toArray.size = xs.length := by rw [List.size_toArray]; exact l1.symm
  have hsz2 : jts.toArray.size = xs.length := by rw [List.size_toArray]; omega
  have D1 := Draws.list (prog := X.prog) (w := X.w) (A := X.A.in1.in1.in1) hh s1.heap.objs.size a (Nat.ne_of_lt la) its.toArray
  have D2 := Draws.list (prog := X.prog) (w := X.w) (A := X.A.in1.in1.in1) hh (s1.heap.objs.size + 1) b (Nat.ne_of_lt (Nat.lt_succ_of_lt lb)) jts.toArray
  rw [hsz1] at D1
  rw [hsz2] at D2
  refine Calls.call_function_entry PyProof.Rows.kind_sorted PyProof.Rows.plain_sorted PyProof.Rows.entry_sorted (PyProof.Rows.args_sorted1 _) ?_
  unfold Builtin.«sorted»
  refine wpAny_bind (m := checkCount "sorted" 1 1 _) (wpAny_pure (wpAny_bind ?_))
  refine zip_gathered (s := { s1 with heap := h' }) (A := X.A.in1) hS D1 D2 hx1 ⟨.inl hz, hTI, ⟨_, _, hTO⟩⟩ hz ⟨⟨_, e1, rfl, rfl⟩, ha1⟩ ⟨⟨_, e2, rfl, rfl⟩, hb1⟩ (fun c hc => ?_) (fun c hc => ?_) fun s' Ts hkk g1 g2 g3 hln hnd hT => ?_
  · show c < h'.objs.size
    rw [hsz]
    rcases mem2 hc with rfl | rfl
    · exact Nat.lt_add_of_pos_right (by decide)
    · exact Nat.lt_of_lt_of_le la (Nat.le_add_right _ _)
  · show c < h'.objs.size
    rw [hsz]
    rcases mem2 hc with rfl | rfl
    · exact Nat.add_lt_add_left (by decide) _
    · exact Nat.lt_of_lt_of_le lb (Nat.le_add_right _ _)
  · have hT : ∀ (j : Nat) (T : Addr), Ts[j]? = some T → h'.objs.size < T ∧ ∃ x y, its.toArray[j]? = some x ∧ jts.toArray[j]? = some y ∧ IsTupOf2 s'.heap T x y := hT
    rw [hsz] at hT
    have old : ∀ b u, s1.heap.get? b = some u → s'.heap.get? b = some u := fun b u e => by
      refine hkk b u (fun hm => ?_) (hk b u e)
      have hlt := Heap.lt_size e
      rcases mem5 hm with z | z | z | z | z
      · rw [z] at hlt; exact absurd hlt (Nat.not_lt.mpr (Nat.le_add_right _ _))
      · rw [z] at hlt; exact absurd hlt (Nat.not_lt.mpr (Nat.le_add_right _ _))
      · rw [z] at hlt; exact absurd hlt (Nat.not_lt.mpr (Nat.le_add_right _ _))
      · rw [z] at hlt; exact absurd hlt (Nat.lt_irrefl _)
      · rw [z] at hlt; exact absurd hlt (Nat.not_lt.mpr (Nat.le_add_right _ _))
    have big : ∀ T ∈ Ts, s1.heap.objs.size ≤ T := fun T hm => by
      obtain ⟨j, hj⟩ := List.mem_iff_getElem?.mp hm
      exact Nat.le_of_lt (Nat.lt_of_le_of_lt (Nat.le_add_right _ _) (hT j T hj).1)
    obtain ⟨mk, hmk⟩ : ∃ mk : Hp → Hp, ∀ F x, mk F x = if x ∈ Ts then some (.tup [xs.getD (Ts.idxOf x) .non, ys.getD (Ts.idxOf x) .non]) else F x := ⟨fun F x => if x ∈ Ts then some (.tup [xs.getD (Ts.idxOf x) .non, ys.getD (Ts.idxOf x) .non]) else F x, fun _ _ => rfl⟩
    have grown : ∀ {F : Hp}, (∀ T ∈ Ts, F T = none) → Ex F (mk F) := fun {F} no x o e => by
      rw [hmk, if_neg]
      · exact e
      · exact fun z => by rw [no x z] at e; cases e
    have noH : ∀ T ∈ Ts, H1 T = none := fun T hm => I1.hok.fresh (big T hm)
    have noG : ∀ T ∈ Ts, G1 T = none := fun T hm => eg1.fresh (noH T hm)
    have at_T : ∀ {F : Hp} {j : Nat} {T : Addr}, Ts[j]? = some T → mk F T = some (.tup [xs.getD j .non, ys.getD j .non]) := fun {F j T} hj => by
      have hidx : Ts.idxOf T = j := by
        rw [← (List.getElem?_eq_some_iff.mp hj).2]
        exact List.Nodup.idxOf_getElem hnd j (List.getElem?_eq_some_iff.mp hj).1
      rw [hmk, if_pos (List.mem_of_getElem? hj), hidx]
    have rel : ∀ (j : Nat) (u1 u2 : Value), its.toArray[j]? = some u1 → jts.toArray[j]? = some u2 → RelV (xs.getD j .non) u1 ∧ RelV (ys.getD j .non) u2 := fun j u1 u2 h1 h2 => by
      have h1 : its[j]? = some u1 := by simpa using h1
      have h2 : jts[j]? = some u2 := by simpa using h2
      have hjx : j < xs.length := by rw [l1]; exact (List.getElem?_eq_some_iff.mp h1).1
      have hjy : j < ys.length := by omega
      obtain ⟨v1, q1, r1⟩ := rv.get (List.getElem?_eq_getElem hjx)
      obtain ⟨v2, q2, r2⟩ := rw2.get (List.getElem?_eq_getElem hjy)
      rw [h1] at q1; cases q1
      rw [h2] at q2; cases q2
      rw [List.getD_eq_getElem?_getD, List.getElem?_eq_getElem hjx, List.getD_eq_getElem?_getD, List.getElem?_eq_getElem hjy]
      exact ⟨r1, r2⟩
    have I2 : Inv X pins σ (mk H1) { s1 with heap := s'.heap, toks := s'.toks } := by
      refine inv_many I1 old (grown noH) fun x u e hn => ?_
      rw [hmk] at e
      by_cases e2 : x ∈ Ts
      · rw [if_pos e2] at e
        cases e
        obtain ⟨j, hj⟩ := List.mem_iff_getElem?.mp e2
        obtain ⟨_, u1, u2, p1, p2, p3⟩ := hT j x hj
        obtain ⟨q1, q2⟩ := rel j u1 u2 p1 p2
        have hidx : Ts.idxOf x = j := by
          rw [← (List.getElem?_eq_some_iff.mp hj).2]
          exact List.Nodup.idxOf_getElem hnd j (List.getElem?_eq_some_iff.mp hj).1
        refine ⟨big x e2, ?_⟩
        rw [hidx]
        exact ⟨(by decide : 2 ≤ sizeLine), [u1, u2], .cons q1 (.cons q2 .nil), ⟨_, p3, rfl, _, rfl⟩⟩
      · rw [if_neg e2, hn] at e; cases e
    have es : ({ s1 with heap := s'.heap, toks := s'.toks } : Shared) = s' := by
      obtain ⟨a1, a2, a3, a4, a5⟩ := s'
      have g1 : a2 = s1.gens := g1
      have g2 : a3 = s1.drawn := g2
      have g3 : a5 = s1.os := g3
      subst g1 g2 g3
      rfl
    rw [es] at I2
    have dz : DaAll X.K (mk G1) (Ts.map V.ref) (ks.map NestedKey.data) := by
      rw [← zk]
      refine zip_all (dx.mono (grown noG)) (dy.mono (grown noG)) hxy hln fun j T x y a1 a2 a3 => ?_
      rw [at_T a1, List.getD_eq_getElem?_getD, a2, List.getD_eq_getElem?_getD, a3]
      rfl
    have eGH : Ex (mk G1) (mk H1) := fun x o e => by
      rw [hmk] at e ⊢
      by_cases c : x ∈ Ts
      · rw [if_pos c] at e ⊢; exact e
      · rw [if_neg c] at e ⊢; exact eg1 _ _ e
    have tl : (Ts.map Value.ref).length = ks.length := by
      have := dz.length
      rw [List.length_map, List.length_map] at this
      rw [List.length_map]
      exact this
    have ksl : ks.length ≤ 1000 := by
      rw [← tl, List.length_map]
      omega
    have Mln := Nat.le_trans ksl (by decide : 1000 ≤ sizeLine)
    refine wpAny_bind (wpAny_newList ?_ (by rw [tl]; exact Mln))
    have hoL : (s'.heap.push (seqObj "list" (Ts.map Value.ref).toArray 0)).get? s'.heap.objs.size = some (seqObj "list" (Ts.map Value.ref).toArray 0) := Heap.get?_push_size _ rfl
    show wpAny _ _ _ _ _ { s' with heap := s'.heap.push (seqObj "list" (Ts.map Value.ref).toArray 0) }
    obtain ⟨E1, E2⟩ := each_keys eGH I2 (h2 := s'.heap.push (seqObj "list" (Ts.map Value.ref).toArray 0)) (fun b o e => Heap.get?_push_of_some _ e) s'.heap.objs.size (vals_refs Ts) dz
    refine wpAny_bind (wpAny_holding (PySem.W.list_sort_data (s := { s' with heap := s'.heap.push (seqObj "list" (Ts.map Value.ref).toArray 0) }) (bs := ks) (enc := NestedKey.data) hoL E1 E2 hal (.inl fun d hd => ?_) Mln (fun k hk' => ?_) fun out ol eo => ?_))
    · obtain ⟨k, hk1, rfl⟩ := List.mem_map.mp hd
      exact (hkey k hk1).1
    · have z := (hkey k hk').2
      have e := key_depth k
      simp only [Around.in1_units]
      omega
    · generalize hzs : ks.mergeSort (PySem.W.dataLe false NestedKey.data) = zs at eo
      have pz : zs.Perm ks := by rw [← hzs]; exact List.mergeSort_perm _ _
      have sz : zs.Pairwise (fun a b => (!PySem.W.dataLt b.data a.data) = true) := by
        rw [← hzs]
        refine List.pairwise_mergeSort (le := PySem.W.dataLe false NestedKey.data) (fun a b c h1 h2 => le_trans3 h1 h2) (fun a b => ?_) _
        have z := le_total a.data b.data
        show ((!PySem.W.dataLt b.data a.data) || (!PySem.W.dataLt a.data b.data)) = true
        rcases z with z | z <;> rw [z] <;> simp
      obtain ⟨os, v1, v2⟩ := each_back eo
      obtain ⟨e', he'⟩ := PyProof.Rows.sortedHeap_at (vs := Ts.map Value.ref) (out := out.toArray) hoL
      have yl : os.length ≤ sizeLine := by rw [v1.length, ol]; exact Mln
      have fresh := I2.hok.fresh (Nat.le_refl s'.heap.objs.size)
      have I4 : Inv X pins σ (upd (mk H1) s'.heap.objs.size (.lst os)) { s' with heap := sortedHeap (s'.heap.push (seqObj "list" (Ts.map Value.ref).toArray 0)) s'.heap.objs.size (Ts.map Value.ref) out.toArray } :=
        I2.laid (t' := s'.toks) (fun b u e => by
          have hb : b < s'.heap.objs.size := Heap.lt_size e
          rw [PyProof.Rows.sortedHeap_old (Nat.ne_of_lt hb) (by rw [size_push']; exact Nat.lt_succ_of_lt hb)]
          exact Heap.get?_push_of_some _ e) (Nat.le_refl _) (show ObjOk X.prog X.w _ _ _ (.lst os) from ⟨yl, out, e', v1, he'⟩)
      have fG : mk G1 s'.heap.objs.size = none := eGH.fresh fresh
      refine wpAny_pure ⟨_, rfl, .ref s'.heap.objs.size, _, I4, rfl, q _ zs (upd (mk G1) s'.heap.objs.size (.lst os)) _ ⟨(grown noG).tr (Ex.up fG), fun x o e => ?_, (grown noH).tr (Ex.up fresh), fun b c1 c2 => ?_⟩ pz sz (.lst upd_same (v2.mono (Ex.up fG)))⟩
      · by_cases c : x = s'.heap.objs.size
        · subst c; rw [upd_same] at e ⊢; exact e
        · rw [upd_ne c] at e ⊢; exact eGH _ _ e
      · have n1 : b ∉ Ts := fun z => c1 (noH b z)
        have n2 : b ≠ s'.heap.objs.size := fun z => by
          rw [← z, hmk, if_neg n1] at fresh
          exact c1 fresh
        rw [upd_ne n2, hmk, if_neg n1]
        exact c2
end
section
variable {P : Program} {w : World}
theorem named_ints : ∀ {ks : List Int} {vs : List Value}, Named (PySem.intKind P w) ks vs → IntsAre vs ks
  | _, _, .nil => .nil
  | _, _, .cons h t => by
    obtain ⟨u, e⟩ := Value.isInt_shape h
    subst e
    exact .cons _ _ (named_ints t)
theorem ints_kinds {ks : List Int} {vs : List Value} (h : IntsAre vs ks) : ∀ (i : Nat) (v : Value), vs.toArray[i]? = some v → ∃ k, ks[i]? = some k ∧ (PySem.intKind P w).is k v = true ∧ v.scannable = true := by
  induction h with
  | nil => exact fun i v e => by simp at e
  | cons x t r ih =>
    intro i v e
    cases i with
    | zero =>
      have e1 : Value.int x t = v := by simpa using e
      subst e1
      exact ⟨x, rfl, PySem.intKind_is P w x t, rfl⟩
    | succ i => exact ih i v (by simpa using e)
end
section
variable {X : Cx}
/-- sorted(set(xs)), xs a list of numbers -/
def tSortSetI (K : PySem.W.Frag) (ta : TE) : TE := fun σ H Q => ta σ H fun x H1 => ∃ (l : Addr) (ks : List Int), x = .ref l ∧ SqL K H1 l (ks.map V.int) ∧ ks.length < 64 ∧
  ∀ (ys : List Int) (p : Addr), ys.Nodup → (∀ k, k ∈ ys ↔ k ∈ ks) → ys.Pairwise (· ≤ ·) → H1 p = none → Q (.ref p) (upd H1 p (.lst (ys.map V.int)))
theorem pe_sortSetI {a : Expr} {ta : TE} {p p2 q pos : Pos} (hc : X.calm = true) (hg : Gl X "sorted") (hm : X.mg "sorted" = none) (hg2 : Gl X "set") (hm2 : X.mg "set" = none) (ha : PE X a ta)
    (na : starEach [a] X.env = (false, eval a X.env) :: starEach [] X.env := by rfl) : PE X (.Call (.Name "sorted" p) [.Call (.Name "set" p2) [a] [] q] [] pos) (tSortSetI X.K ta) := by
  unfold tSortSetI
  refine ofSet (ta := ta) hg hm PyProof.Rows.boot_sorted hg2 hm2 ha na fun pins s1 σ Q v ⟨x, H1, I1, r1, l, ks, ex, hq, few, q1⟩ => ?_
  subst ex
  cases r1
  obtain ⟨its, r, pl, hz⟩ := I1.list hq
  have hl : its.length = ks.length := by
    have z := r.length
    rw [List.length_map] at z
    exact z.symm
  refine set_of_list (knd := PySem.intKind X.prog X.w) (I1.ok.hd hc) pl.isList (ks := ks) (ints_kinds r.ints) (by simp [hl]) (by unfold scanBound; omega) fun h' tk up keep => ?_
  obtain ⟨n, hn, o, es, ep, t, ⟨ho, hex, hd⟩, G, W, en⟩ := up
  have I2 : Inv X pins σ H1 { s1 with heap := h', toks := tk } := I1.kept fun b o e => keep b o (Heap.lt_size e) e
  refine Calls.call_function_entry PyProof.Rows.kind_sorted PyProof.Rows.plain_sorted PyProof.Rows.entry_sorted (PyProof.Rows.args_sorted1 _) ?_
  unfold Builtin.«sorted»
  refine wpAny_bind (m := checkCount "sorted" 1 1 _) (wpAny_pure ?_)
  refine wpAny_bind (collect_set (s := { s1 with heap := h', toks := tk }) (A := X.A.in1) (I2.ok.hd hc) ⟨o, ho, hex.1, hd⟩ W.fit W.few W.ris W.led fun s2 vs k1 hz2 g1 o1 pm => ?_)
  obtain ⟨ys, y1, y2, y3⟩ := G.names pm
  have hY := named_ints y3
  have vlen : vs.length = n := by rw [pm.length_eq, List.length_map, Array.length_toList, en]
  have I3 : Inv X pins σ H1 { s1 with heap := s2.heap, toks := s2.toks } := I2.kept (t' := s2.toks) k1
  refine wpAny_bind (wpAny_newList ?_ (by rw [vlen, sizeLine_eq]; omega))
  have hoL : (s2.heap.push (seqObj "list" vs.toArray 0)).get? s2.heap.objs.size = some (seqObj "list" vs.toArray 0) := Heap.get?_push_size _ rfl
  show wpAny _ _ _ _ _ { s2 with heap := s2.heap.push (seqObj "list" vs.toArray 0) }
  refine wpAny_bind (wpAny_holding (wpAny_call_entry PyProof.Rows.slot_list_sort ⟨_, hoL, rfl⟩ PyProof.Rows.entry_list_sort
    (list_sort_treeAny (s := { s2 with heap := s2.heap.push (seqObj "list" vs.toArray 0) }) hoL hY (by rw [vlen, sizeLine_eq]; omega) fun out zs z1 z2 z3 => ⟨_, rfl, ?_⟩)
    (PyProof.Rows.args_list_sort _)))
  obtain ⟨e', he'⟩ := PyProof.Rows.sortedHeap_at (vs := vs) (out := out) hoL
  have zlen : zs.length = n := by rw [z2.length_eq, y3.length, vlen]
  have hlen : (zs.map V.int).length ≤ sizeLine := by rw [List.length_map, zlen, sizeLine_eq]; omega
  have I4 : Inv X pins σ (upd H1 s2.heap.objs.size (.lst (zs.map V.int))) { s1 with heap := sortedHeap (s2.heap.push (seqObj "list" vs.toArray 0)) s2.heap.objs.size vs out, toks := s2.toks } :=
    I3.laid (t' := s2.toks) (fun b u e => by
      have hb : b < s2.heap.objs.size := Heap.lt_size e
      rw [PyProof.Rows.sortedHeap_old (Nat.ne_of_lt hb) (by rw [size_push']; exact Nat.lt_succ_of_lt hb)]
      exact Heap.get?_push_of_some _ e) (Nat.le_refl _)
      (show ObjOk X.prog X.w _ _ _ (.lst (zs.map V.int)) from ⟨hlen, out.toList, e', vals_of_ints z1, by rw [Array.toArray_toList]; exact he'⟩)
  refine wpAny_pure ⟨_, rfl, .ref s2.heap.objs.size, _, ?_, rfl, q1 zs s2.heap.objs.size (z2.nodup_iff.mpr y1) (fun k => ?_) z3 (I3.hok.fresh (Nat.le_refl _))⟩
  · obtain ⟨hp2, gn2, dr2, tk2, os2⟩ := s2
    have e1 : gn2 = s1.gens := g1
    have e2 : os2 = s1.os := o1
    subst e1
    subst e2
    exact ⟨I4.ok, I4.os, I4.bare, I4.base, I4.loc, I4.cell, I4.free, I4.freeC, I4.pin, I4.hok, I4.len⟩
  · rw [z2.mem_iff, y2 k, decide_eq_true_eq, List.take_length]
/-- len(set(xs)), xs a list of numbers -/
def tLenSetI (K : PySem.W.Frag) (ta : TE) : TE := fun σ H Q => ta σ H fun x H1 => ∃ (l : Addr) (ks : List Int), x = .ref l ∧ SqL K H1 l (ks.map V.int) ∧ ks.length ≤ 4000 ∧
  ∀ ys : List Int, ys.Nodup → (∀ k, k ∈ ys ↔ k ∈ ks) → Q (.int (ys.length : Nat)) H1
theorem pe_lenSetI {a : Expr} {ta : TE} {p p2 q pos : Pos} (hc : X.calm = true) (hg : Gl X "len") (hm : X.mg "len" = none) (hg2 : Gl X "set") (hm2 : X.mg "set" = none) (ha : PE X a ta)
    (na : starEach [a] X.env = (false, eval a X.env) :: starEach [] X.env := by rfl) : PE X (.Call (.Name "len" p) [.Call (.Name "set" p2) [a] [] q] [] pos) (tLenSetI X.K ta) := by
  unfold tLenSetI
  refine ofSet (ta := ta) hg hm boot_len hg2 hm2 ha na fun pins s1 σ Q v ⟨x, H1, I1, r1, l, ks, ex, hq, few, q1⟩ => ?_
  subst ex
  cases r1
  obtain ⟨its, r, pl, hz⟩ := I1.list hq
  have hl : its.length = ks.length := by
    have z := r.length
    rw [List.length_map] at z
    exact z.symm
  refine set_of_list (knd := PySem.intKind X.prog X.w) (I1.ok.hd hc) pl.isList (ks := ks) (ints_kinds r.ints) (by simp [hl]) (by unfold scanBound; omega) fun h' tk up keep => ?_
  obtain ⟨n, hn, o, es, ep, t, ⟨ho, hex, hd⟩, G, W, en⟩ := up
  have I2 : Inv X pins σ H1 { s1 with heap := h', toks := tk } := I1.kept fun b o e => keep b o (Heap.lt_size e) e
  obtain ⟨ys, y1, y2, y3⟩ := G.names (List.Perm.refl _)
  have ylen : ys.length = es.size := by rw [y3.length, List.length_map, Array.length_toList]
  exact call_len_set ho hex hd W.fit (by omega) ⟨.int ys.length, H1, I2.tok _, ⟨_, by rw [ylen]⟩, q1 ys y1 fun k => by rw [y2 k, decide_eq_true_eq, List.take_length]⟩
theorem pe_sortSetIK (K : PySem.W.Frag) {a : Expr} {ta : TE} {p p2 q pos : Pos} (hc : X.calm = true) (hg : Gl X "sorted") (hm : X.mg "sorted" = none) (hg2 : Gl X "set") (hm2 : X.mg "set" = none) (ha : PE X a ta) (h : X.K = K := by rfl)
    (na : starEach [a] X.env = (false, eval a X.env) :: starEach [] X.env := by rfl) : PE X (.Call (.Name "sorted" p) [.Call (.Name "set" p2) [a] [] q] [] pos) (tSortSetI K ta) := h ▸ pe_sortSetI hc hg hm hg2 hm2 ha na
theorem pe_lenSetIK (K : PySem.W.Frag) {a : Expr} {ta : TE} {p p2 q pos : Pos} (hc : X.calm = true) (hg : Gl X "len") (hm : X.mg "len" = none) (hg2 : Gl X "set") (hm2 : X.mg "set" = none) (ha : PE X a ta) (h : X.K = K := by rfl)
    (na : starEach [a] X.env = (false, eval a X.env) :: starEach [] X.env := by rfl) : PE X (.Call (.Name "len" p) [.Call (.Name "set" p2) [a] [] q] [] pos) (tLenSetI K ta) := h ▸ pe_lenSetI hc hg hm hg2 hm2 ha na
theorem pe_sortZipK (K : PySem.W.Frag) {e e2 : Expr} {ta : TA} {p p2 pos pos2 : Pos} (hc : X.calm = true) (hu : X.A.units + 64 < cLine) (hgl : Gl X "sorted") (hml : X.mg "sorted" = none) (hg : Gl X "zip") (hm : X.mg "zip" = none) (ha : PA X [e, e2] ta) (h : X.K = K := by rfl)
    (hs : starEach [e, e2] X.env = (false, eval e X.env) :: starEach [e2] X.env := by rfl) (hpl : (backTo pos2 (starEach [e2] X.env)).any (·.1) = false := by rfl)
    (na : starEach [.Call (.Name "zip" p2) [e, e2] [] pos2] X.env = (false, eval (.Call (.Name "zip" p2) [e, e2] [] pos2) X.env) :: starEach [] X.env := by rfl) :
    PE X (.Call (.Name "sorted" p) [.Call (.Name "zip" p2) [e, e2] [] pos2] [] pos) (tSortZip K ta) := h ▸ pe_sortZip hc hu hgl hml hg hm ha hs hpl na
end
end KD
set_option Elab.async false
set_option linter.all false
set_option maxRecDepth 100000
set_option maxHeartbeats 2000000
/-! D52: errors of one's own held as values, made by position and by keyword, below ValueError or KeyError. -/
namespace PySem.KDE
open PySem
section
variable {M : Model} {A : Around} {E : Value → Shared → Prop} {h : Heap} {g : Array GenState} {d : Drawn} {t : Nat} {os : OsState} {prog : Program} {w : World}
  {nm q : Str} {C N : Addr} {bs bm bmB : List Value} {hdct : Bool} {sn : List Str} {sub : List Value} {ab : Bool} {col : Option Bool} {dd : Option Addr} {k0 k1 k2 k3 k5 : Option Value} {B newId initId : String}
  {us : List Value} {kw : List (Str × Value)} {fI : Addr}
theorem xv_check_new (F : ExcBaseFacts B newId initId bmB) (hB : bm.contains (.type B) = true) {Q : Unit → Shared → Prop} (here : h.get? C = some (excClassObj nm q C N bs bm hdct sn sub ab col dd k0 k1 k2 k3 k5 newId)) (go : Q () ⟨h, g, d, t, os⟩) :
    wpAny M A (checkBuiltinCall newId ⟨.ref C :: us, kw⟩) Q E ⟨h, g, d, t, os⟩ := by
  have isB : (Value.ref C :: bm).contains (.type B) = true := by rw [List.contains_cons, hB, Bool.or_true]
  have star := F.noStar
  unfold checkBuiltinCall
  simp only [F.newKind, F.newSplit, F.newRow]
  repeat (first | with_reducible refine wpAny_loadPart_at here ?_ | (with_reducible refine wpAny_isSubtype_exc here ?_; rw [isB]) | with_reducible refine wpAny_staticBase_exc here ?_ | with_reducible refine wpAny_madeBy_exc here ?_ | simp only [bne_self_eq_false, Bool.false_eq_true, if_false] | wp_step)
  exact go
theorem xv_new (F : ExcBaseFacts B newId initId bmB) (hB : bm.contains (.type B) = true) (hA : bm.contains (.type "AttributeError") = false) (hN : bm.contains (.type "NameError") = false)
    (here : h.get? C = some (excClassObj nm q C N bs bm hdct sn sub ab col dd k0 k1 k2 k3 k5 newId)) (small : us.length ≤ sizeLine) {R : Result → Shared → Prop}
    (go : R (.ok (.ret (.ref (h.objs.size + 1)))) ⟨(h.push (W.kdv_tup us)).push (HandSPX.excO C h.objs.size), g, d, t, os⟩) :
    codeAny (model prog w) A (.builtin newId ⟨.ref C :: us, kw⟩) R ⟨h, g, d, t, os⟩ := by
  have ends := F.ends
  have isB : (Value.ref C :: bm).contains (.type B) = true := by rw [List.contains_cons, hB, Bool.or_true]
  have isA : (Value.ref C :: bm).contains (.type "AttributeError") = false := by rw [List.contains_cons, hA]; rfl
  have isN : (Value.ref C :: bm).contains (.type "NameError") = false := by rw [List.contains_cons, hN]; rfl
  have whose := F.owner
  refine codeAny_builtinAt F.entry (wpAt_bind (show wpAt _ _ _ (stack >>= _) _ _ _ from wpAt_bind (wpAt_stack fun _ _ => wpAt_of_wpAny ?_)))
  wp_walk
  apply wpAt_of_wpAny
  simp only [whose]
  repeat (first | with_reducible refine wpAny_madeHere_exc F.canon here ?_ | with_reducible refine wpAny_loadPart_at here ?_ | (with_reducible refine wpAny_isSubtype_exc here ?_; first | rw [isB] | rw [isA] | rw [isN]) | wp_step)
  show R (.ok (.ret (.ref (h.push (W.kdv_tup us)).objs.size))) _
  rw [Heap.size_push]
  exact go
theorem xv_tcall (F : ExcBaseFacts B newId initId bmB) (hB : bm.contains (.type B) = true) (hA : bm.contains (.type "AttributeError") = false) (hN : bm.contains (.type "NameError") = false)
    (here : h.get? C = some (excClassObj nm q C N bs bm hdct sn sub ab col dd k0 k1 k2 k3 k5 newId)) (small : us.length ≤ sizeLine)
    (lk : W.Looks (model prog w) h (typeLookup (.ref C) "__init__") (some (.ref fI))) (bd : ∀ self, W.Looks (model prog w) h (bindSpecial (.ref fI) self) (.ref fI, [self])) {Q : Fin → Shared → Prop}
    (go : codeAny (model prog w) A (.call (.ref fI) ⟨.ref (h.objs.size + 1) :: us, kw⟩)
      (fun r s' => match r with | .ok (.ret v) => v = .none ∧ Q (.done (.ret (.ref (h.objs.size + 1)))) s' | .ok _ => False | .error e => E e s') ⟨(h.push (W.kdv_tup us)).push (HandSPX.excO C h.objs.size), g, d, t, os⟩) :
    wpAny (model prog w) A (Builtin.«type.__call__» ⟨.ref C :: us, kw⟩) Q E ⟨h, g, d, t, os⟩ := by
  have keep : ∀ b o, h.get? b = some o → ((h.push (W.kdv_tup us)).push (HandSPX.excO C h.objs.size)).get? b = some o := fun _ _ e => Heap.get?_push_of_some _ (Heap.get?_push_of_some _ e)
  have there : ((h.push (W.kdv_tup us)).push (HandSPX.excO C h.objs.size)).get? (h.objs.size + 1) = some (HandSPX.excO C h.objs.size) := by heap_get
  have own : (Value.ref C :: bm).contains (.ref C) = true := by simp
  have again := keep _ _ here
  repeat (first | with_reducible refine wpAny_loadPart_at here ?_ | with_reducible refine wpAny_madeBy_exc here ?_ | wp_step)
  refine codeAny_call_builtin_code (Code.quiet_builtin _ F.quiet) (xv_check_new F hB here (xv_new F hB hA hN here small ?_))
  show wpAny _ _ _ _ _ _
  unfold isInstance
  repeat (first | with_reducible refine wpAny_loadPart_at there ?_ | (with_reducible refine wpAny_isSubtype_exc again ?_; rw [own]) | wp_step)
  show wpAny _ _ (typeLookup (.ref C) _) _ _ _
  refine (lk.keeps keep).at (wpAny_holding (wpAny_bind (((bd _).keeps keep).at (wpAny_bind (wpAny_call (codeAny_mono go fun r s' z => ?_))))))
  cases r with
  | error e => exact z
  | ok fl =>
    cases fl with
    | next => exact z.elim
    | brk => exact z.elim
    | cont => exact z.elim
    | ret v =>
      obtain ⟨rfl, z⟩ := z
      first
        | exact wpAny_pure (wpAny_pure z)
        | (wp_walk; exact z)
/-- C(..) of an error's class whose __init__ is a def, with and without keywords -/
theorem xv_call (F : ExcBaseFacts B newId initId bmB) (hB : bm.contains (.type B) = true) (hA : bm.contains (.type "AttributeError") = false) (hN : bm.contains (.type "NameError") = false)
    (here : h.get? C = some (excClassObj nm q C N bs bm hdct sn sub ab col dd k0 k1 k2 k3 k5 newId)) (small : us.length ≤ sizeLine)
    (lk : W.Looks (model prog w) h (typeLookup (.ref C) "__init__") (some (.ref fI))) (bd : ∀ self, W.Looks (model prog w) h (bindSpecial (.ref fI) self) (.ref fI, [self])) {R : Result → Shared → Prop}
    (go : codeAny (model prog w) (A.under (.builtin "type.__call__" ⟨.ref C :: us, kw⟩)) (.call (.ref fI) ⟨.ref (h.objs.size + 1) :: us, kw⟩) (W.InitBack (h.objs.size + 1) R)
      ⟨(h.push (W.kdv_tup us)).push (HandSPX.excO C h.objs.size), g, d, t, os⟩) :
    codeAny (model prog w) A (.call (.ref C) ⟨us, kw⟩) R ⟨h, g, d, t, os⟩ := by
  have l1 := tc_lookup
  have l2 := tc_bind (.ref C)
  have isType : (⟨h, g, d, t, os⟩ : Shared).TypeIs (.ref C) "type" := ⟨_, here, rfl⟩
  have chk : ∀ (Z : Around) (W : Value → Shared → Prop) (Q : Unit → Shared → Prop), Q () ⟨h, g, d, t, os⟩ → wpAny (model prog w) Z (checkBuiltinCall "type.__call__" ⟨.ref C :: us, kw⟩) Q W ⟨h, g, d, t, os⟩ := fun Z W Q hq => by
    have l3 := tc_sub
    unfold checkBuiltinCall
    simp only [tc_kind, tc_split]
    repeat (any_goals (first | assumption | with_reducible refine wpAny_loadPart_at here ?_ | with_reducible refine wpAny_onRaise ?_ | with_reducible refine wpAny_map ?_ | wp_step))
  refine codeAny_of_tree ?_
  show wpAny _ _ (callAny (.ref C) _) _ _ _
  repeat (any_goals (first | assumption | with_reducible refine wpAny_loadPart_at here ?_ | wp_step))
  refine ⟨rfl, codeAny_call_builtin_at (Code.quiet_builtin _ (by decide +kernel)) entry_typeCall (chk _ _ _ (xv_tcall F hB hA hN here small lk bd (codeAny_mono go fun r s' z => ?_)))⟩
  cases r with
  | error e => exact z
  | ok fl => cases fl <;> exact z
end
abbrev mroKE : List Value := [.type "KeyError", .type "LookupError", .type "Exception", .type "BaseException", .type "object"]
theorem store_ke : StoreFacts "KeyError" mroKE "object.__setattr__" "object" where
  slot := by
    refine Slot.of (owner := "object") (n := "__setattr__") (by rw [typeLookup_type, builtinLookup_eq_fast]; kernel_rfl) (by first | decide +kernel | kernel_rfl) (by first | decide +kernel | kernel_rfl) (by first | decide +kernel | kernel_rfl) ?_ (by rw [isSubtype_type]; kernel_rfl)
    first | (left; decide +kernel) | (right; decide +kernel)
  entry := F.entry_object_sa
  mro := by first | decide +kernel | kernel_rfl | (intro _; kernel_rfl)
  kind := by first | decide +kernel | kernel_rfl | (intro _; kernel_rfl)
  split := by first | decide +kernel | kernel_rfl | (intro _; kernel_rfl)
  hasOwner := by first | decide +kernel | kernel_rfl | (intro _; kernel_rfl)
  args := fun a b c => by unfold argsOk; kernel_rfl
  passes := by first | decide +kernel | kernel_rfl | (intro _; kernel_rfl)
end PySem.KDE

namespace KD
open PySem PySem.Spec PyProof.Rows L2
/-- the built-in errors that may stand above: by whom the object is made, and the classes passed -/
structure Abv (B newId initId : String) (bm : List Value) : Prop where
  f : ∃ bmB, ExcBaseFacts B newId initId bmB
  hB : bm.contains (.type B) = true
  hA : bm.contains (.type "AttributeError") = false
  hN : bm.contains (.type "NameError") = false
  s : ∃ S, StoreFacts S bm "object.__setattr__" "object"
theorem abv_ve : Abv "ValueError" "ValueError.__new__" "ValueError.__init__" mroVE := ⟨⟨_, PySem.F.excBase_ValueError⟩, by decide +kernel, by decide +kernel, by decide +kernel, _, PySem.F.store_ValueError⟩
theorem abv_ke : Abv "LookupError" "LookupError.__new__" "LookupError.__init__" KDE.mroKE := ⟨⟨_, PySem.F.excBase_LookupError⟩, by decide +kernel, by decide +kernel, by decide +kernel, _, KDE.store_ke⟩
/-- what the written part tells of a held error's class: to be asked for its class and for a field -/
structure HeldC (K : PySem.W.Frag) (D : Addr) : Prop where
  x : XfC K D
  cl : (PySem.W.clsIn K D).isSome = true
  ca : PySem.W.findIn K (.ref D) "__class__" = some (some (.builtin "object.__class__"))
  cn : PySem.W.specialIn K (.builtin "object.__class__") "__get__" = some (some (.builtin "getset_descriptor.__get__"))
  ct : PySem.W.takesIn K (.builtin "object.__class__") = some true
  cm : PySem.W.mroIn K D (.type "object") = some true
/-- C an error's class with an own __init__ at fI, which stores its one argument as f -/
structure ErrV (K : PySem.W.Frag) (C fI : Addr) (f : Str) : Prop where
  ab : ∃ B newId initId bm, Abv B newId initId bm ∧ PySem.W.excInitIn K C bm newId = true ∧ PySem.W.excOver K C bm = true
  tk : PySem.W.takerIn K C f = some none
  sa : PySem.W.findIn K (.ref C) "__setattr__" = some (some (.builtin "object.__setattr__"))
  no : PySem.W.findIn K (.ref C) f = some none
  iC : PySem.W.findIn K (.ref C) "__init__" = some (some (.ref fI))
  tI : PySem.W.typeIn K (.ref fI) = some (.type "function")
  kC : PySem.W.keepIn K (.ref C) = true
  h : HeldC K C
/-! ### self.f = e, the first one -/
theorem un_dict {fs : List Addr} {H : Hp} {h h' : Heap} {a dx : Addr} {o0 o1 o2 : HO} (ha : H a = some o0) (n1 : ∀ xs, o0 ≠ .tup xs) (n2 : ∀ o u, o0 ≠ .frz o u) (n3 : ∀ ps, o0 ≠ .tbl ps) (hd : H dx = none) (hn : h.get? dx = none)
    (k : ∀ b o, b ≠ a → h.get? b = some o → h'.get? b = some o) (there : ∃ o, h'.get? a = some o) : Un fs [] H (upd (upd H dx o1) a o2) h h' := by
  have off : ∀ {b : Addr}, H b = none → b ≠ a := fun z e => by rw [e, ha] at z; cases z
  have offd : ∀ {b : Addr} {o : Obj}, h.get? b = some o → b ≠ dx := fun z e => by rw [e, hn] at z; cases z
  have same : ∀ {b : Addr} {u : HO}, H b = some u → u ≠ o0 → upd (upd H dx o1) a o2 b = some u := fun {b u} z ne => by
    have e1 : b ≠ a := fun e => by rw [e, ha] at z; exact ne (Option.some.inj z).symm
    rw [upd_ne e1, upd_ne (ne_of_none z hd)]
    exact z
  exact { keep := fun b o q n _ _ => k b o (off n) q
          slot := fun b o q n _ _ => ⟨_, k b o (off n) q⟩
          free := fun b o q n _ => by rw [upd_ne (off n), upd_ne (offd q)]; exact n
          there := fun b o q _ => if e : b = a then e ▸ there else ⟨o, k b o e q⟩
          tups := fun b xs q => same q fun e => n1 xs e.symm
          frzs := fun b o u q => same q fun e => n2 o u e.symm
          tbls := fun b ps q => ⟨#[], by simpa using same q fun e => n3 ps e.symm⟩ }
section
variable {X : Cx} {pins : List (Addr × Obj)} {σ : L2.St} {H : Hp} {s : Shared} {a C fI dx : Addr} {f : Str} {y : V} {u : Value}
theorem store_err (T : ErrV X.K C fI f) (I : Inv X pins σ H s) (e : H a = some (exo a C none)) (ry : RelV y u) {Q : Unit → Shared → Prop} {E : Value → Shared → Prop} {A : Around}
    (h : ∀ dx s', H dx = none → dx ≠ a → Inv X pins σ (upd (upd H dx (exd dx [(f, y)])) a (exo a C (some dx))) s' → Q () s') : wpAny (model X.prog X.w) A (setAttr (.ref a) f u) Q E s := by
  obtain ⟨B, newId, initId, bm, ab, _, over⟩ := T.ab
  obtain ⟨S, store⟩ := ab.s
  obtain ⟨cd, hcd, hdd⟩ := PySem.W.any_some T.h.x.hdC
  obtain ⟨t1, ho⟩ := exo_at I.hok e
  obtain ⟨hp, g, d, t, os⟩ := s
  refine PySem.W.set_plain I.kIn (od := none) ⟨ho, rfl, rfl, trivial⟩ T.sa (PySem.W.osa_openX (od := none) store I.kIn ⟨ho, rfl, rfl, trivial⟩ over T.tk fun b => ?_)
  refine wpAny_bind (wpAny_pure (wpAny_bind (PySem.W.instanceDict_exc ho (PySem.W.looks_clsIn I.kIn hcd) hdd ?_)))
  have lt : a < hp.objs.size := Heap.lt_size ho
  have ho1 : (hp.push (PySem.W.dictOf [] 0)).get? a = some _ := Heap.get?_push_of_some _ ho
  have fresh : H hp.objs.size = none := I.hok.fresh (Nat.le_refl _)
  refine PySem.HandSPX.store_in_new ⟨_, #[], _, (Heap.get?_update_ne _ _ _ _ (Nat.ne_of_gt lt)).trans (Heap.get?_push_at rfl rfl), rfl, fun z hz => absurd hz (by simp), fun _ => rfl⟩ fun h' tk' held others => ?_
  have k : ∀ b o, b ≠ a → hp.get? b = some o → h'.get? b = some o := fun b o hb q =>
    (others.2 b (Nat.ne_of_lt (Heap.lt_size q))).trans ((Heap.get?_update_ne _ _ _ _ hb).trans (Heap.get?_push_of_some _ q))
  have at_a : h'.get? a = some { cls := .ref C, dict := some hp.objs.size, data := .fields #[.ref t1, .none, .none, .none, .bool false, .none] } := (others.2 a (Nat.ne_of_lt lt)).trans (Heap.get?_update_self _ ho1 rfl)
  have no : hp.get? hp.objs.size = none := by
    cases q : hp.get? hp.objs.size with
    | none => rfl
    | some o => exact absurd (Heap.lt_size q) (Nat.lt_irrefl _)
  refine h hp.objs.size _ fresh (Nat.ne_of_gt lt) (I.un (t' := tk') (un_dict e (fun xs => exo_tup) (fun o u => exo_frz) (fun ps => exo_tbl) fresh no k ⟨_, at_a⟩) fun b o q => ?_)
  by_cases hb : b = a
  · subst hb
    rw [upd_same] at q
    cases q
    exact exo_ok at_a
  · rw [upd_ne hb] at q
    by_cases hd : b = hp.objs.size
    · subst hd
      rw [upd_same] at q
      cases q
      exact exd_ok held (relO_put (fs := []) ry fun g => True.intro)
    · rw [upd_ne hd] at q
      refine (I.hok b o q).stay (fun c v hc z => k c v (fun z2 => ?_) z) (fun c hc => ?_) fun c xs hc => ?_
      · subst z2
        rcases hc with hc | hc
        · exact hb hc.symm
        · exact at_ne e hc exo_own rfl
      · rw [upd_ne (at_ne e hc exo_own), upd_ne (ne_of_none hc fresh)]; exact hc
      · rw [upd_ne (at_ne e hc exo_tup), upd_ne (ne_of_none hc fresh)]; exact hc
end
/-- self.f = e within __init__ -/
def tStE (C : Addr) (f : Str) (to te : TE) : TS := fun D σ H => te σ H fun y H1 => to σ H1 fun x H2 => ∃ a, x = .ref a ∧ H2 a = some (exo a C none) ∧ ∀ dx, H2 dx = none → dx ≠ a → D.nx σ (upd (upd H2 dx (exd dx [(f, y)])) a (exo a C (some dx)))
def spErrV (C : Addr) (f : Str) : Sp := fun vs H Q _ => ∃ (a : Addr) (y : V), vs = [.ref a, y] ∧ H a = some (exo a C none) ∧ ∀ dx, H dx = none → dx ≠ a → Q .non (upd (upd H dx (exd dx [(f, y)])) a (exo a C (some dx)))
/-- C(e) as a value -/
def tErrV (C : Addr) (f : Str) (ta : TA) : TE := fun σ H Q => ta σ H fun vs H1 => ∃ y, vs = [y] ∧ ∀ a dx, H1 a = none → H1 dx = none → dx ≠ a → Q (.ref a) (upd (upd H1 dx (exd dx [(f, y)])) a (exo a C (some dx)))
section
variable {X : Cx} {C fI : Addr} {f : Str} {o e : Expr} {to te : TE} {p p' pos : Pos}
theorem ps_stE (T : ErrV X.K C fI f) (ho : PE X o to) (he : PE X e te) (hs : swapsWith e (some (.Attribute o f p')) pos.line X.env = pure false := by rfl) : PS X (.Assign [.Attribute o f p'] e pos) (tStE C f to te) := by
  constructor
  intro pins s σ H D I h
  refine plainObj_wpAny_Assign_Attribute (thn (he.run pins s σ H _ I h) ?_) hs
  rintro v s1 ⟨y, H1, I1, r1, q1⟩
  refine thn (ho.run pins s1 σ H1 _ I1 q1) ?_
  rintro u s2 ⟨x, H2, I2, r2, a, rfl, ea, q⟩
  obtain rfl : u = Value.ref a := r2
  exact store_err T I2 ea r1 fun dx s' n ne J => ⟨σ, _, J, q dx n ne⟩
variable {CX : CXT} {x : Str} {k : Nat} {fd : FuncData} {ps : List Str}
theorem run_errV (T : ErrV X.K C fI f) (F1 : FnOk X.prog X.w X.K X.mg X.base CX k fI fd ps (spErrV C f)) (hr : Room (k + 1) X.A) (hx : Passes CX X (fun _ _ _ => False)) {pins : List (Addr × Obj)} {σ : L2.St} {H : Hp} {s : Shared} {Q : VK} {y : V} {u : Value} {us : List Value} {kw : List (Str × Value)}
    (small : us.length ≤ sizeLine) (hb : ∀ (s : Shared) (self : Value), X.K.In s.heap → BindsTo s fd ⟨self :: us, kw⟩ (ps.zip [self, u])) (I : Inv X pins σ H s) (ry : RelV y u)
    (q : ∀ a dx, H a = none → H dx = none → dx ≠ a → Q (.ref a) (upd (upd H dx (exd dx [(f, y)])) a (exo a C (some dx)))) : wpAny (model X.prog X.w) X.A (call (.ref C) us kw) (EP X pins σ Q) X.xe s := by
  obtain ⟨B, newId, initId, bm, ab, ini, _⟩ := T.ab
  obtain ⟨bmB, base⟩ := ab.f
  obtain ⟨nm, N, qn, bs, bm', hdct, sn, sub, abs, col, dd, k0, k1, k2, k3, k5, here, cont⟩ := PySem.W.excInit_of I.kIn ini
  obtain ⟨hp, g, dr, tk, os⟩ := s
  have sz : hp.objs.size ≤ hp.objs.size + 1 := Nat.le_succ _
  have hn : H (hp.objs.size + 1) = none := I.hok.fresh sz
  have keep : ∀ b o, hp.get? b = some o → ((hp.push (PySem.W.kdv_tup us)).push (PySem.HandSPX.excO C hp.objs.size)).get? b = some o := fun _ _ e => Heap.get?_push_of_some _ (Heap.get?_push_of_some _ e)
  have there : ((hp.push (PySem.W.kdv_tup us)).push (PySem.HandSPX.excO C hp.objs.size)).get? (hp.objs.size + 1) = some (PySem.HandSPX.excO C hp.objs.size) := by heap_get
  have J : Inv X pins σ (upd H (hp.objs.size + 1) (exo (hp.objs.size + 1) C none)) ⟨(hp.push (PySem.W.kdv_tup us)).push (PySem.HandSPX.excO C hp.objs.size), g, dr, tk, os⟩ := I.laid (t' := tk) keep sz (exo_ok there)
  have rel : Vals [V.ref (hp.objs.size + 1), y] [Value.ref (hp.objs.size + 1), u] := .cons rfl (.cons ry .nil)
  have promise : spErrV C f [V.ref (hp.objs.size + 1), y] (upd H (hp.objs.size + 1) (exo (hp.objs.size + 1) C none)) (fun v H2 => v = .non ∧ Q (.ref (hp.objs.size + 1)) H2) (fun _ _ _ => False) := by
    refine ⟨_, _, rfl, upd_same, fun dx h1 h2 => ⟨rfl, ?_⟩⟩
    rw [upd_ne h2] at h1
    have z := q _ dx hn h1 h2
    have e : upd (upd (upd H (hp.objs.size + 1) (exo (hp.objs.size + 1) C none)) dx (exd dx [(f, y)])) (hp.objs.size + 1) (exo (hp.objs.size + 1) C (some dx)) = upd (upd H dx (exd dx [(f, y)])) (hp.objs.size + 1) (exo (hp.objs.size + 1) C (some dx)) := by
      funext b
      by_cases z1 : b = hp.objs.size + 1
      · rw [z1, upd_same, upd_same]
      · rw [upd_ne z1, upd_ne z1]
        by_cases z2 : b = dx
        · rw [z2, upd_same, upd_same]
        · rw [upd_ne z2, upd_ne z2, upd_ne z1]
    rw [e]
    exact z
  refine wpAny_call (KDE.xv_call base ((cont _).trans ab.hB) ((cont _).trans ab.hA) ((cont _).trans ab.hN) here small (PySem.W.looks_findIn I.kIn T.iC) (fun self => PySem.W.bind_fn I.kIn self T.tI)
    (codeAny_mono (F1.run _ X.stack _ _ ⟨Value.ref (hp.objs.size + 1) :: us, kw⟩ _ _ _ (fun _ _ _ => False) (hr.make C us kw) (J.env0.make C us kw) (hb _ _ J.kIn) rel promise) fun r s' z => ?_))
  cases r with
  | error er => exact hx pins σ _ _ er s' J z
  | ok fl =>
    cases fl with
    | next => exact z.elim
    | brk => exact z.elim
    | cont => exact z.elim
    | ret w =>
      obtain ⟨v, H2, J2, rv, ev, q2⟩ := J.after z
      subst ev
      exact ⟨rv, .ref (hp.objs.size + 1), H2, J2, rfl, q2⟩
theorem pe_errV {ta : TA} (T : ErrV X.K C fI f) (F1 : FnOk X.prog X.w X.K X.mg X.base CX k fI fd ["self", f] (spErrV C f)) (hr : Room (k + 1) X.A) (hx : Passes CX X (fun _ _ _ => False)) (hb : Binds X.K fd ["self", f] []) (hg : Gl X x) (hm : X.mg x = some (.ref C)) (ha : PA X [e] ta)
    (hdb : (x == ("__debug__" : Str)) = false := by decide) (he : starEach [e] X.env = (false, eval e X.env) :: starEach [] X.env := by rfl) (hpl : (backTo pos (starEach [] X.env)).any (·.1) = false := by rfl) :
    PE X (.Call (.Name x p) [e] [] pos) (tErrV C f ta) := by
  constructor
  intro pins s σ H Q I h
  refine wpAny_Call_Name_kw (ld_glob I hg hm ?_ hdb)
  refine PySem.W.callWith_K (h₀ := X.base) I.ok.mod.kin T.kC (thn (ha.run pos pins s σ H _ I h) ?_) he hpl
  rintro us s1 ⟨vs, H1, I1, r1, y, rfl, q1⟩
  obtain ⟨u, rfl, ry⟩ := vals1 r1
  refine ⟨I1.kIn, ?_⟩
  exact run_errV (us := [u]) (kw := []) T F1 hr hx (show 1 ≤ sizeLine by decide) (fun s self kin => by simpa using hb s [self, u] kin rfl) I1 ry q1
theorem pe_errVK {tk : TA} {kws : List Keyword} (T : ErrV X.K C fI f) (F1 : FnOk X.prog X.w X.K X.mg X.base CX k fI fd ["self", f] (spErrV C f)) (hr : Room (k + 1) X.A) (hx : Passes CX X (fun _ _ _ => False))
    (hb : ∀ (s : Shared) (self u : Value), BindsTo s fd ⟨[self], [(f, u)]⟩ [("self", self), (f, u)]) (hg : Gl X x) (hm : X.mg x = some (.ref C)) (hkw : PK X kws tk)
    (hall : (backToKw pos (keywordEach kws X.env)).all (·.1.isSome) = true := by rfl) (hks : (backToKw pos (keywordEach kws X.env)).filterMap (·.1) = [f] := by rfl) (hdb : (x == ("__debug__" : Str)) = false := by decide)
    (hpl : ((backTo pos (starEach [] X.env)).any (·.1) || (backToKw pos (keywordEach kws X.env)).any (·.1.isNone)) = false := by rfl) :
    PE X (.Call (.Name x p) [] kws pos) (tErrV C f tk) := by
  constructor
  intro pins s σ H Q I h
  refine wpAny_Call_Name_kw (ld_glob I hg hm ?_ hdb)
  refine PySem.W.callWith_KW0 (h₀ := X.base) I.ok.mod.kin T.kC hall (thn (hkw.run pos pins s σ H _ I h) ?_) hpl
  rintro ws s1 ⟨vs, H1, I1, r1, y, rfl, q1⟩
  obtain ⟨u, rfl, ry⟩ := vals1 r1
  refine ⟨I1.kIn, ?_⟩
  rw [hks]
  exact run_errV (us := []) (kw := [(f, u)]) T F1 hr hx (Nat.zero_le _) (fun s self kin => hb s self u) I1 ry q1
/-- C() as a value, C without an __init__ of its own -/
def tErr0 (C : Addr) : TE := fun σ H Q => ∀ a, H a = none → Q (.ref a) (upd H a (ExO (.ref C) a))
theorem pe_err0 (T : ErrB X.K C) (gC : X.mg x = some (.ref C)) (hg : Gl X x) (hdb : (x == ("__debug__" : Str)) = false := by decide) : PE X (.Call (.Name x p) [] [] pos) (tErr0 C) := by
  constructor
  intro pins s σ H Q I h
  refine wpAny_Call_Name_kw (ld_glob I hg gC ?_ hdb)
  refine PySem.W.callWith_K0 I.kIn T.k ?_
  show wpAny _ _ (call (.ref C) []) _ _ _
  obtain ⟨bm, N, nm, qn, bs, hdct, sn, sub, ab, col, dd, k0, k1, k2, k3, k5, mN, hC, hN, hni, more⟩ := exc_obj I.kIn T.q
  refine wpAny_call_exc_subT PySem.F.excBase_ValueError more hC hN hni (fun h' a made => ?_) (Nat.zero_le _)
  have gone := I.hok.gone made.new
  obtain ⟨t, ht, _, _⟩ := made.there
  have laid := I.laidN (t' := s.toks) made.keeps made.new gone (exO_ok (H := upd H a (ExO (.ref C) a)) (P := X.prog) (w := X.w) ht ⟨rfl, rfl⟩ rfl rfl rfl (show 4 < 6 by decide))
  exact ⟨.ref a, _, laid, rfl, h a gone⟩
end
/-! ### asked for its class, asked for its field -/
section
variable {X : Cx} {pins : List (Addr × Obj)} {σ : L2.St} {H : Hp} {s : Shared} {a D dx : Addr} {fs : List (Str × V)}
theorem inst_held (I : Inv X pins σ H s) (ha : H a = some (exo a D (some dx))) (hd : H dx = some (exd dx fs)) :
    ∃ oe od mA, PySem.W.InstAt s.heap a oe D (some od) ∧ s.heap.Ns1 dx mA ∧ (∀ f, RelO (fs.lookup f) (mA f)) ∧ s.heap.get? dx = some od := by
  obtain ⟨t1, at_a⟩ := exo_at I.hok ha
  obtain ⟨mA, names, rel⟩ := exd_at I.hok hd
  obtain ⟨od, at_d, _⟩ := lookIn_ns names
  exact ⟨_, od, mA, ⟨at_a, rfl, rfl, at_d⟩, names, rel, at_d⟩
theorem inst_bare (I : Inv X pins σ H s) (ha : H a = some (ExO (.ref D) a)) : ∃ oe, PySem.W.InstAt s.heap a oe D none := by
  obtain ⟨⟨⟨oc, od, dat, sl⟩, vs, got, hz, hv, _⟩, _⟩ := (show ObjOk X.prog X.w H s.heap a (ExO (.ref D) a) from I.hok a _ ha)
  obtain ⟨z1, z2⟩ := hz
  dsimp only at z1 z2 hv
  subst z1 z2 hv
  exact ⟨_, got, rfl, rfl, trivial⟩
/-- what stands for an error: made with a field, or bare -/
def ErrAt (K : PySem.W.Frag) (G : Hp) (v : V) (D : Addr) (b : Option (Str × PyData)) : Prop := ∃ a, v = .ref a ∧ HeldC K D ∧
  match b with
  | none => G a = some (ExO (.ref D) a)
  | some (f, d) => PySem.W.findIn K (.ref D) f = some none ∧ ∃ dx y, G a = some (exo a D (some dx)) ∧ G dx = some (exd dx [(f, y)]) ∧ Da K G y d
theorem ErrAt.mono {K : PySem.W.Frag} {G G' : Hp} {v : V} {b : Option (Str × PyData)} (e : Ex G G') (h : ErrAt K G v D b) : ErrAt K G' v D b := by
  obtain ⟨a, rfl, hc, h⟩ := h
  refine ⟨a, rfl, hc, ?_⟩
  match b, h with
  | none, h => exact e _ _ h
  | some (f, d), ⟨no, dx, y, h1, h2, h3⟩ => exact ⟨no, dx, y, e _ _ h1, e _ _ h2, h3.mono e⟩
/-- isinstance(e, c), e a held error -/
def rIsV (K : PySem.W.Frag) : List V → Hp → VK → Prop := fun xs H Q => ∃ (v c : V) (D : Addr) (b : Option (Str × PyData)) (cv : Value) (r : Bool), xs = [v, c] ∧ OneV c cv ∧ PySem.W.kitOne K (.ref D) cv = some r ∧ ErrAt K H v D b ∧ Q (.bl r) H
theorem call_isV : CallR X (.builtin "isinstance") (rIsV X.K) := by
  rintro pins s σ H xs us Q I rel ⟨v, c, D, b, cv, r, rfl, one, kit, held, q⟩
  obtain ⟨u1, u2, rfl, r1, r2⟩ := vals2 rel
  obtain rfl := one _ r2
  obtain ⟨a, rfl, T, held⟩ := held
  obtain rfl : u1 = Value.ref a := r1
  have answer : ∀ tk, EP _ pins σ Q (.bool r) { s with toks := tk } := fun tk => ⟨.bl r, H, I.tok tk, rfl, q⟩
  match b, held with
  | none, h =>
    obtain ⟨oe, J⟩ := inst_bare I h
    exact PySem.W.kia_one (PySem.W.handS_kitx_exc T.x.ga T.x.gg T.x.exC T.x.hdC T.ca T.cn T.ct T.cm) I.kIn J kit (fun z => nomatch z) answer
  | some (f, d), ⟨_, dx, y, h1, h2, _⟩ =>
    obtain ⟨oe, od, _, J, _⟩ := inst_held I h1 h2
    exact PySem.W.kia_one (PySem.W.kitx_exc T.cl T.x.ga T.x.gg T.x.exC T.ca T.cn T.ct T.cm) I.kIn J kit (fun z => nomatch z) answer
/-- e.f, e a held error -/
def tFldV (K : PySem.W.Frag) (f : Str) (te : TE) : TE := fun σ H Q => te σ H fun x H1 => ∃ (a D dx : Addr) (y : V), x = .ref a ∧ H1 a = some (exo a D (some dx)) ∧ H1 dx = some (exd dx [(f, y)]) ∧ XfC K D ∧ PySem.W.findIn K (.ref D) f = some none ∧ Q y H1
theorem pe_fldV {e : Expr} {te : TE} {f : Str} {pos : Pos} (he : PE X e te) (hb : attributeBase e f X.env (eval e X.env) = eval e X.env := by rfl) : PE X (.Attribute e f pos) (tFldV X.K f te) := by
  constructor
  intro pins s σ H Q I h
  refine attr_of hb (thn (he.run pins s σ H _ I h) ?_)
  rintro u s1 ⟨x, H1, I1, rx, a, D, dx, y, rfl, ha, hd, T, no, q⟩
  obtain rfl : u = Value.ref a := rx
  obtain ⟨oe, od, mA, J, names, rel, at_d⟩ := inst_held I1 ha hd
  obtain ⟨od', at_d', l⟩ := lookIn_ns names
  cases at_d.symm.trans at_d'
  obtain ⟨w, hw, rw⟩ := RelO.some_of (v := y) (o := mA f) (by have z := rel f; rwa [lookup_put, if_pos rfl] at z)
  exact HandSPX.exc_get I1.kIn J T.ga T.gg T.exC (PySem.W.findObj_own T.hdC no rfl (by rw [l, hw])) (handed_of rw) ⟨y, H1, I1.tok _, rw, q⟩
end
end KD
set_option Elab.async false
set_option linter.all false
set_option maxRecDepth 100000
set_option maxHeartbeats 1000000
/-! D53: values of any sort (held errors among them) in lists, pairs and names. -/
namespace KD
open PySem PySem.Spec PyProof.Rows L2
/-- a sort of values: which value of the frozen heap stands for which thing -/
abbrev Kin (α : Type) := Hp → V → α → Prop
def Kin.Mo {α : Type} (S : Kin α) : Prop := ∀ (G G' : Hp) (v : V) (a : α), Ex G G' → S G v a → S G' v a
abbrev DaS (K : PySem.W.Frag) : Kin PyData := fun G v d => Da K G v d
abbrev NumS : Kin Nat := fun _ v n => v = .int (n : Nat)
abbrev ErS (K : PySem.W.Frag) : Kin (Addr × Option (Str × PyData)) := fun G v e => ErrAt K G v e.1 e.2
theorem mo_da {K : PySem.W.Frag} : Kin.Mo (DaS K) := fun _ _ _ _ e h => h.mono e
theorem mo_num : Kin.Mo NumS := fun _ _ _ _ _ h => h
theorem mo_er {K : PySem.W.Frag} : Kin.Mo (ErS K) := fun _ _ _ _ e h => ErrAt.mono e h
section
variable {α β γ : Type}
inductive AllS (S : Kin α) (G : Hp) : List V → List α → Prop
  | nil : AllS S G [] []
  | cons {v : V} {vs : List V} {a : α} {as : List α} : S G v a → AllS S G vs as → AllS S G (v :: vs) (a :: as)
variable {S : Kin α} {T : Kin β} {U : Kin γ} {K : PySem.W.Frag} {G G' : Hp}
theorem AllS.mono (m : Kin.Mo S) (e : Ex G G') : ∀ {vs : List V} {as : List α}, AllS S G vs as → AllS S G' vs as
  | _, _, .nil => .nil
  | _, _, .cons h t => .cons (m _ _ _ _ e h) (t.mono m e)
theorem AllS.length : ∀ {vs : List V} {as : List α}, AllS S G vs as → vs.length = as.length
  | _, _, .nil => rfl
  | _, _, .cons _ t => by rw [List.length_cons, List.length_cons, t.length]
theorem AllS.at : ∀ {vs : List V} {as : List α} {i : Nat} {a : α}, AllS S G vs as → as[i]? = some a → ∃ v, vs[i]? = some v ∧ S G v a
  | _, _, _, _, .nil, e => by simp at e
  | _, _, 0, _, .cons h _, e => by cases e; exact ⟨_, rfl, h⟩
  | _, _, i + 1, _, .cons _ t, e => t.at (i := i) (by simpa using e)
theorem AllS.app : ∀ {vs ws : List V} {as bs : List α}, AllS S G vs as → AllS S G ws bs → AllS S G (vs ++ ws) (as ++ bs)
  | _, _, _, _, .nil, h => h
  | _, _, _, _, .cons h t, h' => .cons h (t.app h')
theorem AllS.dropS : ∀ {vs : List V} {as : List α} (n : Nat), AllS S G vs as → AllS S G (vs.drop n) (as.drop n)
  | _, _, 0, h => h
  | _, _, _ + 1, .nil => .nil
  | _, _, n + 1, .cons _ t => t.dropS n
theorem AllS.takeS : ∀ {vs : List V} {as : List α} (n : Nat), AllS S G vs as → AllS S G (vs.take n) (as.take n)
  | _, _, 0, _ => .nil
  | _, _, _ + 1, .nil => .nil
  | _, _, n + 1, .cons h t => .cons h (t.takeS n)
def LsS (S : Kin α) : Kin (List α) := fun G v as => ∃ l vs, v = .ref l ∧ G l = some (.lst vs) ∧ AllS S G vs as
def PrS (S : Kin α) (T : Kin β) : Kin (α × β) := fun G v p => ∃ l x y, v = .ref l ∧ G l = some (.tup [x, y]) ∧ S G x p.1 ∧ T G y p.2
theorem mo_ls (m : Kin.Mo S) : Kin.Mo (LsS S) := fun _ _ _ _ e ⟨l, vs, h1, h2, h3⟩ => ⟨l, vs, h1, e _ _ h2, h3.mono m e⟩
theorem mo_pr (m : Kin.Mo S) (n : Kin.Mo T) : Kin.Mo (PrS S T) := fun _ _ _ _ e ⟨l, x, y, h1, h2, h3, h4⟩ => ⟨l, x, y, h1, e _ _ h2, m _ _ _ _ e h3, n _ _ _ _ e h4⟩
/-! ### evaluation -/
def EvS (S : Kin α) (σ : L2.St) (F : Hp) (te : TE) (a : α) : Prop := ∀ G H, Ex F G → Ex G H → ∀ Q : VK, (∀ v G' H', Up G H G' H' → S G' v a → Q v H') → te σ H Q
def EvAS (S : Kin α) (σ : L2.St) (F : Hp) (ta : TA) (as : List α) : Prop := ∀ G H, Ex F G → Ex G H → ∀ Q : List V → Hp → Prop, (∀ vs G' H', Up G H G' H' → AllS S G' vs as → Q vs H') → ta σ H Q
variable {σ : L2.St} {F : Hp} {ta tb te : TE} {as bs : List α} {a : α} {b : β} {tas : TA}
theorem hv_da {d : PyData} (h : EvE K σ F te d) : EvS (DaS K) σ F te d := h
theorem e_ofS {d : PyData} (h : EvS (DaS K) σ F te d) : EvE K σ F te d := h
theorem EvS.is {a' : α} (h : EvS S σ F te a) (e : a = a') : EvS S σ F te a' := e ▸ h
theorem hv_var {i : Nat} {v : V} (m : Kin.Mo S) (h : σ[i]? = some (some v)) (hv : S F v a) : EvS S σ F (tVar i) a := fun G H e1 e2 Q q => ⟨v, h, q v G H (Up.rf e2) (m _ _ _ _ e1 hv)⟩
theorem hv_nil : EvAS S σ F tNil [] := fun G H _ e2 Q q => q [] G H (Up.rf e2) .nil
theorem hv_cons (m : Kin.Mo S) (h : EvS S σ F te a) (hr : EvAS S σ F tas as) : EvAS S σ F (tCons te tas) (a :: as) := fun G H e1 e2 Q q =>
  h G H e1 e2 _ fun v G1 H1 u1 hv => hr G1 H1 (e1.tr u1.g) u1.h _ fun vs G2 H2 u2 hvs => q (v :: vs) G2 H2 (u1.tr u2) (.cons (m _ _ _ _ u2.g hv) hvs)
theorem hv_lst (m : Kin.Mo S) (h : EvAS S σ F tas as) (hl : as.length ≤ 100000) : EvS (LsS S) σ F (tLst tas) as := fun G H e1 e2 Q q =>
  h G H e1 e2 _ fun vs G1 H1 u1 hv => ⟨by rw [hv.length]; exact Nat.le_trans hl (by decide), fun p hp => q _ _ _ (u1.tr (Up.new u1.h hp _)) ⟨p, vs, rfl, upd_same, hv.mono m (Ex.up (u1.h.fresh hp))⟩⟩
theorem hv_pair (m : Kin.Mo S) (n : Kin.Mo T) (ha : EvS S σ F ta a) (hb : EvS T σ F tb b) : EvS (PrS S T) σ F (tTup (tCons ta (tCons tb tNil))) (a, b) := fun G H e1 e2 Q q =>
  ha G H e1 e2 _ fun v G1 H1 u1 hv => hb G1 H1 (e1.tr u1.g) u1.h _ fun w G2 H2 u2 hw => ⟨show 2 ≤ sizeLine by decide, fun p hp =>
    q _ _ _ ((u1.tr u2).tr (Up.new u2.h hp _)) ⟨p, v, w, rfl, upd_same, m _ _ _ _ (u2.g.tr (Ex.up (u2.h.fresh hp))) hv, n _ _ _ _ (Ex.up (u2.h.fresh hp)) hw⟩⟩
theorem hv_cat (m : Kin.Mo S) (ha : EvS (LsS S) σ F ta as) (hb : EvS (LsS S) σ F tb bs) (hl : as.length + bs.length ≤ 100000) : EvS (LsS S) σ F (tOp rCat ta tb) (as ++ bs) := fun G H e1 e2 Q q =>
  ha G H e1 e2 _ fun v G1 H1 u1 hv => hb G1 H1 (e1.tr u1.g) u1.h _ fun w G2 H2 u2 hw => by
    obtain ⟨l, xs, rfl, hl1, a1⟩ := hv
    obtain ⟨l', ys, rfl, hl2, a2⟩ := hw
    refine ⟨_, _, _, _, rfl, rfl, u2.h _ _ (u2.g _ _ hl1), u2.h _ _ hl2, by rw [a1.length, a2.length]; exact Nat.le_trans hl (by decide), fun p hp => ?_⟩
    have up := Ex.up (u2.h.fresh hp) (o := HO.lst (xs ++ ys))
    exact q _ _ _ ((u1.tr u2).tr (Up.new u2.h hp _)) ⟨p, _, rfl, upd_same, (a1.mono m (u2.g.tr up)).app (a2.mono m up)⟩
def cutS' (as : List α) (lo hi : Option Int) : List α := (as.drop (HT.sIx as.length 0 lo)).take (HT.sIx as.length as.length hi - HT.sIx as.length 0 lo)
theorem hv_slL {tl th : TO} {lo hi : Option Int} (m : Kin.Mo S) (h : EvS (LsS S) σ F te as) (h1 : EvO σ F tl lo) (h2 : EvO σ F th hi) : EvS (LsS S) σ F (tSl (rSlL K) te tl th) (cutS' as lo hi) := fun G H e1 e2 Q q =>
  h G H e1 e2 _ fun v G1 H1 u1 hv => h1 G1 H1 (e1.tr u1.g) u1.h _ fun G2 H2 u2 => h2 G2 H2 ((e1.tr u1.g).tr u2.g) u2.h _ fun G3 H3 u3 => by
    obtain ⟨l, xs, rfl, hl, a1⟩ := hv
    refine ⟨_, _, rfl, SqL.of (u3.h _ _ (u3.g _ _ (u2.g _ _ hl))), fun p hp => ?_⟩
    have up := Ex.up (u3.h.fresh hp) (o := HO.lst (cutV xs lo hi))
    refine q _ _ _ (((u1.tr u2).tr u3).tr (Up.new u3.h hp _)) ⟨p, _, rfl, upd_same, AllS.mono m ((u2.g.tr u3.g).tr up) ?_⟩
    unfold cutV cutS'
    rw [a1.length]
    exact (a1.dropS _).takeS _
theorem e_lenS (h : EvS (LsS S) σ F te as) : EvE K σ F (tCB (fun ws H Q => ∃ p ys, ws = [.ref p] ∧ (SqL K H p ys ∨ SqT K H p ys) ∧ Q (.int ys.length) H) (tCons te tNil)) (.int (as.length : Nat)) := fun G H e1 e2 Q q =>
  h G H e1 e2 _ fun v G1 H1 u1 hv => by
    obtain ⟨l, xs, rfl, hl, a1⟩ := hv
    exact ⟨_, _, rfl, .inl (SqL.of (u1.h _ _ hl)), by rw [a1.length]; exact q _ G1 H1 u1 (.int _)⟩
/-! ### statements -/
def RetS (S : Kin α) (σ : L2.St) (F : Hp) (t : TS) (a : α) : Prop := ∀ G H, Ex F G → Ex G H → ∀ D : Ends, (∀ v G' H', Up G H G' H' → S G' v a → D.rt v H') → t D σ H
variable {u : TS} {i j l : Nat}
theorem hv_ret (h : EvS S σ F te a) : RetS S σ F (tRet te) a := fun G H e1 e2 D q => h G H e1 e2 _ q
theorem hv_set (S : Kin α) (h : EvS S σ F te a) (hu : ∀ v F', Ex F F' → S F' v a → RetS T (σ.set i (some v)) F' u b) : RetS T σ F (tSeq (tAsg te (gName i)) u) b :=
  fun G H e1 e2 D q => h G H e1 e2 _ fun v G1 H1 u1 hv => hu v G1 (e1.tr u1.g) hv G1 H1 (Ex.rf _) u1.h _ fun w G2 H2 u2 d2 => q w G2 H2 (u1.tr u2) d2
theorem hv_par {c : γ} (m : Kin.Mo S) (ha : EvS S σ F ta a) (hb : EvS T σ F tb b) (hu : ∀ v w F', Ex F F' → S F' v a → T F' w b → RetS U ((σ.set i (some v)).set j (some w)) F' u c) : RetS U σ F (tSeq (tPar i j (tCons ta (tCons tb tNil))) u) c :=
  fun G H e1 e2 D q => ha G H e1 e2 _ fun v G1 H1 u1 hv => hb G1 H1 (e1.tr u1.g) u1.h _ fun w G2 H2 u2 hw =>
    ⟨_, _, rfl, hu v w G2 ((e1.tr u1.g).tr u2.g) (m _ _ _ _ u2.g hv) hw G2 H2 (Ex.rf _) u2.h _ fun x G3 H3 u3 d3 => q x G3 H3 ((u1.tr u2).tr u3) d3⟩
/-! ### what is walked -/
def WkS (S : Kin α) (J : It) (G : Hp) (as : List α) : Prop := ∀ (i : Nat) (G1 H1 : Hp), Ex G G1 → Ex G1 H1 →
  (∀ d, as[i]? = some d → J.go i H1 ∧ ∀ x H', J.yld i H1 x H' → ∃ G', Up G1 H1 G' H' ∧ S G' x d) ∧ (i = as.length → J.stop i H1)
def EvIS (S : Kin α) (σ : L2.St) (F : Hp) (wi : TI) (as : List α) : Prop := ∀ G H, Ex F G → Ex G H → ∀ R : It → Hp → Prop, (∀ J G' H', Up G H G' H' → WkS S J G' as → R J H') → wi σ H R
theorem i_enumS (m : Kin.Mo S) (h : EvS (LsS S) σ F te as) : EvIS (PrS NumS S) σ F (iEnum K (tCons te tNil)) (as.zipIdx.map fun p => (p.2, p.1)) := fun G H e1 e2 R q => h G H e1 e2 _ fun v G1 H1 u1 hv => by
  obtain ⟨l, xs, rfl, hl, a1⟩ := hv
  refine ⟨l, xs, rfl, SqL.of (u1.h _ _ hl), q _ G1 H1 u1 fun i G2 H2 e3 e4 => ⟨fun d hd => ?_, fun hi => ?_⟩⟩
  · rw [List.getElem?_map, List.getElem?_zipIdx] at hd
    obtain ⟨c, hc, rfl⟩ := Option.map_eq_some_iff.mp hd
    obtain ⟨x0, h0, rfl⟩ := Option.map_eq_some_iff.mp hc
    obtain ⟨x, hx, dx⟩ := a1.at h0
    have hs : SqL K H2 l xs := SqL.of (e4 _ _ (e3 _ _ hl))
    refine ⟨⟨xs, x, hs, hx⟩, ?_⟩
    rintro y H' ⟨t, x', rfl, nT, rfl, hy⟩
    cases hx.symm.trans (hy xs hs)
    exact ⟨_, Up.new e4 nT _, t, _, _, rfl, upd_same, by simp, m _ _ _ _ (e3.tr (Ex.up (e4.fresh nT))) dx⟩
  · exact ⟨xs, SqL.of (e4 _ _ (e3 _ _ hl)), by rw [a1.length]; rw [hi]; simp⟩
theorem i_zipS {bs : List β} (m : Kin.Mo S) (n : Kin.Mo T) (ha : EvS (LsS S) σ F ta as) (hb : EvS (LsS T) σ F tb bs) : EvIS (PrS S T) σ F (iZip K (tCons ta (tCons tb tNil))) (as.zip bs) := fun G H e1 e2 R q =>
  ha G H e1 e2 _ fun v G0 H0 u0 hv => hb G0 H0 (e1.tr u0.g) u0.h _ fun w G1 H1 u1 hw => by
  obtain ⟨l, xs, rfl, hl, a1⟩ := hv
  obtain ⟨k, ys, rfl, hk, a2⟩ := hw
  refine ⟨l, k, xs, ys, rfl, SqL.of (u1.h _ _ (u1.g _ _ hl)), SqL.of (u1.h _ _ hk), q _ G1 H1 (u0.tr u1) fun i G2 H2 e3 e4 => ⟨fun d hd => ?_, fun hi => ?_⟩⟩
  · obtain ⟨h1, h2⟩ := List.getElem?_zip_eq_some.mp hd
    obtain ⟨x, hx, dx⟩ := a1.at h1
    obtain ⟨y, hy, dy⟩ := a2.at h2
    have hs : SqL K H2 l xs := SqL.of (e4 _ _ (e3 _ _ (u1.g _ _ hl)))
    have ht : SqL K H2 k ys := SqL.of (e4 _ _ (e3 _ _ hk))
    refine ⟨⟨xs, ys, x, y, hs, ht, hx, hy⟩, ?_⟩
    rintro z H' ⟨t, x', y', rfl, nT, rfl, hx', hy'⟩
    cases hx.symm.trans (hx' xs hs)
    cases hy.symm.trans (hy' ys ht)
    exact ⟨_, Up.new e4 nT _, t, _, _, rfl, upd_same, m _ _ _ _ ((u1.g.tr e3).tr (Ex.up (e4.fresh nT))) dx, n _ _ _ _ (e3.tr (Ex.up (e4.fresh nT))) dy⟩
  · refine ⟨xs, ys, SqL.of (e4 _ _ (e3 _ _ (u1.g _ _ hl))), SqL.of (e4 _ _ (e3 _ _ hk)), ?_⟩
    rw [a1.length, a2.length]
    rw [List.length_zip] at hi
    omega
def TgS (S : Kin α) (g : TG) (σ : L2.St) (a : α) (P : Hp → L2.St → Prop) : Prop := ∀ (G H : Hp) (x : V), Ex G H → S G x a → ∀ Q : L2.St → Hp → Prop, (∀ σ', P G σ' → Q σ' H) → g x σ H Q
theorem gs_2 {p : α × β} : TgS (PrS S T) (gTup K 2 (gCons (gName i) (gCons (gName j) gNil))) σ p (fun G σ' => ∃ v w, S G v p.1 ∧ T G w p.2 ∧ σ' = (σ.set i (some v)).set j (some w)) := fun G H x e h Q q => by
  obtain ⟨t, x, y, rfl, ht, hx, hy⟩ := h
  exact ⟨_, _, rfl, SqT.of (e _ _ ht), rfl, _, _, rfl, _, _, rfl, rfl, q _ ⟨_, _, hx, hy, rfl⟩⟩
theorem gs_12 {p : γ × α × β} : TgS (PrS U (PrS S T)) (gTup K 2 (gCons (gName i) (gCons (gTup K 2 (gCons (gName j) (gCons (gName l) gNil))) gNil))) σ p
    (fun G σ' => ∃ v w z, U G v p.1 ∧ S G w p.2.1 ∧ T G z p.2.2 ∧ σ' = ((σ.set i (some v)).set j (some w)).set l (some z)) := fun G H x e h Q q => by
  obtain ⟨t, k, y, rfl, ht, hk, t2, x, z, rfl, ht2, hx, hz⟩ := h
  exact ⟨_, _, rfl, SqT.of (e _ _ ht), rfl, _, _, rfl, _, _, rfl, ⟨_, _, rfl, SqT.of (e _ _ ht2), rfl, _, _, rfl, _, _, rfl, rfl, rfl, q _ ⟨_, _, _, hk, hx, hz, rfl⟩⟩⟩
theorem hv_lc {wi : TI} {g : TG} {tt : TT} {te : TE} {vs : List Nat} {ds : List α} {p : α → Bool} {f : α → PyData} (hi : EvIS S σ F wi ds) (hz : ds.length ≤ 100000)
    (ht : ∀ d ∈ ds, ∃ P, TgS S g (wipe σ vs) d P ∧ ∀ F' σ', Ex F F' → P F' σ' →
      wipe σ' vs = wipe σ vs ∧ EvT σ' F' tt (p d) ∧ (p d = true → EvE K σ' F' te (f d))) :
    EvE K σ F (tLc wi g tt te vs) (.list ((ds.filter p).map f)) := fun G H e1 e2 Q q => hi G H e1 e2 _ fun J G1 H1 u1 wk => by
  intro D hD
  refine ⟨fun i m H2 => m = ds.length - i ∧ i ≤ ds.length ∧ ∃ (G2 : Hp) (acc : List V), Ex G1 G2 ∧ Ex G2 H2 ∧ Ex H1 H2 ∧ (∀ b, H1 b ≠ none → G1 b = none → G2 b = none) ∧
      H2 D = some (.lst acc) ∧ G2 D = none ∧ DaAll K G2 acc (((ds.take i).filter p).map f),
    ⟨_, rfl, Nat.zero_le _, G1, [], Ex.rf _, u1.h.tr (Ex.up hD), Ex.up hD, fun _ _ h => h, upd_same, u1.h.fresh hD, .nil⟩, ?_⟩
  rintro i m H2 ⟨rfl, hi', G2, acc, eg, eh, em, en, hd, gd, ha⟩
  obtain ⟨w1, w2⟩ := wk i G2 H2 eg eh
  by_cases hlt : i < ds.length
  · obtain ⟨hgo, hy⟩ := w1 _ (List.getElem?_eq_getElem hlt)
    have hm : ds[i] ∈ ds := List.getElem_mem hlt
    have tk : (ds.take (i + 1)) = ds.take i ++ [ds[i]] := by rw [List.take_add_one, List.getElem?_eq_getElem hlt]; rfl
    refine .inr ⟨hgo, fun H3 => ∃ (G3 : Hp) (acc : List V), Ex G1 G3 ∧ Ex G3 H3 ∧ Ex H1 H3 ∧ (∀ b, H1 b ≠ none → G1 b = none → G3 b = none) ∧
      H3 D = some (.lst acc) ∧ G3 D = none ∧ DaAll K G3 acc (((ds.take (i + 1)).filter p).map f), ?_, ?_⟩
    · rintro H3 ⟨G3, acc3, r⟩
      exact ⟨ds.length - (i + 1), by omega, rfl, hlt, G3, acc3, r⟩
    · intro x H3 hyl
      obtain ⟨G3, u3, dx⟩ := hy x H3 hyl
      obtain ⟨P, tg, body⟩ := ht _ hm
      refine tg G3 H3 x u3.h dx _ fun σ' hP => ?_
      obtain ⟨hw, hT, hE⟩ := body G3 σ' ((e1.tr u1.g).tr (eg.tr u3.g)) hP
      refine ⟨hw, hT G3 H3 (Ex.rf _) u3.h _ fun G4 H4 u4 => ?_⟩
      have u34 := u3.tr u4
      have ne : H2 D ≠ none := by rw [hd]; simp
      by_cases hp : p ds[i] = true
      · rw [hp]
        refine iteT (hE hp G4 H4 u4.g u4.h _ fun y G5 H5 u5 dy => ?_)
        have u := u34.tr u5
        refine ⟨acc, u.m _ _ hd, ?_, G5, acc ++ [y], eg.tr u.g, ?_, ?_, fun b h1 h2 => u.n b (fun z => ?_) (en b h1 h2), upd_same, u.n D ne gd, ?_⟩
        · have := ha.length
          rw [List.length_map] at this
          have l2 : ((ds.take i).filter p).length ≤ ds.length := Nat.le_trans (List.length_filter_le _ _) (by rw [List.length_take]; omega)
          exact Nat.lt_of_le_of_lt (by omega : acc.length ≤ 100000) (by decide)
        · intro a o e
          rw [upd_ne (ne_of_none e (u.n D ne gd))]
          exact u.h a o e
        · intro a o e
          rw [upd_ne (ne_of_none e hD)]
          exact u.m a o (em a o e)
        · cases e : H1 b with
          | none => exact h1 e
          | some o => rw [em b o e] at z; cases z
        · rw [tk, List.filter_append, List.map_append]
          refine (ha.mono u.g).append ?_
          rw [List.filter_cons, if_pos hp]
          exact .cons dy .nil
      · have hp' : p ds[i] = false := by simpa using hp
        rw [hp']
        refine iteF ⟨G4, acc, eg.tr u34.g, u34.h, em.tr u34.m, fun b h1 h2 => u34.n b (fun z => ?_) (en b h1 h2), u34.m _ _ hd, u34.n D ne gd, ?_⟩
        · cases e : H1 b with
          | none => exact h1 e
          | some o => rw [em b o e] at z; cases z
        · rw [tk, List.filter_append, List.filter_cons, if_neg (by rw [hp']; simp), List.filter_nil, List.append_nil]
          exact ha.mono u34.g
  · have hle : ds.length ≤ i := by omega
    refine .inl ⟨w2 (by omega), q _ (upd G2 D (.lst acc)) H2 (u1.tr ⟨eg.tr (Ex.up gd), ?_, em, fun b h1 h2 => ?_⟩) (.lst upd_same ?_)⟩
    · intro a o e
      by_cases h : a = D
      · subst h; rw [upd_same] at e; rw [hd]; exact e
      · rw [upd_ne h] at e; exact eh a o e
    · rw [upd_ne (fun z => h1 (by rw [z]; exact hD))]; exact en b h1 h2
    · rw [List.take_of_length_le hle] at ha
      exact ha.mono (Ex.up gd)
theorem hv_for {wi : TI} {g : TG} {ds : List α} {p : α → Bool} {vs : List Nat} {tb : TS} {z : PyData} (hi : EvIS S σ F wi ds)
    (ht : ∀ d ∈ ds, ∀ σ0, wipe σ0 vs = wipe σ vs → ∃ P, TgS S g σ0 d P ∧ ∀ F' σ', Ex F F' → P F' σ' →
      wipe σ' vs = wipe σ vs ∧ BodE K σ' F' vs tb (bif p d then none else some z)) :
    BodE K σ F vs (tFor wi g tb) (bif ds.all p then none else some z) := fun G H e1 e2 D q1 q2 => hi G H e1 e2 _ fun J G1 H1 u1 wk => by
  refine ⟨fun i m σ' H' => m = ds.length - i ∧ i ≤ ds.length ∧ wipe σ' vs = wipe σ vs ∧ (ds.take i).all p = true ∧ ∃ G', Up G1 H1 G' H',
    ⟨_, rfl, Nat.zero_le _, rfl, rfl, G1, Up.rf u1.h⟩, ?_⟩
  rintro i m σ' H' ⟨rfl, hi', hw, hp, G', u'⟩
  obtain ⟨w1, w2⟩ := wk i G' H' u'.g u'.h
  by_cases hlt : i < ds.length
  · obtain ⟨hgo, hy⟩ := w1 _ (List.getElem?_eq_getElem hlt)
    have hm : ds[i] ∈ ds := List.getElem_mem hlt
    have tk : (ds.take (i + 1)) = ds.take i ++ [ds[i]] := by rw [List.take_add_one, List.getElem?_eq_getElem hlt]; rfl
    refine .inr ⟨hgo, fun σ2 H2 => wipe σ2 vs = wipe σ vs ∧ (ds.take (i + 1)).all p = true ∧ ∃ G2, Up G1 H1 G2 H2, ?_, ?_⟩
    · rintro σ2 H2 ⟨a, b, c⟩
      exact ⟨ds.length - (i + 1), by omega, rfl, hlt, a, b, c⟩
    · intro x H3 hyl
      obtain ⟨G3, u3, dx⟩ := hy x H3 hyl
      obtain ⟨P, tg, body⟩ := ht _ hm σ' hw
      refine tg G3 H3 x u3.h dx _ fun σ2 hP => ?_
      have e3 := (e1.tr u1.g).tr (u'.g.tr u3.g)
      obtain ⟨hw2, hb⟩ := body G3 σ2 e3 hP
      refine hb G3 H3 (Ex.rf _) u3.h _ (fun z' hz v G4 H4 u4 d4 => ?_) fun hn σ4 G4 H4 hw4 u4 => ⟨hw4.trans hw2, ?_, G4, (u'.tr u3).tr u4⟩
      · have hpf : p ds[i] = false := by
          cases e : p ds[i] with
          | true => rw [e] at hz; cases hz
          | false => rfl
        rw [hpf] at hz
        refine q1 z' ?_ v G4 H4 ((u1.tr (u'.tr u3)).tr u4) d4
        have : ds.all p = false := by
          rw [List.all_eq_false]
          exact ⟨_, hm, by rw [hpf]; simp⟩
        rw [this]; exact hz
      · have hpt : p ds[i] = true := by
          cases e : p ds[i] with
          | true => rfl
          | false => rw [e] at hn; cases hn
        rw [tk, List.all_append, hp]
        simp [hpt]
  · have hle : ds.length ≤ i := by omega
    refine .inl ⟨w2 (by omega), q2 ?_ σ' G' H' hw (u1.tr u')⟩
    rw [List.take_of_length_le hle] at hp
    rw [hp]; rfl
/-! ### held errors -/
theorem hv_errV {C fI : Addr} {f : Str} {ta : TA} {d : PyData} (T : ErrV K C fI f) (h : EvA K σ F ta [d]) : EvS (ErS K) σ F (tErrV C f ta) (C, some (f, d)) := fun G H e1 e2 Q q =>
  h G H e1 e2 _ fun vs G1 H1 u1 hv => by
    cases hv with
    | @cons y _ _ _ dy hn =>
      cases hn
      refine ⟨_, rfl, fun a dx na nd ne => ?_⟩
      have n2 : (upd H1 dx (exd dx [(f, y)])) a = none := by rw [upd_ne (fun z => ne z.symm)]; exact na
      have up := (u1.tr (Up.new u1.h nd (exd dx [(f, y)]))).tr (Up.new (Up.new u1.h nd (exd dx [(f, y)])).h n2 (exo a C (some dx)))
      have g2 : (upd G1 dx (exd dx [(f, y)])) a = none := (Up.new u1.h nd (exd dx [(f, y)])).h.fresh n2
      refine q _ _ _ up ⟨a, rfl, T.h, T.no, dx, _, upd_same, ?_, (dy.mono (Ex.up (u1.h.fresh nd))).mono (Ex.up g2)⟩
      rw [upd_ne ne]
      exact upd_same
theorem hv_err0 {C : Addr} (T : HeldC K C) : EvS (ErS K) σ F (tErr0 C) (C, none) := fun G H e1 e2 Q q a ha =>
  q _ _ _ (Up.new e2 ha _) ⟨a, rfl, T, upd_same⟩
theorem e_isV {e : Addr × Option (Str × PyData)} {c : V} {cv : Value} {r : Bool} (h : EvS (ErS K) σ F te e) (one : OneV c cv) (kit : PySem.W.kitOne K (.ref e.1) cv = some r) : EvE K σ F (tCB (rIsV K) (tCons te (tCons (tC c) tNil))) (.bool r) :=
  fun G H e1 e2 Q q => h G H e1 e2 _ fun v G1 H1 u1 hv => ⟨v, c, e.1, e.2, cv, r, rfl, one, kit, ErrAt.mono u1.h hv, q _ G1 H1 u1 (.bl r)⟩
theorem e_fldV {C : Addr} {f : Str} {d : PyData} (h : EvS (ErS K) σ F te (C, some (f, d))) : EvE K σ F (tFldV K f te) d :=
  fun G H e1 e2 Q q => h G H e1 e2 _ fun v G1 H1 u1 hv => by
    obtain ⟨a, rfl, hc, no, dx, y, h1, h2, h3⟩ := hv
    exact ⟨a, C, dx, y, rfl, u1.h _ _ h1, u1.h _ _ h2, hc.x, no, q _ G1 H1 u1 h3⟩
theorem ErrB.held {C : Addr} (T : ErrB K C) : HeldC K C := ⟨⟨T.c.hg, T.c.hk, T.c.hs, T.c.hd⟩, T.cl, T.c.ha, T.c.hn, T.c.ht, T.c.hm⟩
end
end KD
set_option Elab.async false
set_option linter.all false
set_option maxRecDepth 100000
set_option maxHeartbeats 1000000
/-! D54: what the top of a text tells of the classes of held errors; defs that give any sort of value. -/
namespace KD
open PySem PySem.Spec PyProof.Rows L2
def heldB (K : PySem.W.Frag) (D : Addr) : Bool := xfB K D && (PySem.W.clsIn K D).isSome && decide (PySem.W.findIn K (.ref D) "__class__" = some (some (.builtin "object.__class__"))) &&
  decide (PySem.W.specialIn K (.builtin "object.__class__") "__get__" = some (some (.builtin "getset_descriptor.__get__"))) && decide (PySem.W.takesIn K (.builtin "object.__class__") = some true) && decide (PySem.W.mroIn K D (.type "object") = some true)
theorem heldB_ok {K : PySem.W.Frag} {D : Addr} (h : heldB K D = true) : HeldC K D := by
  unfold heldB at h
  simp only [Bool.and_eq_true, decide_eq_true_eq] at h
  obtain ⟨⟨⟨⟨⟨a, b⟩, c⟩, d⟩, e⟩, f⟩ := h
  exact ⟨xfB_ok a, b, c, d, e, f⟩
def errVB (K : PySem.W.Frag) (C fI : Addr) (f : Str) (newId : String) (bm : List Value) : Bool := PySem.W.excInitIn K C bm newId && PySem.W.excOver K C bm && decide (PySem.W.takerIn K C f = some none) &&
  decide (PySem.W.findIn K (.ref C) "__setattr__" = some (some (.builtin "object.__setattr__"))) && decide (PySem.W.findIn K (.ref C) f = some none) && decide (PySem.W.typeIn K (.ref fI) = some (.type "function")) && PySem.W.keepIn K (.ref C) && heldB K C
theorem heldAt {K : PySem.W.Frag} {h : Heap} {mg : Str → Option Value} (X : K.In h) (G : h.Ns mainGlobals mg) {x f q : Str} {st : Stmt} {C fI : Addr} {od an : Option Addr} {sl : Array (Option Value)} {oc kV dc pm cd ct : Value} {B newId initId : String} {bm : List Value}
    (ab : Abv B newId initId bm) (aC : PySem.W.nsIn K mainGlobals x = some (some (.ref C))) (iC : PySem.W.findIn K (.ref C) "__init__" = some (some (.ref fI)))
    (l0 : K.lookup fI = some ⟨oc, od, .func (PySem.W.fnOf "__init__" q (defArgs st) (defBody st) (defScope st) .none kV dc pm an cd ct), sl⟩) (c0 : PySem.W.codeIn K cd q = true) (k0 : PySem.W.keepIn K (.ref fI) = true)
    (ok : errVB K C fI f newId bm = true) : mg x = some (.ref C) ∧ ∃ d, Fun K "__init__" q st fI d ∧ ErrV K C fI f := by
  unfold errVB at ok
  simp only [Bool.and_eq_true, decide_eq_true_eq] at ok
  obtain ⟨⟨⟨⟨⟨⟨⟨h1, h2⟩, h3⟩, h4⟩, h5⟩, h6⟩, h7⟩, h8⟩ := ok
  exact ⟨PySem.W.mg_of X G aC, _, fun_mk (st := st) l0 c0 k0, ⟨B, newId, initId, bm, ab, h1, h2⟩, h3, h4, h5, iC, h6, h7, heldB_ok h8⟩
def errBB (K : PySem.W.Frag) (C : Addr) : Bool := PySem.W.excIn K C mroVE "ValueError.__new__" && PySem.W.keepIn K (.ref C) && heldB K C && decide (PySem.W.typeIn K (.ref C) = some (.type "type")) && decide (PySem.W.subIn K (.ref C) (.ref C) = some true)
theorem bareAt {K : PySem.W.Frag} {h : Heap} {mg : Str → Option Value} (X : K.In h) (G : h.Ns mainGlobals mg) {x : Str} {C : Addr} (aC : PySem.W.nsIn K mainGlobals x = some (some (.ref C))) (ok : errBB K C = true) : mg x = some (.ref C) ∧ ErrB K C := by
  unfold errBB at ok
  simp only [Bool.and_eq_true, decide_eq_true_eq] at ok
  obtain ⟨⟨⟨⟨h1, h2⟩, h3⟩, h4⟩, h5⟩ := ok
  have t := heldB_ok h3
  exact ⟨PySem.W.mg_of X G aC, h1, h2, ⟨t.x.ga, t.x.gg, t.x.exC, t.x.hdC, t.ca, t.cn, t.ct, t.cm⟩, h4, t.cl, h5⟩
/-- isinstance of what is of class C against each of us -/
def KitR (K : PySem.W.Frag) (C : Addr) (us : List Value) (bs : List Bool) : Prop := us.map (PySem.W.kitOne K (.ref C)) = bs.map some
theorem KitR.get {K : PySem.W.Frag} {C : Addr} {us : List Value} {bs : List Bool} (h : KitR K C us bs) {i : Nat} {u : Value} {b : Bool} (hu : us[i]? = some u) (hb : bs[i]? = some b) : PySem.W.kitOne K (.ref C) u = some b := by
  have e := congrArg (fun l => l[i]?) h
  simpa [hu, hb] using e
/-! ### defs that give any sort of value -/
section
variable {α β : Type} {S : Kin α} {K : PySem.W.Frag} {σ : L2.St} {F : Hp} {as : TA} {ds : List PyData} {te : TE} {a : α} {E : XK}
def spD (K : PySem.W.Frag) (S : Kin α) (n : Nat) (fn : List PyData → α) : Sp := fun vs H Q _ => vs.length = n ∧ ∃ G ds, Ex G H ∧ DaAll K G vs ds ∧ ∀ v G' H', Up G H G' H' → S G' v (fn ds) → Q v H'
theorem hv_call {n : Nat} {fn : List PyData → α} (h : EvA K σ F as ds) (hn : ds.length = n) : EvS S σ F (tCall (spD K S n fn) [] E as) (fn ds) := fun G H e1 e2 Q q => h G H e1 e2 _ fun vs G1 H1 u1 d1 =>
  ⟨by rw [List.append_nil, d1.length]; exact hn, G1, ds, u1.h, by rw [List.append_nil]; exact d1, fun v G2 H2 u2 hv => q v G2 H2 (u1.tr u2) hv⟩
/-- one argument of a sort, and more data -/
def spF (K : PySem.W.Frag) (S : Kin α) (R : α → List PyData → PyData → Prop) (n : Nat) : Sp := fun vs H Q _ => ∃ v ws G a ds z, vs = v :: ws ∧ ws.length = n ∧ Ex G H ∧ S G v a ∧ DaAll K G ws ds ∧ R a ds z ∧ ∀ w G' H', Up G H G' H' → Da K G' w z → Q w H'
theorem hv_app {R : α → List PyData → PyData → Prop} {n : Nat} {z : PyData} (m : Kin.Mo S) (h : EvS S σ F te a) (hs : EvA K σ F as ds) (hn : ds.length = n) (hR : R a ds z) : EvE K σ F (tCall (spF K S R n) [] E (tCons te as)) z := fun G H e1 e2 Q q =>
  h G H e1 e2 _ fun v G1 H1 u1 hv => hs G1 H1 (e1.tr u1.g) u1.h _ fun ws G2 H2 u2 hw =>
    ⟨v, ws, G2, a, ds, z, by rw [List.append_nil], by rw [hw.length]; exact hn, u2.h, m _ _ _ _ u2.g hv, hw, hR, fun w G3 H3 u3 hz => q w G3 H3 ((u1.tr u2).tr u3) hz⟩
/-- a name set within a loop that may return -/
theorem hb_put {vs : List Nat} {i : Nat} {d : PyData} {u : TS} {o : Option PyData} (h : EvE K σ F te d) (hi : i ∈ vs) (hu : ∀ v F', Ex F F' → Da K F' v d → BodE K (σ.set i (some v)) F' vs u o) : BodE K σ F vs (tSeq (tAsg te (gName i)) u) o := fun G H e1 e2 D q1 q2 =>
  h G H e1 e2 _ fun v G1 H1 u1 dv => hu v G1 (e1.tr u1.g) dv G1 H1 (Ex.rf _) u1.h D (fun z hz w G2 H2 u2 d2 => q1 z hz w G2 H2 (u1.tr u2) d2) fun hn σ2 G2 H2 hw u2 => q2 hn σ2 G2 H2 (hw.trans (wipe_set hi)) (u1.tr u2)
end
section
variable {P : Program} {w : World} {K : PySem.W.Frag} {mg : Str → Option Value} {base : Heap}
theorem okSD {α : Type} {S : Kin α} {x qual : Str} {st : Stmt} {f : Addr} {fd : FuncData} {N ps : List Str} {k n : Nat} {fn : List PyData → α} (F : Fun K x qual st f fd) (C : FnScope N ps (defScope st)) (hn : ps.length = n)
    (hbody : ∀ (cdv : Value) (A : Around) (out : List Env) (s : Shared) (H : Hp) (vs : List V) (E : XK) (G : Hp) (ds : List PyData), Room k (A.deeper (envOfC qual (defScope st) s.heap.objs.size f cdv)) →
      Quiet (A.deeper (envOfC qual (defScope st) s.heap.objs.size f cdv)) → vs.length = n → DaAll K G vs ds →
      ∃ t, PSs (cxOf CX0 P w K mg base N qual (defScope st) f cdv A out s H E).nox (defBody st) t ∧ RetS S (start N vs) G t (fn ds)) : FnG P w K mg base CX0 (k + 1) f fd ps (spD K S n fn) := by
  refine okG F C (fun vs H Q E h => h.1.trans hn.symm) fun cdv A out s H vs Q E hr hq h => ?_
  obtain ⟨hl, G, ds, eg, da, q⟩ := h
  obtain ⟨t, ht, hR⟩ := hbody cdv A out s H vs E G ds hr hq hl da
  exact ⟨t, ht, hR G H (Ex.rf _) eg _ q⟩
theorem okF {α : Type} {S : Kin α} {x qual : Str} {st : Stmt} {f : Addr} {fd : FuncData} {N ps : List Str} {k n : Nat} {R : α → List PyData → PyData → Prop} (F : Fun K x qual st f fd) (C : FnScope N ps (defScope st)) (hn : ps.length = n + 1)
    (hbody : ∀ (cdv : Value) (A : Around) (out : List Env) (s : Shared) (H : Hp) (v : V) (ws : List V) (E : XK) (G : Hp) (a : α) (ds : List PyData) (z : PyData), Room k (A.deeper (envOfC qual (defScope st) s.heap.objs.size f cdv)) →
      Quiet (A.deeper (envOfC qual (defScope st) s.heap.objs.size f cdv)) → ws.length = n → S G v a → DaAll K G ws ds → R a ds z →
      ∃ t, PSs (cxOf CX0 P w K mg base N qual (defScope st) f cdv A out s H E).nox (defBody st) t ∧ RetE K (start N (v :: ws)) G t z) : FnG P w K mg base CX0 (k + 1) f fd ps (spF K S R n) := by
  refine okG F C (fun vs H Q E h => ?_) fun cdv A out s H vs Q E hr hq h => ?_
  · obtain ⟨v, ws, _, _, _, _, rfl, hl, _⟩ := h
    rw [List.length_cons, hl, hn]
  obtain ⟨v, ws, G, a, ds, z, rfl, hl, eg, hv, hw, hR, q⟩ := h
  obtain ⟨t, ht, hT⟩ := hbody cdv A out s H v ws E G a ds z hr hq hl hv hw hR
  exact ⟨t, ht, hT G H (Ex.rf _) eg _ q⟩
end
end KD
set_option Elab.async false
set_option linter.all false
set_option maxRecDepth 100000
set_option maxHeartbeats 4000000
namespace L86
open PySem PySem.Spec PyProof.Rows L2 KD
def topS (i : Nat) : Stmt :=
  PySem.Challenge.pw_roundcalls_k86_errors.main.body.getD i (.Pass ⟨0, 0, 0, 0⟩)
abbrev s_NoPath___init__ : Stmt := inClass (topS 4) 0
abbrev N_NoPath___init__ : List Str := ["self", "path"]
theorem sc_NoPath___init__ : FnScope N_NoPath___init__ ["self", "path"] (defScope s_NoPath___init__) :=
  ⟨rfl, rfl, rfl, by decide +kernel, rfl, by decide +kernel, by decide +kernel⟩
abbrev s_UnknownName___init__ : Stmt := inClass (topS 5) 0
abbrev N_UnknownName___init__ : List Str := ["self", "path"]
theorem sc_UnknownName___init__ : FnScope N_UnknownName___init__ ["self", "path"] (defScope s_UnknownName___init__) :=
  ⟨rfl, rfl, rfl, by decide +kernel, rfl, by decide +kernel, by decide +kernel⟩
abbrev s_UnknownTag___init__ : Stmt := inClass (topS 6) 0
abbrev N_UnknownTag___init__ : List Str := ["self", "path"]
theorem sc_UnknownTag___init__ : FnScope N_UnknownTag___init__ ["self", "path"] (defScope s_UnknownTag___init__) :=
  ⟨rfl, rfl, rfl, by decide +kernel, rfl, by decide +kernel, by decide +kernel⟩
abbrev s_WrongCount___init__ : Stmt := inClass (topS 7) 0
abbrev N_WrongCount___init__ : List Str := ["self", "path"]
theorem sc_WrongCount___init__ : FnScope N_WrongCount___init__ ["self", "path"] (defScope s_WrongCount___init__) :=
  ⟨rfl, rfl, rfl, by decide +kernel, rfl, by decide +kernel, by decide +kernel⟩
abbrev s_WrongSort___init__ : Stmt := inClass (topS 8) 0
abbrev N_WrongSort___init__ : List Str := ["self", "path"]
theorem sc_WrongSort___init__ : FnScope N_WrongSort___init__ ["self", "path"] (defScope s_WrongSort___init__) :=
  ⟨rfl, rfl, rfl, by decide +kernel, rfl, by decide +kernel, by decide +kernel⟩
abbrev s_WrongPlace___init__ : Stmt := inClass (topS 9) 0
abbrev N_WrongPlace___init__ : List Str := ["self", "path"]
theorem sc_WrongPlace___init__ : FnScope N_WrongPlace___init__ ["self", "path"] (defScope s_WrongPlace___init__) :=
  ⟨rfl, rfl, rfl, by decide +kernel, rfl, by decide +kernel, by decide +kernel⟩
abbrev s_WrongArguments___init__ : Stmt := inClass (topS 10) 0
abbrev N_WrongArguments___init__ : List Str := ["self", "count"]
theorem sc_WrongArguments___init__ : FnScope N_WrongArguments___init__ ["self", "count"] (defScope s_WrongArguments___init__) :=
  ⟨rfl, rfl, rfl, by decide +kernel, rfl, by decide +kernel, by decide +kernel⟩
abbrev s_NoCertificate___init__ : Stmt := inClass (topS 11) 0
abbrev N_NoCertificate___init__ : List Str := ["self", "name"]
theorem sc_NoCertificate___init__ : FnScope N_NoCertificate___init__ ["self", "name"] (defScope s_NoCertificate___init__) :=
  ⟨rfl, rfl, rfl, by decide +kernel, rfl, by decide +kernel, by decide +kernel⟩
abbrev s_NoRuns___init__ : Stmt := inClass (topS 12) 0
abbrev N_NoRuns___init__ : List Str := ["self", "name"]
theorem sc_NoRuns___init__ : FnScope N_NoRuns___init__ ["self", "name"] (defScope s_NoRuns___init__) :=
  ⟨rfl, rfl, rfl, by decide +kernel, rfl, by decide +kernel, by decide +kernel⟩
abbrev s_NotPending___init__ : Stmt := inClass (topS 13) 0
abbrev N_NotPending___init__ : List Str := ["self", "call"]
theorem sc_NotPending___init__ : FnScope N_NotPending___init__ ["self", "call"] (defScope s_NotPending___init__) :=
  ⟨rfl, rfl, rfl, by decide +kernel, rfl, by decide +kernel, by decide +kernel⟩
abbrev s_NotPlain___init__ : Stmt := inClass (topS 15) 0
abbrev N_NotPlain___init__ : List Str := ["self", "name"]
theorem sc_NotPlain___init__ : FnScope N_NotPlain___init__ ["self", "name"] (defScope s_NotPlain___init__) :=
  ⟨rfl, rfl, rfl, by decide +kernel, rfl, by decide +kernel, by decide +kernel⟩
abbrev s_NotSimple___init__ : Stmt := inClass (topS 16) 0
abbrev N_NotSimple___init__ : List Str := ["self", "name"]
theorem sc_NotSimple___init__ : FnScope N_NotSimple___init__ ["self", "name"] (defScope s_NotSimple___init__) :=
  ⟨rfl, rfl, rfl, by decide +kernel, rfl, by decide +kernel, by decide +kernel⟩
abbrev s_NoMaker___init__ : Stmt := inClass (topS 17) 0
abbrev N_NoMaker___init__ : List Str := ["self", "name"]
theorem sc_NoMaker___init__ : FnScope N_NoMaker___init__ ["self", "name"] (defScope s_NoMaker___init__) :=
  ⟨rfl, rfl, rfl, by decide +kernel, rfl, by decide +kernel, by decide +kernel⟩
abbrev s_NameTaken___init__ : Stmt := inClass (topS 18) 0
abbrev N_NameTaken___init__ : List Str := ["self", "name"]
theorem sc_NameTaken___init__ : FnScope N_NameTaken___init__ ["self", "name"] (defScope s_NameTaken___init__) :=
  ⟨rfl, rfl, rfl, by decide +kernel, rfl, by decide +kernel, by decide +kernel⟩
abbrev s_UnknownFunction___init__ : Stmt := inClass (topS 19) 0
abbrev N_UnknownFunction___init__ : List Str := ["self", "name"]
theorem sc_UnknownFunction___init__ : FnScope N_UnknownFunction___init__ ["self", "name"] (defScope s_UnknownFunction___init__) :=
  ⟨rfl, rfl, rfl, by decide +kernel, rfl, by decide +kernel, by decide +kernel⟩
abbrev s_UnknownItem___init__ : Stmt := inClass (topS 20) 0
abbrev N_UnknownItem___init__ : List Str := ["self", "name"]
theorem sc_UnknownItem___init__ : FnScope N_UnknownItem___init__ ["self", "name"] (defScope s_UnknownItem___init__) :=
  ⟨rfl, rfl, rfl, by decide +kernel, rfl, by decide +kernel, by decide +kernel⟩
abbrev s__law_deck : Stmt := topS 22
abbrev N__law_deck : List Str := ["_law_script", "_law_cells", "_law_total", "_law_cell"]
theorem sc__law_deck : FnScope N__law_deck ["_law_script"] (defScope s__law_deck) :=
  ⟨rfl, rfl, rfl, by decide +kernel, rfl, by decide +kernel, by decide +kernel⟩
abbrev s__law_draw : Stmt := topS 23
abbrev N__law_draw : List Str := ["_law_deck_here", "_law_limit", "_law_cell", "_law_number"]
theorem sc__law_draw : FnScope N__law_draw ["_law_deck_here", "_law_limit"] (defScope s__law_draw) :=
  ⟨rfl, rfl, rfl, by decide +kernel, rfl, by decide +kernel, by decide +kernel⟩
abbrev s__law_pick : Stmt := topS 24
abbrev N__law_pick : List Str := ["_law_deck_here", "_law_items"]
theorem sc__law_pick : FnScope N__law_pick ["_law_deck_here", "_law_items"] (defScope s__law_pick) :=
  ⟨rfl, rfl, rfl, by decide +kernel, rfl, by decide +kernel, by decide +kernel⟩
abbrev s__law_odd : Stmt := topS 25
abbrev N__law_odd : List Str := ["_law_deck_here", "_law_some"]
theorem sc__law_odd : FnScope N__law_odd ["_law_deck_here"] (defScope s__law_odd) :=
  ⟨rfl, rfl, rfl, by decide +kernel, rfl, by decide +kernel, by decide +kernel⟩
abbrev s__law_made : Stmt := topS 26
abbrev N__law_made : List Str := ["_law_it", "_law_bare", "_law_found"]
theorem sc__law_made : FnScope N__law_made ["_law_it"] (defScope s__law_made) :=
  ⟨rfl, rfl, rfl, by decide +kernel, rfl, by decide +kernel, by decide +kernel⟩
abbrev s__law_named : Stmt := topS 27
abbrev N__law_named : List Str := ["_law_it", "_law_found"]
theorem sc__law_named : FnScope N__law_named ["_law_it"] (defScope s__law_named) :=
  ⟨rfl, rfl, rfl, by decide +kernel, rfl, by decide +kernel, by decide +kernel⟩
abbrev s__law_carried : Stmt := topS 28
abbrev N__law_carried : List Str := ["_law_e", "_law_word"]
theorem sc__law_carried : FnScope N__law_carried ["_law_e", "_law_word"] (defScope s__law_carried) :=
  ⟨rfl, rfl, rfl, by decide +kernel, rfl, by decide +kernel, by decide +kernel⟩
abbrev s__law_kinds : Stmt := topS 29
abbrev N__law_kinds : List Str := ["_law_e", "_law_found"]
theorem sc__law_kinds : FnScope N__law_kinds ["_law_e"] (defScope s__law_kinds) :=
  ⟨rfl, rfl, rfl, by decide +kernel, rfl, by decide +kernel, by decide +kernel⟩
abbrev s__law_right : Stmt := topS 30
abbrev N__law_right : List Str := ["_law_it", "_law_made_here", "_law_kept", "_law_k", "_law_e", "_law_word", "_law_own", "_law_bases", "_law_words", "_law_j"]
theorem sc__law_right : FnScope N__law_right ["_law_it"] (defScope s__law_right) :=
  ⟨rfl, rfl, rfl, by decide +kernel, rfl, by decide +kernel, by decide +kernel⟩
abbrev s_law : Stmt := topS 31
abbrev N_law : List Str := ["_law_script", "_law_deck_here", "_law_some", "_law_base", "_law_k", "_law_it"]
theorem sc_law : FnScope N_law ["_law_script"] (defScope s_law) :=
  ⟨rfl, rfl, rfl, by decide +kernel, rfl, by decide +kernel, by decide +kernel⟩
/-! what the top has left -/
structure Txt (K : PySem.W.Frag) (mg : Str → Option Value) where
  a_NoPath___init__ : Addr
  d_NoPath___init__ : FuncData
  F_NoPath___init__ : Fun K "__init__" "NoPath.__init__" s_NoPath___init__ a_NoPath___init__ d_NoPath___init__
  a_UnknownName___init__ : Addr
  d_UnknownName___init__ : FuncData
  F_UnknownName___init__ : Fun K "__init__" "UnknownName.__init__" s_UnknownName___init__ a_UnknownName___init__ d_UnknownName___init__
  a_UnknownTag___init__ : Addr
  d_UnknownTag___init__ : FuncData
  F_UnknownTag___init__ : Fun K "__init__" "UnknownTag.__init__" s_UnknownTag___init__ a_UnknownTag___init__ d_UnknownTag___init__
  a_WrongCount___init__ : Addr
  d_WrongCount___init__ : FuncData
  F_WrongCount___init__ : Fun K "__init__" "WrongCount.__init__" s_WrongCount___init__ a_WrongCount___init__ d_WrongCount___init__
  a_WrongSort___init__ : Addr
  d_WrongSort___init__ : FuncData
  F_WrongSort___init__ : Fun K "__init__" "WrongSort.__init__" s_WrongSort___init__ a_WrongSort___init__ d_WrongSort___init__
  a_WrongPlace___init__ : Addr
  d_WrongPlace___init__ : FuncData
  F_WrongPlace___init__ : Fun K "__init__" "WrongPlace.__init__" s_WrongPlace___init__ a_WrongPlace___init__ d_WrongPlace___init__
  a_WrongArguments___init__ : Addr
  d_WrongArguments___init__ : FuncData
  F_WrongArguments___init__ : Fun K "__init__" "WrongArguments.__init__" s_WrongArguments___init__ a_WrongArguments___init__ d_WrongArguments___init__
  a_NoCertificate___init__ : Addr
  d_NoCertificate___init__ : FuncData
  F_NoCertificate___init__ : Fun K "__init__" "NoCertificate.__init__" s_NoCertificate___init__ a_NoCertificate___init__ d_NoCertificate___init__
  a_NoRuns___init__ : Addr
  d_NoRuns___init__ : FuncData
  F_NoRuns___init__ : Fun K "__init__" "NoRuns.__init__" s_NoRuns___init__ a_NoRuns___init__ d_NoRuns___init__
  a_NotPending___init__ : Addr
  d_NotPending___init__ : FuncData
  F_NotPending___init__ : Fun K "__init__" "NotPending.__init__" s_NotPending___init__ a_NotPending___init__ d_NotPending___init__
  a_NotPlain___init__ : Addr
  d_NotPlain___init__ : FuncData
  F_NotPlain___init__ : Fun K "__init__" "NotPlain.__init__" s_NotPlain___init__ a_NotPlain___init__ d_NotPlain___init__
  a_NotSimple___init__ : Addr
  d_NotSimple___init__ : FuncData
  F_NotSimple___init__ : Fun K "__init__" "NotSimple.__init__" s_NotSimple___init__ a_NotSimple___init__ d_NotSimple___init__
  a_NoMaker___init__ : Addr
  d_NoMaker___init__ : FuncData
  F_NoMaker___init__ : Fun K "__init__" "NoMaker.__init__" s_NoMaker___init__ a_NoMaker___init__ d_NoMaker___init__
  a_NameTaken___init__ : Addr
  d_NameTaken___init__ : FuncData
  F_NameTaken___init__ : Fun K "__init__" "NameTaken.__init__" s_NameTaken___init__ a_NameTaken___init__ d_NameTaken___init__
  a_UnknownFunction___init__ : Addr
  d_UnknownFunction___init__ : FuncData
  F_UnknownFunction___init__ : Fun K "__init__" "UnknownFunction.__init__" s_UnknownFunction___init__ a_UnknownFunction___init__ d_UnknownFunction___init__
  a_UnknownItem___init__ : Addr
  d_UnknownItem___init__ : FuncData
  F_UnknownItem___init__ : Fun K "__init__" "UnknownItem.__init__" s_UnknownItem___init__ a_UnknownItem___init__ d_UnknownItem___init__
  a__law_deck : Addr
  d__law_deck : FuncData
  F__law_deck : Fun K "_law_deck" "_law_deck" s__law_deck a__law_deck d__law_deck
  g__law_deck : mg "_law_deck" = some (.ref a__law_deck)
  a__law_draw : Addr
  d__law_draw : FuncData
  F__law_draw : Fun K "_law_draw" "_law_draw" s__law_draw a__law_draw d__law_draw
  g__law_draw : mg "_law_draw" = some (.ref a__law_draw)
  a__law_pick : Addr
  d__law_pick : FuncData
  F__law_pick : Fun K "_law_pick" "_law_pick" s__law_pick a__law_pick d__law_pick
  g__law_pick : mg "_law_pick" = some (.ref a__law_pick)
  a__law_odd : Addr
  d__law_odd : FuncData
  F__law_odd : Fun K "_law_odd" "_law_odd" s__law_odd a__law_odd d__law_odd
  g__law_odd : mg "_law_odd" = some (.ref a__law_odd)
  a__law_made : Addr
  d__law_made : FuncData
  F__law_made : Fun K "_law_made" "_law_made" s__law_made a__law_made d__law_made
  g__law_made : mg "_law_made" = some (.ref a__law_made)
  a__law_named : Addr
  d__law_named : FuncData
  F__law_named : Fun K "_law_named" "_law_named" s__law_named a__law_named d__law_named
  g__law_named : mg "_law_named" = some (.ref a__law_named)
  a__law_carried : Addr
  d__law_carried : FuncData
  F__law_carried : Fun K "_law_carried" "_law_carried" s__law_carried a__law_carried d__law_carried
  g__law_carried : mg "_law_carried" = some (.ref a__law_carried)
  a__law_kinds : Addr
  d__law_kinds : FuncData
  F__law_kinds : Fun K "_law_kinds" "_law_kinds" s__law_kinds a__law_kinds d__law_kinds
  g__law_kinds : mg "_law_kinds" = some (.ref a__law_kinds)
  a__law_right : Addr
  d__law_right : FuncData
  F__law_right : Fun K "_law_right" "_law_right" s__law_right a__law_right d__law_right
  g__law_right : mg "_law_right" = some (.ref a__law_right)
  a_law : Addr
  d_law : FuncData
  F_law : Fun K "law" "law" s_law a_law d_law
  g_law : mg "law" = some (.ref a_law)
  C_RoundCallsError : Addr
  mg_RoundCallsError : mg "RoundCallsError" = some (.ref C_RoundCallsError)
  B_RoundCallsError : KD.ErrB K C_RoundCallsError
  C_InvalidText : Addr
  mg_InvalidText : mg "InvalidText" = some (.ref C_InvalidText)
  B_InvalidText : KD.ErrB K C_InvalidText
  C_InvalidCommand : Addr
  mg_InvalidCommand : mg "InvalidCommand" = some (.ref C_InvalidCommand)
  B_InvalidCommand : KD.ErrB K C_InvalidCommand
  C_NoPath : Addr
  mg_NoPath : mg "NoPath" = some (.ref C_NoPath)
  E_NoPath : KD.ErrV K C_NoPath a_NoPath___init__ "path"
  C_UnknownName : Addr
  mg_UnknownName : mg "UnknownName" = some (.ref C_UnknownName)
  E_UnknownName : KD.ErrV K C_UnknownName a_UnknownName___init__ "path"
  C_UnknownTag : Addr
  mg_UnknownTag : mg "UnknownTag" = some (.ref C_UnknownTag)
  E_UnknownTag : KD.ErrV K C_UnknownTag a_UnknownTag___init__ "path"
  C_WrongCount : Addr
  mg_WrongCount : mg "WrongCount" = some (.ref C_WrongCount)
  E_WrongCount : KD.ErrV K C_WrongCount a_WrongCount___init__ "path"
  C_WrongSort : Addr
  mg_WrongSort : mg "WrongSort" = some (.ref C_WrongSort)
  E_WrongSort : KD.ErrV K C_WrongSort a_WrongSort___init__ "path"
  C_WrongPlace : Addr
  mg_WrongPlace : mg "WrongPlace" = some (.ref C_WrongPlace)
  E_WrongPlace : KD.ErrV K C_WrongPlace a_WrongPlace___init__ "path"
  C_WrongArguments : Addr
  mg_WrongArguments : mg "WrongArguments" = some (.ref C_WrongArguments)
  E_WrongArguments : KD.ErrV K C_WrongArguments a_WrongArguments___init__ "count"
  C_NoCertificate : Addr
  mg_NoCertificate : mg "NoCertificate" = some (.ref C_NoCertificate)
  E_NoCertificate : KD.ErrV K C_NoCertificate a_NoCertificate___init__ "name"
  C_NoRuns : Addr
  mg_NoRuns : mg "NoRuns" = some (.ref C_NoRuns)
  E_NoRuns : KD.ErrV K C_NoRuns a_NoRuns___init__ "name"
  C_NotPending : Addr
  mg_NotPending : mg "NotPending" = some (.ref C_NotPending)
  E_NotPending : KD.ErrV K C_NotPending a_NotPending___init__ "call"
  C_NotFinished : Addr
  mg_NotFinished : mg "NotFinished" = some (.ref C_NotFinished)
  B_NotFinished : KD.ErrB K C_NotFinished
  C_NotPlain : Addr
  mg_NotPlain : mg "NotPlain" = some (.ref C_NotPlain)
  E_NotPlain : KD.ErrV K C_NotPlain a_NotPlain___init__ "name"
  C_NotSimple : Addr
  mg_NotSimple : mg "NotSimple" = some (.ref C_NotSimple)
  E_NotSimple : KD.ErrV K C_NotSimple a_NotSimple___init__ "name"
  C_NoMaker : Addr
  mg_NoMaker : mg "NoMaker" = some (.ref C_NoMaker)
  E_NoMaker : KD.ErrV K C_NoMaker a_NoMaker___init__ "name"
  C_NameTaken : Addr
  mg_NameTaken : mg "NameTaken" = some (.ref C_NameTaken)
  E_NameTaken : KD.ErrV K C_NameTaken a_NameTaken___init__ "name"
  C_UnknownFunction : Addr
  mg_UnknownFunction : mg "UnknownFunction" = some (.ref C_UnknownFunction)
  E_UnknownFunction : KD.ErrV K C_UnknownFunction a_UnknownFunction___init__ "name"
  C_UnknownItem : Addr
  mg_UnknownItem : mg "UnknownItem" = some (.ref C_UnknownItem)
  E_UnknownItem : KD.ErrV K C_UnknownItem a_UnknownItem___init__ "name"
  r_InvalidText : KD.KitR K C_InvalidText [.ref C_InvalidText, .ref C_InvalidCommand, .ref C_NoPath, .ref C_UnknownName, .ref C_UnknownTag, .ref C_WrongCount, .ref C_WrongSort, .ref C_WrongPlace, .ref C_WrongArguments, .ref C_NoCertificate, .ref C_NoRuns, .ref C_NotPending, .ref C_NotFinished, .ref C_NotPlain, .ref C_NotSimple, .ref C_NoMaker, .ref C_NameTaken, .ref C_UnknownFunction, .ref C_UnknownItem, .ref C_RoundCallsError, .type "ValueError", .type "KeyError"] [true, false, false, false, false, false, false, false, false, false, false, false, false, false, false, false, false, false, false, true, true, false]
  r_InvalidCommand : KD.KitR K C_InvalidCommand [.ref C_InvalidText, .ref C_InvalidCommand, .ref C_NoPath, .ref C_UnknownName, .ref C_UnknownTag, .ref C_WrongCount, .ref C_WrongSort, .ref C_WrongPlace, .ref C_WrongArguments, .ref C_NoCertificate, .ref C_NoRuns, .ref C_NotPending, .ref C_NotFinished, .ref C_NotPlain, .ref C_NotSimple, .ref C_NoMaker, .ref C_NameTaken, .ref C_UnknownFunction, .ref C_UnknownItem, .ref C_RoundCallsError, .type "ValueError", .type "KeyError"] [false, true, false, false, false, false, false, false, false, false, false, false, false, false, false, false, false, false, false, true, true, false]
  r_NoPath : KD.KitR K C_NoPath [.ref C_InvalidText, .ref C_InvalidCommand, .ref C_NoPath, .ref C_UnknownName, .ref C_UnknownTag, .ref C_WrongCount, .ref C_WrongSort, .ref C_WrongPlace, .ref C_WrongArguments, .ref C_NoCertificate, .ref C_NoRuns, .ref C_NotPending, .ref C_NotFinished, .ref C_NotPlain, .ref C_NotSimple, .ref C_NoMaker, .ref C_NameTaken, .ref C_UnknownFunction, .ref C_UnknownItem, .ref C_RoundCallsError, .type "ValueError", .type "KeyError"] [false, false, true, false, false, false, false, false, false, false, false, false, false, false, false, false, false, false, false, true, true, false]
  r_UnknownName : KD.KitR K C_UnknownName [.ref C_InvalidText, .ref C_InvalidCommand, .ref C_NoPath, .ref C_UnknownName, .ref C_UnknownTag, .ref C_WrongCount, .ref C_WrongSort, .ref C_WrongPlace, .ref C_WrongArguments, .ref C_NoCertificate, .ref C_NoRuns, .ref C_NotPending, .ref C_NotFinished, .ref C_NotPlain, .ref C_NotSimple, .ref C_NoMaker, .ref C_NameTaken, .ref C_UnknownFunction, .ref C_UnknownItem, .ref C_RoundCallsError, .type "ValueError", .type "KeyError"] [false, false, false, true, false, false, false, false, false, false, false, false, false, false, false, false, false, false, false, true, true, false]
  r_UnknownTag : KD.KitR K C_UnknownTag [.ref C_InvalidText, .ref C_InvalidCommand, .ref C_NoPath, .ref C_UnknownName, .ref C_UnknownTag, .ref C_WrongCount, .ref C_WrongSort, .ref C_WrongPlace, .ref C_WrongArguments, .ref C_NoCertificate, .ref C_NoRuns, .ref C_NotPending, .ref C_NotFinished, .ref C_NotPlain, .ref C_NotSimple, .ref C_NoMaker, .ref C_NameTaken, .ref C_UnknownFunction, .ref C_UnknownItem, .ref C_RoundCallsError, .type "ValueError", .type "KeyError"] [false, false, false, false, true, false, false, false, false, false, false, false, false, false, false, false, false, false, false, true, true, false]
  r_WrongCount : KD.KitR K C_WrongCount [.ref C_InvalidText, .ref C_InvalidCommand, .ref C_NoPath, .ref C_UnknownName, .ref C_UnknownTag, .ref C_WrongCount, .ref C_WrongSort, .ref C_WrongPlace, .ref C_WrongArguments, .ref C_NoCertificate, .ref C_NoRuns, .ref C_NotPending, .ref C_NotFinished, .ref C_NotPlain, .ref C_NotSimple, .ref C_NoMaker, .ref C_NameTaken, .ref C_UnknownFunction, .ref C_UnknownItem, .ref C_RoundCallsError, .type "ValueError", .type "KeyError"] [false, false, false, false, false, true, false, false, false, false, false, false, false, false, false, false, false, false, false, true, true, false]
  r_WrongSort : KD.KitR K C_WrongSort [.ref C_InvalidText, .ref C_InvalidCommand, .ref C_NoPath, .ref C_UnknownName, .ref C_UnknownTag, .ref C_WrongCount, .ref C_WrongSort, .ref C_WrongPlace, .ref C_WrongArguments, .ref C_NoCertificate, .ref C_NoRuns, .ref C_NotPending, .ref C_NotFinished, .ref C_NotPlain, .ref C_NotSimple, .ref C_NoMaker, .ref C_NameTaken, .ref C_UnknownFunction, .ref C_UnknownItem, .ref C_RoundCallsError, .type "ValueError", .type "KeyError"] [false, false, false, false, false, false, true, false, false, false, false, false, false, false, false, false, false, false, false, true, true, false]
  r_WrongPlace : KD.KitR K C_WrongPlace [.ref C_InvalidText, .ref C_InvalidCommand, .ref C_NoPath, .ref C_UnknownName, .ref C_UnknownTag, .ref C_WrongCount, .ref C_WrongSort, .ref C_WrongPlace, .ref C_WrongArguments, .ref C_NoCertificate, .ref C_NoRuns, .ref C_NotPending, .ref C_NotFinished, .ref C_NotPlain, .ref C_NotSimple, .ref C_NoMaker, .ref C_NameTaken, .ref C_UnknownFunction, .ref C_UnknownItem, .ref C_RoundCallsError, .type "ValueError", .type "KeyError"] [false, false, false, false, false, false, false, true, false, false, false, false, false, false, false, false, false, false, false, true, true, false]
  r_WrongArguments : KD.KitR K C_WrongArguments [.ref C_InvalidText, .ref C_InvalidCommand, .ref C_NoPath, .ref C_UnknownName, .ref C_UnknownTag, .ref C_WrongCount, .ref C_WrongSort, .ref C_WrongPlace, .ref C_WrongArguments, .ref C_NoCertificate, .ref C_NoRuns, .ref C_NotPending, .ref C_NotFinished, .ref C_NotPlain, .ref C_NotSimple, .ref C_NoMaker, .ref C_NameTaken, .ref C_UnknownFunction, .ref C_UnknownItem, .ref C_RoundCallsError, .type "ValueError", .type "KeyError"] [false, false, false, false, false, false, false, false, true, false, false, false, false, false, false, false, false, false, false, true, true, false]
  r_NoCertificate : KD.KitR K C_NoCertificate [.ref C_InvalidText, .ref C_InvalidCommand, .ref C_NoPath, .ref C_UnknownName, .ref C_UnknownTag, .ref C_WrongCount, .ref C_WrongSort, .ref C_WrongPlace, .ref C_WrongArguments, .ref C_NoCertificate, .ref C_NoRuns, .ref C_NotPending, .ref C_NotFinished, .ref C_NotPlain, .ref C_NotSimple, .ref C_NoMaker, .ref C_NameTaken, .ref C_UnknownFunction, .ref C_UnknownItem, .ref C_RoundCallsError, .type "ValueError", .type "KeyError"] [false, false, false, false, false, false, false, false, false, true, false, false, false, false, false, false, false, false, false, true, true, false]
  r_NoRuns : KD.KitR K C_NoRuns [.ref C_InvalidText, .ref C_InvalidCommand, .ref C_NoPath, .ref C_UnknownName, .ref C_UnknownTag, .ref C_WrongCount, .ref C_WrongSort, .ref C_WrongPlace, .ref C_WrongArguments, .ref C_NoCertificate, .ref C_NoRuns, .ref C_NotPending, .ref C_NotFinished, .ref C_NotPlain, .ref C_NotSimple, .ref C_NoMaker, .ref C_NameTaken, .ref C_UnknownFunction, .ref C_UnknownItem, .ref C_RoundCallsError, .type "ValueError", .type "KeyError"] [false, false, false, false, false, false, false, false, false, false, true, false, false, false, false, false, false, false, false, true, true, false]
  r_NotPending : KD.KitR K C_NotPending [.ref C_InvalidText, .ref C_InvalidCommand, .ref C_NoPath, .ref C_UnknownName, .ref C_UnknownTag, .ref C_WrongCount, .ref C_WrongSort, .ref C_WrongPlace, .ref C_WrongArguments, .ref C_NoCertificate, .ref C_NoRuns, .ref C_NotPending, .ref C_NotFinished, .ref C_NotPlain, .ref C_NotSimple, .ref C_NoMaker, .ref C_NameTaken, .ref C_UnknownFunction, .ref C_UnknownItem, .ref C_RoundCallsError, .type "ValueError", .type "KeyError"] [false, false, false, false, false, false, false, false, false, false, false, true, false, false, false, false, false, false, false, true, true, false]
  r_NotFinished : KD.KitR K C_NotFinished [.ref C_InvalidText, .ref C_InvalidCommand, .ref C_NoPath, .ref C_UnknownName, .ref C_UnknownTag, .ref C_WrongCount, .ref C_WrongSort, .ref C_WrongPlace, .ref C_WrongArguments, .ref C_NoCertificate, .ref C_NoRuns, .ref C_NotPending, .ref C_NotFinished, .ref C_NotPlain, .ref C_NotSimple, .ref C_NoMaker, .ref C_NameTaken, .ref C_UnknownFunction, .ref C_UnknownItem, .ref C_RoundCallsError, .type "ValueError", .type "KeyError"] [false, false, false, false, false, false, false, false, false, false, false, false, true, false, false, false, false, false, false, true, true, false]
  r_NotPlain : KD.KitR K C_NotPlain [.ref C_InvalidText, .ref C_InvalidCommand, .ref C_NoPath, .ref C_UnknownName, .ref C_UnknownTag, .ref C_WrongCount, .ref C_WrongSort, .ref C_WrongPlace, .ref C_WrongArguments, .ref C_NoCertificate, .ref C_NoRuns, .ref C_NotPending, .ref C_NotFinished, .ref C_NotPlain, .ref C_NotSimple, .ref C_NoMaker, .ref C_NameTaken, .ref C_UnknownFunction, .ref C_UnknownItem, .ref C_RoundCallsError, .type "ValueError", .type "KeyError"] [false, false, false, false, false, false, false, false, false, false, false, false, false, true, false, false, false, false, false, true, true, false]
  r_NotSimple : KD.KitR K C_NotSimple [.ref C_InvalidText, .ref C_InvalidCommand, .ref C_NoPath, .ref C_UnknownName, .ref C_UnknownTag, .ref C_WrongCount, .ref C_WrongSort, .ref C_WrongPlace, .ref C_WrongArguments, .ref C_NoCertificate, .ref C_NoRuns, .ref C_NotPending, .ref C_NotFinished, .ref C_NotPlain, .ref C_NotSimple, .ref C_NoMaker, .ref C_NameTaken, .ref C_UnknownFunction, .ref C_UnknownItem, .ref C_RoundCallsError, .type "ValueError", .type "KeyError"] [false, false, false, false, false, false, false, false, false, false, false, false, false, false, true, false, false, false, false, true, true, false]
  r_NoMaker : KD.KitR K C_NoMaker [.ref C_InvalidText, .ref C_InvalidCommand, .ref C_NoPath, .ref C_UnknownName, .ref C_UnknownTag, .ref C_WrongCount, .ref C_WrongSort, .ref C_WrongPlace, .ref C_WrongArguments, .ref C_NoCertificate, .ref C_NoRuns, .ref C_NotPending, .ref C_NotFinished, .ref C_NotPlain, .ref C_NotSimple, .ref C_NoMaker, .ref C_NameTaken, .ref C_UnknownFunction, .ref C_UnknownItem, .ref C_RoundCallsError, .type "ValueError", .type "KeyError"] [false, false, false, false, false, false, false, false, false, false, false, false, false, false, false, true, false, false, false, true, true, false]
  r_NameTaken : KD.KitR K C_NameTaken [.ref C_InvalidText, .ref C_InvalidCommand, .ref C_NoPath, .ref C_UnknownName, .ref C_UnknownTag, .ref C_WrongCount, .ref C_WrongSort, .ref C_WrongPlace, .ref C_WrongArguments, .ref C_NoCertificate, .ref C_NoRuns, .ref C_NotPending, .ref C_NotFinished, .ref C_NotPlain, .ref C_NotSimple, .ref C_NoMaker, .ref C_NameTaken, .ref C_UnknownFunction, .ref C_UnknownItem, .ref C_RoundCallsError, .type "ValueError", .type "KeyError"] [false, false, false, false, false, false, false, false, false, false, false, false, false, false, false, false, true, false, false, true, true, false]
  r_UnknownFunction : KD.KitR K C_UnknownFunction [.ref C_InvalidText, .ref C_InvalidCommand, .ref C_NoPath, .ref C_UnknownName, .ref C_UnknownTag, .ref C_WrongCount, .ref C_WrongSort, .ref C_WrongPlace, .ref C_WrongArguments, .ref C_NoCertificate, .ref C_NoRuns, .ref C_NotPending, .ref C_NotFinished, .ref C_NotPlain, .ref C_NotSimple, .ref C_NoMaker, .ref C_NameTaken, .ref C_UnknownFunction, .ref C_UnknownItem, .ref C_RoundCallsError, .type "ValueError", .type "KeyError"] [false, false, false, false, false, false, false, false, false, false, false, false, false, false, false, false, false, true, false, false, false, true]
  r_UnknownItem : KD.KitR K C_UnknownItem [.ref C_InvalidText, .ref C_InvalidCommand, .ref C_NoPath, .ref C_UnknownName, .ref C_UnknownTag, .ref C_WrongCount, .ref C_WrongSort, .ref C_WrongPlace, .ref C_WrongArguments, .ref C_NoCertificate, .ref C_NoRuns, .ref C_NotPending, .ref C_NotFinished, .ref C_NotPlain, .ref C_NotSimple, .ref C_NoMaker, .ref C_NameTaken, .ref C_UnknownFunction, .ref C_UnknownItem, .ref C_RoundCallsError, .type "ValueError", .type "KeyError"] [false, false, false, false, false, false, false, false, false, false, false, false, false, false, false, false, false, false, true, false, false, true]
  r_RoundCallsError : KD.KitR K C_RoundCallsError [.ref C_InvalidText, .ref C_InvalidCommand, .ref C_NoPath, .ref C_UnknownName, .ref C_UnknownTag, .ref C_WrongCount, .ref C_WrongSort, .ref C_WrongPlace, .ref C_WrongArguments, .ref C_NoCertificate, .ref C_NoRuns, .ref C_NotPending, .ref C_NotFinished, .ref C_NotPlain, .ref C_NotSimple, .ref C_NoMaker, .ref C_NameTaken, .ref C_UnknownFunction, .ref C_UnknownItem, .ref C_RoundCallsError, .type "ValueError", .type "KeyError"] [false, false, false, false, false, false, false, false, false, false, false, false, false, false, false, false, false, false, false, true, true, false]
  m_isinstance : mg "isinstance" = none
  m_len : mg "len" = none
  m_range : mg "range" = none
  m_repr : mg "repr" = none
  m_list : mg "list" = none
  m_enumerate : mg "enumerate" = none
  m_zip : mg "zip" = none
  m_ValueError : mg "ValueError" = none
  m_KeyError : mg "KeyError" = none
section
variable {K : PySem.W.Frag} {mg : Str → Option Value} (T : Txt K mg)
include T
theorem Txt.b_NoPath___init__ : Binds K T.d_NoPath___init__ ["self", "path"] [] :=
  T.F_NoPath___init__.binds fun _ _ _ _ _ _ us hl => match us, hl with | [_, _], _ => rfl
theorem Txt.b_UnknownName___init__ : Binds K T.d_UnknownName___init__ ["self", "path"] [] :=
  T.F_UnknownName___init__.binds fun _ _ _ _ _ _ us hl => match us, hl with | [_, _], _ => rfl
theorem Txt.b_UnknownTag___init__ : Binds K T.d_UnknownTag___init__ ["self", "path"] [] :=
  T.F_UnknownTag___init__.binds fun _ _ _ _ _ _ us hl => match us, hl with | [_, _], _ => rfl
theorem Txt.b_WrongCount___init__ : Binds K T.d_WrongCount___init__ ["self", "path"] [] :=
  T.F_WrongCount___init__.binds fun _ _ _ _ _ _ us hl => match us, hl with | [_, _], _ => rfl
theorem Txt.b_WrongSort___init__ : Binds K T.d_WrongSort___init__ ["self", "path"] [] :=
  T.F_WrongSort___init__.binds fun _ _ _ _ _ _ us hl => match us, hl with | [_, _], _ => rfl
theorem Txt.b_WrongPlace___init__ : Binds K T.d_WrongPlace___init__ ["self", "path"] [] :=
  T.F_WrongPlace___init__.binds fun _ _ _ _ _ _ us hl => match us, hl with | [_, _], _ => rfl
theorem Txt.b_WrongArguments___init__ : Binds K T.d_WrongArguments___init__ ["self", "count"] [] :=
  T.F_WrongArguments___init__.binds fun _ _ _ _ _ _ us hl => match us, hl with | [_, _], _ => rfl
theorem Txt.b_NoCertificate___init__ : Binds K T.d_NoCertificate___init__ ["self", "name"] [] :=
  T.F_NoCertificate___init__.binds fun _ _ _ _ _ _ us hl => match us, hl with | [_, _], _ => rfl
theorem Txt.b_NoRuns___init__ : Binds K T.d_NoRuns___init__ ["self", "name"] [] :=
  T.F_NoRuns___init__.binds fun _ _ _ _ _ _ us hl => match us, hl with | [_, _], _ => rfl
theorem Txt.b_NotPending___init__ : Binds K T.d_NotPending___init__ ["self", "call"] [] :=
  T.F_NotPending___init__.binds fun _ _ _ _ _ _ us hl => match us, hl with | [_, _], _ => rfl
theorem Txt.b_NotPlain___init__ : Binds K T.d_NotPlain___init__ ["self", "name"] [] :=
  T.F_NotPlain___init__.binds fun _ _ _ _ _ _ us hl => match us, hl with | [_, _], _ => rfl
theorem Txt.b_NotSimple___init__ : Binds K T.d_NotSimple___init__ ["self", "name"] [] :=
  T.F_NotSimple___init__.binds fun _ _ _ _ _ _ us hl => match us, hl with | [_, _], _ => rfl
theorem Txt.b_NoMaker___init__ : Binds K T.d_NoMaker___init__ ["self", "name"] [] :=
  T.F_NoMaker___init__.binds fun _ _ _ _ _ _ us hl => match us, hl with | [_, _], _ => rfl
theorem Txt.b_NameTaken___init__ : Binds K T.d_NameTaken___init__ ["self", "name"] [] :=
  T.F_NameTaken___init__.binds fun _ _ _ _ _ _ us hl => match us, hl with | [_, _], _ => rfl
theorem Txt.b_UnknownFunction___init__ : Binds K T.d_UnknownFunction___init__ ["self", "name"] [] :=
  T.F_UnknownFunction___init__.binds fun _ _ _ _ _ _ us hl => match us, hl with | [_, _], _ => rfl
theorem Txt.b_UnknownItem___init__ : Binds K T.d_UnknownItem___init__ ["self", "name"] [] :=
  T.F_UnknownItem___init__.binds fun _ _ _ _ _ _ us hl => match us, hl with | [_, _], _ => rfl
theorem Txt.b__law_deck : Binds K T.d__law_deck ["_law_script"] [] :=
  T.F__law_deck.binds fun _ _ _ _ _ _ us hl => match us, hl with | [_], _ => rfl
theorem Txt.b__law_draw : Binds K T.d__law_draw ["_law_deck_here", "_law_limit"] [] :=
  T.F__law_draw.binds fun _ _ _ _ _ _ us hl => match us, hl with | [_, _], _ => rfl
theorem Txt.b__law_pick : Binds K T.d__law_pick ["_law_deck_here", "_law_items"] [] :=
  T.F__law_pick.binds fun _ _ _ _ _ _ us hl => match us, hl with | [_, _], _ => rfl
theorem Txt.b__law_odd : Binds K T.d__law_odd ["_law_deck_here"] [] :=
  T.F__law_odd.binds fun _ _ _ _ _ _ us hl => match us, hl with | [_], _ => rfl
theorem Txt.b__law_made : Binds K T.d__law_made ["_law_it"] [] :=
  T.F__law_made.binds fun _ _ _ _ _ _ us hl => match us, hl with | [_], _ => rfl
theorem Txt.b__law_named : Binds K T.d__law_named ["_law_it"] [] :=
  T.F__law_named.binds fun _ _ _ _ _ _ us hl => match us, hl with | [_], _ => rfl
theorem Txt.b__law_carried : Binds K T.d__law_carried ["_law_e", "_law_word"] [] :=
  T.F__law_carried.binds fun _ _ _ _ _ _ us hl => match us, hl with | [_, _], _ => rfl
theorem Txt.b__law_kinds : Binds K T.d__law_kinds ["_law_e"] [] :=
  T.F__law_kinds.binds fun _ _ _ _ _ _ us hl => match us, hl with | [_], _ => rfl
theorem Txt.b__law_right : Binds K T.d__law_right ["_law_it"] [] :=
  T.F__law_right.binds fun _ _ _ _ _ _ us hl => match us, hl with | [_], _ => rfl
theorem Txt.b_law : Binds K T.d_law ["_law_script"] [] :=
  T.F_law.binds fun _ _ _ _ _ _ us hl => match us, hl with | [_], _ => rfl
end
end L86
set_option Elab.async false
set_option linter.all false
set_option maxRecDepth 100000
set_option maxHeartbeats 1000000
namespace L86
open PySem PySem.Spec PyProof.Rows L2 KD
section
variable {P : Program} {w : World} {K : PySem.W.Frag} {mg : Str → Option Value} {base : Heap}
/-! ### each error's __init__ -/
theorem ok_NoPath (T : Txt K mg) : FnOk P w K mg base CX0 1 T.a_NoPath___init__ T.d_NoPath___init__ ["self", "path"] (spErrV T.C_NoPath "path") := by
  refine T.F_NoPath___init__.ok sc_NoPath___init__ (fun vs H Q E h => ?_) fun cdv A outer s0 H vs Q E hr h => ?_
  · obtain ⟨a, y, rfl, _⟩ := h
    rfl
  obtain ⟨a, y, rfl, ha, q⟩ := h
  exact ⟨_, pss_one (ps_stE T.E_NoPath (pv 0) (pv 1)), y, rfl, .ref a, rfl, a, rfl, ha, fun dx h1 h2 => q dx h1 h2⟩
theorem kbi_NoPath (T : Txt K mg) : ∀ (s : Shared) (self u : Value), BindsTo s T.d_NoPath___init__ ⟨[self], [("path", u)]⟩ [("self", self), ("path", u)] := fun s self u => by
  obtain ⟨oc, od, kV, doc, pm, an, cdv, ct, osl, e, _, _⟩ := T.F_NoPath___init__.ex
  rw [e]
  exact .of_eq rfl
theorem ok_UnknownName (T : Txt K mg) : FnOk P w K mg base CX0 1 T.a_UnknownName___init__ T.d_UnknownName___init__ ["self", "path"] (spErrV T.C_UnknownName "path") := by
  refine T.F_UnknownName___init__.ok sc_UnknownName___init__ (fun vs H Q E h => ?_) fun cdv A outer s0 H vs Q E hr h => ?_
  · obtain ⟨a, y, rfl, _⟩ := h
    rfl
  obtain ⟨a, y, rfl, ha, q⟩ := h
  exact ⟨_, pss_one (ps_stE T.E_UnknownName (pv 0) (pv 1)), y, rfl, .ref a, rfl, a, rfl, ha, fun dx h1 h2 => q dx h1 h2⟩
theorem kbi_UnknownName (T : Txt K mg) : ∀ (s : Shared) (self u : Value), BindsTo s T.d_UnknownName___init__ ⟨[self], [("path", u)]⟩ [("self", self), ("path", u)] := fun s self u => by
  obtain ⟨oc, od, kV, doc, pm, an, cdv, ct, osl, e, _, _⟩ := T.F_UnknownName___init__.ex
  rw [e]
  exact .of_eq rfl
theorem ok_UnknownTag (T : Txt K mg) : FnOk P w K mg base CX0 1 T.a_UnknownTag___init__ T.d_UnknownTag___init__ ["self", "path"] (spErrV T.C_UnknownTag "path") := by
  refine T.F_UnknownTag___init__.ok sc_UnknownTag___init__ (fun vs H Q E h => ?_) fun cdv A outer s0 H vs Q E hr h => ?_
  · obtain ⟨a, y, rfl, _⟩ := h
    rfl
  obtain ⟨a, y, rfl, ha, q⟩ := h
  exact ⟨_, pss_one (ps_stE T.E_UnknownTag (pv 0) (pv 1)), y, rfl, .ref a, rfl, a, rfl, ha, fun dx h1 h2 => q dx h1 h2⟩
theorem kbi_UnknownTag (T : Txt K mg) : ∀ (s : Shared) (self u : Value), BindsTo s T.d_UnknownTag___init__ ⟨[self], [("path", u)]⟩ [("self", self), ("path", u)] := fun s self u => by
  obtain ⟨oc, od, kV, doc, pm, an, cdv, ct, osl, e, _, _⟩ := T.F_UnknownTag___init__.ex
  rw [e]
  exact .of_eq rfl
theorem ok_WrongCount (T : Txt K mg) : FnOk P w K mg base CX0 1 T.a_WrongCount___init__ T.d_WrongCount___init__ ["self", "path"] (spErrV T.C_WrongCount "path") := by
  refine T.F_WrongCount___init__.ok sc_WrongCount___init__ (fun vs H Q E h => ?_) fun cdv A outer s0 H vs Q E hr h => ?_
  · obtain ⟨a, y, rfl, _⟩ := h
    rfl
  obtain ⟨a, y, rfl, ha, q⟩ := h
  exact ⟨_, pss_one (ps_stE T.E_WrongCount (pv 0) (pv 1)), y, rfl, .ref a, rfl, a, rfl, ha, fun dx h1 h2 => q dx h1 h2⟩
theorem kbi_WrongCount (T : Txt K mg) : ∀ (s : Shared) (self u : Value), BindsTo s T.d_WrongCount___init__ ⟨[self], [("path", u)]⟩ [("self", self), ("path", u)] := fun s self u => by
  obtain ⟨oc, od, kV, doc, pm, an, cdv, ct, osl, e, _, _⟩ := T.F_WrongCount___init__.ex
  rw [e]
  exact .of_eq rfl
theorem ok_WrongSort (T : Txt K mg) : FnOk P w K mg base CX0 1 T.a_WrongSort___init__ T.d_WrongSort___init__ ["self", "path"] (spErrV T.C_WrongSort "path") := by
  refine T.F_WrongSort___init__.ok sc_WrongSort___init__ (fun vs H Q E h => ?_) fun cdv A outer s0 H vs Q E hr h => ?_
  · obtain ⟨a, y, rfl, _⟩ := h
    rfl
  obtain ⟨a, y, rfl, ha, q⟩ := h
  exact ⟨_, pss_one (ps_stE T.E_WrongSort (pv 0) (pv 1)), y, rfl, .ref a, rfl, a, rfl, ha, fun dx h1 h2 => q dx h1 h2⟩
theorem kbi_WrongSort (T : Txt K mg) : ∀ (s : Shared) (self u : Value), BindsTo s T.d_WrongSort___init__ ⟨[self], [("path", u)]⟩ [("self", self), ("path", u)] := fun s self u => by
  obtain ⟨oc, od, kV, doc, pm, an, cdv, ct, osl, e, _, _⟩ := T.F_WrongSort___init__.ex
  rw [e]
  exact .of_eq rfl
theorem ok_WrongPlace (T : Txt K mg) : FnOk P w K mg base CX0 1 T.a_WrongPlace___init__ T.d_WrongPlace___init__ ["self", "path"] (spErrV T.C_WrongPlace "path") := by
  refine T.F_WrongPlace___init__.ok sc_WrongPlace___init__ (fun vs H Q E h => ?_) fun cdv A outer s0 H vs Q E hr h => ?_
  · obtain ⟨a, y, rfl, _⟩ := h
    rfl
  obtain ⟨a, y, rfl, ha, q⟩ := h
  exact ⟨_, pss_one (ps_stE T.E_WrongPlace (pv 0) (pv 1)), y, rfl, .ref a, rfl, a, rfl, ha, fun dx h1 h2 => q dx h1 h2⟩
theorem kbi_WrongPlace (T : Txt K mg) : ∀ (s : Shared) (self u : Value), BindsTo s T.d_WrongPlace___init__ ⟨[self], [("path", u)]⟩ [("self", self), ("path", u)] := fun s self u => by
  obtain ⟨oc, od, kV, doc, pm, an, cdv, ct, osl, e, _, _⟩ := T.F_WrongPlace___init__.ex
  rw [e]
  exact .of_eq rfl
theorem ok_WrongArguments (T : Txt K mg) : FnOk P w K mg base CX0 1 T.a_WrongArguments___init__ T.d_WrongArguments___init__ ["self", "count"] (spErrV T.C_WrongArguments "count") := by
  refine T.F_WrongArguments___init__.ok sc_WrongArguments___init__ (fun vs H Q E h => ?_) fun cdv A outer s0 H vs Q E hr h => ?_
  · obtain ⟨a, y, rfl, _⟩ := h
    rfl
  obtain ⟨a, y, rfl, ha, q⟩ := h
  exact ⟨_, pss_one (ps_stE T.E_WrongArguments (pv 0) (pv 1)), y, rfl, .ref a, rfl, a, rfl, ha, fun dx h1 h2 => q dx h1 h2⟩
theorem kbi_WrongArguments (T : Txt K mg) : ∀ (s : Shared) (self u : Value), BindsTo s T.d_WrongArguments___init__ ⟨[self], [("count", u)]⟩ [("self", self), ("count", u)] := fun s self u => by
  obtain ⟨oc, od, kV, doc, pm, an, cdv, ct, osl, e, _, _⟩ := T.F_WrongArguments___init__.ex
  rw [e]
  exact .of_eq rfl
theorem ok_NoCertificate (T : Txt K mg) : FnOk P w K mg base CX0 1 T.a_NoCertificate___init__ T.d_NoCertificate___init__ ["self", "name"] (spErrV T.C_NoCertificate "name") := by
  refine T.F_NoCertificate___init__.ok sc_NoCertificate___init__ (fun vs H Q E h => ?_) fun cdv A outer s0 H vs Q E hr h => ?_
  · obtain ⟨a, y, rfl, _⟩ := h
    rfl
  obtain ⟨a, y, rfl, ha, q⟩ := h
  exact ⟨_, pss_one (ps_stE T.E_NoCertificate (pv 0) (pv 1)), y, rfl, .ref a, rfl, a, rfl, ha, fun dx h1 h2 => q dx h1 h2⟩
theorem kbi_NoCertificate (T : Txt K mg) : ∀ (s : Shared) (self u : Value), BindsTo s T.d_NoCertificate___init__ ⟨[self], [("name", u)]⟩ [("self", self), ("name", u)] := fun s self u => by
  obtain ⟨oc, od, kV, doc, pm, an, cdv, ct, osl, e, _, _⟩ := T.F_NoCertificate___init__.ex
  rw [e]
  exact .of_eq rfl
theorem ok_NoRuns (T : Txt K mg) : FnOk P w K mg base CX0 1 T.a_NoRuns___init__ T.d_NoRuns___init__ ["self", "name"] (spErrV T.C_NoRuns "name") := by
  refine T.F_NoRuns___init__.ok sc_NoRuns___init__ (fun vs H Q E h => ?_) fun cdv A outer s0 H vs Q E hr h => ?_
  · obtain ⟨a, y, rfl, _⟩ := h
    rfl
  obtain ⟨a, y, rfl, ha, q⟩ := h
  exact ⟨_, pss_one (ps_stE T.E_NoRuns (pv 0) (pv 1)), y, rfl, .ref a, rfl, a, rfl, ha, fun dx h1 h2 => q dx h1 h2⟩
theorem kbi_NoRuns (T : Txt K mg) : ∀ (s : Shared) (self u : Value), BindsTo s T.d_NoRuns___init__ ⟨[self], [("name", u)]⟩ [("self", self), ("name", u)] := fun s self u => by
  obtain ⟨oc, od, kV, doc, pm, an, cdv, ct, osl, e, _, _⟩ := T.F_NoRuns___init__.ex
  rw [e]
  exact .of_eq rfl
theorem ok_NotPending (T : Txt K mg) : FnOk P w K mg base CX0 1 T.a_NotPending___init__ T.d_NotPending___init__ ["self", "call"] (spErrV T.C_NotPending "call") := by
  refine T.F_NotPending___init__.ok sc_NotPending___init__ (fun vs H Q E h => ?_) fun cdv A outer s0 H vs Q E hr h => ?_
  · obtain ⟨a, y, rfl, _⟩ := h
    rfl
  obtain ⟨a, y, rfl, ha, q⟩ := h
  exact ⟨_, pss_one (ps_stE T.E_NotPending (pv 0) (pv 1)), y, rfl, .ref a, rfl, a, rfl, ha, fun dx h1 h2 => q dx h1 h2⟩
theorem kbi_NotPending (T : Txt K mg) : ∀ (s : Shared) (self u : Value), BindsTo s T.d_NotPending___init__ ⟨[self], [("call", u)]⟩ [("self", self), ("call", u)] := fun s self u => by
  obtain ⟨oc, od, kV, doc, pm, an, cdv, ct, osl, e, _, _⟩ := T.F_NotPending___init__.ex
  rw [e]
  exact .of_eq rfl
theorem ok_NotPlain (T : Txt K mg) : FnOk P w K mg base CX0 1 T.a_NotPlain___init__ T.d_NotPlain___init__ ["self", "name"] (spErrV T.C_NotPlain "name") := by
  refine T.F_NotPlain___init__.ok sc_NotPlain___init__ (fun vs H Q E h => ?_) fun cdv A outer s0 H vs Q E hr h => ?_
  · obtain ⟨a, y, rfl, _⟩ := h
    rfl
  obtain ⟨a, y, rfl, ha, q⟩ := h
  exact ⟨_, pss_one (ps_stE T.E_NotPlain (pv 0) (pv 1)), y, rfl, .ref a, rfl, a, rfl, ha, fun dx h1 h2 => q dx h1 h2⟩
theorem kbi_NotPlain (T : Txt K mg) : ∀ (s : Shared) (self u : Value), BindsTo s T.d_NotPlain___init__ ⟨[self], [("name", u)]⟩ [("self", self), ("name", u)] := fun s self u => by
  obtain ⟨oc, od, kV, doc, pm, an, cdv, ct, osl, e, _, _⟩ := T.F_NotPlain___init__.ex
  rw [e]
  exact .of_eq rfl
theorem ok_NotSimple (T : Txt K mg) : FnOk P w K mg base CX0 1 T.a_NotSimple___init__ T.d_NotSimple___init__ ["self", "name"] (spErrV T.C_NotSimple "name") := by
  refine T.F_NotSimple___init__.ok sc_NotSimple___init__ (fun vs H Q E h => ?_) fun cdv A outer s0 H vs Q E hr h => ?_
  · obtain ⟨a, y, rfl, _⟩ := h
    rfl
  obtain ⟨a, y, rfl, ha, q⟩ := h
  exact ⟨_, pss_one (ps_stE T.E_NotSimple (pv 0) (pv 1)), y, rfl, .ref a, rfl, a, rfl, ha, fun dx h1 h2 => q dx h1 h2⟩
theorem kbi_NotSimple (T : Txt K mg) : ∀ (s : Shared) (self u : Value), BindsTo s T.d_NotSimple___init__ ⟨[self], [("name", u)]⟩ [("self", self), ("name", u)] := fun s self u => by
  obtain ⟨oc, od, kV, doc, pm, an, cdv, ct, osl, e, _, _⟩ := T.F_NotSimple___init__.ex
  rw [e]
  exact .of_eq rfl
theorem ok_NoMaker (T : Txt K mg) : FnOk P w K mg base CX0 1 T.a_NoMaker___init__ T.d_NoMaker___init__ ["self", "name"] (spErrV T.C_NoMaker "name") := by
  refine T.F_NoMaker___init__.ok sc_NoMaker___init__ (fun vs H Q E h => ?_) fun cdv A outer s0 H vs Q E hr h => ?_
  · obtain ⟨a, y, rfl, _⟩ := h
    rfl
  obtain ⟨a, y, rfl, ha, q⟩ := h
  exact ⟨_, pss_one (ps_stE T.E_NoMaker (pv 0) (pv 1)), y, rfl, .ref a, rfl, a, rfl, ha, fun dx h1 h2 => q dx h1 h2⟩
theorem kbi_NoMaker (T : Txt K mg) : ∀ (s : Shared) (self u : Value), BindsTo s T.d_NoMaker___init__ ⟨[self], [("name", u)]⟩ [("self", self), ("name", u)] := fun s self u => by
  obtain ⟨oc, od, kV, doc, pm, an, cdv, ct, osl, e, _, _⟩ := T.F_NoMaker___init__.ex
  rw [e]
  exact .of_eq rfl
theorem ok_NameTaken (T : Txt K mg) : FnOk P w K mg base CX0 1 T.a_NameTaken___init__ T.d_NameTaken___init__ ["self", "name"] (spErrV T.C_NameTaken "name") := by
  refine T.F_NameTaken___init__.ok sc_NameTaken___init__ (fun vs H Q E h => ?_) fun cdv A outer s0 H vs Q E hr h => ?_
  · obtain ⟨a, y, rfl, _⟩ := h
    rfl
  obtain ⟨a, y, rfl, ha, q⟩ := h
  exact ⟨_, pss_one (ps_stE T.E_NameTaken (pv 0) (pv 1)), y, rfl, .ref a, rfl, a, rfl, ha, fun dx h1 h2 => q dx h1 h2⟩
theorem kbi_NameTaken (T : Txt K mg) : ∀ (s : Shared) (self u : Value), BindsTo s T.d_NameTaken___init__ ⟨[self], [("name", u)]⟩ [("self", self), ("name", u)] := fun s self u => by
  obtain ⟨oc, od, kV, doc, pm, an, cdv, ct, osl, e, _, _⟩ := T.F_NameTaken___init__.ex
  rw [e]
  exact .of_eq rfl
theorem ok_UnknownFunction (T : Txt K mg) : FnOk P w K mg base CX0 1 T.a_UnknownFunction___init__ T.d_UnknownFunction___init__ ["self", "name"] (spErrV T.C_UnknownFunction "name") := by
  refine T.F_UnknownFunction___init__.ok sc_UnknownFunction___init__ (fun vs H Q E h => ?_) fun cdv A outer s0 H vs Q E hr h => ?_
  · obtain ⟨a, y, rfl, _⟩ := h
    rfl
  obtain ⟨a, y, rfl, ha, q⟩ := h
  exact ⟨_, pss_one (ps_stE T.E_UnknownFunction (pv 0) (pv 1)), y, rfl, .ref a, rfl, a, rfl, ha, fun dx h1 h2 => q dx h1 h2⟩
theorem kbi_UnknownFunction (T : Txt K mg) : ∀ (s : Shared) (self u : Value), BindsTo s T.d_UnknownFunction___init__ ⟨[self], [("name", u)]⟩ [("self", self), ("name", u)] := fun s self u => by
  obtain ⟨oc, od, kV, doc, pm, an, cdv, ct, osl, e, _, _⟩ := T.F_UnknownFunction___init__.ex
  rw [e]
  exact .of_eq rfl
theorem ok_UnknownItem (T : Txt K mg) : FnOk P w K mg base CX0 1 T.a_UnknownItem___init__ T.d_UnknownItem___init__ ["self", "name"] (spErrV T.C_UnknownItem "name") := by
  refine T.F_UnknownItem___init__.ok sc_UnknownItem___init__ (fun vs H Q E h => ?_) fun cdv A outer s0 H vs Q E hr h => ?_
  · obtain ⟨a, y, rfl, _⟩ := h
    rfl
  obtain ⟨a, y, rfl, ha, q⟩ := h
  exact ⟨_, pss_one (ps_stE T.E_UnknownItem (pv 0) (pv 1)), y, rfl, .ref a, rfl, a, rfl, ha, fun dx h1 h2 => q dx h1 h2⟩
theorem kbi_UnknownItem (T : Txt K mg) : ∀ (s : Shared) (self u : Value), BindsTo s T.d_UnknownItem___init__ ⟨[self], [("name", u)]⟩ [("self", self), ("name", u)] := fun s self u => by
  obtain ⟨oc, od, kV, doc, pm, an, cdv, ct, osl, e, _, _⟩ := T.F_UnknownItem___init__.ex
  rw [e]
  exact .of_eq rfl
end
end L86
set_option Elab.async false
set_option linter.all false
set_option maxRecDepth 100000
set_option maxHeartbeats 1000000
namespace L86
open PySem PySem.Spec PyProof.Rows L2 KD
section
variable {P : Program} {w : World} {K : PySem.W.Frag} {mg : Str → Option Value} {base : Heap}
/-! ### the draws -/
theorem ok__law_deck (T : Txt K mg) : FnG P w K mg base CX0 1 T.a__law_deck T.d__law_deck ["_law_script"] (spDeck K) := by
  refine okG T.F__law_deck sc__law_deck (fun vs H Q E h => h.1) fun cdv A out s H vs Q E hr hq h => ?_
  obtain ⟨hl, a, ns, G, rfl, _⟩ := id h
  refine ⟨_, (pss_cons (ps_par (i := 1) (j := 2) (by rfl) sc__law_deck.nd rfl rfl (by decide) rfl rfl (pa_cons (pe_callTy (call_listK K) (by rfl) T.m_list (by decide +kernel) (pa_cons (pe_slice (sl_listK K) (pv 0) po_none (po_some pe_int)) pa_nil)) (pa_cons pe_int pa_nil)) (by rfl))
    (pss_cons (ps_for PassesOwn.never rfl (pi_listK K (pv 1)) (pg_name (i := 3) sc__law_deck.nd rfl (.inl rfl))
    (pss_one (ps_set (i := 2) sc__law_deck.nd rfl (.inl rfl) (pe_op op_mod (pe_op op_add (pe_op op_add (pe_op op_mul (pv 2) pe_int) (pe_op op_mod (pv 3) pe_int)) pe_int) pe_int))))
    (pss_one (ps_ret (pe_lst (pa_cons (pe_revLK K (pv 1)) (pa_cons (pv 2) (pa_cons pe_int pa_nil)))))))), ?_⟩
  exact deck_read (E0 := E) (by decide) (by decide) (by decide) (by decide) h
theorem ok__law_draw (T : Txt K mg) : FnG P w K mg base CX0 1 T.a__law_draw T.d__law_draw ["_law_deck_here", "_law_limit"] spDraw := by
  refine okG T.F__law_draw sc__law_draw (fun vs H Q E h => h.1) fun cdv A out s H vs Q E hr hq h => ?_
  obtain ⟨hl, dk, cl, lim, G, m, rfl, _⟩ := id h
  have hu := hr.units
  refine ⟨_, (pss_cons (ps_asg (pe_op op_add (pe_ix (ix_listK K) (pv 0) pe_int (fun _ _ => rfl)) pe_int) (pg_sub (pv 0) pe_int set_list))
    (pss_cons (ps_set (i := 2) sc__law_draw.nd rfl (.inl rfl) (pe_ix (ix_listK K) (pv 0) pe_int (fun _ _ => rfl)))
    (pss_cons (ps_if (pt_cmpR (op_neDaK K hu) (pe_ix (ix_listK K) (pv 0) pe_int (fun _ _ => rfl)) (pe_lst pa_nil) (nomark _))
    (pss_cons (ps_set (i := 2) sc__law_draw.nd rfl (.inl rfl) (pe_bm0 PySem.F.plainAttrs_list PySem.F.slot_list_pop PySem.F.type_list_pop mt_pop (pe_ix (ix_listK K) (pv 0) pe_int (fun _ _ => rfl))))
    (pss_cons (ps_if (pt_cmpR op_ge (pv 2) (pe_op op_pow pe_int pe_int) (nomark _))
    (pss_cons (ps_expr (pe_bm PySem.F.plainAttrs_list PySem.F.slot_list_append PySem.F.type_list_append mt_append (pe_ix (ix_listK K) (pv 0) pe_int (fun _ _ => rfl)) (pa_cons (pe_op op_fdiv (pv 2) (pv 1)) pa_nil)))
    (pss_one (ps_ret (pe_op op_mod (pv 2) (pv 1)))))
    pss_nil)
    (pss_one (ps_set (i := 2) sc__law_draw.nd rfl (.inl rfl) (pe_op op_add (pv 2) (pe_ix (ix_listK K) (pv 0) pe_int (fun _ _ => rfl)))))))
    pss_nil)
    (pss_cons (ps_set (i := 3) sc__law_draw.nd rfl (.inl rfl) (pe_op op_mod (pe_op op_mul (pe_op op_add (pe_op op_add (pe_op op_mod (pv 2) pe_int) (pe_op op_mul (pe_op op_mul pe_int (pe_ix (ix_listK K) (pv 0) pe_int (fun _ _ => rfl))) (pe_ix (ix_listK K) (pv 0) pe_int (fun _ _ => rfl)))) pe_int) pe_int) pe_int))
    (pss_cons (ps_set (i := 3) sc__law_draw.nd rfl (.inl rfl) (pe_op op_mod (pe_op op_add (pe_op op_add (pe_op op_mul (pv 3) (pv 3)) (pe_op op_mul pe_int (pe_ix (ix_listK K) (pv 0) pe_int (fun _ _ => rfl)))) pe_int) pe_int))
    (pss_one (ps_ret (pe_op op_mod (pe_op op_fdiv (pe_op op_mod (pe_op op_add (pe_op op_mul (pv 3) (pv 3)) (pe_op op_mul pe_int (pv 3))) pe_int) pe_int) (pv 1))))))))), ?_⟩
  exact draw_read (E0 := E) (last1 (by decide) (by decide) (by decide) (by decide) (by decide) (by decide) (by decide) (by decide) (by decide)) h
theorem ok__law_pick (T : Txt K mg) : FnG P w K mg base CX0 2 T.a__law_pick T.d__law_pick ["_law_deck_here", "_law_items"] (spPickS K) := by
  have G__law_draw := ok__law_draw (P := P) (w := w) (base := base) T
  refine okG T.F__law_pick sc__law_pick (fun vs H Q E h => h.1) fun cdv A out s H vs Q E hr hq h => ?_
  obtain ⟨hl, dk, cl, a, d0, ds, G, m, rfl, _⟩ := id h
  refine ⟨_, (pss_one (ps_ret (pe_ix (ix_s2K K) (pv 1) (pe_g G__law_draw hr hq (by rfl) T.g__law_draw T.F__law_draw.kp T.b__law_draw .nil pass0 (pa_cons (pv 0) (pa_cons (pe_callB (call_lenK K) (by rfl) T.m_len PySem.boot_len (pa_cons (pv 1) pa_nil)) pa_nil))) (fun _ _ => rfl)))), ?_⟩
  exact pickS_read (E0 := E) h
end
end L86
set_option Elab.async false
set_option linter.all false
set_option maxRecDepth 100000
set_option maxHeartbeats 1000000
namespace L86
open PySem PySem.Spec PyProof.Rows L2 KD
section
variable {P : Program} {w : World} {K : PySem.W.Frag} {mg : Str → Option Value} {base : Heap}
/-! ### what an error may carry -/
section
variable {σ : L2.St} {F : Hp}
theorem e_disp1 {tk : TE} {s : Str} (h : EvE K σ F tk (.str s)) : EvE K σ F (tDisp [(tk, tC (.int 0))]) (.dict [(.str s, .int 0)]) := fun G H e1 e2 Q q => by
  intro p hp
  have gp := e2.fresh hp
  refine h G _ e1 (e2.tr (Ex.up hp)) _ fun v G1 H1 u1 dv => ?_
  cases dv
  have hp1 : H1 p = some (.dK []) := u1.m _ _ upd_same
  have g1p : G1 p = none := u1.n p (by rw [upd_same]; simp) gp
  refine ⟨hp1, [(.inr s, .int 0)], rfl, (show 1 ≤ 15 by decide), q (.ref p) (upd G1 p (.dK [(.inr s, .int 0)])) _ ⟨u1.g.tr (Ex.up g1p), fun b o e => ?_, fun b o e => ?_, fun b h1 h2 => ?_⟩ (.dic upd_same (.cons (.int 0) .nil))⟩
  · by_cases z : b = p
    · subst z; rw [upd_same] at e; cases e; exact upd_same
    · rw [upd_ne z] at e; rw [upd_ne z]; exact u1.h b o e
  · rw [upd_ne (ne_of_none e hp)]
    exact u1.m b o (by rw [upd_ne (ne_of_none e hp)]; exact e)
  · have z : b ≠ p := fun z => h1 (by rw [z]; exact hp)
    rw [upd_ne z]
    exact u1.n b (by rw [upd_ne z]; exact h1) h2
end
abbrev oddL : List PyData := [.str "cons", .str "", .str "a b", .tuple [], .tuple [.int 0], .tuple [.int 1, .int 0, .int 1, .int 0, .int 3], .int 0, .int 7, .int (-1), .int (10 ^ 39), .none, .bool true, .list [.int 0], .dict [(.str "a", .int 0)], .tuple [.str "f", .tuple []]]
abbrev oddM : List PyData := [.tuple [.str "some", .tuple [.tuple [.tuple [.str "cons", .tuple [.int 0, .int 0]]]]], .list [.str "x", .list [.str "y"]], .str (Txt.mul "x" 2000)]
theorem mulOkx : MulOk ("x" : Str) 2000 := by
  refine ⟨by decide, fun _ _ => by decide +kernel, fun _ _ => by decide +kernel⟩
def spOdd (K : PySem.W.Frag) : Sp := fun vs H Q _ => ∃ (dk cl : Addr) (G : Hp) (m : Nat), vs = [.ref dk] ∧ Ex G H ∧ Deck G H dk cl m ∧ m ≤ 999990000 ∧
  ∀ (v : V) (d : PyData) (G' H' : Hp), UpM dk cl G H G' H' → Deck G' H' dk cl (m + 1) → d ∈ oddL ++ oddM → Da K G' v d → Q v H'
theorem ok__law_odd (T : Txt K mg) : FnG P w K mg base CX0 3 T.a__law_odd T.d__law_odd ["_law_deck_here"] (spOdd K) := by
  have G__law_pick := ok__law_pick (P := P) (w := w) (base := base) T
  refine okG T.F__law_odd sc__law_odd (fun vs H Q E h => ?_) fun cdv A out s H vs Q E hr hq h => ?_
  · obtain ⟨_, _, _, _, rfl, _⟩ := h
    rfl
  obtain ⟨dk, cl, G, m, rfl, eg, hD, hm, q⟩ := h
  refine ⟨_, (pss_cons (ps_set (i := 1) sc__law_odd.nd rfl (.inl rfl) (pe_lst (pa_cons pe_str (pa_cons pe_str (pa_cons pe_str (pa_cons (pe_tup pa_nil) (pa_cons (pe_tup (pa_cons pe_int pa_nil)) (pa_cons (pe_tup (pa_cons pe_int (pa_cons pe_int (pa_cons pe_int (pa_cons pe_int (pa_cons pe_int pa_nil)))))) (pa_cons pe_int (pa_cons pe_int (pa_cons (pe_un un_neg pe_int) (pa_cons (pe_op op_pow pe_int pe_int) (pa_cons pe_non (pa_cons pe_bl (pa_cons (pe_lst (pa_cons pe_int pa_nil)) (pa_cons (pe_disp (pps_cons pe_str pe_int pps_nil) rfl rfl (by simp) (by decide)) (pa_cons (pe_tup (pa_cons pe_str (pa_cons (pe_tup pa_nil) pa_nil))) pa_nil)))))))))))))))))
    (pss_one (ps_ret (pe_g G__law_pick hr hq (by rfl) T.g__law_pick T.F__law_pick.kp T.b__law_pick .nil pass0 (pa_cons (pv 0) (pa_cons (pe_op op_cat (pv 1) (pe_lst (pa_cons (pe_tup (pa_cons pe_str (pa_cons (pe_tup (pa_cons (pe_tup (pa_cons (pe_tup (pa_cons pe_str (pa_cons (pe_tup (pa_cons pe_int (pa_cons pe_int pa_nil))) pa_nil))) pa_nil)) pa_nil)) pa_nil))) (pa_cons (pe_lst (pa_cons pe_str (pa_cons (pe_lst (pa_cons pe_str pa_nil)) pa_nil))) (pa_cons (pe_op op_mulS pe_str pe_int) pa_nil))))) pa_nil)))))), ?_⟩
  refine st_set (K := K) (σ := [some (V.ref dk), none]) (n_pure (d := .list oddL) (e_lst (a_cons e_str (a_cons e_str (a_cons e_str (a_cons (e_tup a_nil (show 0 ≤ 100000 by decide)) (a_cons (e_tup (a_cons e_int a_nil) (show 1 ≤ 100000 by decide)) (a_cons (e_tup (a_cons e_int (a_cons e_int (a_cons e_int (a_cons e_int (a_cons e_int a_nil))))) (show 5 ≤ 100000 by decide)) (a_cons e_int (a_cons e_int (a_cons (e_un e_int (z := .int (-1)) fun G H v e dv Q q => by cases dv; exact ⟨_, rfl, q _ G H (Up.rf e) (.int _)⟩) (a_cons (e_op e_int e_int (o_I ⟨by decide, by decide, by decide⟩ fun _ => .int _)) (a_cons e_non (a_cons e_bl (a_cons (e_lst (a_cons e_int a_nil) (show 1 ≤ 100000 by decide)) (a_cons (e_disp1 e_str) (a_cons (e_tup (a_cons e_str (a_cons (e_tup a_nil (show 0 ≤ 100000 by decide)) a_nil)) (show 2 ≤ 100000 by decide)) a_nil))))))))))))))) (show 15 ≤ 100000 by decide))) eg hD fun v1 d1 G1 H1 u1 hD1 p1 x1 => ?_
  subst p1
  refine st_ret (K := K) (σ := [some (V.ref dk), some v1]) (n_pickS (i0 := 0) (d0 := .list (oddL ++ oddM)) (ds := oddL ++ oddM) rfl (e_op (e_var (i := 1) rfl x1) (e_lst (a_cons (e_tup (a_cons e_str (a_cons (e_tup (a_cons (e_tup (a_cons (e_tup (a_cons e_str (a_cons (e_tup (a_cons e_int (a_cons e_int a_nil)) (show 2 ≤ 100000 by decide)) a_nil)) (show 2 ≤ 100000 by decide)) a_nil) (show 1 ≤ 100000 by decide)) a_nil) (show 1 ≤ 100000 by decide)) a_nil)) (show 2 ≤ 100000 by decide)) (a_cons (e_lst (a_cons e_str (a_cons (e_lst (a_cons e_str a_nil) (show 1 ≤ 100000 by decide)) a_nil)) (show 2 ≤ 100000 by decide)) (a_cons (e_op e_str e_int (o_mulS mulOkx)) a_nil))) (show 3 ≤ 100000 by decide)) (o_cat (show 18 ≤ 100000 by decide))) (.inl rfl) (show 0 < 18 by decide) (show 18 < 100000 by decide) (by omega)) u1.h hD1 fun v d G2 H2 u2 hD2 p2 x2 => ?_
  exact q v d G2 H2 (u1.tr u2) hD2 p2 x2
end
end L86
set_option Elab.async false
set_option linter.all false
set_option maxRecDepth 100000
set_option maxHeartbeats 1000000
namespace L86
open PySem PySem.Spec PyProof.Rows L2 KD
section
variable {P : Program} {w : World} {K : PySem.W.Frag} {mg : Str → Option Value} {base : Heap}
/-! ### all errors, by position and by name -/
abbrev PK (K : PySem.W.Frag) : Kin ((Addr × Option (Str × PyData)) × PyData) := PrS (ErS K) (DaS K)
def Txt.made (T : Txt K mg) (d : PyData) : List ((Addr × Option (Str × PyData)) × PyData) := [((T.C_InvalidText, none), .none), ((T.C_InvalidCommand, none), .none), ((T.C_NoPath, some ("path", d)), .str "path"), ((T.C_UnknownName, some ("path", d)), .str "path"), ((T.C_UnknownTag, some ("path", d)), .str "path"), ((T.C_WrongCount, some ("path", d)), .str "path"), ((T.C_WrongSort, some ("path", d)), .str "path"), ((T.C_WrongPlace, some ("path", d)), .str "path"), ((T.C_WrongArguments, some ("count", d)), .str "count"), ((T.C_NoCertificate, some ("name", d)), .str "name"), ((T.C_NoRuns, some ("name", d)), .str "name"), ((T.C_NotPending, some ("call", d)), .str "call"), ((T.C_NotFinished, none), .none), ((T.C_NotPlain, some ("name", d)), .str "name"), ((T.C_NotSimple, some ("name", d)), .str "name"), ((T.C_NoMaker, some ("name", d)), .str "name"), ((T.C_NameTaken, some ("name", d)), .str "name"), ((T.C_UnknownFunction, some ("name", d)), .str "name"), ((T.C_UnknownItem, some ("name", d)), .str "name")]
def Txt.named (T : Txt K mg) (d : PyData) : List (Addr × Option (Str × PyData)) := [(T.C_NoPath, some ("path", d)), (T.C_UnknownName, some ("path", d)), (T.C_UnknownTag, some ("path", d)), (T.C_WrongCount, some ("path", d)), (T.C_WrongSort, some ("path", d)), (T.C_WrongPlace, some ("path", d)), (T.C_WrongArguments, some ("count", d)), (T.C_NoCertificate, some ("name", d)), (T.C_NoRuns, some ("name", d)), (T.C_NotPending, some ("call", d)), (T.C_NotPlain, some ("name", d)), (T.C_NotSimple, some ("name", d)), (T.C_NoMaker, some ("name", d)), (T.C_NameTaken, some ("name", d)), (T.C_UnknownFunction, some ("name", d)), (T.C_UnknownItem, some ("name", d))]
def oneD : List PyData → PyData
  | [d] => d
  | _ => .none
theorem ok__law_made (T : Txt K mg) : FnG P w K mg base CX0 3 T.a__law_made T.d__law_made ["_law_it"] (spD K (LsS (PK K)) 1 fun ds => T.made (oneD ds)) := by
  refine okSD T.F__law_made sc__law_made rfl fun cdv A out s H vs E G ds hr hq hl da => ?_
  cases da with
  | nil => cases hl
  | @cons v0 _ d _ x0 dn => ?_
  cases dn with
  | cons _ _ => cases hl
  | nil => ?_
  have hr2 : Room 2 _ := hr.mono (show 2 ≤ 2 by decide)
  refine ⟨_, (pss_cons (ps_set (i := 1) sc__law_made.nd rfl (.inl rfl) (pe_lst (pa_cons (pe_tup (pa_cons (pe_err0 T.B_InvalidText T.mg_InvalidText (by rfl)) (pa_cons pe_non pa_nil))) (pa_cons (pe_tup (pa_cons (pe_err0 T.B_InvalidCommand T.mg_InvalidCommand (by rfl)) (pa_cons pe_non pa_nil))) (pa_cons (pe_tup (pa_cons (pe_err0 T.B_NotFinished T.mg_NotFinished (by rfl)) (pa_cons pe_non pa_nil))) pa_nil)))))
    (pss_cons (ps_set (i := 2) sc__law_made.nd rfl (.inl rfl) (pe_op op_cat (pe_slice (sl_listK K) (pv 1) po_none (po_some pe_int)) (pe_lst (pa_cons (pe_tup (pa_cons (pe_errV T.E_NoPath (ok_NoPath T) hr2 pass0 T.b_NoPath___init__ (by rfl) T.mg_NoPath (pa_cons (pv 0) pa_nil)) (pa_cons pe_str pa_nil))) (pa_cons (pe_tup (pa_cons (pe_errV T.E_UnknownName (ok_UnknownName T) hr2 pass0 T.b_UnknownName___init__ (by rfl) T.mg_UnknownName (pa_cons (pv 0) pa_nil)) (pa_cons pe_str pa_nil))) (pa_cons (pe_tup (pa_cons (pe_errV T.E_UnknownTag (ok_UnknownTag T) hr2 pass0 T.b_UnknownTag___init__ (by rfl) T.mg_UnknownTag (pa_cons (pv 0) pa_nil)) (pa_cons pe_str pa_nil))) pa_nil))))))
    (pss_cons (ps_set (i := 2) sc__law_made.nd rfl (.inl rfl) (pe_op op_cat (pv 2) (pe_lst (pa_cons (pe_tup (pa_cons (pe_errV T.E_WrongCount (ok_WrongCount T) hr2 pass0 T.b_WrongCount___init__ (by rfl) T.mg_WrongCount (pa_cons (pv 0) pa_nil)) (pa_cons pe_str pa_nil))) (pa_cons (pe_tup (pa_cons (pe_errV T.E_WrongSort (ok_WrongSort T) hr2 pass0 T.b_WrongSort___init__ (by rfl) T.mg_WrongSort (pa_cons (pv 0) pa_nil)) (pa_cons pe_str pa_nil))) (pa_cons (pe_tup (pa_cons (pe_errV T.E_WrongPlace (ok_WrongPlace T) hr2 pass0 T.b_WrongPlace___init__ (by rfl) T.mg_WrongPlace (pa_cons (pv 0) pa_nil)) (pa_cons pe_str pa_nil))) pa_nil))))))
    (pss_cons (ps_set (i := 2) sc__law_made.nd rfl (.inl rfl) (pe_op op_cat (pv 2) (pe_lst (pa_cons (pe_tup (pa_cons (pe_errV T.E_WrongArguments (ok_WrongArguments T) hr2 pass0 T.b_WrongArguments___init__ (by rfl) T.mg_WrongArguments (pa_cons (pv 0) pa_nil)) (pa_cons pe_str pa_nil))) (pa_cons (pe_tup (pa_cons (pe_errV T.E_NoCertificate (ok_NoCertificate T) hr2 pass0 T.b_NoCertificate___init__ (by rfl) T.mg_NoCertificate (pa_cons (pv 0) pa_nil)) (pa_cons pe_str pa_nil))) (pa_cons (pe_tup (pa_cons (pe_errV T.E_NoRuns (ok_NoRuns T) hr2 pass0 T.b_NoRuns___init__ (by rfl) T.mg_NoRuns (pa_cons (pv 0) pa_nil)) (pa_cons pe_str pa_nil))) pa_nil))))))
    (pss_cons (ps_set (i := 2) sc__law_made.nd rfl (.inl rfl) (pe_op op_cat (pe_op op_cat (pe_op op_cat (pv 2) (pe_lst (pa_cons (pe_tup (pa_cons (pe_errV T.E_NotPending (ok_NotPending T) hr2 pass0 T.b_NotPending___init__ (by rfl) T.mg_NotPending (pa_cons (pv 0) pa_nil)) (pa_cons pe_str pa_nil))) pa_nil))) (pe_slice (sl_listK K) (pv 1) (po_some pe_int) po_none)) (pe_lst (pa_cons (pe_tup (pa_cons (pe_errV T.E_NotPlain (ok_NotPlain T) hr2 pass0 T.b_NotPlain___init__ (by rfl) T.mg_NotPlain (pa_cons (pv 0) pa_nil)) (pa_cons pe_str pa_nil))) (pa_cons (pe_tup (pa_cons (pe_errV T.E_NotSimple (ok_NotSimple T) hr2 pass0 T.b_NotSimple___init__ (by rfl) T.mg_NotSimple (pa_cons (pv 0) pa_nil)) (pa_cons pe_str pa_nil))) pa_nil)))))
    (pss_cons (ps_set (i := 2) sc__law_made.nd rfl (.inl rfl) (pe_op op_cat (pv 2) (pe_lst (pa_cons (pe_tup (pa_cons (pe_errV T.E_NoMaker (ok_NoMaker T) hr2 pass0 T.b_NoMaker___init__ (by rfl) T.mg_NoMaker (pa_cons (pv 0) pa_nil)) (pa_cons pe_str pa_nil))) (pa_cons (pe_tup (pa_cons (pe_errV T.E_NameTaken (ok_NameTaken T) hr2 pass0 T.b_NameTaken___init__ (by rfl) T.mg_NameTaken (pa_cons (pv 0) pa_nil)) (pa_cons pe_str pa_nil))) pa_nil)))))
    (pss_one (ps_ret (pe_op op_cat (pv 2) (pe_lst (pa_cons (pe_tup (pa_cons (pe_errV T.E_UnknownFunction (ok_UnknownFunction T) hr2 pass0 T.b_UnknownFunction___init__ (by rfl) T.mg_UnknownFunction (pa_cons (pv 0) pa_nil)) (pa_cons pe_str pa_nil))) (pa_cons (pe_tup (pa_cons (pe_errV T.E_UnknownItem (ok_UnknownItem T) hr2 pass0 T.b_UnknownItem___init__ (by rfl) T.mg_UnknownItem (pa_cons (pv 0) pa_nil)) (pa_cons pe_str pa_nil))) pa_nil)))))))))))), ?_⟩
  have mp : Kin.Mo (PK K) := mo_pr mo_er mo_da
  have ml : Kin.Mo (LsS (PK K)) := mo_ls mp
  show RetS (LsS (PK K)) [some v0, none, none] G _ (T.made d)
  refine hv_set (i := 1) (LsS (PK K)) (hv_lst (mo_pr mo_er mo_da) (hv_cons (mo_pr mo_er mo_da) (hv_pair mo_er mo_da (hv_err0 T.B_InvalidText.held) e_non) (hv_cons (mo_pr mo_er mo_da) (hv_pair mo_er mo_da (hv_err0 T.B_InvalidCommand.held) e_non) (hv_cons (mo_pr mo_er mo_da) (hv_pair mo_er mo_da (hv_err0 T.B_NotFinished.held) e_non) hv_nil))) (show 3 ≤ 100000 by decide)) fun v1 G1 e1 b1 => ?_
  have x1 := x0.mono e1
  refine hv_set (i := 2) (LsS (PK K)) (hv_cat mp (hv_slL mp (hv_var (i := 1) ml rfl b1) oo_none (oo_some (e_int (K := K)))) (hv_lst (mo_pr mo_er mo_da) (hv_cons (mo_pr mo_er mo_da) (hv_pair mo_er mo_da (hv_errV T.E_NoPath (a_cons (e_var (i := 0) rfl x1) a_nil)) e_str) (hv_cons (mo_pr mo_er mo_da) (hv_pair mo_er mo_da (hv_errV T.E_UnknownName (a_cons (e_var (i := 0) rfl x1) a_nil)) e_str) (hv_cons (mo_pr mo_er mo_da) (hv_pair mo_er mo_da (hv_errV T.E_UnknownTag (a_cons (e_var (i := 0) rfl x1) a_nil)) e_str) hv_nil))) (show 3 ≤ 100000 by decide)) (show 2 + 3 ≤ 100000 by decide)) fun v2 G2 e2 b2 => ?_
  have x2 := x1.mono e2
  have b1 := ml _ _ _ _ e2 b1
  refine hv_set (i := 2) (LsS (PK K)) (hv_cat mp (hv_var (i := 2) ml rfl b2) (hv_lst (mo_pr mo_er mo_da) (hv_cons (mo_pr mo_er mo_da) (hv_pair mo_er mo_da (hv_errV T.E_WrongCount (a_cons (e_var (i := 0) rfl x2) a_nil)) e_str) (hv_cons (mo_pr mo_er mo_da) (hv_pair mo_er mo_da (hv_errV T.E_WrongSort (a_cons (e_var (i := 0) rfl x2) a_nil)) e_str) (hv_cons (mo_pr mo_er mo_da) (hv_pair mo_er mo_da (hv_errV T.E_WrongPlace (a_cons (e_var (i := 0) rfl x2) a_nil)) e_str) hv_nil))) (show 3 ≤ 100000 by decide)) (show 5 + 3 ≤ 100000 by decide)) fun v3 G3 e3 b3 => ?_
  have x3 := x2.mono e3
  have b1 := ml _ _ _ _ e3 b1
  refine hv_set (i := 2) (LsS (PK K)) (hv_cat mp (hv_var (i := 2) ml rfl b3) (hv_lst (mo_pr mo_er mo_da) (hv_cons (mo_pr mo_er mo_da) (hv_pair mo_er mo_da (hv_errV T.E_WrongArguments (a_cons (e_var (i := 0) rfl x3) a_nil)) e_str) (hv_cons (mo_pr mo_er mo_da) (hv_pair mo_er mo_da (hv_errV T.E_NoCertificate (a_cons (e_var (i := 0) rfl x3) a_nil)) e_str) (hv_cons (mo_pr mo_er mo_da) (hv_pair mo_er mo_da (hv_errV T.E_NoRuns (a_cons (e_var (i := 0) rfl x3) a_nil)) e_str) hv_nil))) (show 3 ≤ 100000 by decide)) (show 8 + 3 ≤ 100000 by decide)) fun v4 G4 e4 b4 => ?_
  have x4 := x3.mono e4
  have b1 := ml _ _ _ _ e4 b1
  refine hv_set (i := 2) (LsS (PK K)) (hv_cat mp (hv_cat mp (hv_cat mp (hv_var (i := 2) ml rfl b4) (hv_lst (mo_pr mo_er mo_da) (hv_cons (mo_pr mo_er mo_da) (hv_pair mo_er mo_da (hv_errV T.E_NotPending (a_cons (e_var (i := 0) rfl x4) a_nil)) e_str) hv_nil) (show 1 ≤ 100000 by decide)) (show 11 + 1 ≤ 100000 by decide)) (hv_slL mp (hv_var (i := 1) ml rfl b1) (oo_some (e_int (K := K))) oo_none) (show 12 + 1 ≤ 100000 by decide)) (hv_lst (mo_pr mo_er mo_da) (hv_cons (mo_pr mo_er mo_da) (hv_pair mo_er mo_da (hv_errV T.E_NotPlain (a_cons (e_var (i := 0) rfl x4) a_nil)) e_str) (hv_cons (mo_pr mo_er mo_da) (hv_pair mo_er mo_da (hv_errV T.E_NotSimple (a_cons (e_var (i := 0) rfl x4) a_nil)) e_str) hv_nil)) (show 2 ≤ 100000 by decide)) (show 13 + 2 ≤ 100000 by decide)) fun v5 G5 e5 b5 => ?_
  have x5 := x4.mono e5
  refine hv_set (i := 2) (LsS (PK K)) (hv_cat mp (hv_var (i := 2) ml rfl b5) (hv_lst (mo_pr mo_er mo_da) (hv_cons (mo_pr mo_er mo_da) (hv_pair mo_er mo_da (hv_errV T.E_NoMaker (a_cons (e_var (i := 0) rfl x5) a_nil)) e_str) (hv_cons (mo_pr mo_er mo_da) (hv_pair mo_er mo_da (hv_errV T.E_NameTaken (a_cons (e_var (i := 0) rfl x5) a_nil)) e_str) hv_nil)) (show 2 ≤ 100000 by decide)) (show 15 + 2 ≤ 100000 by decide)) fun v6 G6 e6 b6 => ?_
  have x6 := x5.mono e6
  exact (hv_ret (hv_cat mp (hv_var (i := 2) ml rfl b6) (hv_lst (mo_pr mo_er mo_da) (hv_cons (mo_pr mo_er mo_da) (hv_pair mo_er mo_da (hv_errV T.E_UnknownFunction (a_cons (e_var (i := 0) rfl x6) a_nil)) e_str) (hv_cons (mo_pr mo_er mo_da) (hv_pair mo_er mo_da (hv_errV T.E_UnknownItem (a_cons (e_var (i := 0) rfl x6) a_nil)) e_str) hv_nil)) (show 2 ≤ 100000 by decide)) (show 17 + 2 ≤ 100000 by decide)))
theorem ok__law_named (T : Txt K mg) : FnG P w K mg base CX0 3 T.a__law_named T.d__law_named ["_law_it"] (spD K (LsS (ErS K)) 1 fun ds => T.named (oneD ds)) := by
  refine okSD T.F__law_named sc__law_named rfl fun cdv A out s H vs E G ds hr hq hl da => ?_
  cases da with
  | nil => cases hl
  | @cons v0 _ d _ x0 dn => ?_
  cases dn with
  | cons _ _ => cases hl
  | nil => ?_
  have hr2 : Room 2 _ := hr.mono (show 2 ≤ 2 by decide)
  refine ⟨_, (pss_cons (ps_set (i := 1) sc__law_named.nd rfl (.inl rfl) (pe_lst (pa_cons (pe_errVK T.E_NoPath (ok_NoPath T) hr2 pass0 (kbi_NoPath T) (by rfl) T.mg_NoPath (pk_cons (pv 0) pk_nil)) (pa_cons (pe_errVK T.E_UnknownName (ok_UnknownName T) hr2 pass0 (kbi_UnknownName T) (by rfl) T.mg_UnknownName (pk_cons (pv 0) pk_nil)) (pa_cons (pe_errVK T.E_UnknownTag (ok_UnknownTag T) hr2 pass0 (kbi_UnknownTag T) (by rfl) T.mg_UnknownTag (pk_cons (pv 0) pk_nil)) (pa_cons (pe_errVK T.E_WrongCount (ok_WrongCount T) hr2 pass0 (kbi_WrongCount T) (by rfl) T.mg_WrongCount (pk_cons (pv 0) pk_nil)) (pa_cons (pe_errVK T.E_WrongSort (ok_WrongSort T) hr2 pass0 (kbi_WrongSort T) (by rfl) T.mg_WrongSort (pk_cons (pv 0) pk_nil)) pa_nil)))))))
    (pss_cons (ps_set (i := 1) sc__law_named.nd rfl (.inl rfl) (pe_op op_cat (pv 1) (pe_lst (pa_cons (pe_errVK T.E_WrongPlace (ok_WrongPlace T) hr2 pass0 (kbi_WrongPlace T) (by rfl) T.mg_WrongPlace (pk_cons (pv 0) pk_nil)) (pa_cons (pe_errVK T.E_WrongArguments (ok_WrongArguments T) hr2 pass0 (kbi_WrongArguments T) (by rfl) T.mg_WrongArguments (pk_cons (pv 0) pk_nil)) (pa_cons (pe_errVK T.E_NoCertificate (ok_NoCertificate T) hr2 pass0 (kbi_NoCertificate T) (by rfl) T.mg_NoCertificate (pk_cons (pv 0) pk_nil)) (pa_cons (pe_errVK T.E_NoRuns (ok_NoRuns T) hr2 pass0 (kbi_NoRuns T) (by rfl) T.mg_NoRuns (pk_cons (pv 0) pk_nil)) pa_nil)))))))
    (pss_cons (ps_set (i := 1) sc__law_named.nd rfl (.inl rfl) (pe_op op_cat (pv 1) (pe_lst (pa_cons (pe_errVK T.E_NotPending (ok_NotPending T) hr2 pass0 (kbi_NotPending T) (by rfl) T.mg_NotPending (pk_cons (pv 0) pk_nil)) (pa_cons (pe_errVK T.E_NotPlain (ok_NotPlain T) hr2 pass0 (kbi_NotPlain T) (by rfl) T.mg_NotPlain (pk_cons (pv 0) pk_nil)) (pa_cons (pe_errVK T.E_NotSimple (ok_NotSimple T) hr2 pass0 (kbi_NotSimple T) (by rfl) T.mg_NotSimple (pk_cons (pv 0) pk_nil)) (pa_cons (pe_errVK T.E_NoMaker (ok_NoMaker T) hr2 pass0 (kbi_NoMaker T) (by rfl) T.mg_NoMaker (pk_cons (pv 0) pk_nil)) (pa_cons (pe_errVK T.E_NameTaken (ok_NameTaken T) hr2 pass0 (kbi_NameTaken T) (by rfl) T.mg_NameTaken (pk_cons (pv 0) pk_nil)) pa_nil))))))))
    (pss_one (ps_ret (pe_op op_cat (pv 1) (pe_lst (pa_cons (pe_errVK T.E_UnknownFunction (ok_UnknownFunction T) hr2 pass0 (kbi_UnknownFunction T) (by rfl) T.mg_UnknownFunction (pk_cons (pv 0) pk_nil)) (pa_cons (pe_errVK T.E_UnknownItem (ok_UnknownItem T) hr2 pass0 (kbi_UnknownItem T) (by rfl) T.mg_UnknownItem (pk_cons (pv 0) pk_nil)) pa_nil))))))))), ?_⟩
  have mp : Kin.Mo (ErS K) := mo_er
  have ml : Kin.Mo (LsS (ErS K)) := mo_ls mp
  show RetS (LsS (ErS K)) [some v0, none] G _ (T.named d)
  refine hv_set (i := 1) (LsS (ErS K)) (hv_lst mo_er (hv_cons mo_er (hv_errV T.E_NoPath (a_cons (e_var (i := 0) rfl x0) a_nil)) (hv_cons mo_er (hv_errV T.E_UnknownName (a_cons (e_var (i := 0) rfl x0) a_nil)) (hv_cons mo_er (hv_errV T.E_UnknownTag (a_cons (e_var (i := 0) rfl x0) a_nil)) (hv_cons mo_er (hv_errV T.E_WrongCount (a_cons (e_var (i := 0) rfl x0) a_nil)) (hv_cons mo_er (hv_errV T.E_WrongSort (a_cons (e_var (i := 0) rfl x0) a_nil)) hv_nil))))) (show 5 ≤ 100000 by decide)) fun v1 G1 e1 b1 => ?_
  have x1 := x0.mono e1
  refine hv_set (i := 1) (LsS (ErS K)) (hv_cat mp (hv_var (i := 1) ml rfl b1) (hv_lst mo_er (hv_cons mo_er (hv_errV T.E_WrongPlace (a_cons (e_var (i := 0) rfl x1) a_nil)) (hv_cons mo_er (hv_errV T.E_WrongArguments (a_cons (e_var (i := 0) rfl x1) a_nil)) (hv_cons mo_er (hv_errV T.E_NoCertificate (a_cons (e_var (i := 0) rfl x1) a_nil)) (hv_cons mo_er (hv_errV T.E_NoRuns (a_cons (e_var (i := 0) rfl x1) a_nil)) hv_nil)))) (show 4 ≤ 100000 by decide)) (show 5 + 4 ≤ 100000 by decide)) fun v2 G2 e2 b2 => ?_
  have x2 := x1.mono e2
  refine hv_set (i := 1) (LsS (ErS K)) (hv_cat mp (hv_var (i := 1) ml rfl b2) (hv_lst mo_er (hv_cons mo_er (hv_errV T.E_NotPending (a_cons (e_var (i := 0) rfl x2) a_nil)) (hv_cons mo_er (hv_errV T.E_NotPlain (a_cons (e_var (i := 0) rfl x2) a_nil)) (hv_cons mo_er (hv_errV T.E_NotSimple (a_cons (e_var (i := 0) rfl x2) a_nil)) (hv_cons mo_er (hv_errV T.E_NoMaker (a_cons (e_var (i := 0) rfl x2) a_nil)) (hv_cons mo_er (hv_errV T.E_NameTaken (a_cons (e_var (i := 0) rfl x2) a_nil)) hv_nil))))) (show 5 ≤ 100000 by decide)) (show 9 + 5 ≤ 100000 by decide)) fun v3 G3 e3 b3 => ?_
  have x3 := x2.mono e3
  exact (hv_ret (hv_cat mp (hv_var (i := 1) ml rfl b3) (hv_lst mo_er (hv_cons mo_er (hv_errV T.E_UnknownFunction (a_cons (e_var (i := 0) rfl x3) a_nil)) (hv_cons mo_er (hv_errV T.E_UnknownItem (a_cons (e_var (i := 0) rfl x3) a_nil)) hv_nil)) (show 2 ≤ 100000 by decide)) (show 14 + 2 ≤ 100000 by decide)))
end
end L86
set_option Elab.async false
set_option linter.all false
set_option maxRecDepth 100000
set_option maxHeartbeats 1000000
namespace L86
open PySem PySem.Spec PyProof.Rows L2 KD
section
variable {P : Program} {w : World} {K : PySem.W.Frag} {mg : Str → Option Value} {base : Heap}
/-! ### what an error carries, and its classes -/
def Txt.us (T : Txt K mg) : List Value := [.ref T.C_InvalidText, .ref T.C_InvalidCommand, .ref T.C_NoPath, .ref T.C_UnknownName, .ref T.C_UnknownTag, .ref T.C_WrongCount, .ref T.C_WrongSort, .ref T.C_WrongPlace, .ref T.C_WrongArguments, .ref T.C_NoCertificate, .ref T.C_NoRuns, .ref T.C_NotPending, .ref T.C_NotFinished, .ref T.C_NotPlain, .ref T.C_NotSimple, .ref T.C_NoMaker, .ref T.C_NameTaken, .ref T.C_UnknownFunction, .ref T.C_UnknownItem, .ref T.C_RoundCallsError, .type "ValueError", .type "KeyError"]
def KnD (T : Txt K mg) (e : Addr × Option (Str × PyData)) (ds : List PyData) (z : PyData) : Prop := ds = [] ∧ ∃ bs : List Bool, KitR K e.1 T.us bs ∧ z = .list ((bs.take 19).map .bool)
theorem ok__law_kinds (T : Txt K mg) : FnG P w K mg base CX0 1 T.a__law_kinds T.d__law_kinds ["_law_e"] (spF K (ErS K) (KnD T) 0) := by
  refine okF T.F__law_kinds sc__law_kinds rfl fun cdv A out s H v ws E G e ds z hr hq hl hv hw hR => ?_
  cases ws with
  | cons _ _ => cases hl
  | nil => ?_
  obtain ⟨rfl, bs, kit, rfl⟩ := hR
  have hlen : bs.length = 22 := by
    have e := congrArg List.length kit
    rw [List.length_map, List.length_map] at e
    exact e.symm
  refine ⟨_, (pss_cons (ps_set (i := 1) sc__law_kinds.nd rfl (.inl rfl) (pe_lst (pa_cons (pe_callB call_isV (by rfl) T.m_isinstance (by decide +kernel) (pa_cons (pv 0) (pa_cons (pe_glob (v := .ref T.C_InvalidText) (by rfl) T.mg_InvalidText rfl) pa_nil))) (pa_cons (pe_callB call_isV (by rfl) T.m_isinstance (by decide +kernel) (pa_cons (pv 0) (pa_cons (pe_glob (v := .ref T.C_InvalidCommand) (by rfl) T.mg_InvalidCommand rfl) pa_nil))) (pa_cons (pe_callB call_isV (by rfl) T.m_isinstance (by decide +kernel) (pa_cons (pv 0) (pa_cons (pe_glob (v := .ref T.C_NoPath) (by rfl) T.mg_NoPath rfl) pa_nil))) pa_nil)))))
    (pss_cons (ps_set (i := 1) sc__law_kinds.nd rfl (.inl rfl) (pe_op op_cat (pv 1) (pe_lst (pa_cons (pe_callB call_isV (by rfl) T.m_isinstance (by decide +kernel) (pa_cons (pv 0) (pa_cons (pe_glob (v := .ref T.C_UnknownName) (by rfl) T.mg_UnknownName rfl) pa_nil))) (pa_cons (pe_callB call_isV (by rfl) T.m_isinstance (by decide +kernel) (pa_cons (pv 0) (pa_cons (pe_glob (v := .ref T.C_UnknownTag) (by rfl) T.mg_UnknownTag rfl) pa_nil))) (pa_cons (pe_callB call_isV (by rfl) T.m_isinstance (by decide +kernel) (pa_cons (pv 0) (pa_cons (pe_glob (v := .ref T.C_WrongCount) (by rfl) T.mg_WrongCount rfl) pa_nil))) pa_nil))))))
    (pss_cons (ps_set (i := 1) sc__law_kinds.nd rfl (.inl rfl) (pe_op op_cat (pv 1) (pe_lst (pa_cons (pe_callB call_isV (by rfl) T.m_isinstance (by decide +kernel) (pa_cons (pv 0) (pa_cons (pe_glob (v := .ref T.C_WrongSort) (by rfl) T.mg_WrongSort rfl) pa_nil))) pa_nil))))
    (pss_cons (ps_set (i := 1) sc__law_kinds.nd rfl (.inl rfl) (pe_op op_cat (pv 1) (pe_lst (pa_cons (pe_callB call_isV (by rfl) T.m_isinstance (by decide +kernel) (pa_cons (pv 0) (pa_cons (pe_glob (v := .ref T.C_WrongPlace) (by rfl) T.mg_WrongPlace rfl) pa_nil))) (pa_cons (pe_callB call_isV (by rfl) T.m_isinstance (by decide +kernel) (pa_cons (pv 0) (pa_cons (pe_glob (v := .ref T.C_WrongArguments) (by rfl) T.mg_WrongArguments rfl) pa_nil))) (pa_cons (pe_callB call_isV (by rfl) T.m_isinstance (by decide +kernel) (pa_cons (pv 0) (pa_cons (pe_glob (v := .ref T.C_NoCertificate) (by rfl) T.mg_NoCertificate rfl) pa_nil))) pa_nil))))))
    (pss_cons (ps_set (i := 1) sc__law_kinds.nd rfl (.inl rfl) (pe_op op_cat (pv 1) (pe_lst (pa_cons (pe_callB call_isV (by rfl) T.m_isinstance (by decide +kernel) (pa_cons (pv 0) (pa_cons (pe_glob (v := .ref T.C_NoRuns) (by rfl) T.mg_NoRuns rfl) pa_nil))) (pa_cons (pe_callB call_isV (by rfl) T.m_isinstance (by decide +kernel) (pa_cons (pv 0) (pa_cons (pe_glob (v := .ref T.C_NotPending) (by rfl) T.mg_NotPending rfl) pa_nil))) (pa_cons (pe_callB call_isV (by rfl) T.m_isinstance (by decide +kernel) (pa_cons (pv 0) (pa_cons (pe_glob (v := .ref T.C_NotFinished) (by rfl) T.mg_NotFinished rfl) pa_nil))) pa_nil))))))
    (pss_cons (ps_set (i := 1) sc__law_kinds.nd rfl (.inl rfl) (pe_op op_cat (pv 1) (pe_lst (pa_cons (pe_callB call_isV (by rfl) T.m_isinstance (by decide +kernel) (pa_cons (pv 0) (pa_cons (pe_glob (v := .ref T.C_NotPlain) (by rfl) T.mg_NotPlain rfl) pa_nil))) (pa_cons (pe_callB call_isV (by rfl) T.m_isinstance (by decide +kernel) (pa_cons (pv 0) (pa_cons (pe_glob (v := .ref T.C_NotSimple) (by rfl) T.mg_NotSimple rfl) pa_nil))) (pa_cons (pe_callB call_isV (by rfl) T.m_isinstance (by decide +kernel) (pa_cons (pv 0) (pa_cons (pe_glob (v := .ref T.C_NoMaker) (by rfl) T.mg_NoMaker rfl) pa_nil))) pa_nil))))))
    (pss_one (ps_ret (pe_op op_cat (pv 1) (pe_lst (pa_cons (pe_callB call_isV (by rfl) T.m_isinstance (by decide +kernel) (pa_cons (pv 0) (pa_cons (pe_glob (v := .ref T.C_NameTaken) (by rfl) T.mg_NameTaken rfl) pa_nil))) (pa_cons (pe_callB call_isV (by rfl) T.m_isinstance (by decide +kernel) (pa_cons (pv 0) (pa_cons (pe_glob (v := .ref T.C_UnknownFunction) (by rfl) T.mg_UnknownFunction rfl) pa_nil))) (pa_cons (pe_callB call_isV (by rfl) T.m_isinstance (by decide +kernel) (pa_cons (pv 0) (pa_cons (pe_glob (v := .ref T.C_UnknownItem) (by rfl) T.mg_UnknownItem rfl) pa_nil))) pa_nil))))))))))))), ?_⟩
  match bs, hlen, kit with
  | [b0, b1, b2, b3, b4, b5, b6, b7, b8, b9, b10, b11, b12, b13, b14, b15, b16, b17, b18, b19, b20, b21], _, kit => ?_
  have o : ∀ {F : Hp}, Ex G F → EvS (ErS K) [some v, none] F (tVar 0) e := fun e1 => hv_var (i := 0) mo_er rfl (mo_er _ _ _ _ e1 hv)
  have o1 : ∀ {F : Hp} {w1 : V}, Ex G F → EvS (ErS K) [some v, some w1] F (tVar 0) e := fun e1 => hv_var (i := 0) mo_er rfl (mo_er _ _ _ _ e1 hv)
  show RetE K [some v, none] G _ (.list [.bool b0, .bool b1, .bool b2, .bool b3, .bool b4, .bool b5, .bool b6, .bool b7, .bool b8, .bool b9, .bool b10, .bool b11, .bool b12, .bool b13, .bool b14, .bool b15, .bool b16, .bool b17, .bool b18])
  refine r_set (i := 1) (e_lst (a_cons (e_isV (o (Ex.rf G)) one_ref (kit.get (i := 0) rfl rfl)) (a_cons (e_isV (o (Ex.rf G)) one_ref (kit.get (i := 1) rfl rfl)) (a_cons (e_isV (o (Ex.rf G)) one_ref (kit.get (i := 2) rfl rfl)) a_nil))) (show 3 ≤ 100000 by decide)) fun v1 G1 e1 x1 => ?_
  refine r_set (i := 1) (e_op (e_var (i := 1) rfl x1) (e_lst (a_cons (e_isV (o1 e1) one_ref (kit.get (i := 3) rfl rfl)) (a_cons (e_isV (o1 e1) one_ref (kit.get (i := 4) rfl rfl)) (a_cons (e_isV (o1 e1) one_ref (kit.get (i := 5) rfl rfl)) a_nil))) (show 3 ≤ 100000 by decide)) (o_cat (show 3 + 3 ≤ 100000 by decide))) fun v2 G2 e2 x2 => ?_
  have e2 := e1.tr e2
  refine r_set (i := 1) (e_op (e_var (i := 1) rfl x2) (e_lst (a_cons (e_isV (o1 e2) one_ref (kit.get (i := 6) rfl rfl)) a_nil) (show 1 ≤ 100000 by decide)) (o_cat (show 6 + 1 ≤ 100000 by decide))) fun v3 G3 e3 x3 => ?_
  have e3 := e2.tr e3
  refine r_set (i := 1) (e_op (e_var (i := 1) rfl x3) (e_lst (a_cons (e_isV (o1 e3) one_ref (kit.get (i := 7) rfl rfl)) (a_cons (e_isV (o1 e3) one_ref (kit.get (i := 8) rfl rfl)) (a_cons (e_isV (o1 e3) one_ref (kit.get (i := 9) rfl rfl)) a_nil))) (show 3 ≤ 100000 by decide)) (o_cat (show 7 + 3 ≤ 100000 by decide))) fun v4 G4 e4 x4 => ?_
  have e4 := e3.tr e4
  refine r_set (i := 1) (e_op (e_var (i := 1) rfl x4) (e_lst (a_cons (e_isV (o1 e4) one_ref (kit.get (i := 10) rfl rfl)) (a_cons (e_isV (o1 e4) one_ref (kit.get (i := 11) rfl rfl)) (a_cons (e_isV (o1 e4) one_ref (kit.get (i := 12) rfl rfl)) a_nil))) (show 3 ≤ 100000 by decide)) (o_cat (show 10 + 3 ≤ 100000 by decide))) fun v5 G5 e5 x5 => ?_
  have e5 := e4.tr e5
  refine r_set (i := 1) (e_op (e_var (i := 1) rfl x5) (e_lst (a_cons (e_isV (o1 e5) one_ref (kit.get (i := 13) rfl rfl)) (a_cons (e_isV (o1 e5) one_ref (kit.get (i := 14) rfl rfl)) (a_cons (e_isV (o1 e5) one_ref (kit.get (i := 15) rfl rfl)) a_nil))) (show 3 ≤ 100000 by decide)) (o_cat (show 13 + 3 ≤ 100000 by decide))) fun v6 G6 e6 x6 => ?_
  have e6 := e5.tr e6
  exact r_ret (e_op (e_var (i := 1) rfl x6) (e_lst (a_cons (e_isV (o1 e6) one_ref (kit.get (i := 16) rfl rfl)) (a_cons (e_isV (o1 e6) one_ref (kit.get (i := 17) rfl rfl)) (a_cons (e_isV (o1 e6) one_ref (kit.get (i := 18) rfl rfl)) a_nil))) (show 3 ≤ 100000 by decide)) (o_cat (show 16 + 3 ≤ 100000 by decide)))
def CrD (e : Addr × Option (Str × PyData)) (ds : List PyData) (z : PyData) : Prop := ∃ C f, e = (C, some (f, z)) ∧ ds = [.str f] ∧ f ∈ (["path", "name", "call", "count"] : List Str)
theorem ok__law_carried (T : Txt K mg) : FnG P w K mg base CX0 1 T.a__law_carried T.d__law_carried ["_law_e", "_law_word"] (spF K (ErS K) CrD 1) := by
  refine okF T.F__law_carried sc__law_carried rfl fun cdv A out s H v ws E G e ds z hr hq hl hv hw hR => ?_
  obtain ⟨C, f, rfl, rfl, hf⟩ := hR
  cases hw with
  | @cons v1 _ _ _ x1 hn => ?_
  cases hn
  cases x1
  refine ⟨_, (pss_cons (ps_if (pt_cmpR op_eq (pv 1) pe_str (nomark _))
    (pss_one (ps_ret (pe_fldV (pv 0))))
    pss_nil)
    (pss_cons (ps_if (pt_cmpR op_eq (pv 1) pe_str (nomark _))
    (pss_one (ps_ret (pe_fldV (pv 0))))
    pss_nil)
    (pss_one (ps_ret (pe_ifExp (pt_cmpR op_eq (pv 1) pe_str (nomark _)) (pe_fldV (pv 0)) (pe_fldV (pv 0))))))), ?_⟩
  have o : EvS (ErS K) [some v, some (.str f)] G (tVar 0) (C, some (f, z)) := hv_var (i := 0) mo_er rfl hv
  have t : ∀ g : Str, EvT [some v, some (.str f)] G (tTest (tOp rEq (tVar 1) (tC (.str g)))) (decide (f = g)) := fun g => t_test (K := K) (e_op (e_var (i := 1) rfl (.str f)) e_str (o_eq rfl))
  show RetE K [some v, some (.str f)] G _ z
  simp only [List.mem_cons, List.not_mem_nil, or_false] at hf
  rcases hf with rfl | rfl | rfl | rfl
  · exact r_guard1 ((t _).is (by decide)) (r_ret (e_fldV o))
  · exact r_guard0 ((t _).is (by decide)) (r_guard1 ((t _).is (by decide)) (r_ret (e_fldV o)))
  · exact r_guard0 ((t _).is (by decide)) (r_guard0 ((t _).is (by decide)) (r_ret ((e_if ((t _).is (b' := true) (by decide)) (y := z) (fun _ => e_fldV o) fun z => nomatch z).is rfl)))
  · exact r_guard0 ((t _).is (by decide)) (r_guard0 ((t _).is (by decide)) (r_ret ((e_if ((t _).is (b' := false) (by decide)) (x := z) (fun z => nomatch z) fun _ => e_fldV o).is rfl)))
end
end L86
set_option Elab.async false
set_option linter.all false
set_option maxRecDepth 100000
set_option maxHeartbeats 1000000
namespace L86
open PySem PySem.Spec PyProof.Rows L2 KD
section
variable {P : Program} {w : World} {K : PySem.W.Frag} {mg : Str → Option Value} {base : Heap}
/-! ### one value, in all errors -/
abbrev fixL : List PyData := [.none, .str "", .tuple [], .list [], .int 0, .bool true, .bool false]
abbrev allL : List PyData := fixL ++ (oddL ++ oddM)
def smxB (d : PyData) : Bool := d.leavesShort 60 && d.showable && (noList d || !d.hasDict) && fit d && decide (d.depth ≤ 10) && decide (d.weight ≤ 3000)
theorem all_rep : ∀ d ∈ allL, repOk d = true := fun d hd => by
  have h := List.all_eq_true.mp (show allL.all smxB = true by decide +kernel) d hd
  unfold smxB at h
  simp only [Bool.and_eq_true, decide_eq_true_eq, Bool.or_eq_true, Bool.not_eq_true'] at h
  obtain ⟨⟨⟨⟨⟨h1, h2⟩, h3⟩, h4⟩, h5⟩, h6⟩ := h
  exact (Bool.and_eq_true_iff.mp (Smx.ok ⟨h1, h2, h3, h4, h5, h6⟩ (by decide) (by decide))).2
def rowB (k : Nat) : List Bool := (List.range 19).map (fun j => decide (k = j)) ++ [decide (k < 17), decide (k < 17), decide (17 ≤ k)]
def Wo (e : Addr × Option (Str × PyData)) (w d : PyData) : Prop := ∃ C f, e = (C, some (f, d)) ∧ w = .str f ∧ f ∈ (["path", "name", "call", "count"] : List Str)
theorem Txt.made_at (T : Txt K mg) (d : PyData) : ∀ (k : Nat) (x : (Addr × Option (Str × PyData)) × PyData), (T.made d)[k]? = some x → k < 19 ∧ KitR K x.1.1 T.us (rowB k) ∧ (x.2 = .none ∨ Wo x.1 x.2 d)
  | 0, _, h => by cases h; exact ⟨by decide, T.r_InvalidText, .inl rfl⟩
  | 1, _, h => by cases h; exact ⟨by decide, T.r_InvalidCommand, .inl rfl⟩
  | 2, _, h => by cases h; exact ⟨by decide, T.r_NoPath, .inr ⟨_, _, rfl, rfl, by decide⟩⟩
  | 3, _, h => by cases h; exact ⟨by decide, T.r_UnknownName, .inr ⟨_, _, rfl, rfl, by decide⟩⟩
  | 4, _, h => by cases h; exact ⟨by decide, T.r_UnknownTag, .inr ⟨_, _, rfl, rfl, by decide⟩⟩
  | 5, _, h => by cases h; exact ⟨by decide, T.r_WrongCount, .inr ⟨_, _, rfl, rfl, by decide⟩⟩
  | 6, _, h => by cases h; exact ⟨by decide, T.r_WrongSort, .inr ⟨_, _, rfl, rfl, by decide⟩⟩
  | 7, _, h => by cases h; exact ⟨by decide, T.r_WrongPlace, .inr ⟨_, _, rfl, rfl, by decide⟩⟩
  | 8, _, h => by cases h; exact ⟨by decide, T.r_WrongArguments, .inr ⟨_, _, rfl, rfl, by decide⟩⟩
  | 9, _, h => by cases h; exact ⟨by decide, T.r_NoCertificate, .inr ⟨_, _, rfl, rfl, by decide⟩⟩
  | 10, _, h => by cases h; exact ⟨by decide, T.r_NoRuns, .inr ⟨_, _, rfl, rfl, by decide⟩⟩
  | 11, _, h => by cases h; exact ⟨by decide, T.r_NotPending, .inr ⟨_, _, rfl, rfl, by decide⟩⟩
  | 12, _, h => by cases h; exact ⟨by decide, T.r_NotFinished, .inl rfl⟩
  | 13, _, h => by cases h; exact ⟨by decide, T.r_NotPlain, .inr ⟨_, _, rfl, rfl, by decide⟩⟩
  | 14, _, h => by cases h; exact ⟨by decide, T.r_NotSimple, .inr ⟨_, _, rfl, rfl, by decide⟩⟩
  | 15, _, h => by cases h; exact ⟨by decide, T.r_NoMaker, .inr ⟨_, _, rfl, rfl, by decide⟩⟩
  | 16, _, h => by cases h; exact ⟨by decide, T.r_NameTaken, .inr ⟨_, _, rfl, rfl, by decide⟩⟩
  | 17, _, h => by cases h; exact ⟨by decide, T.r_UnknownFunction, .inr ⟨_, _, rfl, rfl, by decide⟩⟩
  | 18, _, h => by cases h; exact ⟨by decide, T.r_UnknownItem, .inr ⟨_, _, rfl, rfl, by decide⟩⟩
  | k + 19, _, h => by simp [Txt.made] at h
abbrev wordsL : List PyData := [.str "path", .str "path", .str "path", .str "path", .str "path", .str "path", .str "count", .str "name", .str "name", .str "call", .str "name", .str "name", .str "name", .str "name", .str "name", .str "name"]
theorem Txt.zip_at (T : Txt K mg) (d : PyData) : ∀ x ∈ (T.named d).zip wordsL, Wo x.1 x.2 d := fun x hx => by
  have hx : x ∈ ([((T.C_NoPath, some ("path", d)), .str "path"), ((T.C_UnknownName, some ("path", d)), .str "path"), ((T.C_UnknownTag, some ("path", d)), .str "path"), ((T.C_WrongCount, some ("path", d)), .str "path"), ((T.C_WrongSort, some ("path", d)), .str "path"), ((T.C_WrongPlace, some ("path", d)), .str "path"), ((T.C_WrongArguments, some ("count", d)), .str "count"), ((T.C_NoCertificate, some ("name", d)), .str "name"), ((T.C_NoRuns, some ("name", d)), .str "name"), ((T.C_NotPending, some ("call", d)), .str "call"), ((T.C_NotPlain, some ("name", d)), .str "name"), ((T.C_NotSimple, some ("name", d)), .str "name"), ((T.C_NoMaker, some ("name", d)), .str "name"), ((T.C_NameTaken, some ("name", d)), .str "name"), ((T.C_UnknownFunction, some ("name", d)), .str "name"), ((T.C_UnknownItem, some ("name", d)), .str "name")] : List ((Addr × Option (Str × PyData)) × PyData)) := hx
  simp only [List.mem_cons, List.not_mem_nil, or_false] at hx
  rcases hx with rfl | rfl | rfl | rfl | rfl | rfl | rfl | rfl | rfl | rfl | rfl | rfl | rfl | rfl | rfl | rfl <;> exact ⟨_, _, rfl, rfl, by decide⟩
def isNo : PyData → Bool
  | .none => true
  | _ => false
theorem o_noNone {w : PyData} : OpD K (fun x y H Q => y = .non ∧ Q (.bl (!decide (x = .non))) H) w .none (.bool (!isNo w)) := fun G H v u e d1 d2 Q q => by
  cases d2
  refine ⟨rfl, ?_⟩
  have z := q (.bl (!isNo w)) G H (Up.rf e) (.bl _)
  cases d1 <;> exact z
theorem allS_of {G : Hp} : ∀ {vs : List V} {ds : List PyData}, DaAll K G vs ds → AllS (DaS K) G vs ds
  | [], _, h => by cases h; exact .nil
  | _ :: _, _, h => by cases h with | cons h1 h2 => exact .cons h1 (allS_of h2)
theorem hv_ofL {σ : L2.St} {F : Hp} {te : TE} {ds : List PyData} (h : EvE K σ F te (.list ds)) : EvS (LsS (DaS K)) σ F te ds := fun G H e1 e2 Q q => h G H e1 e2 _ fun v G1 H1 u1 d1 => by
  cases d1 with
  | lst h1 a1 => exact q _ G1 H1 u1 ⟨_, _, rfl, h1, allS_of a1⟩
theorem i_lsS {α : Type} {S : Kin α} {σ : L2.St} {F : Hp} {te : TE} {as : List α} (m : Kin.Mo S) (h : EvS (LsS S) σ F te as) : EvIS S σ F (iList K te) as := fun G H e1 e2 R q => h G H e1 e2 _ fun v G1 H1 u1 hv => by
  obtain ⟨l, xs, rfl, hl, a1⟩ := hv
  refine ⟨l, rfl, ⟨xs, SqL.of (u1.h _ _ hl)⟩, q _ G1 H1 u1 fun i G2 H2 e3 e4 => ⟨fun d hd => ?_, fun hi => ?_⟩⟩
  · obtain ⟨x, hx, dx⟩ := a1.at hd
    have hs : SqL K H2 l xs := SqL.of (e4 _ _ (e3 _ _ hl))
    refine ⟨⟨xs, x, hs, hx⟩, ?_⟩
    rintro y H' ⟨rfl, hy⟩
    cases hx.symm.trans (hy xs hs)
    exact ⟨G2, Up.rf e4, m _ _ _ _ e3 dx⟩
  · exact ⟨xs, SqL.of (e4 _ _ (e3 _ _ hl)), by rw [a1.length, hi]; exact Nat.le_refl _⟩
theorem wipe5 {σ : L2.St} {c0 c1 c2 x3 x4 x5 x6 x7 c8 c9 : Option V} (h : wipe σ [3, 4, 5, 6, 7] = wipe [c0, c1, c2, x3, x4, x5, x6, x7, c8, c9] [3, 4, 5, 6, 7]) : ∃ a b c d e, σ = [c0, c1, c2, a, b, c, d, e, c8, c9] := by
  have hl : σ.length = 10 := len_of_wipe h
  match σ, hl, h with
  | [a0, a1, a2, a3, a4, a5, a6, a7, a8, a9], _, h =>
    have h : [a0, a1, a2, none, none, none, none, none, a8, a9] = [c0, c1, c2, none, none, none, none, none, c8, c9] := h
    cases h
    exact ⟨a3, a4, a5, a6, a7, rfl⟩
theorem wipe2 {σ : L2.St} {c0 c1 c2 c3 x4 x5 c6 c7 c8 c9 : Option V} (h : wipe σ [4, 5] = wipe [c0, c1, c2, c3, x4, x5, c6, c7, c8, c9] [4, 5]) : ∃ b c, σ = [c0, c1, c2, c3, b, c, c6, c7, c8, c9] := by
  have hl : σ.length = 10 := len_of_wipe h
  match σ, hl, h with
  | [a0, a1, a2, a3, a4, a5, a6, a7, a8, a9], _, h =>
    have h : [a0, a1, a2, a3, none, none, a6, a7, a8, a9] = [c0, c1, c2, c3, none, none, c6, c7, c8, c9] := h
    cases h
    exact ⟨a4, a5, rfl⟩
theorem eqv_bools : ∀ bs : List Bool, PyData.eqv (.list (bs.map .bool)) (.list (bs.map .bool)) = true ∧ cmpOk (.list (bs.map .bool)) (.list (bs.map .bool)) = true := fun bs => by
  constructor
  · show PyData.eqvAll _ _ = true
    induction bs with
    | nil => rfl
    | cons b r ih =>
      show (PyData.eqv (.bool b) (.bool b) && PyData.eqvAll (r.map .bool) (r.map .bool)) = true
      rw [ih]
      cases b <;> rfl
  · have f : (bs.map PyData.bool).all flatD = true := List.all_eq_true.mpr fun x hx => by
      obtain ⟨b, _, rfl⟩ := List.mem_map.mp hx
      rfl
    unfold cmpOk
    simp [f]
theorem own_row (k : Nat) : (nums 0 19).map (fun d => PyData.bool (eqD (.int (k : Nat)) d)) = ((rowB k).take 19).map .bool := by
  unfold nums
  rw [List.map_map, show (rowB k).take 19 = (List.range 19).map (fun j => decide (k = j)) from rfl, List.map_map]
  refine List.map_congr_left fun j _ => ?_
  show PyData.bool (decide ((k : Int) = 0 + (j : Nat))) = .bool (decide (k = j))
  congr 1
  exact decide_eq_decide.mpr (by omega)
def RiD (ds : List PyData) (z : PyData) : Prop := ∃ d, ds = [d] ∧ d ∈ allL ∧ z = .bool true
theorem ok__law_right (T : Txt K mg) : FnG P w K mg base CX0 4 T.a__law_right T.d__law_right ["_law_it"] (spZ K 1 RiD) := by
  have G__law_made := ok__law_made (P := P) (w := w) (base := base) T
  have G__law_named := ok__law_named (P := P) (w := w) (base := base) T
  have G__law_kinds := (ok__law_kinds (P := P) (w := w) (base := base) T).mono (show 1 ≤ 3 by decide)
  have G__law_carried := (ok__law_carried (P := P) (w := w) (base := base) T).mono (show 1 ≤ 3 by decide)
  refine okZ T.F__law_right sc__law_right rfl fun cdv A out s H vs E G ds z hr hq da hR => ?_
  obtain ⟨d, rfl, hd, rfl⟩ := hR
  cases da with
  | @cons v0 _ _ _ x0 hn => ?_
  cases hn
  have hu := hr.units
  have hrep := all_rep d hd
  have mp : Kin.Mo (PK K) := mo_pr mo_er mo_da
  have ml : Kin.Mo (LsS (PK K)) := mo_ls mp
  refine ⟨_, (pss_cons (ps_par (i := 1) (j := 2) (by rfl) sc__law_right.nd rfl rfl (by decide) rfl rfl (pa_cons (pe_g G__law_made hr hq (by rfl) T.g__law_made T.F__law_made.kp T.b__law_made .nil pass0 (pa_cons (pv 0) pa_nil)) (pa_cons (pe_callB (call_reprK K hq hu) (by rfl) T.m_repr (by decide +kernel) (pa_cons (pv 0) pa_nil)) pa_nil)) (by rfl))
    (pss_cons (ps_for PassesOwn.never rfl (pi_enumK K (by rfl) T.m_enumerate (pa_cons (pv 1) pa_nil)) (pg_tupK K rfl (pgs_cons (pg_name (i := 3) sc__law_right.nd rfl (.inr rfl)) (pgs_cons (pg_tupK K rfl (pgs_cons (pg_name (i := 4) sc__law_right.nd rfl (.inl rfl)) (pgs_cons (pg_name (i := 5) sc__law_right.nd rfl (.inl rfl)) pgs_nil))) pgs_nil)))
    (pss_cons (ps_setLc (i := 6) (own := [("_law_j", 9)]) (g := gName 9) (tt := tYes) rfl sc__law_right.nd rfl rfl (sw_true rfl rfl rfl (by decide +kernel)) (pi_range1 (by rfl) T.m_range (pa_cons (pe_callB (call_lenK K) (by rfl) T.m_len PySem.boot_len (pa_cons (pv 1) pa_nil)) pa_nil)) (blkOk_by (N := N__law_right) (sc := defScope s__law_right) (by decide +kernel)) (fun _ _ _ _ _ => (pg_name (i := 9) sc__law_right.nd rfl (.inl rfl))) (fun _ _ _ _ _ => pts_nil) (fun _ _ _ _ _ => (pe_cmpR op_eq (pv 3) (pv 9) (nomark _))))
    (pss_cons (ps_set (i := 7) sc__law_right.nd rfl (.inl rfl) (pe_lst (pa_cons (pe_callB call_isV (by rfl) T.m_isinstance (by decide +kernel) (pa_cons (pv 4) (pa_cons (pe_glob (v := .ref T.C_RoundCallsError) (by rfl) T.mg_RoundCallsError rfl) pa_nil))) (pa_cons (pe_callB call_isV (by rfl) T.m_isinstance (by decide +kernel) (pa_cons (pv 4) (pa_cons (pe_bltn (v := .ty "ValueError") (u := .type "ValueError") (by rfl) T.m_ValueError (by decide +kernel) rfl) pa_nil))) (pa_cons (pe_callB call_isV (by rfl) T.m_isinstance (by decide +kernel) (pa_cons (pv 4) (pa_cons (pe_bltn (v := .ty "KeyError") (u := .type "KeyError") (by rfl) T.m_KeyError (by decide +kernel) rfl) pa_nil))) pa_nil)))))
    (pss_cons (ps_if (PW.pt (pw_or (pt_cmpR (op_neDaK K hu) (pe_g G__law_kinds hr hq (by rfl) T.g__law_kinds T.F__law_kinds.kp T.b__law_kinds .nil pass0 (pa_cons (pv 4) pa_nil)) (pv 6) (nomark _)) (pw_or1 (pt_cmpR (op_neDaK K hu) (pv 7) (pe_lst (pa_cons (pe_cmpR op_lt (pv 3) pe_int (nomark _)) (pa_cons (pe_cmpR op_lt (pv 3) pe_int (nomark _)) (pa_cons (pe_cmpR op_ge (pv 3) pe_int (nomark _)) pa_nil)))) (nomark _)))))
    (pss_one (ps_ret pe_bl))
    pss_nil)
    (pss_one (ps_if (PW.pt (pw_and (pt_cmpR op_notN (pv 5) pe_non (nomark _)) (pw_and1 (pt_cmpR op_ne (pe_callB (call_reprK K hq hu) (by rfl) T.m_repr (by decide +kernel) (pa_cons (pe_g G__law_carried hr hq (by rfl) T.g__law_carried T.F__law_carried.kp T.b__law_carried .nil pass0 (pa_cons (pv 4) (pa_cons (pv 5) pa_nil))) pa_nil)) (pv 2) (nomark _)))))
    (pss_one (ps_ret pe_bl))
    pss_nil))))))
    (pss_cons (ps_setLc (i := 8) (own := [("_law_e", 4), ("_law_word", 5)]) (g := gTup _ 2 (gCons (gName 4) (gCons (gName 5) gNil))) rfl sc__law_right.nd rfl rfl (sw_true rfl rfl rfl (by decide +kernel)) (pi_listK K (pv 1)) (blkOk_by (N := N__law_right) (sc := defScope s__law_right) (by decide +kernel)) (fun _ _ _ _ _ => (pg_tupK K rfl (pgs_cons (pg_name (i := 4) sc__law_right.nd rfl (.inl rfl)) (pgs_cons (pg_name (i := 5) sc__law_right.nd rfl (.inl rfl)) pgs_nil)))) (fun _ _ _ _ _ => pts_one (pt_cmpR op_notN (pv 5) pe_non (nomark _))) (fun _ _ _ _ _ => (pv 5)))
    (pss_cons (ps_for PassesOwn.never rfl (pi_zipK K (by rfl) T.m_zip (pa_cons (pe_g G__law_named hr hq (by rfl) T.g__law_named T.F__law_named.kp T.b__law_named .nil pass0 (pa_cons (pv 0) pa_nil)) (pa_cons (pv 8) pa_nil))) (pg_tupK K rfl (pgs_cons (pg_name (i := 4) sc__law_right.nd rfl (.inl rfl)) (pgs_cons (pg_name (i := 5) sc__law_right.nd rfl (.inl rfl)) pgs_nil)))
    (pss_one (ps_if (pt_cmpR op_ne (pe_callB (call_reprK K hq hu) (by rfl) T.m_repr (by decide +kernel) (pa_cons (pe_g G__law_carried hr hq (by rfl) T.g__law_carried T.F__law_carried.kp T.b__law_carried .nil pass0 (pa_cons (pv 4) (pa_cons (pv 5) pa_nil))) pa_nil)) (pv 2) (nomark _))
    (pss_one (ps_ret pe_bl))
    pss_nil)))
    (pss_one (ps_ret (pe_cmpR op_eq (pe_callB (call_reprK K hq hu) (by rfl) T.m_repr (by decide +kernel) (pa_cons (pv 0) pa_nil)) (pv 2) (nomark _)))))))), ?_⟩
  show RetS (DaS K) [some v0, none, none, none, none, none, none, none, none, none] G _ _
  refine hv_par (S := LsS (PK K)) (T := DaS K) (U := DaS K) (i := 1) (j := 2) (b := .str d.shown) ml (hv_call (a_cons (e_var (i := 0) rfl x0) a_nil) rfl) (hv_da (e_cb (a_cons (e_var (i := 0) rfl x0) a_nil) (c_repr hrep))) fun v1 v2 G1 e1 b1 x2 => ?_
  have x0 := x0.mono e1
  cases x2
  change LsS (PK K) G1 v1 (T.made d) at b1
  show RetE K [some v0, some v1, some (.str d.shown), none, none, none, none, none, none, none] G1 _ (.bool true)
  have carry : ∀ {σ : L2.St} {F : Hp} {e : Addr × Option (Str × PyData)} {w : PyData} {we ww : V} {E : XK}, Wo e w d → σ[2]? = some (some (.str d.shown)) → σ[4]? = some (some we) → σ[5]? = some (some ww) → ErS K F we e → Da K F ww w →
      EvE K σ F (tOp rNe (tCB (rRepr K) (tCons (tCall (spF K (ErS K) CrD 1) [] E (tCons (tVar 4) (tCons (tVar 5) tNil))) tNil)) (tVar 2)) (.bool false) := fun {σ F e w we ww E} hw h2 h4 h5 he hx => by
    obtain ⟨C, f, rfl, rfl, hf⟩ := hw
    refine (e_op (e_cb (a_cons (hv_app (z := d) mo_er (hv_var mo_er h4 he) (a_cons (e_var h5 hx) a_nil) rfl ⟨C, f, rfl, rfl, hf⟩) a_nil) (c_repr hrep)) (e_var h2 (.str _)) (o_ne rfl)).is ?_
    simp [eqD]
  refine (r_body (o := none) (vs := [3, 4, 5, 6, 7]) ((hv_for (S := PrS NumS (PK K)) (p := fun _ => true) (z := .bool false) (i_enumS mp (hv_var (i := 1) ml rfl b1)) (fun x hx σ0 hw => ?_)).is (by rw [List.all_eq_true.mpr (fun _ _ => rfl)]; rfl)) fun _ σ1 G2 hw2 e2 => ?_).is rfl
  · obtain ⟨a3, a4, a5, a6, a7, rfl⟩ := wipe5 hw
    obtain ⟨k, hk⟩ := List.mem_iff_getElem?.mp hx
    rw [List.getElem?_map, List.getElem?_zipIdx, Nat.zero_add] at hk
    obtain ⟨c, hc, rfl⟩ := Option.map_eq_some_iff.mp hk
    obtain ⟨y, hy, rfl⟩ := Option.map_eq_some_iff.mp hc
    obtain ⟨hk19, kit, hwo⟩ := T.made_at d k y hy
    refine ⟨_, gs_12, fun F' σ' ef hP => ?_⟩
    obtain ⟨k3, v4, v5, rfl, he, hx5, rfl⟩ := hP
    have b1 := ml _ _ _ _ ef b1
    refine ⟨rfl, ?_⟩
    show BodE K [some v0, some v1, some (.str d.shown), some (.int (k : Nat)), some v4, some v5, a6, a7, none, none] F' _ _ none
    refine hb_put (i := 6) (d := .list (((rowB k).take 19).map .bool)) ((e_lc1 (f := fun d => .bool (eqD (.int (k : Nat)) d)) (i_range1 (j := 19) (a_cons (e_lenS (hv_var (i := 1) ml rfl b1)) a_nil) (by decide) (by decide)) (by decide) fun d1 hd1 F2 v2 ef2 dv2 => ?_).is ?_) (by decide) fun v6 F2 ef2 x6 => ?_
    · obtain ⟨j, hj⟩ := List.mem_iff_getElem?.mp hd1
      obtain ⟨_, rfl⟩ := nums_get hj
      exact e_op (e_var (i := 3) rfl (.int _)) (e_var (i := 9) rfl dv2) (o_eq rfl)
    · exact congrArg PyData.list (own_row k)
    have he2 := mo_er _ _ _ _ ef2 he
    have hx2 := hx5.mono ef2
    refine hb_put (i := 7) (d := .list [.bool (decide (k < 17)), .bool (decide (k < 17)), .bool (decide (17 ≤ k))]) (e_lst (a_cons (e_isV (hv_var (i := 4) mo_er rfl he2) one_ref (kit.get (i := 19) rfl rfl)) (a_cons (e_isV (hv_var (i := 4) mo_er rfl he2) one_ty (kit.get (i := 20) rfl rfl)) (a_cons (e_isV (hv_var (i := 4) mo_er rfl he2) one_ty (kit.get (i := 21) rfl rfl)) a_nil))) (show 3 ≤ 100000 by decide)) (by decide) fun v7 F3 ef3 x7 => ?_
    have he3 := mo_er _ _ _ _ ef3 he2
    have hx3 := hx2.mono ef3
    have x6 := x6.mono ef3
    show BodE K [some v0, some v1, some (.str d.shown), some (.int (k : Nat)), some v4, some v5, some v6, some v7, none, none] F3 _ _ none
    have b17 : decide ((k : Int) < 17) = decide (k < 17) := decide_eq_decide.mpr (by omega)
    have c17 : decide ((17 : Int) ≤ (k : Int)) = decide (17 ≤ k) := decide_eq_decide.mpr (by omega)
    have same := eqv_bools ((rowB k).take 19)
    have same3 := eqv_bools [decide (k < 17), decide (k < 17), decide (17 ≤ k)]
    refine b_gseq (b := false) (z := .bool false) (t_or0 ((t_test (e_op (hv_app (z := .list (((rowB k).take 19).map .bool)) mo_er (hv_var (i := 4) mo_er rfl he3) a_nil rfl ⟨rfl, _, kit, rfl⟩) (e_var (i := 6) rfl x6) (o_neDa same.2))).is (by rw [same.1]; rfl))
      ((t_test (e_op (e_var (i := 7) rfl x7) (e_lst (a_cons (e_op (e_var (i := 3) rfl (.int _)) e_int (o_I0 fun _ => .bl _)) (a_cons (e_op (e_var (i := 3) rfl (.int _)) e_int (o_I0 fun _ => .bl _)) (a_cons (e_op (e_var (i := 3) rfl (.int _)) e_int (o_I0 fun _ => .bl _)) a_nil))) (show 3 ≤ 100000 by decide)) (o_neDa ?_))).is ?_)) (fun z => nomatch z) ?_
    · simp only [b17, c17]
      exact same3.2
    · simp only [b17, c17]
      have e := same3.1
      simp only [List.map_cons, List.map_nil] at e
      rw [e]; rfl
    · intro _ F4 ef4
      have he4 := mo_er _ _ _ _ ef4 he3
      have hx4 := hx3.mono ef4
      rcases hwo with hn | hw
      · refine (b_guard (b := false) (z := .bool false) (t_and0 ((t_test (e_op (e_var (i := 5) rfl hx4) e_non o_noNone)).is ?_)) fun z => nomatch z).is rfl
        rw [hn]; rfl
      · refine (b_guard (b := false) (z := .bool false) (t_and1 ((t_test (e_op (e_var (i := 5) rfl hx4) e_non o_noNone)).is ?_) (t_test (carry hw rfl rfl rfl he4 hx4))) fun z => nomatch z).is rfl
        obtain ⟨_, _, _, e, _⟩ := hw
        rw [e]; rfl
  · obtain ⟨a3, a4, a5, a6, a7, rfl⟩ := wipe5 hw2
    have b2 := ml _ _ _ _ e2 b1
    have x02 := x0.mono e2
    refine r_set (i := 8) (d := .list wordsL) ((hv_lc (S := PK K) (p := fun x => !isNo x.2) (f := fun x => x.2) (i_lsS mp (hv_var (i := 1) ml rfl b2)) (show 19 ≤ 100000 by decide) fun x hx => ⟨_, gs_2, fun F' σ' ef hP => ?_⟩).is rfl) fun v8 G3 e3 x8 => ?_
    · obtain ⟨v4, v5, he, hx5, rfl⟩ := hP
      exact ⟨rfl, t_test (e_op (e_var (i := 5) rfl hx5) e_non o_noNone), fun _ => e_var (i := 5) rfl hx5⟩
    have x03 := x02.mono e3
    show RetE K [some v0, some v1, some (.str d.shown), a3, a4, a5, a6, a7, some v8, none] G3 _ (.bool true)
    refine (r_body (o := none) (vs := [4, 5]) ((hv_for (S := PrS (ErS K) (DaS K)) (p := fun _ => true) (z := .bool false) (i_zipS mo_er mo_da (hv_call (a_cons (e_var (i := 0) rfl x03) a_nil) rfl) (hv_ofL (e_var (i := 8) rfl x8))) (fun x hx σ0 hw => ?_)).is (by rw [List.all_eq_true.mpr (fun _ _ => rfl)]; rfl)) fun _ σ1 G4 hw4 e4 => ?_).is rfl
    · obtain ⟨a4, a5, rfl⟩ := wipe2 hw
      refine ⟨_, gs_2, fun F' σ' ef hP => ?_⟩
      obtain ⟨v4, v5, he, hx5, rfl⟩ := hP
      exact ⟨rfl, (b_guard (b := false) (z := .bool false) (t_test (carry (T.zip_at d x hx) rfl rfl rfl he hx5)) fun z => nomatch z).is rfl⟩
    · obtain ⟨a4, a5, rfl⟩ := wipe2 hw4
      refine r_ret ((e_op (e_cb (a_cons (e_var (i := 0) rfl (x03.mono e4)) a_nil) (c_repr hrep)) (e_var (i := 2) rfl (.str _)) (o_eq rfl)).is ?_)
      simp [eqD]
end
end L86
set_option Elab.async false
set_option linter.all false
set_option maxRecDepth 100000
set_option maxHeartbeats 1000000
namespace L86
open PySem PySem.Spec PyProof.Rows L2 KD
section
variable {P : Program} {w : World} {K : PySem.W.Frag} {mg : Str → Option Value} {base : Heap}
/-! ### the law -/
theorem bools_of {G : Hp} : ∀ (bs : List Bool) (xs : List V), DaAll K G xs (bs.map .bool) → xs = bs.map V.bl
  | [], _, h => by cases h; rfl
  | b :: r, _, h => by
    cases h with
    | cons h1 h2 => cases h1; rw [bools_of r _ h2]; rfl
theorem o_noTrue {bs : List Bool} (hb : bs.all (fun b => !b) = true) : OpD K (rIn K true) (.bool true) (.list (bs.map .bool)) (.bool true) := fun G H v u e d1 d2 Q q => by
  cases d1
  cases d2 with
  | lst h1 a1 =>
    have e1 := bools_of bs _ a1
    subst e1
    refine ⟨_, _, rfl, .inl (SqL.of (e _ _ h1)), rfl, List.all_eq_true.mpr fun x hx => ?_, ?_⟩
    · obtain ⟨b, _, rfl⟩ := List.mem_map.mp hx
      rfl
    · have z : inV (.bl true) (bs.map V.bl) = false := by
        unfold inV
        rw [List.any_eq_false]
        intro x hx
        obtain ⟨b, hb', rfl⟩ := List.mem_map.mp hx
        have := List.all_eq_true.mp hb b hb'
        cases b with
        | false => decide
        | true => cases this
      have r := q (.bl true) G H (Up.rf e) (.bl true)
      simpa [z] using r
def catLL : PyData → PyData → PyData
  | .list a, .list b => .list (a ++ b)
  | _, _ => .none
def sp_law (K : PySem.W.Frag) : Sp := fun vs H Q _ => vs.length = 1 ∧ ∃ (a : Addr) (ns : List Int), vs = [.ref a] ∧ SqL K H a (ns.map V.int) ∧ ns.length ≤ 63 ∧ ∀ H', Q (.bl true) H'
theorem sp_law_go {a : Addr} {ns : List Int} {H : Hp} {E : XK} (hl : ns.length ≤ 63) (hS : SqL K H a (ns.map V.int)) : sp_law K [.ref a] H (fun v _ => v = .bl true) E :=
  ⟨rfl, a, ns, rfl, hS, hl, fun _ => rfl⟩
theorem n_odd {dk cl : Addr} {σ : L2.St} {F : Hp} {m : Nat} {E : XK} (hd : σ[1]? = some (some (.ref dk))) (hm : m ≤ 999990000) : EvN K dk cl σ F m (tCall (spOdd K) [] E (tCons (tVar 1) tNil)) (m + 1) (fun d => d ∈ oddL ++ oddM) := fun G H e1 e2 hD Q q =>
  ⟨.ref dk, hd, dk, cl, G, m, rfl, e2, hD, hm, fun v d G' H' u hD' hd dv => q v d G' H' u hD' hd dv⟩
theorem ok_law (T : Txt K mg) : FnG P w K mg base CX0 5 T.a_law T.d_law ["_law_script"] (sp_law K) := by
  have G__law_deck := (ok__law_deck (P := P) (w := w) (base := base) T).mono (show 1 ≤ 4 by decide)
  have G__law_odd := (ok__law_odd (P := P) (w := w) (base := base) T).mono (show 3 ≤ 4 by decide)
  have G__law_right := ok__law_right (P := P) (w := w) (base := base) T
  have G__law_kinds := (ok__law_kinds (P := P) (w := w) (base := base) T).mono (show 1 ≤ 4 by decide)
  refine okG T.F_law sc_law (fun vs H Q E h => h.1) fun cdv A out s0 H vs Q E hr hq h => ?_
  obtain ⟨_, a, ns, rfl, hS, hl, q⟩ := h
  have hu := hr.units
  refine ⟨_, (pss_cons (ps_set (i := 1) sc_law.nd rfl (.inr rfl) (pe_g G__law_deck hr hq (by rfl) T.g__law_deck T.F__law_deck.kp T.b__law_deck .nil pass0 (pa_cons (pv 0) pa_nil)))
    (pss_cons (ps_set (i := 2) sc_law.nd rfl (.inl rfl) (pe_op op_cat (pe_lst (pa_cons pe_non (pa_cons pe_str (pa_cons (pe_tup pa_nil) (pa_cons (pe_lst pa_nil) (pa_cons pe_int (pa_cons pe_bl (pa_cons pe_bl pa_nil)))))))) (pe_lc (own := [("_law_k", 4)]) (g := gName 4) (tt := tYes) rfl sc_law.nd  (pi_range1 (by rfl) T.m_range (pa_cons pe_int pa_nil)) (blkOk_by (N := N_law) (sc := defScope s_law) (by decide +kernel)) (fun _ _ _ _ _ => (pg_name (i := 4) sc_law.nd rfl (.inl rfl))) (fun _ _ _ _ _ => pts_nil) (fun _ _ _ _ _ => (pe_g G__law_odd hr hq (by rfl) T.g__law_odd T.F__law_odd.kp T.b__law_odd .nil pass0 (pa_cons (pv 1) pa_nil))))))
    (pss_cons (ps_if (pt_cmpR (op_neDaK K hu) (pe_lc (own := [("_law_it", 5)]) (g := gName 5) rfl sc_law.nd  (pi_listK K (pv 2)) (blkOk_by (N := N_law) (sc := defScope s_law) (by decide +kernel)) (fun _ _ _ _ _ => (pg_name (i := 5) sc_law.nd rfl (.inl rfl))) (fun _ _ _ _ _ => pts_one (pt_not (pt_val (pe_g G__law_right hr hq (by rfl) T.g__law_right T.F__law_right.kp T.b__law_right .nil pass0 (pa_cons (pv 5) pa_nil))))) (fun _ _ _ _ _ => (pv 5))) (pe_lst pa_nil) (nomark _))
    (pss_one (ps_ret pe_bl))
    pss_nil)
    (pss_cons (ps_set (i := 3) sc_law.nd rfl (.inl rfl) (pe_err0 T.B_RoundCallsError T.mg_RoundCallsError (by rfl)))
    (pss_one (ps_ret (pe_and (pe_cmpR (op_eqDaK K hu) (pe_lst (pa_cons (pe_callB call_isV (by rfl) T.m_isinstance (by decide +kernel) (pa_cons (pv 3) (pa_cons (pe_bltn (v := .ty "ValueError") (u := .type "ValueError") (by rfl) T.m_ValueError (by decide +kernel) rfl) pa_nil))) (pa_cons (pe_callB call_isV (by rfl) T.m_isinstance (by decide +kernel) (pa_cons (pv 3) (pa_cons (pe_bltn (v := .ty "KeyError") (u := .type "KeyError") (by rfl) T.m_KeyError (by decide +kernel) rfl) pa_nil))) pa_nil))) (pe_lst (pa_cons pe_bl (pa_cons pe_bl pa_nil))) (nomark _)) (pe_one (pe_cmpR op_notIn_seq pe_bl (pe_g G__law_kinds hr hq (by rfl) T.g__law_kinds T.F__law_kinds.kp T.b__law_kinds .nil pass0 (pa_cons (pv 3) pa_nil)) rfl))))))))), ?_⟩
  refine ⟨.ref a, rfl, rfl, a, ns, fun _ => none, rfl, hS, hl, fun _ _ h => (by cases h), fun dk cl H1 _ _ _ hD1 => ?_⟩
  have e1 : Ex (fun _ => none) H1 := fun _ _ h => (by cases h)
  show tSeq _ _ _ [some (V.ref a), some (V.ref dk), none, none, none, none] H1
  refine st_set (K := K) (σ := [some (V.ref a), some (V.ref dk), none, none, none, none]) (G := fun _ => none) ((n_op (f := catLL) (n_pure (d := .list fixL) (e_lst (a_cons e_non (a_cons e_str (a_cons (e_tup a_nil (show 0 ≤ 100000 by decide)) (a_cons (e_lst a_nil (show 0 ≤ 100000 by decide)) (a_cons e_int (a_cons e_bl (a_cons e_bl a_nil))))))) (show 7 ≤ 100000 by decide)))
    (fun _ _ => n_lc1 (i := 4) (c := 1) (P := fun _ r => r ∈ oddL ++ oddM) (i_range1 (j := 6) (a_cons e_int a_nil) (by decide) (by decide)) (by decide) fun k d hd F' v ef dv => n_odd rfl (by have := (List.getElem?_eq_some_iff.mp hd).1; simp [nums] at this; omega)) ?_).imp
    (P' := fun d => ∃ xs, d = .list xs ∧ xs.length ≤ 100 ∧ ∀ x ∈ xs, x ∈ allL) ?_) e1 hD1 fun v2 d2 G2 H2 u2 hD2 p2 x2 => ?_
  · rintro _ _ rfl ⟨rs, rfl, hrl, _⟩
    have hrl : rs.length = 6 := hrl
    refine o_cat ?_
    show 7 + rs.length ≤ 100000
    omega
  · rintro _ ⟨_, _, rfl, ⟨rs, rfl, hrl, hrs⟩, rfl⟩
    have hrl : rs.length = 6 := hrl
    refine ⟨fixL ++ rs, rfl, ?_, fun x hx => ?_⟩
    · show (fixL ++ rs).length ≤ 100
      rw [List.length_append, hrl]
      decide
    · rcases List.mem_append.mp hx with h | h
      · exact List.mem_append_left _ h
      · obtain ⟨j, hj⟩ := List.mem_iff_getElem?.mp h
        have hjl := (List.getElem?_eq_some_iff.mp hj).1
        have hn : j < (nums 0 6).length := by simp [nums]; omega
        exact List.mem_append_right _ (hrs j _ x (List.getElem?_eq_getElem hn) hj)
  obtain ⟨xs, rfl, hxl, hall⟩ := p2
  show tSeq _ _ _ [some (V.ref a), some (V.ref dk), some v2, none, none, none] H2
  refine ((t_test (K := K) (e_op ((e_lc1f (i := 5) (p := fun _ => false) (f := fun d => d) (i_list (e_var (i := 2) rfl x2)) (by omega) fun d hd F' v ef dv =>
    ⟨(t_not (t_val (b := true) (e_callZ (n := 1) (E := E0) (z := .bool true) (R := RiD) (a_cons (e_var (i := 5) rfl dv) a_nil) rfl ⟨d, rfl, hall d hd, rfl⟩))).is rfl, fun z => nomatch z⟩).is (d' := .list []) (by rw [List.filter_eq_nil_iff.mpr (fun _ _ => by simp)]; rfl)) (e_lst a_nil (show 0 ≤ 100000 by decide)) (o_neDa cmpOk_nil))).is rfl : EvT [some (V.ref a), some (V.ref dk), some v2, none, none, none] G2 _ false) G2 H2 (Ex.rf _) u2.h _ fun G3 H3 u3 => iteF ?_
  show tSeq (tAsg (tErr0 T.C_RoundCallsError) (gName 3)) _ _ [some (V.ref a), some (V.ref dk), some v2, none, none, none] H3
  refine st_e (hv_err0 (K := K) (σ := [some (V.ref a), some (V.ref dk), some v2, none, none, none]) (F := G3) T.B_RoundCallsError.held G3 H3 (Ex.rf _) u3.h _ fun v3 G4 H4 u4 he => ?_)
  show tRet _ _ [some (V.ref a), some (V.ref dk), some v2, some v3, none, none] H4
  have row := T.r_RoundCallsError
  have o : EvS (ErS K) [some (V.ref a), some (V.ref dk), some v2, some v3, none, none] G4 (tVar 3) (T.C_RoundCallsError, none) := hv_var (i := 3) mo_er rfl he
  have two := eqv_bools [true, false]
  refine (r_ret (K := K) (e_and1 (b := true) ((e_op (e_lst (a_cons (e_isV o one_ty (row.get (i := 20) rfl rfl)) (a_cons (e_isV o one_ty (row.get (i := 21) rfl rfl)) a_nil)) (show 2 ≤ 100000 by decide)) (e_lst (a_cons e_bl (a_cons e_bl a_nil)) (show 2 ≤ 100000 by decide)) (o_eqDa two.2)).is (congrArg PyData.bool two.1))
    (e_op e_bl (hv_app (z := .list ((List.replicate 19 false).map .bool)) mo_er o a_nil rfl ⟨rfl, _, row, rfl⟩) (o_noTrue (by decide))))) G4 H4 (Ex.rf _) u4.h _ fun w G5 H5 u5 dw => ?_
  cases dw
  exact q H5
end
end L86
set_option Elab.async false
set_option linter.all false
set_option maxRecDepth 100000
set_option maxHeartbeats 1000000
namespace L86
open PySem PySem.Spec PyProof.Rows L2 KD
theorem defAt {K : PySem.W.Frag} {x : Str} {st : Stmt} {h : Heap} {mg : Str → Option Value} (X : K.In h) (G : h.Ns mainGlobals mg) {f : Addr}
    {od an : Option Addr} {sl : Array (Option Value)} {oc kV dc pm cd ct : Value} (a : PySem.W.nsIn K mainGlobals x = some (some (.ref f)))
    (l : K.lookup f = some ⟨oc, od, .func (PySem.W.fnOf x x (defArgs st) (defBody st) (defScope st) .none kV dc pm an cd ct), sl⟩)
    (c : PySem.W.codeIn K cd x = true) (k : PySem.W.keepIn K (.ref f) = true) : ∃ fd, Fun K x x st f fd ∧ mg x = some (.ref f) :=
  ⟨_, fun_mk (st := st) l c k, PySem.W.mg_of X G a⟩
theorem lawAt {l : PySem.W.OpenLaw} {w : World} {K : PySem.W.Frag} {mg : Str → Option Value} {fa : Addr} (hfa : mg "law" = some (.ref fa)) (hp : l.prog = PySem.Challenge.pw_roundcalls_k86_errors) (T : Txt K mg) :
    ∃ fd : FuncData, (∀ (s : Shared) (v : Value), BindsTo s fd ⟨[v], []⟩ [("_law_script", v)]) ∧ ∀ base : Heap, K.In base → base.Ns mainGlobals mg → FnG l.prog w K mg base CX0 5 fa fd ["_law_script"] (sp_law K) := by
  have e := hfa.symm.trans T.g_law
  cases e
  refine ⟨T.d_law, fun s v => ?_, fun base _ _ => ok_law T⟩
  obtain ⟨oc, od, kV, doc, pm, an, cdv, ct, osl, e, _, _⟩ := T.F_law.ex
  rw [e]
  exact .of_eq rfl
end L86
open PySem PySem.W PyProof.Rows
set_option maxHeartbeats 0 in
theorem PySem.Challenge.cw_roundcalls_k86_errors_holds : PySem.Challenge.rw_roundcalls_k86_errors.Holds := by
  w_on; o_law; k_head; (case hw => w_witness2)
  k_fill
  refine KD.walkG (l := PySem.Challenge.rw_roundcalls_k86_errors) (n := 63) (k := 5) (x := "_law_script") (CX := fun _ => L2.CX0)
    (sp := fun w => L86.sp_law _) rfl (by decide) rfl ⟨rfl, by decide, by decide⟩ (fun w h Y => PySem.W.kIn_of Y) ?F
    (fun _ _ a ns hl _ hS => L86.sp_law_go hl hS) (fun _ _ _ _ _ h => h)
  case F =>
    intro w mg fa h KX G hmg
    obtain ⟨d__law_deck, F__law_deck, g__law_deck⟩ := L86.defAt (x := "_law_deck") (st := L86.s__law_deck) KX G (by k_is) (by k_is) (by k_is) (by k_is)
    obtain ⟨d__law_draw, F__law_draw, g__law_draw⟩ := L86.defAt (x := "_law_draw") (st := L86.s__law_draw) KX G (by k_is) (by k_is) (by k_is) (by k_is)
    obtain ⟨d__law_pick, F__law_pick, g__law_pick⟩ := L86.defAt (x := "_law_pick") (st := L86.s__law_pick) KX G (by k_is) (by k_is) (by k_is) (by k_is)
    obtain ⟨d__law_odd, F__law_odd, g__law_odd⟩ := L86.defAt (x := "_law_odd") (st := L86.s__law_odd) KX G (by k_is) (by k_is) (by k_is) (by k_is)
    obtain ⟨d__law_made, F__law_made, g__law_made⟩ := L86.defAt (x := "_law_made") (st := L86.s__law_made) KX G (by k_is) (by k_is) (by k_is) (by k_is)
    obtain ⟨d__law_named, F__law_named, g__law_named⟩ := L86.defAt (x := "_law_named") (st := L86.s__law_named) KX G (by k_is) (by k_is) (by k_is) (by k_is)
    obtain ⟨d__law_carried, F__law_carried, g__law_carried⟩ := L86.defAt (x := "_law_carried") (st := L86.s__law_carried) KX G (by k_is) (by k_is) (by k_is) (by k_is)
    obtain ⟨d__law_kinds, F__law_kinds, g__law_kinds⟩ := L86.defAt (x := "_law_kinds") (st := L86.s__law_kinds) KX G (by k_is) (by k_is) (by k_is) (by k_is)
    obtain ⟨d__law_right, F__law_right, g__law_right⟩ := L86.defAt (x := "_law_right") (st := L86.s__law_right) KX G (by k_is) (by k_is) (by k_is) (by k_is)
    obtain ⟨d_law, F_law, g_law⟩ := L86.defAt (x := "law") (st := L86.s_law) KX G (by k_is) (by k_is) (by k_is) (by k_is)
    have h_RoundCallsError := KD.bareAt (x := "RoundCallsError") KX G (by k_is) (by kernel_rfl)
    have h_InvalidText := KD.bareAt (x := "InvalidText") KX G (by k_is) (by kernel_rfl)
    have h_InvalidCommand := KD.bareAt (x := "InvalidCommand") KX G (by k_is) (by kernel_rfl)
    obtain ⟨m_NoPath, d_NoPath___init__, F_NoPath___init__, E_NoPath⟩ := KD.heldAt (x := "NoPath") (q := "NoPath.__init__") (st := L86.s_NoPath___init__) (f := "path") KX G KD.abv_ve (by k_is) (by k_is) (by k_is) (by k_is) (by k_is) (by kernel_rfl)
    obtain ⟨m_UnknownName, d_UnknownName___init__, F_UnknownName___init__, E_UnknownName⟩ := KD.heldAt (x := "UnknownName") (q := "UnknownName.__init__") (st := L86.s_UnknownName___init__) (f := "path") KX G KD.abv_ve (by k_is) (by k_is) (by k_is) (by k_is) (by k_is) (by kernel_rfl)
    obtain ⟨m_UnknownTag, d_UnknownTag___init__, F_UnknownTag___init__, E_UnknownTag⟩ := KD.heldAt (x := "UnknownTag") (q := "UnknownTag.__init__") (st := L86.s_UnknownTag___init__) (f := "path") KX G KD.abv_ve (by k_is) (by k_is) (by k_is) (by k_is) (by k_is) (by kernel_rfl)
    obtain ⟨m_WrongCount, d_WrongCount___init__, F_WrongCount___init__, E_WrongCount⟩ := KD.heldAt (x := "WrongCount") (q := "WrongCount.__init__") (st := L86.s_WrongCount___init__) (f := "path") KX G KD.abv_ve (by k_is) (by k_is) (by k_is) (by k_is) (by k_is) (by kernel_rfl)
    obtain ⟨m_WrongSort, d_WrongSort___init__, F_WrongSort___init__, E_WrongSort⟩ := KD.heldAt (x := "WrongSort") (q := "WrongSort.__init__") (st := L86.s_WrongSort___init__) (f := "path") KX G KD.abv_ve (by k_is) (by k_is) (by k_is) (by k_is) (by k_is) (by kernel_rfl)
    obtain ⟨m_WrongPlace, d_WrongPlace___init__, F_WrongPlace___init__, E_WrongPlace⟩ := KD.heldAt (x := "WrongPlace") (q := "WrongPlace.__init__") (st := L86.s_WrongPlace___init__) (f := "path") KX G KD.abv_ve (by k_is) (by k_is) (by k_is) (by k_is) (by k_is) (by kernel_rfl)
    obtain ⟨m_WrongArguments, d_WrongArguments___init__, F_WrongArguments___init__, E_WrongArguments⟩ := KD.heldAt (x := "WrongArguments") (q := "WrongArguments.__init__") (st := L86.s_WrongArguments___init__) (f := "count") KX G KD.abv_ve (by k_is) (by k_is) (by k_is) (by k_is) (by k_is) (by kernel_rfl)
    obtain ⟨m_NoCertificate, d_NoCertificate___init__, F_NoCertificate___init__, E_NoCertificate⟩ := KD.heldAt (x := "NoCertificate") (q := "NoCertificate.__init__") (st := L86.s_NoCertificate___init__) (f := "name") KX G KD.abv_ve (by k_is) (by k_is) (by k_is) (by k_is) (by k_is) (by kernel_rfl)
    obtain ⟨m_NoRuns, d_NoRuns___init__, F_NoRuns___init__, E_NoRuns⟩ := KD.heldAt (x := "NoRuns") (q := "NoRuns.__init__") (st := L86.s_NoRuns___init__) (f := "name") KX G KD.abv_ve (by k_is) (by k_is) (by k_is) (by k_is) (by k_is) (by kernel_rfl)
    obtain ⟨m_NotPending, d_NotPending___init__, F_NotPending___init__, E_NotPending⟩ := KD.heldAt (x := "NotPending") (q := "NotPending.__init__") (st := L86.s_NotPending___init__) (f := "call") KX G KD.abv_ve (by k_is) (by k_is) (by k_is) (by k_is) (by k_is) (by kernel_rfl)
    have h_NotFinished := KD.bareAt (x := "NotFinished") KX G (by k_is) (by kernel_rfl)
    obtain ⟨m_NotPlain, d_NotPlain___init__, F_NotPlain___init__, E_NotPlain⟩ := KD.heldAt (x := "NotPlain") (q := "NotPlain.__init__") (st := L86.s_NotPlain___init__) (f := "name") KX G KD.abv_ve (by k_is) (by k_is) (by k_is) (by k_is) (by k_is) (by kernel_rfl)
    obtain ⟨m_NotSimple, d_NotSimple___init__, F_NotSimple___init__, E_NotSimple⟩ := KD.heldAt (x := "NotSimple") (q := "NotSimple.__init__") (st := L86.s_NotSimple___init__) (f := "name") KX G KD.abv_ve (by k_is) (by k_is) (by k_is) (by k_is) (by k_is) (by kernel_rfl)
    obtain ⟨m_NoMaker, d_NoMaker___init__, F_NoMaker___init__, E_NoMaker⟩ := KD.heldAt (x := "NoMaker") (q := "NoMaker.__init__") (st := L86.s_NoMaker___init__) (f := "name") KX G KD.abv_ve (by k_is) (by k_is) (by k_is) (by k_is) (by k_is) (by kernel_rfl)
    obtain ⟨m_NameTaken, d_NameTaken___init__, F_NameTaken___init__, E_NameTaken⟩ := KD.heldAt (x := "NameTaken") (q := "NameTaken.__init__") (st := L86.s_NameTaken___init__) (f := "name") KX G KD.abv_ve (by k_is) (by k_is) (by k_is) (by k_is) (by k_is) (by kernel_rfl)
    obtain ⟨m_UnknownFunction, d_UnknownFunction___init__, F_UnknownFunction___init__, E_UnknownFunction⟩ := KD.heldAt (x := "UnknownFunction") (q := "UnknownFunction.__init__") (st := L86.s_UnknownFunction___init__) (f := "name") KX G KD.abv_ke (by k_is) (by k_is) (by k_is) (by k_is) (by k_is) (by kernel_rfl)
    obtain ⟨m_UnknownItem, d_UnknownItem___init__, F_UnknownItem___init__, E_UnknownItem⟩ := KD.heldAt (x := "UnknownItem") (q := "UnknownItem.__init__") (st := L86.s_UnknownItem___init__) (f := "name") KX G KD.abv_ke (by k_is) (by k_is) (by k_is) (by k_is) (by k_is) (by kernel_rfl)
    have m_isinstance := PySem.W.mg_none_of (n := "isinstance") KX G (by k_is)
    have m_len := PySem.W.mg_none_of (n := "len") KX G (by k_is)
    have m_range := PySem.W.mg_none_of (n := "range") KX G (by k_is)
    have m_repr := PySem.W.mg_none_of (n := "repr") KX G (by k_is)
    have m_list := PySem.W.mg_none_of (n := "list") KX G (by k_is)
    have m_enumerate := PySem.W.mg_none_of (n := "enumerate") KX G (by k_is)
    have m_zip := PySem.W.mg_none_of (n := "zip") KX G (by k_is)
    have m_ValueError := PySem.W.mg_none_of (n := "ValueError") KX G (by k_is)
    have m_KeyError := PySem.W.mg_none_of (n := "KeyError") KX G (by k_is)
    exact L86.lawAt hmg rfl ⟨_, d_NoPath___init__, F_NoPath___init__,
      _, d_UnknownName___init__, F_UnknownName___init__,
      _, d_UnknownTag___init__, F_UnknownTag___init__,
      _, d_WrongCount___init__, F_WrongCount___init__,
      _, d_WrongSort___init__, F_WrongSort___init__,
      _, d_WrongPlace___init__, F_WrongPlace___init__,
      _, d_WrongArguments___init__, F_WrongArguments___init__,
      _, d_NoCertificate___init__, F_NoCertificate___init__,
      _, d_NoRuns___init__, F_NoRuns___init__,
      _, d_NotPending___init__, F_NotPending___init__,
      _, d_NotPlain___init__, F_NotPlain___init__,
      _, d_NotSimple___init__, F_NotSimple___init__,
      _, d_NoMaker___init__, F_NoMaker___init__,
      _, d_NameTaken___init__, F_NameTaken___init__,
      _, d_UnknownFunction___init__, F_UnknownFunction___init__,
      _, d_UnknownItem___init__, F_UnknownItem___init__,
      _, d__law_deck, F__law_deck, g__law_deck,
      _, d__law_draw, F__law_draw, g__law_draw,
      _, d__law_pick, F__law_pick, g__law_pick,
      _, d__law_odd, F__law_odd, g__law_odd,
      _, d__law_made, F__law_made, g__law_made,
      _, d__law_named, F__law_named, g__law_named,
      _, d__law_carried, F__law_carried, g__law_carried,
      _, d__law_kinds, F__law_kinds, g__law_kinds,
      _, d__law_right, F__law_right, g__law_right,
      _, d_law, F_law, g_law,
      _, h_RoundCallsError.1, h_RoundCallsError.2,
      _, h_InvalidText.1, h_InvalidText.2,
      _, h_InvalidCommand.1, h_InvalidCommand.2,
      _, m_NoPath, E_NoPath,
      _, m_UnknownName, E_UnknownName,
      _, m_UnknownTag, E_UnknownTag,
      _, m_WrongCount, E_WrongCount,
      _, m_WrongSort, E_WrongSort,
      _, m_WrongPlace, E_WrongPlace,
      _, m_WrongArguments, E_WrongArguments,
      _, m_NoCertificate, E_NoCertificate,
      _, m_NoRuns, E_NoRuns,
      _, m_NotPending, E_NotPending,
      _, h_NotFinished.1, h_NotFinished.2,
      _, m_NotPlain, E_NotPlain,
      _, m_NotSimple, E_NotSimple,
      _, m_NoMaker, E_NoMaker,
      _, m_NameTaken, E_NameTaken,
      _, m_UnknownFunction, E_UnknownFunction,
      _, m_UnknownItem, E_UnknownItem,
      (by unfold KD.KitR; kernel_rfl),
      (by unfold KD.KitR; kernel_rfl),
      (by unfold KD.KitR; kernel_rfl),
      (by unfold KD.KitR; kernel_rfl),
      (by unfold KD.KitR; kernel_rfl),
      (by unfold KD.KitR; kernel_rfl),
      (by unfold KD.KitR; kernel_rfl),
      (by unfold KD.KitR; kernel_rfl),
      (by unfold KD.KitR; kernel_rfl),
      (by unfold KD.KitR; kernel_rfl),
      (by unfold KD.KitR; kernel_rfl),
      (by unfold KD.KitR; kernel_rfl),
      (by unfold KD.KitR; kernel_rfl),
      (by unfold KD.KitR; kernel_rfl),
      (by unfold KD.KitR; kernel_rfl),
      (by unfold KD.KitR; kernel_rfl),
      (by unfold KD.KitR; kernel_rfl),
      (by unfold KD.KitR; kernel_rfl),
      (by unfold KD.KitR; kernel_rfl),
      (by unfold KD.KitR; kernel_rfl),
      m_isinstance,
      m_len,
      m_range,
      m_repr,
      m_list,
      m_enumerate,
      m_zip,
      m_ValueError,
      m_KeyError⟩
