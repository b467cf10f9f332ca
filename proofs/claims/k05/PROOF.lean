import PyProof.Rows.All
import Wide.All
import OpenK.AllK
import Wide.FinOn
import HandS.ForMost
import HandS.Wide
import HandS.Style
import HandS.TupAny
import HandS.IsInst
import HandS.Evl
import HandS.TupMul
import KE.GoesMore
import KE.GoesEnum
import HandS.SetKeys
import HandS.Walk
import HandS.DictComp
import HandS.Conv
import HandS.DictTup
import KE.KDictDisplayH
import KE.KDictCopyH
import KE.KEqDict
import HandS.DictEq
import HandS.Zip
import PySem.Challenge.RW_roundcalls_k05_parting_paths
set_option Elab.async false
set_option linter.all false
set_option maxRecDepth 100000
set_option maxHeartbeats 4000000
namespace KD
open PySem PySem.Spec PyProof.Rows L2

/-! A def's promise where it is known that no repr runs around the call. -/
abbrev Quiet (A : Around) : Prop := A.guards = some []

structure FnG (P : Program) (w : World) (K : PySem.W.Frag) (mg : Str → Option Value) (base : Heap) (CX : CXT)
    (k : Nat) (f : Addr) (fd : FuncData) (ps : List Str) (sp : Sp) : Prop where
  len : ∀ vs H Q E, sp vs H Q E → vs.length = ps.length
  run : ∀ (A : Around) (out : List Env) (s : Shared) (H : Hp) (args : Args) (us : List Value) (vs : List V) (Q : VK) (E : XK),
    Room k A → Quiet A → Env0 P w K mg base A out s H → BindsTo s fd args (ps.zip us) → Vals vs us →
    sp vs H Q E → codeAny (model P w) A (.call (.ref f) args) (CR CX out P w H s Q E) s

section
variable {P : Program} {w : World} {K : PySem.W.Frag} {mg : Str → Option Value} {base : Heap} {CX : CXT}
theorem FnG.mono {i k : Nat} {f : Addr} {fd : FuncData} {ps : List Str} {sp : Sp}
    (F : FnG P w K mg base CX i f fd ps sp) (le : i ≤ k) : FnG P w K mg base CX k f fd ps sp :=
  ⟨F.len, fun A out s H args us vs Q E hr => F.run A out s H args us vs Q E (hr.mono le)⟩
/-- a def that needs no quiet -/
theorem FnG.of {k : Nat} {f : Addr} {fd : FuncData} {ps : List Str} {sp : Sp}
    (F : FnOk P w K mg base CX k f fd ps sp) : FnG P w K mg base CX k f fd ps sp :=
  ⟨F.len, fun A out s H args us vs Q E hr _ => F.run A out s H args us vs Q E hr⟩
theorem FnG.imp {k : Nat} {f : Addr} {fd : FuncData} {ps : List Str} {sp sp' : Sp}
    (F : FnG P w K mg base CX k f fd ps sp) (h : ∀ vs H Q E, sp' vs H Q E → sp vs H Q E) :
    FnG P w K mg base CX k f fd ps sp' :=
  ⟨fun vs H Q E q => F.len vs H Q E (h _ _ _ _ q),
   fun A out s H args us vs Q E hr hq he hb hv hs => F.run A out s H args us vs Q E hr hq he hb hv (h _ _ _ _ hs)⟩

/-- a def of the text, by its body -/
theorem fnG_of {k : Nat} {f : Addr} {name qual : Str} {params : Arguments} {body : List Stmt} {scope : Scope}
    {dV kV doc pm cdv ct oc : Value} {an od : Option Addr} {osl : Array (Option Value)} {N ps : List Str} {sp : Sp}
    (lk : K.lookup f = some ⟨oc, od, .func (PySem.W.fnOf name qual params body scope dV kV doc pm an cdv ct), osl⟩)
    (hcd : PySem.W.codeIn K cdv qual = true) (S : FnScope N ps scope)
    (hlen : ∀ vs H Q E, sp vs H Q E → vs.length = ps.length)
    (hbody : ∀ (A : Around) (out : List Env) (s : Shared) (H : Hp) (vs : List V) (Q : VK) (E : XK),
      Room k (A.deeper (envOfC qual scope s.heap.objs.size f cdv)) →
      Quiet (A.deeper (envOfC qual scope s.heap.objs.size f cdv)) → sp vs H Q E →
      ∃ t, PSs (cxOf CX P w K mg base N qual scope f cdv A out s H E) body t ∧
        t { nx := fun _ H' => Q .non H', rt := Q } (start N vs) H) :
    FnG P w K mg base CX (k + 1) f (PySem.W.fnOf name qual params body scope dV kV doc pm an cdv ct) ps sp := by
  refine ⟨hlen, fun A out s H args us vs Q E hr hq e0 hb rv hsp => ?_⟩
  have lv := hlen _ _ _ _ hsp
  have inK : K.In s.heap := e0.mod.kin.keeps fun c u z => (e0.bs c u z).1
  have noLim : s.heap.NoLimit := e0.mod.nolimit.keeps fun c u z => (e0.bs c u z).1
  have kinds : ∀ y ∈ ps.zip us, scope.names.lookup y.1 = some .local ∨
      (scope.names.lookup y.1 = some .cell ∧
        ((cellsFrom (s.heap.objs.size + 1) scope.names []).lookup y.1).isSome = true) := by
    rintro ⟨n, v⟩ hy
    rcases S.par n (List.of_mem_zip hy).1 with z | z
    · exact .inl z
    · exact .inr ⟨z, PySem.W.cellsFrom_some _ _ _ (.inl z)⟩
  refine codeAny_call_function hr.depth (inK _ _ lk) rfl S.co S.gen rfl
    (PySem.W.codeRec_of inK hcd) (hb _ _ _ _ ?_)
  refine wpAny_newFunctionEnv_cells S.kind kinds fun env he s1 x => ?_
  subst he
  refine ⟨noLim.keeps x.toInCall.keep, codeAny_func ?_⟩
  obtain ⟨t, ht, hq'⟩ := hbody A out s H vs Q E (hr.deeper _) hq hsp
  have I := inv_start (CX := CX) (E := E) (w := w) S hr.hd e0 lv rv x
  refine wpAny_mono (ht.run [] s1 (start N vs) H _ I hq') (fun fl s' hs => ?_) fun _ _ z => z
  cases fl with
  | brk => obtain ⟨_, _, _, z⟩ := hs; exact False.elim z
  | cont => obtain ⟨_, _, _, z⟩ := hs; exact False.elim z
  | next =>
    obtain ⟨σ', H', J, z⟩ := hs
    exact ⟨V.non, H', J.os, J.bare, J.base, J.hok, rfl, z⟩
  | ret u =>
    obtain ⟨v, σ', H', J, rv', z⟩ := hs
    exact ⟨v, H', J.os, J.bare, J.base, J.hok, rv', z⟩

/-- no exception leaves it -/
theorem okG {x qual : Str} {st : Stmt} {f : Addr} {fd : FuncData} {N ps : List Str} {k : Nat} {sp : Sp}
    (F : Fun K x qual st f fd) (S : FnScope N ps (defScope st)) (hlen : ∀ vs H Q E, sp vs H Q E → vs.length = ps.length)
    (hbody : ∀ (cdv : Value) (A : Around) (out : List Env) (s : Shared) (H : Hp) (vs : List V) (Q : VK) (E : XK),
      Room k (A.deeper (envOfC qual (defScope st) s.heap.objs.size f cdv)) →
      Quiet (A.deeper (envOfC qual (defScope st) s.heap.objs.size f cdv)) → sp vs H Q E →
      ∃ t, PSs (cxOf CX0 P w K mg base N qual (defScope st) f cdv A out s H E).nox (defBody st) t ∧
        t { nx := fun _ H' => Q .non H', rt := Q } (start N vs) H) : FnG P w K mg base CX0 (k + 1) f fd ps sp := by
  obtain ⟨oc, od, kV, doc, pm, an, cdv, ct, osl, rfl, lk, hcd⟩ := F.ex
  refine fnG_of lk hcd S hlen fun A out s H vs Q E hr hg hsp => ?_
  obtain ⟨t, h, q⟩ := hbody cdv A out s H vs Q E hr hg hsp
  exact ⟨t, h.nox, q⟩
end

section
variable {X : Cx} {CX : CXT} {k : Nat} {f C : Addr} {fd : FuncData} {ps : List Str} {sp : Sp} {dvs : List V}
  {ds : List Value} {E : XK} {x m : Str} {p pos apos : Pos} {e o : Expr} {es : List Expr} {ta : TE} {t : TA}
theorem run_g {pins : List (Addr × Obj)} {σ : L2.St} {H : Hp} {s : Shared} {Q : VK} {us : List Value} {vs : List V}
    (F : FnG X.prog X.w X.K X.mg X.base CX k f fd ps sp) (hr : Room k X.A) (hq : Quiet X.A) (hb : Binds X.K fd ps ds)
    (hd : Vals dvs ds) (hx : Passes CX X E) (I : Inv X pins σ H s) (r : Vals vs us) (h : sp (vs ++ dvs) H Q E) :
    wpAny (model X.prog X.w) X.A (call (.ref f) us) (EP X pins σ Q) X.xe s := by
  have rr : Vals (vs ++ dvs) (us ++ ds) := r.append hd
  have ll : (us ++ ds).length = ps.length := by rw [← rr.length]; exact F.len _ _ _ _ h
  have run := F.run X.A X.stack s H ⟨us, []⟩ (us ++ ds) (vs ++ dvs) Q E hr hq I.env0 (hb s us I.kIn ll) rr h
  refine wpAny_call (codeAny_mono run fun r s' hq' => ?_)
  match r, hq' with
  | .error e, z => exact hx pins σ H s e s' I z
  | .ok (.ret u), z => exact I.after z
  | .ok .next, z => exact False.elim z
  | .ok .brk, z => exact False.elim z
  | .ok .cont, z => exact False.elim z
theorem pe_g (F : FnG X.prog X.w X.K X.mg X.base CX k f fd ps sp) (hr : Room k X.A) (hq : Quiet X.A) (hg : Gl X x)
    (hm : X.mg x = some (.ref f)) (hk : PySem.W.keepIn X.K (.ref f) = true) (hb : Binds X.K fd ps ds) (hd : Vals dvs ds)
    (hx : Passes CX X E) (ha : PA X (e :: es) t) (hdb : (x == ("__debug__" : Str)) = false := by decide)
    (he : starEach (e :: es) X.env = (false, eval e X.env) :: starEach es X.env := by rfl)
    (hpl : (backTo pos (starEach es X.env)).any (·.1) = false := by rfl) :
    PE X (.Call (.Name x p) (e :: es) [] pos) (tCall sp dvs E t) := by
  constructor
  intro pins s σ H Q I h
  refine wpAny_Call_Name_kw (ld_glob I hg hm ?_ hdb)
  have args := ha.run pos pins s σ H _ I h
  refine PySem.W.callWith_K (h₀ := X.base) I.ok.mod.kin hk (thn args ?_) he hpl
  rintro us s1 ⟨vs, H1, I1, r, q⟩
  exact ⟨I1.kIn, run_g F hr hq hb hd hx I1 r q⟩
theorem pe_g0 (F : FnG X.prog X.w X.K X.mg X.base CX k f fd ps sp) (hr : Room k X.A) (hq : Quiet X.A) (hg : Gl X x)
    (hm : X.mg x = some (.ref f)) (hk : PySem.W.keepIn X.K (.ref f) = true) (hb : Binds X.K fd ps ds) (hd : Vals dvs ds)
    (hx : Passes CX X E) (hdb : (x == ("__debug__" : Str)) = false := by decide) :
    PE X (.Call (.Name x p) [] [] pos) (tCall sp dvs E tNil) := by
  constructor
  intro pins s σ H Q I h
  refine wpAny_Call_Name_kw (ld_glob I hg hm ?_ hdb)
  exact PySem.W.callWith_K0 I.kIn hk (run_g (us := []) F hr hq hb hd hx I .nil h)
end
end KD
set_option Elab.async false
set_option linter.all false
set_option maxRecDepth 100000
set_option maxHeartbeats 4000000
namespace KD
open PySem PySem.Spec PyProof.Rows L2

/-! ### data that stands in the abstract heap, dicts (keys: ints, texts) among it -/
def keyD : Key → PyData
  | .inl i => .int i
  | .inr x => .str x
mutual
inductive Da (K : PySem.W.Frag) (H : Hp) : V → PyData → Prop
  | non : Da K H .non .none
  | bl (b : Bool) : Da K H (.bl b) (.bool b)
  | int (i : Int) : Da K H (.int i) (.int i)
  | str (x : Str) : Da K H (.str x) (.str x)
  | lst {a : Addr} {xs : List V} {ds : List PyData} : H a = some (.lst xs) → DaAll K H xs ds → Da K H (.ref a) (.list ds)
  | tup {a : Addr} {xs : List V} {ds : List PyData} : H a = some (.tup xs) → DaAll K H xs ds → Da K H (.ref a) (.tuple ds)
  | dic {a : Addr} {kvs : List (Key × V)} {ds : List (PyData × PyData)} :
      H a = some (.dK kvs) → DaKv K H kvs ds → Da K H (.ref a) (.dict ds)
inductive DaAll (K : PySem.W.Frag) (H : Hp) : List V → List PyData → Prop
  | nil : DaAll K H [] []
  | cons {v : V} {vs : List V} {d : PyData} {ds : List PyData} : Da K H v d → DaAll K H vs ds → DaAll K H (v :: vs) (d :: ds)
inductive DaKv (K : PySem.W.Frag) (H : Hp) : List (Key × V) → List (PyData × PyData) → Prop
  | nil : DaKv K H [] []
  | cons {k : Key} {v : V} {vs : List (Key × V)} {d : PyData} {ds : List (PyData × PyData)} :
      Da K H v d → DaKv K H vs ds → DaKv K H ((k, v) :: vs) ((keyD k, d) :: ds)
end

mutual
theorem Da.mono {K : PySem.W.Frag} {H H' : Hp} (e : ∀ a o, H a = some o → H' a = some o) : ∀ (d : PyData) {v : V}, Da K H v d → Da K H' v d
  | .none, _, h => by cases h; exact .non
  | .bool b, _, h => by cases h; exact .bl b
  | .int i, _, h => by cases h; exact .int i
  | .str x, _, h => by cases h; exact .str x
  | .list ds, _, h => by
    cases h with
    | lst h1 h2 => exact .lst (e _ _ h1) (DaAll.mono e ds h2)
  | .tuple ds, _, h => by
    cases h with
    | tup h1 h2 => exact .tup (e _ _ h1) (DaAll.mono e ds h2)
  | .dict ds, _, h => by
    cases h with
    | dic h1 h2 => exact .dic (e _ _ h1) (DaKv.mono e ds h2)
theorem DaAll.mono {K : PySem.W.Frag} {H H' : Hp} (e : ∀ a o, H a = some o → H' a = some o) : ∀ (ds : List PyData) {vs : List V}, DaAll K H vs ds → DaAll K H' vs ds
  | [], _, h => by cases h; exact .nil
  | d :: ds, _, h => by
    cases h with
    | cons h1 h2 => exact .cons (Da.mono e d h1) (DaAll.mono e ds h2)
theorem DaKv.mono {K : PySem.W.Frag} {H H' : Hp} (e : ∀ a o, H a = some o → H' a = some o) : ∀ (ds : List (PyData × PyData)) {vs : List (Key × V)}, DaKv K H vs ds → DaKv K H' vs ds
  | [], _, h => by cases h; exact .nil
  | (_, d) :: ds, _, h => by
    cases h with
    | cons h1 h2 => exact .cons (Da.mono e d h1) (DaKv.mono e ds h2)
end

section
variable {K : PySem.W.Frag} {H : Hp}
theorem DaAll.length : ∀ {vs : List V} {ds : List PyData}, DaAll K H vs ds → vs.length = ds.length
  | [], _, h => by cases h; rfl
  | _ :: vs, _, h => by
    cases h with
    | cons h1 h2 => rw [List.length_cons, List.length_cons, DaAll.length h2]
theorem DaAll.get : ∀ {vs : List V} {ds : List PyData} {i : Nat} {v : V}, DaAll K H vs ds → vs[i]? = some v → ∃ d, ds[i]? = some d ∧ Da K H v d
  | [], _, _, _, h, e => by simp at e
  | v :: vs, _, 0, w, h, e => by
    cases h with
    | cons h1 h2 =>
      simp at e; subst e
      exact ⟨_, rfl, h1⟩
  | v :: vs, _, i + 1, w, h, e => by
    cases h with
    | cons h1 h2 =>
      obtain ⟨d, q, r⟩ := DaAll.get (i := i) (v := w) h2 (by simpa using e)
      exact ⟨d, by simpa using q, r⟩
theorem DaAll.at : ∀ {vs : List V} {ds : List PyData} {i : Nat} {d : PyData}, DaAll K H vs ds → ds[i]? = some d → ∃ v, vs[i]? = some v ∧ Da K H v d
  | [], _, _, _, h, e => by cases h; simp at e
  | v :: vs, _, 0, w, h, e => by
    cases h with
    | cons h1 h2 =>
      simp at e; subst e
      exact ⟨_, rfl, h1⟩
  | v :: vs, _, i + 1, w, h, e => by
    cases h with
    | cons h1 h2 =>
      obtain ⟨d, q, r⟩ := DaAll.at (i := i) (d := w) h2 (by simpa using e)
      exact ⟨d, by simpa using q, r⟩
theorem DaAll.append : ∀ {vs ws : List V} {ds es : List PyData}, DaAll K H vs ds → DaAll K H ws es → DaAll K H (vs ++ ws) (ds ++ es)
  | [], _, _, _, h, h' => by cases h; exact h'
  | _ :: vs, _, _, _, h, h' => by
    cases h with
    | cons h1 h2 => exact .cons h1 (DaAll.append h2 h')
theorem DaAll.take : ∀ {vs : List V} {ds : List PyData} (n : Nat), DaAll K H vs ds → DaAll K H (vs.take n) (ds.take n)
  | _, _, 0, _ => .nil
  | [], _, _ + 1, h => by cases h; exact .nil
  | _ :: vs, _, n + 1, h => by
    cases h with
    | cons h1 h2 => exact .cons h1 (DaAll.take n h2)
theorem DaAll.drop : ∀ {vs : List V} {ds : List PyData} (n : Nat), DaAll K H vs ds → DaAll K H (vs.drop n) (ds.drop n)
  | _, _, 0, h => h
  | [], _, _ + 1, h => by cases h; exact .nil
  | _ :: vs, _, n + 1, h => by
    cases h with
    | cons h1 h2 => exact DaAll.drop n h2
theorem DaAll.rev : ∀ {vs : List V} {ds : List PyData}, DaAll K H vs ds → DaAll K H vs.reverse ds.reverse
  | [], _, h => by cases h; exact .nil
  | _ :: vs, _, h => by
    cases h with
    | cons h1 h2 =>
      rw [List.reverse_cons, List.reverse_cons]
      exact DaAll.append (DaAll.rev h2) (.cons h1 .nil)
end

/-! ### to the library's reading of a value -/
mutual
def noList : PyData → Bool
  | .none | .bool _ | .int _ | .str _ => true
  | .list _ => false
  | .tuple xs => noListAll xs
  | .dict kvs => noListKv kvs
def noListAll : List PyData → Bool
  | [] => true
  | x :: xs => noList x && noListAll xs
def noListKv : List (PyData × PyData) → Bool
  | [] => true
  | (_, v) :: r => noList v && noListKv r
end
section
variable {X : Cx} {pins : List (Addr × Obj)} {σ : L2.St} {H : Hp} {s : Shared}
theorem keyD_reads {h : Heap} : ∀ {k : Key} {v : Value}, keyIs k v = true → Reads h v (keyD k) []
  | .inl i, v, e => by
    obtain ⟨t, rfl⟩ := Value.isInt_shape (k := i) (v := v) e
    exact .int i t
  | .inr x, v, e => by
    obtain ⟨t, rfl⟩ := Value.isStrOf_shape (x := x) (v := v) e
    exact .str x t
/-! the addresses of the reading: none of them sysModules where no list is in it -/
mutual
theorem Da.reads (I : Inv X pins σ H s) : ∀ (d : PyData) (v : V) (u : Value), Da X.K H v d → RelV v u →
    ∃ as, Reads s.heap u d as ∧ (noList d = true → sysModules ∉ as)
  | .none, _, _, h, r => by
    cases h; cases r
    exact ⟨_, Reads.none, fun _ => by simp⟩
  | .bool b, _, _, h, r => by
    cases h; cases r
    exact ⟨_, Reads.bool b, fun _ => by simp⟩
  | .int i, _, _, h, r => by
    cases h
    obtain ⟨t, rfl⟩ := r
    exact ⟨_, Reads.int i t, fun _ => by simp⟩
  | .str x, _, _, h, r => by
    cases h
    obtain ⟨t, rfl⟩ := r
    exact ⟨_, Reads.str x t, fun _ => by simp⟩
  | .list ds, _, _, h, r => by
    cases h with
    | lst hs ha =>
      cases r
      obtain ⟨_, its, n, rv, ho⟩ := I.hok _ _ hs
      obtain ⟨as, hr, _⟩ := Da.readsAll I ds _ its ha rv
      exact ⟨_, Reads.list ho rfl rfl hr, fun z => by simp [noList] at z⟩
  | .tuple ds, _, _, h, r => by
    cases h with
    | tup hs ha =>
      cases r
      obtain ⟨_, its, rv, o, ho, hc, n, hd⟩ := I.hok _ _ hs
      obtain ⟨as, hr, hz⟩ := Da.readsAll I ds _ its ha rv
      exact ⟨_, Reads.tuple ho hc hd hr, fun z => hz (by simpa [noList] using z)⟩
  | .dict ds, _, _, h, r => by
    cases h with
    | dic hs ha =>
      cases r
      obtain ⟨_, hsys, vs, rv, o, es, ep, ho, hex, hd, _, hp, _⟩ := I.hok _ _ hs
      obtain ⟨bs, h1, h2, hz⟩ := Da.readsKv I ds _ vs es.toList ha rv hp
      refine ⟨_, Reads.dict ho hex.1 hd h1 h2, fun z => ?_⟩
      have hz' := hz (by simpa [noList] using z)
      intro hm
      rcases List.mem_append.mp hm with hm | hm
      · have e := List.mem_singleton.mp hm
        rw [← e] at hsys; simp at hsys
      · exact hz' hm
theorem Da.readsAll (I : Inv X pins σ H s) : ∀ (ds : List PyData) (vs : List V) (us : List Value), DaAll X.K H vs ds → Vals vs us →
    ∃ as, ReadsAll s.heap us ds as ∧ (noListAll ds = true → sysModules ∉ as)
  | [], _, _, h, r => by
    cases h; cases r
    exact ⟨_, ReadsAll.nil, fun _ => by simp⟩
  | d :: ds, _, _, h, r => by
    cases h with
    | cons h1 h2 =>
      cases r with
      | cons r1 r2 =>
        obtain ⟨as, q1, z1⟩ := Da.reads I d _ _ h1 r1
        obtain ⟨bs, q2, z2⟩ := Da.readsAll I ds _ _ h2 r2
        refine ⟨_, ReadsAll.cons q1 q2, fun z => ?_⟩
        have zz : noList d = true ∧ noListAll ds = true := by simpa [noListAll] using z
        simp only [List.mem_append, not_or]
        exact ⟨z1 zz.1, z2 zz.2⟩
theorem Da.readsKv (I : Inv X pins σ H s) : ∀ (ds : List (PyData × PyData)) (kvs : List (Key × V)) (vs : List (Key × Value)) (es : List DictEntry),
    DaKv X.K H kvs ds → KV kvs vs → PySem.Pairs (mixKind X.prog X.w) es vs →
    ∃ bs, ReadsAll s.heap (es.map (·.key)) (ds.map (·.1)) [] ∧ ReadsAll s.heap (es.map (·.val)) (ds.map (·.2)) bs ∧ (noListKv ds = true → sysModules ∉ bs)
  | [], _, _, _, h, r, p => by
    cases h; cases r; cases p
    exact ⟨_, ReadsAll.nil, ReadsAll.nil, fun _ => by simp⟩
  | d :: ds, _, _, _, h, r, p => by
    cases h with
    | cons h1 h2 =>
      cases r with
      | cons r1 r2 =>
        cases p with
        | cons p1 p2 p3 =>
          obtain ⟨as, q1, z1⟩ := Da.reads I _ _ _ h1 r1.2
          obtain ⟨bs, q2, q3, z2⟩ := Da.readsKv I ds _ _ _ h2 r2 p3
          refine ⟨_, ReadsAll.cons (as := []) ?_ q2, ReadsAll.cons (by show Reads _ (DictEntry.val _) _ _; rw [p2]; exact q1) q3, fun z => ?_⟩
          · have e := r1.1
            simp only at e
            rw [← e] at p1
            exact keyD_reads p1
          · have zz := Bool.and_eq_true_iff.mp (show (noList _ && noListKv ds) = true from z)
            simp only [List.mem_append, not_or]
            exact ⟨z1 zz.1, z2 zz.2⟩
end
end

/-! ### repr(x) -/
/-- what repr may be asked of -/
def repOk (d : PyData) : Bool := d.showable && (noList d || !d.hasDict) && decide (d.depth ≤ 40) && decide (d.shown.length ≤ 16000000)
def rRepr (K : PySem.W.Frag) : List V → Hp → VK → Prop := fun vs H Q => ∃ x d, vs = [x] ∧ Da K H x d ∧ repOk d = true ∧ Q (.str d.shown) H
section
variable {X : Cx}
theorem call_repr (hq : Quiet X.A) (hu : X.A.units + 64 < cLine) : CallR X (.builtin "repr") (rRepr X.K) := by
  intro pins s σ H xs us Q I r h
  obtain ⟨x, d, rfl, hd, hok, q⟩ := h
  obtain ⟨u, rfl, rx⟩ := vals1 r
  simp only [repOk, Bool.and_eq_true, decide_eq_true_eq, Bool.or_eq_true] at hok
  obtain ⟨⟨⟨hs, hnl⟩, hdp⟩, hsz⟩ := hok
  have hsz' : d.shown.length ≤ sizeLine := Nat.le_trans hsz (by decide)
  have key : ∀ a, u = .ref a → wpAny (model X.prog X.w) X.A (call (.builtin "repr") [u]) (EP X pins σ Q) X.xe s := by
    rintro a rfl
    obtain ⟨as, hr, hz⟩ := Da.reads I d _ _ hd rx
    refine repr_of_reads' (h₀ := s.heap) hr hs (fun hh hm => ?_) hq (by omega) (fun b o e => e) (fun h' u' tk hk => ?_) hsz'
    · rcases hnl with z | z
      · exact hz z hm
      · rw [hh] at z; simp at z
    · exact ⟨.str d.shown, H, I.kept hk, ⟨u', rfl⟩, q⟩
  cases hd with
  | non => cases rx; exact PySem.P.repr_of_none ⟨.str _, H, I.tok _, ⟨_, rfl⟩, q⟩
  | bl b => cases rx; exact PySem.P.repr_of_bool ⟨.str _, H, I.tok _, ⟨_, rfl⟩, by cases b <;> exact q⟩
  | int i =>
    obtain ⟨t, rfl⟩ := rx
    exact PySem.P.repr_of_int (by simpa [PyData.showable] using hs) ⟨.str _, H, I.tok _, ⟨_, rfl⟩, q⟩
  | str y =>
    obtain ⟨t, rfl⟩ := rx
    exact PySem.P.repr_of_str ⟨.str _, H, I.tok _, ⟨_, rfl⟩, q⟩ hsz'
  | lst _ _ => exact key _ rx
  | tup _ _ => exact key _ rx
  | dic _ _ => exact key _ rx
end
end KD
set_option Elab.async false
set_option linter.all false
set_option maxRecDepth 100000
set_option maxHeartbeats 4000000
namespace KD
open PySem PySem.Spec PyProof.Rows L2
/-! ### t[::-1] of a tuple -/
section
variable {prog : Program} {w : World} {A : Around} {E : Value → Shared → Prop} {s : Shared}
theorem applied_back {sl : Addr} {vk : Value} {n : Nat} {Q : Int × Int × Nat → Shared → Prop}
    (hs : s.heap.IsSliceOf sl .none .none vk) (pk : IsPart vk (some (-1))) (h : Q ((n : Int) - 1, -1, n) s) :
    wpAny (model prog w) A (Builtin.Slice.sliceApplied (.ref sl) (pure (n : Int))) Q E s := by
  obtain ⟨os, hos, hcs, hds⟩ := id hs
  unfold Builtin.Slice.sliceApplied Builtin.Slice.sliceFields
  refine wpAny_bind (wpAny_bind (wpAny_field hos hds (x := .none) rfl ?_))
  refine wpAny_bind (wpAny_field hos hds (x := .none) rfl ?_)
  refine wpAny_bind (wpAny_field hos hds (x := vk) rfl (wpAny_pure ?_))
  refine wpAny_bind (HT.slicePart_ pk ?_)
  show wpAny _ _ (if ((-1 : Int) == 0) = true then _ else _) _ _ s
  rw [if_neg (by decide)]
  refine wpAny_bind (HT.slicePart_ .none (wpAny_bind (HT.slicePart_ .none (wpAny_bind (wpAny_pure ?_)))))
  have e : Builtin.Slice.sliceAdjust none none (-1) (n : Int) = ((n : Int) - 1, -1) := by
    unfold Builtin.Slice.sliceAdjust
    simp
  have e2 : Builtin.Slice.slicePlaces ((n : Int) - 1) (-1) (-1) = n := by
    unfold Builtin.Slice.slicePlaces
    have h1 : ¬ ((-1 : Int) > 0) := by decide
    simp only [h1, if_false]
    split
    · rw [show (- -1 : Int) = 1 by decide, Int.ediv_one]; omega
    · omega
  show wpAny _ _ (match Builtin.Slice.sliceAdjust none none (-1) (n : Int) with
    | (lo, hi) => pure (lo, (-1 : Int), Builtin.Slice.slicePlaces lo hi (-1))) _ _ s
  rw [e]
  show wpAny _ _ (pure ((n : Int) - 1, (-1 : Int), Builtin.Slice.slicePlaces ((n : Int) - 1) (-1) (-1))) _ _ s
  rw [e2]
  exact wpAny_pure h
theorem pick_back (xs : Array Value) :
    ((List.range xs.size).filterMap fun (m : Nat) => xs[(((xs.size : Int) - 1) + (m : Int) * (-1)).toNat]?).toArray = xs.toList.reverse.toArray := by
  have e : ((List.range xs.size).filterMap fun (m : Nat) => xs[(((xs.size : Int) - 1) + (m : Int) * (-1)).toNat]?) =
      ((List.range xs.size).map fun k => xs.size - 1 - k).filterMap (xs[·]?) := by
    rw [List.filterMap_map]
    have go : ∀ l : List Nat, (∀ m ∈ l, m < xs.size) →
        (l.filterMap fun (m : Nat) => xs[(((xs.size : Int) - 1) + (m : Int) * (-1)).toNat]?) = l.filterMap ((fun x => xs[x]?) ∘ fun k => xs.size - 1 - k) := by
      intro l
      induction l with
      | nil => intro _; rfl
      | cons m r ih =>
        intro hm
        have h1 := hm m List.mem_cons_self
        have h2 : (((xs.size : Int) - 1) + (m : Int) * (-1)).toNat = xs.size - 1 - m := by omega
        rw [List.filterMap_cons, List.filterMap_cons, ih fun b hb => hm b (List.mem_cons_of_mem _ hb), h2]
        rfl
    exact go _ fun m hm => List.mem_range.mp hm
  rw [e, PySem.W.krv_range, List.filterMap_reverse, PySem.W.krv_all]
theorem getItem_tuple_back {t sl : Addr} {items : Array Value} {vk : Value} {Q : Value → Shared → Prop} (ht : IsTup s.heap t items)
    (hs : s.heap.IsSliceOf sl .none .none vk) (pk : IsPart vk (some (-1)))
    (h : Q (.ref s.heap.objs.size) { s with heap := s.heap.push { cls := .type "tuple", data := .seq items.toList.reverse.toArray } })
    (hsz : items.size ≤ sizeLine) : wpAny (model prog w) A (getItem (.ref t) (.ref sl)) Q E s := by
  have hok : sizeOk (.seq items.toList.reverse.toArray) := by
    show items.toList.reverse.toArray.size ≤ sizeLine
    rw [List.size_toArray, List.length_reverse, Array.length_toList]; exact hsz
  have isSlice : s.TypeIs (.ref sl) "slice" := hs.elim fun o e => ⟨o, e.1, e.2.1⟩
  have isTuple := ht.typeIs
  unfold getItem
  first
    | refine wpAny_bind (wpAny_sequenceKey isTuple (by decide) ?_)
    | refine wpAny_holding (wpAny_bind (wpAny_sequenceKey isTuple (by decide) ?_))
    | refine wpAny_bind (wpAny_pure (wpAny_bind (wpAny_sequenceKey isTuple (by decide) ?_)))
  refine wpAny_bind (wpAny_callSpecial?_slot (name := Str.ofString "__getitem__") isTuple PyProof.Rows.slot_tuple_getitem
    (wpAny_call_entry PyProof.Rows.slot_tuple_getitem isTuple entry_tuple_getitem ?_ (args_tuple_getitem _ _)))
  change wpAny _ _ (Builtin.Tuple.tupleItemsOf _ >>= _) _ _ _
  apply wpAny_bind
  apply tupleItemsOf_ ht
  apply wpAny_bind
  refine wpAny_typeOf isSlice ?_
  rw [if_pos (by decide)]
  apply wpAny_bind
  refine applied_back (n := items.size) hs pk ?_
  have hno : ¬ ((((items.size : Int) - 1) == 0 && (-1 : Int) == 1 && items.size == items.size) = true) := by
    simp
  show wpAny _ _ (if (((items.size : Int) - 1) == 0 && (-1 : Int) == 1 && items.size == items.size) = true then _ else _) _ _ s
  rw [if_neg hno, pick_back]
  first
    | exact wpAny_bind (m := Builtin.Tuple.tupleExact _) (wpAny_newObj_type (wpAny_pure ⟨_, rfl, wpAny_pure h⟩) hok)
    | exact wpAny_bind (m := Builtin.Tuple.tupleExact _) (wpAny_newObj_type (wpAny_bind (wpAny_pure (wpAny_pure ⟨_, rfl, wpAny_pure h⟩))) hok)
    | exact wpAny_bind (wpAny_bind (m := Builtin.Tuple.tupleExact _) (wpAny_newObj_type (wpAny_pure (wpAny_pure ⟨_, rfl, wpAny_pure h⟩)) hok))
    | exact wpAny_bind (wpAny_bind (m := Builtin.Tuple.tupleExact _) (wpAny_newObj_type (wpAny_pure ⟨_, rfl, wpAny_pure h⟩) hok))
end
section
variable {X : Cx}
def tRevT (K : PySem.W.Frag) (te : TE) : TE := fun σ H Q => te σ H fun x H1 => ∃ a xs, x = .ref a ∧ SqT K H1 a xs ∧
  ∀ p, H1 p = none → Q (.ref p) (upd H1 p (.tup xs.reverse))
theorem pe_revT {e : Expr} {te : TE} {k : Nat} {p1 p2 p3 pos : Pos} (he : PE X e te) :
    PE X (.Subscript e (.Slice none none (some (.UnaryOp .USub (.Constant (.int 1) k p1) p2)) p3) pos) (tRevT X.K te) := by
  constructor
  intro pins s σ H Q I h
  refine Subscript_ (thn (he.run pins s σ H _ I h) ?_)
  rintro v s1 ⟨x, H1, I1, r1, a, xs, rfl, hx, q⟩
  cases r1
  have hst := po_some (pe_un un_neg (pe_int (X := X) (i := 1) (j := k) (pos := p1)) (pos := p2))
  refine wpAny_Slice (thn (po_none.run pins s1 σ H1 (fun o H2 => o = none ∧ H2 = H1) I1 ⟨rfl, rfl⟩) ?_)
  rintro vl s2 ⟨l, H2, I2, pl, rfl, rfl⟩
  refine thn (po_none.run pins s2 σ H2 (fun o H3 => o = none ∧ H3 = H2) I2 ⟨rfl, rfl⟩) ?_
  rintro vu s3 ⟨u, H3, I3, pu, rfl, rfl⟩
  refine thn (hst.run pins s3 σ H3 (fun o H4 => o = some (-1) ∧ H4 = H3) I3 ⟨1, rfl, -1, rfl, rfl, rfl⟩) ?_
  rintro vk s4 ⟨o, H4, I4, ps, rfl, rfl⟩
  have I5 := I4.kept (h' := s4.heap.push { cls := .type "slice", data := .fields #[vl, vu, vk] }) (t' := s4.toks)
    fun b ob q => Heap.get?_push_of_some _ q
  obtain ⟨its, r, ht, hz⟩ := I5.tuple hx
  have hlen := r.length
  have evl : vl = .none := by cases pl; rfl
  have evu : vu = .none := by cases pu; rfl
  subst evl evu
  show wpAny (model X.prog X.w) X.A (subscriptTail e (.Slice none none (some (.UnaryOp .USub (.Constant (.int 1) k p1) p2)) p3) (.ref a)
    (.ref s4.heap.objs.size)) (EP X pins σ Q) X.xe { s4 with heap := s4.heap.push { cls := .type "slice", data := .fields #[.none, .none, vk] } }
  refine tail_any (ops := [.ref a, .ref s4.heap.objs.size]) ht.typeIs PyProof.Rows.slot_tuple_getitem.lookup ?_ (by with_unfolding_all rfl)
  refine getItem_tuple_back ht (Heap.IsSliceOf.new _ _ _ vk) ps ?_ (by rw [List.size_toArray]; omega)
  refine ⟨.ref _, _, I5.laid (t' := s4.toks) (o := .tup xs.reverse) (fun b ob q => Heap.get?_push_of_some _ q) (Nat.le_refl _) ?_, rfl,
    q _ (I5.hok.fresh (Nat.le_refl _))⟩
  exact ⟨by rw [List.length_reverse]; exact hz, _, r.reverse, IsTup.new _ _⟩

/-! ### text * int -/
def rMulS : R2 := fun x y H Q => ∃ (z : Str) (n : Int), x = .str z ∧ y = .int n ∧ MulOk z n ∧ Q (.str (Txt.mul z n)) H
theorem op_mulS : OpR X (binaryOp .Mult) rMulS := by
  intro pins s σ H x y v u Q I rx ry h
  obtain ⟨z, n, rfl, rfl, hok, q⟩ := h
  obtain ⟨t, rfl⟩ := rx
  obtain ⟨t', rfl⟩ := ry
  exact SB.mul hok fun t2 k => ⟨.str _, H, I.tok _, ⟨_, rfl⟩, q⟩

/-! ### == of data: of any shape without dicts, or of two lists of unlike lengths -/
def flatD : PyData → Bool
  | .none | .bool _ | .int _ | .str _ => true
  | _ => false
def cmpOk : PyData → PyData → Bool
  | .list xs, .list ys => ((SeqAt.shaped (.list xs) && SeqAt.shaped (.list ys)) || xs.length != ys.length) || (xs.all flatD && ys.all flatD)
  | d, e => SeqAt.shaped d && SeqAt.shaped e
theorem cmpOk_of {d e : PyData} (h1 : SeqAt.shaped d = true) (h2 : SeqAt.shaped e = true) : cmpOk d e = true := by
  unfold cmpOk
  split <;> simp [h1, h2]
theorem cmpOk_cases {d e : PyData} (h : cmpOk d e = true) : (SeqAt.shaped d = true ∧ SeqAt.shaped e = true) ∨
    ∃ xs ys, d = .list xs ∧ e = .list ys ∧ (xs.length ≠ ys.length ∨ (xs.length = ys.length ∧ xs.all flatD = true ∧ ys.all flatD = true)) := by
  unfold cmpOk at h
  split at h
  · rename_i xs ys
    by_cases hl : xs.length = ys.length
    · rcases Bool.or_eq_true_iff.mp h with h | h
      · rcases Bool.or_eq_true_iff.mp h with h | h
        · exact .inl (Bool.and_eq_true_iff.mp h)
        · exact absurd hl (by simpa using h)
      · have := Bool.and_eq_true_iff.mp h
        exact .inr ⟨_, _, rfl, rfl, .inr ⟨hl, this.1, this.2⟩⟩
    · exact .inr ⟨_, _, rfl, rfl, .inl hl⟩
  · exact .inl (Bool.and_eq_true_iff.mp h)
def rEqDa (K : PySem.W.Frag) : R2 := fun x y H Q => ∃ d e, Da K H x d ∧ Da K H y e ∧ cmpOk d e = true ∧ Q (.bl (PyData.eqv d e)) H
def rNeDa (K : PySem.W.Frag) : R2 := fun x y H Q => ∃ d e, Da K H x d ∧ Da K H y e ∧ cmpOk d e = true ∧ Q (.bl (!PyData.eqv d e)) H
theorem eqv_lengths {xs ys : List PyData} (h : xs.length ≠ ys.length) : PyData.eqv (.list xs) (.list ys) = false := by
  show PyData.eqvAll xs ys = false
  exact SeqAt.eqvAll_other_length h
theorem eqAt_flat {A : Around} {K : PySem.W.Frag} {H : Hp} {s : Shared} {x y : V} {u v : Value} {d e : PyData} (hd : Da K H x d) (he : Da K H y e) (fd : flatD d = true) (fe : flatD e = true)
    (rx : RelV x u) (ry : RelV y v) : SeqAt.EqAt A s u v (PyData.eqv d e) := by
  cases hd <;> first | (cases fd; done) | skip
  all_goals (cases he <;> first | (cases fe; done) | skip)
  all_goals first
    | (obtain ⟨t, rfl⟩ := rx)
    | (cases rx)
  all_goals first
    | (obtain ⟨t', rfl⟩ := ry)
    | (cases ry)
  · exact SeqAt.EqAt.same _
  · exact SeqAt.EqAt.none_bool _
  · exact SeqAt.EqAt.none_int _ _
  · exact SeqAt.EqAt.none_str _ _
  · exact SeqAt.EqAt.bool_none _
  · exact SeqAt.EqAt.bool_bool _ _
  · exact SeqAt.EqAt.bool_int _ _ _
  · exact SeqAt.EqAt.bool_str _ _ _
  · exact SeqAt.EqAt.int_none _ _
  · exact SeqAt.EqAt.int_bool _ _ _
  · exact SeqAt.EqAt.int_int _ _ _ _
  · exact SeqAt.EqAt.int_str _ _ _ _
  · exact SeqAt.EqAt.str_none _ _
  · exact SeqAt.EqAt.str_bool _ _ _
  · exact SeqAt.EqAt.str_int _ _ _ _
  · exact SeqAt.EqAt.str_str _ _ _ _
theorem eqAt_items {A : Around} {K : PySem.W.Frag} {H : Hp} {s : Shared} : ∀ {xs ys : List V} {us vs : List Value} {ds es : List PyData}, DaAll K H xs ds → DaAll K H ys es → ds.all flatD = true → es.all flatD = true →
    Vals xs us → Vals ys vs → ∀ j (h1 : j < us.length) (h2 : j < vs.length), SeqAt.EqAt A s us[j] vs[j] (SeqAt.pairEq ds es j) := by
  intro xs ys us vs ds es hd he fd fe rx ry j h1 h2
  have l1 := rx.length; have l2 := ry.length; have l3 := hd.length; have l4 := he.length
  have j1 : j < ds.length := by omega
  have j2 : j < es.length := by omega
  obtain ⟨x, hx, dx⟩ := hd.at (List.getElem?_eq_getElem j1)
  obtain ⟨y, hy, dy⟩ := he.at (List.getElem?_eq_getElem j2)
  obtain ⟨u, hu, ru⟩ := rx.get hx
  obtain ⟨v, hv, rv⟩ := ry.get hy
  rw [List.getElem?_eq_getElem h1] at hu; cases hu
  rw [List.getElem?_eq_getElem h2] at hv; cases hv
  have e : SeqAt.pairEq ds es j = PyData.eqv ds[j] es[j] := by
    unfold SeqAt.pairEq
    simp [List.getElem?_eq_getElem j1, List.getElem?_eq_getElem j2, j1, j2]
  rw [e]
  exact eqAt_flat dx dy (List.all_eq_true.mp fd _ (List.getElem_mem j1)) (List.all_eq_true.mp fe _ (List.getElem_mem j2)) ru rv
theorem op_eqDa (hu : X.A.units + 64 < cLine) : OpR X (compareOp .Eq) (rEqDa X.K) := by
  intro pins s σ H x y v u Q I rx ry h
  obtain ⟨d, e, hd, he, hc, q⟩ := h
  rcases cmpOk_cases hc with ⟨sd, se⟩ | ⟨xs, ys, rfl, rfl, hne | ⟨hl, fd, fe⟩⟩
  · obtain ⟨as, r1, _⟩ := Da.reads I d x v hd rx
    obtain ⟨bs, r2, _⟩ := Da.reads I e y u he ry
    exact SeqAt.compareEq_shaped r1 r2 sd se hu ⟨.bl _, H, I, rfl, q⟩
  · cases hd with
    | lst h1 a1 => cases he with
      | lst h2 a2 =>
        cases rx; cases ry
        obtain ⟨_, its, n, rv, ho⟩ := I.hok _ _ h1
        obtain ⟨_, its2, n2, rv2, ho2⟩ := I.hok _ _ h2
        refine SeqAt.eq_list_lengthsAt ⟨_, ho, rfl, _, rfl⟩ ⟨_, ho2, rfl, _, rfl⟩ ?_ (by omega) ⟨.bl _, H, I, rfl, ?_⟩
        · have e1 := rv.length; have e2 := rv2.length; have e3 := a1.length; have e4 := a2.length
          simp only [List.size_toArray, bne_iff_ne, ne_eq]
          omega
        · rw [eqv_lengths hne] at q; exact q
  · cases hd with
    | lst h1 a1 => cases he with
      | lst h2 a2 =>
        cases rx; cases ry
        obtain ⟨_, its, n, rv, ho⟩ := I.hok _ _ h1
        obtain ⟨_, its2, n2, rv2, ho2⟩ := I.hok _ _ h2
        have e1 := rv.length; have e2 := rv2.length; have e3 := a1.length; have e4 := a2.length
        refine SeqAt.eq_listAt ⟨_, ho, rfl, _, rfl⟩ ⟨_, ho2, rfl, _, rfl⟩ (by simp only [List.size_toArray]; omega) (by omega) (e := SeqAt.pairEq xs ys) (fun j j1 j2 => ?_) ⟨.bl _, H, I, rfl, ?_⟩
        · simpa using eqAt_items (A := X.A.in1) (s := s) a1 a2 fd fe rv rv2 j (by simpa using j1) (by simpa using j2)
        · rw [List.size_toArray, show its.length = xs.length by omega, SeqAt.eqvAll_same_length hl]; exact q
theorem op_neDa (hu : X.A.units + 64 < cLine) : OpR X (compareOp .NotEq) (rNeDa X.K) := by
  intro pins s σ H x y v u Q I rx ry h
  obtain ⟨d, e, hd, he, hc, q⟩ := h
  rcases cmpOk_cases hc with ⟨sd, se⟩ | ⟨xs, ys, rfl, rfl, hne | ⟨hl, fd, fe⟩⟩
  · obtain ⟨as, r1, _⟩ := Da.reads I d x v hd rx
    obtain ⟨bs, r2, _⟩ := Da.reads I e y u he ry
    exact SeqAt.compareNe_shaped r1 r2 sd se hu ⟨.bl _, H, I, rfl, q⟩
  · cases hd with
    | lst h1 a1 => cases he with
      | lst h2 a2 =>
        cases rx; cases ry
        obtain ⟨_, its, n, rv, ho⟩ := I.hok _ _ h1
        obtain ⟨_, its2, n2, rv2, ho2⟩ := I.hok _ _ h2
        have hz : (its.toArray.size != its2.toArray.size) = true := by
          have e1 := rv.length; have e2 := rv2.length; have e3 := a1.length; have e4 := a2.length
          simp only [List.size_toArray, bne_iff_ne, ne_eq]
          omega
        refine SeqAt.RcNeAt.lists_lengths ⟨_, ho, rfl, _, rfl⟩ ⟨_, ho2, rfl, _, rfl⟩ hz (by omega) X.prog X.w X.xe _ ⟨.bl _, H, I, rfl, ?_⟩
        rw [eqv_lengths hne] at q; exact q
  · cases hd with
    | lst h1 a1 => cases he with
      | lst h2 a2 =>
        cases rx; cases ry
        obtain ⟨_, its, n, rv, ho⟩ := I.hok _ _ h1
        obtain ⟨_, its2, n2, rv2, ho2⟩ := I.hok _ _ h2
        have e1 := rv.length; have e2 := rv2.length; have e3 := a1.length; have e4 := a2.length
        refine SeqAt.RcNeAt.lists (e := SeqAt.pairEq xs ys) ⟨_, ho, rfl, _, rfl⟩ ⟨_, ho2, rfl, _, rfl⟩ (by simp only [List.size_toArray]; omega) (by omega) (fun j j1 j2 => ?_) X.prog X.w X.xe _ ⟨.bl _, H, I, rfl, ?_⟩
        · simpa using eqAt_items (A := X.A.in1) (s := s) a1 a2 fd fe rv rv2 j (by simpa using j1) (by simpa using j2)
        · rw [List.size_toArray, show its.length = xs.length by omega, SeqAt.eqvAll_same_length hl]; exact q

/-! ### f(k = v, ..) -/
variable {CX : CXT} {k : Nat} {f C : Addr} {fd : FuncData} {ps ks : List Str} {sp : Sp} {E : XK} {x m : Str} {p pos : Pos} {kws : List Keyword} {tk : TA}
  {g : List Value → List Value → List Value} {gV : List V → List V → List V}
theorem pe_kw (F : FnG X.prog X.w X.K X.mg X.base CX k f fd ps sp) (hr : Room k X.A) (hq : Quiet X.A) (hg : Gl X x)
    (hm : X.mg x = some (.ref f)) (hk : PySem.W.keepIn X.K (.ref f) = true) (hb : KBinds X.K fd ps ks g gV) (hx : Passes CX X E)
    (hkw : PK X kws tk) (hall : (backToKw pos (keywordEach kws X.env)).all (·.1.isSome) = true := by rfl)
    (hks : (backToKw pos (keywordEach kws X.env)).filterMap (·.1) = ks := by rfl)
    (hdb : (x == ("__debug__" : Str)) = false := by decide)
    (hpl : ((backTo pos (starEach [] X.env)).any (·.1) || (backToKw pos (keywordEach kws X.env)).any (·.1.isNone)) = false := by rfl) :
    PE X (.Call (.Name x p) [] kws pos) (tCallK sp gV E tNil tk) := by
  constructor
  intro pins s σ H Q I h
  refine wpAny_Call_Name_kw (ld_glob I hg hm ?_ hdb)
  refine PySem.W.callWith_KW0 (h₀ := X.base) I.ok.mod.kin hk hall (thn (hkw.run pos pins s σ H _ I h) ?_) hpl
  rintro ws s2 ⟨zs, H2, I2, rz, q2⟩
  refine ⟨I2.kIn, ?_⟩
  rw [hks]
  have r2 := hb.rel (.nil : Vals [] []) rz
  have hl : (g [] ws).length = ps.length := by rw [← r2.length]; exact F.len _ _ _ _ q2
  have run := F.run X.A X.stack s2 H2 ⟨[], ks.zip ws⟩ (g [] ws) (gV [] zs) Q E hr hq I2.env0 (hb.to s2 [] ws I2.kIn hl) r2 q2
  refine wpAny_call (codeAny_mono run fun r s' hq' => ?_)
  match r, hq' with
  | .error e, z => exact hx pins σ H2 s2 e s' I2 z
  | .ok (.ret u), z => exact I2.after z
  | .ok .next, z => exact False.elim z
  | .ok .brk, z => exact False.elim z
  | .ok .cont, z => exact False.elim z
end
/-- every parameter by its name, in their order, none by place -/
def kwG {α : Type} : List α → List α → List α
  | [], ws => ws
  | _ :: _, _ => []
theorem kb_all {K : PySem.W.Frag} {fd : FuncData} {p0 : Str} {ps : List Str}
    (h : ∀ ws : List Value, ws.length = (p0 :: ps).length → bindArgs fd ⟨[], (p0 :: ps).zip ws⟩ = pure ((p0 :: ps).zip ws)) :
    KBinds K fd (p0 :: ps) (p0 :: ps) kwG kwG := by
  refine ⟨fun s us ws _ hl => ?_, fun {vs us zs ws} r1 r2 => ?_⟩
  · cases us with
    | nil => exact .of_eq (h ws hl)
    | cons u r => exact absurd hl (by simp [kwG])
  · cases r1 with
    | nil => exact r2
    | cons _ _ => exact .nil
end KD
set_option Elab.async false
set_option linter.all false
set_option maxRecDepth 100000
set_option maxHeartbeats 4000000
namespace KD
open PySem PySem.Spec PyProof.Rows L2
/-! ### the law's own call: quiet around it -/
theorem callG {P : Program} {w : World} {K : PySem.W.Frag} {mg mb : Str → Option Value} {CX : CXT} {k : Nat} {fa a : Addr} {fd : FuncData} {x : Str}
    {sp : Sp} {s1 : Shared} {vs : List Value} {ns : List Int} (KX : K.In s1.heap) (hns : s1.heap.Ns mainGlobals mg) (hb : s1.heap.Ns builtinsNs mb)
    (hbb : ∀ x : Str, x ≠ "__name__" → mb x = bootBuiltins x) (hlim : s1.heap.NoLimit) (hg : s1.gens = #[])
    (ha : s1.heap.get? a = some { cls := .type "list", data := .seq vs.toArray }) (hi : IntsAre vs ns) (hl : ns.length ≤ sizeLine) (hr : Room k callerA)
    (F : ∀ base : Heap, K.In base → base.Ns mainGlobals mg → FnG P w K mg base CX k fa fd [x] sp)
    (hbind : ∀ (s : Shared) (u : Value), BindsTo s fd ⟨[u], []⟩ [(x, u)])
    (hsp : ∀ H : Hp, Only H → SqL K H a (ns.map V.int) → sp [.ref a] H (fun v _ => v = .bl true) fun _ _ _ => False)
    (hCX : ∀ H e s', CX [] H s1 (fun _ _ _ => False) e s' → False) :
    codeAny (model P w) callerA (.call (.ref fa) ⟨[.ref a], []⟩)
      (fun r s' => r = .ok (.ret (.bool true)) ∧ OldK s1.heap s'.heap ∧ s'.os = s1.os ∧ AllBare s'.gens) s1 := by
  have rv := vals_ints hi
  have lenV := hi.length
  have core : ∀ H : Hp, Only H → SqL K H a (ns.map V.int) → HOk P w H s1.heap → (∀ b, H b ≠ none → b = a) → (H a ≠ none → K.lookup a = none) →
      codeAny (model P w) callerA (.call (.ref fa) ⟨[.ref a], []⟩)
        (fun r s' => r = .ok (.ret (.bool true)) ∧ OldK s1.heap s'.heap ∧ s'.os = s1.os ∧ AllBare s'.gens) s1 := by
    intro H hO hS hok hA hK
    have some_a : ∀ {b : Addr} {u : HO}, H b = some u → b = a := fun {b u} q => hA b (by rw [q]; simp)
    have stays : ∀ {b : Addr} {m : Str → Option Value}, s1.heap.Ns b m → (hidT s1.heap H).Ns b m := by
      rintro b m ⟨o, es, ep, e, d, r⟩
      refine ⟨o, es, ep, hidT_get e ?_, d, r⟩
      cases q : H b with
      | none => rfl
      | some u =>
        have z := some_a q
        subst z
        rw [ha] at e; cases e
        cases (show Data.seq vs.toArray _ = Data.dict es ep from d)
    have inb : K.In (hidT s1.heap H) := by
      intro b o e
      refine hidT_get (KX b o e) ?_
      cases q : H b with
      | none => rfl
      | some u =>
        have z := some_a q
        subst z
        rw [hK (by rw [q]; simp)] at e; cases e
    have hM : Mod K mg (hidT s1.heap H) :=
      ⟨inb, stays hns, ⟨mb, stays hb, hbb⟩, let ⟨mc, h1, h2⟩ := hlim; ⟨mc, stays h1, h2⟩⟩
    have e0 : Env0 P w K mg (hidT s1.heap H) callerA [] s1 H :=
      ⟨rfl, hM, fun b o e => of_hidT e, Nat.le_of_eq (hidT_size _ _), trivial,
        fun b z => absurd (show b ∈ ([] : List Addr) from z) (by simp), hok, .of_eq hg⟩
    have run := (F _ inb (stays hns)).run callerA [] s1 H ⟨[.ref a], []⟩ [.ref a] [.ref a] _ _ hr rfl e0
      (hbind s1 (.ref a)) (.cons rfl .nil) (hsp H hO hS)
    refine codeAny_mono run fun r s' h => ?_
    match r, h with
    | .error e, h => exact (hCX H e s' h).elim
    | .ok .next, h => exact False.elim h
    | .ok .brk, h => exact False.elim h
    | .ok .cont, h => exact False.elim h
    | .ok (.ret u), ⟨v, H', os, bare, un, hok', r', q⟩ =>
      obtain rfl : v = .bl true := q
      obtain rfl : u = Value.bool true := r'
      have lasts : ∀ b o, s1.heap.get? b = some o → s'.heap.get? b = some o := fun b o at_b => by
        rcases hO b with free | ⟨ob, xs, held⟩
        · exact un.keep b o at_b free (fun z => nomatch (show b ∈ ([] : List Addr) from z)) (List.not_mem_nil)
        · have before := (hok b _ held).1
          rw [at_b] at before
          rw [Option.some.inj before]
          exact (hok' b _ (un.frzs b ob _ held)).1
      exact ⟨rfl, OldK.of_keep lasts, os, bare⟩
  cases hk : K.lookup a with
  | some o =>
    have e := KX a o hk
    rw [ha] at e
    cases e
    refine core (fun _ => none) (fun _ => .inl rfl) (.inr ⟨_, vs.toArray, _, hk, rfl, rfl, rfl, ?_, by simpa using rv⟩)
      (fun b u z => nomatch (show (none : Option HO) = some u from z)) (fun b z => absurd rfl z) fun z => absurd rfl z
    rw [List.size_toArray, lenV]; exact hl
  | none =>
    have at_a : ∀ {b : Addr} {u : HO}, (if b = a then some (HO.frz { cls := .type "list", data := .seq vs.toArray } (.lst (ns.map V.int))) else none) = some u →
        b = a ∧ u = HO.frz { cls := .type "list", data := .seq vs.toArray } (.lst (ns.map V.int)) := by
      intro b u z
      by_cases h : b = a
      · rw [if_pos h] at z; exact ⟨h, (Option.some.inj z).symm⟩
      · rw [if_neg h] at z; cases z
    refine core (fun b => if b = a then some (.frz { cls := .type "list", data := .seq vs.toArray } (.lst (ns.map V.int))) else none)
      (fun b => ?_) (.inl (.inr ⟨{ cls := .type "list", data := .seq vs.toArray }, if_pos rfl⟩)) (fun b u z => ?_) (fun b z => ?_) fun _ => hk
    · by_cases h : b = a
      · exact .inr ⟨_, _, if_pos h⟩
      · exact .inl (if_neg h)
    · obtain ⟨h, e⟩ := at_a z
      subst h e
      exact ⟨ha, by rw [List.length_map]; exact hl, vs, _, rv, ha⟩
    · by_cases h : b = a
      · exact h
      · exact absurd (if_neg h) z
theorem walkG {l : PySem.W.OpenLaw} {n k : Nat} {q : Program} {loose : List Str} {XP : (Str → Option Value) → Heap → Prop} {YP : World → Heap → Prop}
    {d : DefRec} {K : Params → PySem.W.Frag} {CX : World → CXT} {sp : World → Sp} {x : Str}
    (hn : l.most = some n) (hn2 : n ≤ sizeLine) (hdf : d.params.defaults = []) (hr : Room k callerA)
    (hY : ∀ (w : World) (h : Heap), YP w h → (K w.params).In h)
    (F : ∀ (w : World) (mg : Str → Option Value) (fa : Addr) (h : Heap), (K w.params).In h → h.Ns mainGlobals mg → mg d.name = some (.ref fa) →
      ∃ fd : FuncData, (∀ (s : Shared) (u : Value), BindsTo s fd ⟨[u], []⟩ [(x, u)]) ∧
        ∀ base : Heap, (K w.params).In base → base.Ns mainGlobals mg → FnG l.prog w (K w.params) mg base (CX w) k fa fd [x] (sp w))
    (hsp : ∀ (w : World) (H : Hp) (a : Addr) (ns : List Int), ns.length ≤ n → Only H → SqL (K w.params) H a (ns.map V.int) →
      sp w [.ref a] H (fun v _ => v = .bl true) fun _ _ _ => False)
    (hCX : ∀ (w : World) (H : Hp) (s : Shared) (e : Value) (s' : Shared), CX w [] H s (fun _ _ _ => False) e s' → False) :
    PySem.W.WalkO q loose XP YP l.row.toRowW d [] (fun f vs => PySem.call f vs) := by
  refine Att.attach_call hn hdf ?_
  intro w s0 s1 mg mb fa o pm cd doc a vs ns G Y ho hd hcd hmg hobj hints hlen hg
  have KX := hY w _ Y
  obtain ⟨fd, hb, hF⟩ := F w mg fa _ KX G.T.g hmg
  exact callG KX G.T.g G.T.b G.T.builtins G.T.nolimit hg hobj hints (Nat.le_trans hlen hn2) hr hF hb
    (fun H hO hS => hsp w H a ns hlen hO hS) fun H e s' => hCX w H s1 e s'
end KD
set_option Elab.async false
set_option linter.all false
set_option maxRecDepth 100000
set_option maxHeartbeats 4000000
namespace KD
open PySem PySem.Spec PyProof.Rows L2

/-! ### pure pieces: a frozen part G of the heap H bears the data; what is new is laid on both -/
abbrev Ex (H H' : Hp) : Prop := ∀ a o, H a = some o → H' a = some o
theorem Ex.rf (H : Hp) : Ex H H := fun _ _ h => h
theorem Ex.tr {H H1 H2 : Hp} (a : Ex H H1) (b : Ex H1 H2) : Ex H H2 := fun x o h => b x o (a x o h)
theorem Ex.fresh {G H : Hp} (e : Ex G H) {p : Addr} (h : H p = none) : G p = none := by
  cases q : G p with
  | none => rfl
  | some o => rw [e p o q] at h; cases h
theorem Ex.up {G : Hp} {p : Addr} {o : HO} (h : G p = none) : Ex G (upd G p o) := fun a u e => by
  rw [upd_ne (ne_of_none e h)]; exact e
theorem Ex.both {G H : Hp} (e : Ex G H) (p : Addr) (o : HO) : Ex (upd G p o) (upd H p o) := fun a u q => by
  by_cases h : a = p
  · subst h; rw [upd_same] at q ⊢; exact q
  · rw [upd_ne h] at q ⊢; exact e a u q
structure Up (G H G' H' : Hp) : Prop where
  g : Ex G G'
  h : Ex G' H'
  m : Ex H H'
  n : ∀ b, H b ≠ none → G b = none → G' b = none
theorem Up.rf {G H : Hp} (e : Ex G H) : Up G H G H := ⟨Ex.rf G, e, Ex.rf H, fun _ _ h => h⟩
theorem Up.tr {G H G1 H1 G2 H2 : Hp} (a : Up G H G1 H1) (b : Up G1 H1 G2 H2) : Up G H G2 H2 where
  g := a.g.tr b.g
  h := b.h
  m := a.m.tr b.m
  n := fun c h1 h2 => b.n c (fun z => by
    cases q : H c with
    | none => exact h1 q
    | some o => rw [a.m c o q] at z; cases z) (a.n c h1 h2)
theorem Up.new {G H : Hp} (e : Ex G H) {p : Addr} (hp : H p = none) (o : HO) : Up G H (upd G p o) (upd H p o) :=
  ⟨Ex.up (e.fresh hp), e.both p o, Ex.up hp, fun b h1 h2 => by rw [upd_ne (fun z => h1 (by rw [z]; exact hp))]; exact h2⟩

def EvE (K : PySem.W.Frag) (σ : L2.St) (F : Hp) (te : TE) (d : PyData) : Prop :=
  ∀ G H, Ex F G → Ex G H → ∀ Q : VK, (∀ v G' H', Up G H G' H' → Da K G' v d → Q v H') → te σ H Q
def EvA (K : PySem.W.Frag) (σ : L2.St) (F : Hp) (ta : TA) (ds : List PyData) : Prop :=
  ∀ G H, Ex F G → Ex G H → ∀ Q : List V → Hp → Prop, (∀ vs G' H', Up G H G' H' → DaAll K G' vs ds → Q vs H') → ta σ H Q
def EvT (σ : L2.St) (F : Hp) (tt : TT) (b : Bool) : Prop :=
  ∀ G H, Ex F G → Ex G H → ∀ Q : Bool → Hp → Prop, (∀ G' H', Up G H G' H' → Q b H') → tt σ H Q
def EvO (σ : L2.St) (F : Hp) (to : TO) (o : Option Int) : Prop :=
  ∀ G H, Ex F G → Ex G H → ∀ Q : Option Int → Hp → Prop, (∀ G' H', Up G H G' H' → Q o H') → to σ H Q
/-- an operation on values -/
def OpD (K : PySem.W.Frag) (r : R2) (x y z : PyData) : Prop :=
  ∀ (G H : Hp) (v u : V), Ex G H → Da K G v x → Da K G u y → ∀ Q : VK, (∀ w G' H', Up G H G' H' → Da K G' w z → Q w H') → r v u H Q
/-- a call on values -/
def CaD (K : PySem.W.Frag) (r : List V → Hp → VK → Prop) (xs : List PyData) (z : PyData) : Prop :=
  ∀ (G H : Hp) (vs : List V), Ex G H → DaAll K G vs xs → ∀ Q : VK, (∀ w G' H', Up G H G' H' → Da K G' w z → Q w H') → r vs H Q

section
variable {K : PySem.W.Frag} {σ : L2.St} {F F' : Hp} {ta tb tc te to : TE} {tt tu : TT} {x y z d : PyData} {r r' : R2} {v : V} {as : TA} {ds : List PyData}
theorem EvE.mono (e : Ex F F') (h : EvE K σ F te d) : EvE K σ F' te d := fun G H a b Q q => h G H (e.tr a) b Q q
theorem EvT.mono {b : Bool} (e : Ex F F') (h : EvT σ F tt b) : EvT σ F' tt b := fun G H a c Q q => h G H (e.tr a) c Q q
theorem EvA.mono (e : Ex F F') (h : EvA K σ F as ds) : EvA K σ F' as ds := fun G H a b Q q => h G H (e.tr a) b Q q
theorem EvE.is {d' : PyData} (h : EvE K σ F te d) (e : d = d') : EvE K σ F te d' := e ▸ h
theorem EvT.is {b b' : Bool} (h : EvT σ F tt b) (e : b = b') : EvT σ F tt b' := e ▸ h
theorem e_var {i : Nat} (h : σ[i]? = some (some v)) (hd : Da K F v d) : EvE K σ F (tVar i) d :=
  fun G H a b Q q => ⟨v, h, q v G H (Up.rf b) (hd.mono a)⟩
theorem e_int {i : Int} : EvE K σ F (tC (.int i)) (.int i) := fun G H _ b Q q => q _ G H (Up.rf b) (.int i)
theorem e_str {s : Str} : EvE K σ F (tC (.str s)) (.str s) := fun G H _ b Q q => q _ G H (Up.rf b) (.str s)
theorem e_bl {b : Bool} : EvE K σ F (tC (.bl b)) (.bool b) := fun G H _ e Q q => q _ G H (Up.rf e) (.bl b)
theorem e_non : EvE K σ F (tC .non) .none := fun G H _ b Q q => q _ G H (Up.rf b) .non
theorem e_op (ha : EvE K σ F ta x) (hb : EvE K σ F tb y) (ho : OpD K r x y z) : EvE K σ F (tOp r ta tb) z :=
  fun G H a b Q q => ha G H a b _ fun v G1 H1 u1 d1 => hb G1 H1 (a.tr u1.g) u1.h _ fun u G2 H2 u2 d2 =>
    ho G2 H2 v u u2.h (d1.mono u2.g) d2 Q fun w G3 H3 u3 d3 => q w G3 H3 ((u1.tr u2).tr u3) d3
theorem e_un {ru : V → Hp → VK → Prop} (ha : EvE K σ F ta x)
    (ho : ∀ (G H : Hp) (v : V), Ex G H → Da K G v x → ∀ Q : VK, (∀ w G' H', Up G H G' H' → Da K G' w z → Q w H') → ru v H Q) : EvE K σ F (tUn ru ta) z :=
  fun G H a b Q q => ha G H a b _ fun v G1 H1 u1 d1 => ho G1 H1 v u1.h d1 Q fun w G3 H3 u3 d3 => q w G3 H3 (u1.tr u3) d3
theorem a_nil : EvA K σ F tNil [] := fun G H _ b Q q => q [] G H (Up.rf b) .nil
theorem a_cons (h : EvE K σ F te d) (hr : EvA K σ F as ds) : EvA K σ F (tCons te as) (d :: ds) :=
  fun G H a b Q q => h G H a b _ fun v G1 H1 u1 d1 => hr G1 H1 (a.tr u1.g) u1.h _ fun vs G2 H2 u2 d2 =>
    q (v :: vs) G2 H2 (u1.tr u2) (.cons (d1.mono u2.g) d2)
theorem e_tup (h : EvA K σ F as ds) (hl : ds.length ≤ 100000) : EvE K σ F (tTup as) (.tuple ds) :=
  fun G H a b Q q => h G H a b _ fun vs G1 H1 u1 d1 => ⟨by rw [d1.length]; exact Nat.le_trans hl (by decide), fun p hp =>
    q _ _ _ (u1.tr (Up.new u1.h hp _)) (.tup upd_same (d1.mono (Ex.up (u1.h.fresh hp))))⟩
theorem e_lst (h : EvA K σ F as ds) (hl : ds.length ≤ 100000) : EvE K σ F (tLst as) (.list ds) :=
  fun G H a b Q q => h G H a b _ fun vs G1 H1 u1 d1 => ⟨by rw [d1.length]; exact Nat.le_trans hl (by decide), fun p hp =>
    q _ _ _ (u1.tr (Up.new u1.h hp _)) (.lst upd_same (d1.mono (Ex.up (u1.h.fresh hp))))⟩
theorem e_cb {rc : List V → Hp → VK → Prop} (h : EvA K σ F as ds) (hc : CaD K rc ds z) : EvE K σ F (tCB rc as) z :=
  fun G H a b Q q => h G H a b _ fun vs G1 H1 u1 d1 => hc G1 H1 vs u1.h d1 Q fun w G3 H3 u3 d3 => q w G3 H3 (u1.tr u3) d3
theorem e_and {a b : Bool} (h1 : EvE K σ F ta (.bool a)) (h2 : a = true → EvE K σ F tb (.bool b)) : EvE K σ F (tAndV ta tb) (.bool (a && b)) :=
  fun G H e1 e2 Q q => h1 G H e1 e2 _ fun v G1 H1 u1 d1 => by
    cases d1
    refine ⟨a, rfl, ?_⟩
    cases a with
    | true => exact iteT (h2 rfl G1 H1 (e1.tr u1.g) u1.h Q fun w G2 H2 u2 d2 => q w G2 H2 (u1.tr u2) d2)
    | false => exact iteF (q _ G1 H1 u1 (.bl false))
theorem e_or {a b : Bool} (h1 : EvE K σ F ta (.bool a)) (h2 : a = false → EvE K σ F tb (.bool b)) : EvE K σ F (tOrV ta tb) (.bool (a || b)) :=
  fun G H e1 e2 Q q => h1 G H e1 e2 _ fun v G1 H1 u1 d1 => by
    cases d1
    refine ⟨a, rfl, ?_⟩
    cases a with
    | true => exact iteT (q _ G1 H1 u1 (.bl true))
    | false => exact iteF (h2 rfl G1 H1 (e1.tr u1.g) u1.h Q fun w G2 H2 u2 d2 => q w G2 H2 (u1.tr u2) d2)
theorem e_not {a : Bool} (h1 : EvE K σ F ta (.bool a)) : EvE K σ F (tNotV ta) (.bool (!a)) :=
  fun G H e1 e2 Q q => h1 G H e1 e2 _ fun v G1 H1 u1 d1 => by
    cases d1
    exact ⟨a, rfl, q _ G1 H1 u1 (.bl _)⟩
theorem e_if {b : Bool} (h : EvT σ F tt b) (h1 : b = true → EvE K σ F ta x) (h2 : b = false → EvE K σ F tb y) : EvE K σ F (tIf tt ta tb) (bif b then x else y) :=
  fun G H e1 e2 Q q => h G H e1 e2 _ fun G1 H1 u1 => by
    cases b with
    | true => exact iteT (h1 rfl G1 H1 (e1.tr u1.g) u1.h Q fun w G2 H2 u2 d2 => q w G2 H2 (u1.tr u2) d2)
    | false => exact iteF (h2 rfl G1 H1 (e1.tr u1.g) u1.h Q fun w G2 H2 u2 d2 => q w G2 H2 (u1.tr u2) d2)
theorem e_chain {a b : Bool} (ha : EvE K σ F ta x) (hb : EvE K σ F tb y) (h1 : OpD K r x y (.bool a)) (hc : a = true → EvE K σ F tc z)
    (h2 : a = true → OpD K r' y z (.bool b)) : EvE K σ F (tChain r r' ta tb tc) (.bool (a && b)) :=
  fun G H e1 e2 Q q => ha G H e1 e2 _ fun v G1 H1 u1 d1 => hb G1 H1 (e1.tr u1.g) u1.h _ fun u G2 H2 u2 d2 =>
    h1 G2 H2 v u u2.h (d1.mono u2.g) d2 _ fun w G3 H3 u3 d3 => by
      cases d3
      refine ⟨a, rfl, ?_⟩
      cases a with
      | false => exact iteF (q _ G3 H3 ((u1.tr u2).tr u3) (.bl false))
      | true => exact iteT (hc rfl G3 H3 (((e1.tr u1.g).tr u2.g).tr u3.g) u3.h _ fun w' G4 H4 u4 d4 =>
          h2 rfl G4 H4 u w' u4.h ((d2.mono u3.g).mono u4.g) d4 Q fun w2 G5 H5 u5 d5 => q w2 G5 H5 ((((u1.tr u2).tr u3).tr u4).tr u5) d5)
/-! tests -/
theorem t_test {b : Bool} (h : EvE K σ F te (.bool b)) : EvT σ F (tTest te) b :=
  fun G H e1 e2 Q q => h G H e1 e2 _ fun v G1 H1 u1 d1 => by cases d1; exact ⟨b, rfl, q G1 H1 u1⟩
theorem t_val {b : Bool} (h : EvE K σ F te (.bool b)) : EvT σ F (tB te) b :=
  fun G H e1 e2 Q q => h G H e1 e2 _ fun v G1 H1 u1 d1 => by cases d1; exact ⟨b, rfl, q G1 H1 u1⟩
theorem t_not {b : Bool} (h : EvT σ F tt b) : EvT σ F (tNot tt) (!b) := fun G H e1 e2 Q q => h G H e1 e2 _ fun G1 H1 u1 => q G1 H1 u1
theorem t_and {a b : Bool} (h1 : EvT σ F tt a) (h2 : a = true → EvT σ F tu b) : EvT σ F (tAnd tt tu) (a && b) :=
  fun G H e1 e2 Q q => h1 G H e1 e2 _ fun G1 H1 u1 => by
    cases a with
    | true => exact iteT (h2 rfl G1 H1 (e1.tr u1.g) u1.h Q fun G2 H2 u2 => q G2 H2 (u1.tr u2))
    | false => exact iteF (q G1 H1 u1)
theorem t_or {a b : Bool} (h1 : EvT σ F tt a) (h2 : a = false → EvT σ F tu b) : EvT σ F (tOr tt tu) (a || b) :=
  fun G H e1 e2 Q q => h1 G H e1 e2 _ fun G1 H1 u1 => by
    cases a with
    | true => exact iteT (q G1 H1 u1)
    | false => exact iteF (h2 rfl G1 H1 (e1.tr u1.g) u1.h Q fun G2 H2 u2 => q G2 H2 (u1.tr u2))
theorem t_yes : EvT σ F tYes true := fun G H _ e2 Q q => q G H (Up.rf e2)

/-! operations on data -/
theorem o_I0 {g : Int → Int → V} {i j : Int} (hz : ∀ G, Da K G (g i j) z) : OpD K (rI0 g) (.int i) (.int j) z := fun G H v u e d1 d2 Q q => by
  cases d1; cases d2
  exact ⟨i, j, rfl, rfl, q _ G H (Up.rf e) (hz G)⟩
theorem o_I {C : Int → Int → Prop} {g : Int → Int → V} {i j : Int} (hc : C i j) (hz : ∀ G, Da K G (g i j) z) : OpD K (rI C g) (.int i) (.int j) z := fun G H v u e d1 d2 Q q => by
  cases d1; cases d2
  exact ⟨i, j, rfl, rfl, hc, q _ G H (Up.rf e) (hz G)⟩
theorem o_addS {a b : Str} (hz : a.length + b.length ≤ 1000000) :
    OpD K (fun x y H Q => ∃ i j, x = .str i ∧ y = .str j ∧ i.length + j.length ≤ sizeLine ∧ Q (.str (i ++ j)) H) (.str a) (.str b) (.str (a ++ b)) := fun G H v u e d1 d2 Q q => by
  cases d1; cases d2
  exact ⟨a, b, rfl, rfl, Nat.le_trans hz (by decide), q _ G H (Up.rf e) (.str _)⟩
theorem o_mulS {a : Str} {n : Int} (h : MulOk a n) : OpD K rMulS (.str a) (.int n) (.str (Txt.mul a n)) := fun G H v u e d1 d2 Q q => by
  cases d1; cases d2
  exact ⟨a, n, rfl, rfl, h, q _ G H (Up.rf e) (.str _)⟩
theorem o_cat {xs ys : List PyData} (hz : xs.length + ys.length ≤ 100000) : OpD K rCat (.list xs) (.list ys) (.list (xs ++ ys)) := fun G H v u e d1 d2 Q q => by
  cases d1 with
  | lst h1 a1 =>
    cases d2 with
    | lst h2 a2 =>
      refine ⟨_, _, _, _, rfl, rfl, e _ _ h1, e _ _ h2, ?_, fun p hp => ?_⟩
      · rw [a1.length, a2.length]; exact Nat.le_trans hz (by decide)
      · exact q _ _ _ (Up.new e hp _) (.lst upd_same ((a1.append a2).mono (Ex.up (e.fresh hp))))
theorem o_catT {xs ys : List PyData} (hz : xs.length + ys.length ≤ 100000) : OpD K (rCatA K) (.tuple xs) (.tuple ys) (.tuple (xs ++ ys)) := fun G H v u e d1 d2 Q q => by
  cases d1 with
  | tup h1 a1 =>
    cases d2 with
    | tup h2 a2 =>
      refine ⟨_, _, _, _, rfl, rfl, SqT.of (e _ _ h1), SqT.of (e _ _ h2), ?_, fun e0 => ?_, fun n0 e0 => ?_, fun n0 n1 p hp => ?_⟩
      · rw [a1.length, a2.length]; exact Nat.le_trans hz (by decide)
      · subst e0
        cases a1
        exact q _ G H (Up.rf e) (.tup h2 a2)
      · subst e0
        cases a2
        refine q _ G H (Up.rf e) (.tup h1 ?_)
        rw [List.append_nil]; exact a1
      · exact q _ _ _ (Up.new e hp _) (.tup upd_same ((a1.append a2).mono (Ex.up (e.fresh hp))))
theorem o_rep {xs : List PyData} {n : Nat} (hz : xs.length * n ≤ 100000) (hn : n ≤ 100000) :
    OpD K rRep (.list xs) (.int n) (.list (List.replicate n xs).flatten) := fun G H v u e d1 d2 Q q => by
  cases d1 with
  | lst h1 a1 =>
    cases d2
    refine ⟨_, _, _, rfl, rfl, e _ _ h1, by omega, by omega, ?_, ?_⟩
    · rw [a1.length]; exact Nat.le_trans (by simpa using hz) (by decide)
    · have rep : ∀ k, ∀ G : Hp, ∀ ws : List V, DaAll K G ws xs → DaAll K G (List.replicate k ws).flatten (List.replicate k xs).flatten := by
        intro k G ws h
        induction k with
        | zero => exact .nil
        | succ k ih =>
          rw [List.replicate_succ, List.replicate_succ, List.flatten_cons, List.flatten_cons]
          exact h.append ih
      intro p hp
      refine q _ _ _ (Up.new e hp _) (.lst upd_same ?_)
      exact (rep n G _ a1).mono (Ex.up (e.fresh hp))
theorem atI_map {α β : Type} {xs : List α} {ys : List β} (hl : xs.length = ys.length) {i : Int} {y : β} (h : atI ys i = some y) :
    ∃ k : Nat, ys[k]? = some y ∧ ∀ x, xs[k]? = some x → atI xs i = some x := by
  unfold atI at h ⊢
  rw [hl]
  cases q : ixN ys.length i with
  | none => rw [q] at h; cases h
  | some k => rw [q] at h; exact ⟨k, h, fun x hx => hx⟩
theorem o_ixL {xs : List PyData} {i : Int} (h : atI xs i = some z) : OpD K (rIxL K) (.list xs) (.int i) z := fun G H v u e d1 d2 Q q => by
  cases d1 with
  | lst h1 a1 =>
    cases d2
    obtain ⟨k, hk, hx⟩ := atI_map a1.length h
    obtain ⟨w, hw, dw⟩ := a1.at hk
    exact ⟨_, _, i, w, rfl, rfl, SqL.of (e _ _ h1), hx w hw, q w G H (Up.rf e) dw⟩
theorem o_ixT {xs : List PyData} {i : Int} (h : atI xs i = some z) : OpD K (rIxT K) (.tuple xs) (.int i) z := fun G H v u e d1 d2 Q q => by
  cases d1 with
  | tup h1 a1 =>
    cases d2
    obtain ⟨k, hk, hx⟩ := atI_map a1.length h
    obtain ⟨w, hw, dw⟩ := a1.at hk
    exact ⟨_, _, i, w, rfl, rfl, SqT.of (e _ _ h1), hx w hw, q w G H (Up.rf e) dw⟩
theorem o_ixS {a : Str} {i : Int} {c : Nat} (hl : a.length ≤ 1000000) (h : atI a.cps.toList i = some c) : OpD K rIxS (.str a) (.int i) (.str ⟨#[c]⟩) := fun G H v u e d1 d2 Q q => by
  cases d1; cases d2
  exact ⟨a, i, c, rfl, rfl, Nat.le_trans hl (by decide), h, q _ G H (Up.rf e) (.str _)⟩
def scalD : PyData → PyData → Bool
  | .none, .none | .none, .int _ | .int _, .none | .none, .bool _ | .bool _, .none | .none, .str _ | .str _, .none | .int _, .int _ | .bool _, .bool _ | .str _, .str _ => true
  | _, _ => false
def eqD : PyData → PyData → Bool
  | .none, .none => true
  | .int i, .int j => decide (i = j)
  | .bool a, .bool b => decide (a = b)
  | .str a, .str b => decide (a = b)
  | _, _ => false
theorem o_eq (h : scalD x y = true) : OpD K rEq x y (.bool (eqD x y)) := fun G H v u e d1 d2 Q q => by
  have := q (.bl (eqD x y)) G H (Up.rf e) (.bl _)
  cases d1 <;> cases d2 <;> first | (simp [scalD] at h; done) | (refine ⟨rfl, ?_⟩; simpa [eqD] using this)
theorem o_ne (h : scalD x y = true) : OpD K rNe x y (.bool (!eqD x y)) := fun G H v u e d1 d2 Q q => by
  have := q (.bl (!eqD x y)) G H (Up.rf e) (.bl _)
  cases d1 <;> cases d2 <;> first | (simp [scalD] at h; done) | (refine ⟨rfl, ?_⟩; simpa [eqD] using this)
theorem o_eqDa (h1 : cmpOk x y = true) : OpD K (rEqDa K) x y (.bool (PyData.eqv x y)) :=
  fun G H v u e d1 d2 Q q => ⟨x, y, d1.mono e, d2.mono e, h1, q _ G H (Up.rf e) (.bl _)⟩
theorem o_neDa (h1 : cmpOk x y = true) : OpD K (rNeDa K) x y (.bool (!PyData.eqv x y)) :=
  fun G H v u e d1 d2 Q q => ⟨x, y, d1.mono e, d2.mono e, h1, q _ G H (Up.rf e) (.bl _)⟩
theorem o_ltS {a b : Str} : OpD K (fun x y H Q => ∃ i j, x = .str i ∧ y = .str j ∧ Q (.bl (decide (i.cps.toList < j.cps.toList))) H) (.str a) (.str b) (.bool (decide (a.cps.toList < b.cps.toList))) :=
  fun G H v u e d1 d2 Q q => by cases d1; cases d2; exact ⟨a, b, rfl, rfl, q _ G H (Up.rf e) (.bl _)⟩
theorem o_inS {c : Nat} {b : Str} : OpD K (fun x y H Q => ∃ (c : Nat) (z : Str), x = .str ⟨#[c]⟩ ∧ y = .str z ∧ Q (.bl (decide (c ∈ z.cps.toList))) H) (.str ⟨#[c]⟩) (.str b) (.bool (decide (c ∈ b.cps.toList))) :=
  fun G H v u e d1 d2 Q q => by cases d1; cases d2; exact ⟨c, b, rfl, rfl, q _ G H (Up.rf e) (.bl _)⟩
/-! calls -/
theorem c_lenS {a : Str} (h : a.length ≤ 1000000) : CaD K (fun xs H Q => ∃ z, xs = [.str z] ∧ z.length ≤ sizeLine ∧ Q (.int z.length) H) [.str a] (.int a.length) :=
  fun G H vs e d Q q => by
    cases d with
    | cons d1 d2 => cases d1; cases d2; exact ⟨a, rfl, Nat.le_trans h (by decide), q _ G H (Up.rf e) (.int _)⟩
theorem c_lenL {xs : List PyData} : CaD K (fun ws H Q => ∃ p ys, ws = [.ref p] ∧ (SqL K H p ys ∨ SqT K H p ys) ∧ Q (.int ys.length) H) [.list xs] (.int xs.length) :=
  fun G H vs e d Q q => by
    cases d with
    | cons d1 d2 =>
      cases d2
      cases d1 with
      | lst h1 a1 => exact ⟨_, _, rfl, .inl (SqL.of (e _ _ h1)), by rw [a1.length]; exact q _ G H (Up.rf e) (.int _)⟩
theorem c_lenT {xs : List PyData} : CaD K (fun ws H Q => ∃ p ys, ws = [.ref p] ∧ (SqL K H p ys ∨ SqT K H p ys) ∧ Q (.int ys.length) H) [.tuple xs] (.int xs.length) :=
  fun G H vs e d Q q => by
    cases d with
    | cons d1 d2 =>
      cases d2
      cases d1 with
      | tup h1 a1 => exact ⟨_, _, rfl, .inr (SqT.of (e _ _ h1)), by rw [a1.length]; exact q _ G H (Up.rf e) (.int _)⟩
theorem c_repr (h : repOk x = true) : CaD K (rRepr K) [x] (.str x.shown) := fun G H vs e d Q q => by
  cases d with
  | cons d1 d2 => cases d2; exact ⟨_, x, rfl, d1.mono e, h, q _ G H (Up.rf e) (.str _)⟩
/-- a datum's class -/
def clsD : PyData → String
  | .none => "NoneType"
  | .bool _ => "bool"
  | .int _ => "int"
  | .str _ => "str"
  | .list _ => "list"
  | .tuple _ => "tuple"
  | .dict _ => "dict"
theorem tyX_of {G H : Hp} (e : Ex G H) {v : V} {d : PyData} (h : Da K G v d) : TyX K H v (.type (clsD d)) := by
  cases h with
  | non => exact .base .non
  | bl b => exact .base (.bl b)
  | int i => exact .base (.int i)
  | str a => exact .base (.str a)
  | lst h1 _ => exact .base (.lst (e _ _ h1))
  | tup h1 _ => exact .base (.tup (e _ _ h1))
  | dic h1 _ => exact .base (.dK (e _ _ h1))
/-- isinstance(x, T) -/
theorem e_isi {T : String} {b : Bool} (h : EvE K σ F ta x) (hk : kitB (clsD x) T = some b) : EvE K σ F (tCB (rIsi K) (tCons ta (tCons (tC (.ty T)) tNil))) (.bool b) :=
  fun G H e1 e2 Q q => h G H e1 e2 _ fun v G1 H1 u1 d1 => ⟨v, .ty T, .type (clsD x), .type T, b, rfl, .ty T, tyX_of u1.h d1, kit_ty hk, q _ G1 H1 u1 (.bl b)⟩
theorem c_all {bs : List Bool} : CaD K (rAll K) [.list (bs.map .bool)] (.bool (bs.all id)) := fun G H vs e d Q q => by
  cases d with
  | cons d1 d2 =>
    cases d2
    cases d1 with
    | lst h1 a1 =>
      have ev : ∀ (bs : List Bool) (xs : List V), DaAll K G xs (bs.map .bool) → xs = bs.map V.bl := by
        intro bs
        induction bs with
        | nil => intro xs h; cases h; rfl
        | cons b r ih =>
          intro xs h
          cases h with
          | cons h2 h3 => cases h2; rw [ih _ h3]; rfl
      rw [ev bs _ a1] at h1
      exact ⟨_, bs, rfl, SqL.of (e _ _ h1), q _ G H (Up.rf e) (.bl _)⟩
theorem c_any {bs : List Bool} : CaD K (rAny K) [.list (bs.map .bool)] (.bool (bs.any id)) := fun G H vs e d Q q => by
  cases d with
  | cons d1 d2 =>
    cases d2
    cases d1 with
    | lst h1 a1 =>
      have ev : ∀ (bs : List Bool) (xs : List V), DaAll K G xs (bs.map .bool) → xs = bs.map V.bl := by
        intro bs
        induction bs with
        | nil => intro xs h; cases h; rfl
        | cons b r ih =>
          intro xs h
          cases h with
          | cons h2 h3 => cases h2; rw [ih _ h3]; rfl
      rw [ev bs _ a1] at h1
      exact ⟨_, bs, rfl, SqL.of (e _ _ h1), q _ G H (Up.rf e) (.bl _)⟩
theorem c_listL {xs : List PyData} : CaD K (fun ws H Q => ∃ p ys, ws = [.ref p] ∧ (SqL K H p ys ∨ SqT K H p ys) ∧ ∀ l, H l = none → Q (.ref l) (upd H l (.lst ys))) [.list xs] (.list xs) := fun G H vs e d Q q => by
  cases d with
  | cons d1 d2 =>
    cases d2
    cases d1 with
    | lst h1 a1 => exact ⟨_, _, rfl, .inl (SqL.of (e _ _ h1)), fun l hl => q _ _ _ (Up.new e hl _) (.lst upd_same (a1.mono (Ex.up (e.fresh hl))))⟩
theorem c_listT {xs : List PyData} : CaD K (fun ws H Q => ∃ p ys, ws = [.ref p] ∧ (SqL K H p ys ∨ SqT K H p ys) ∧ ∀ l, H l = none → Q (.ref l) (upd H l (.lst ys))) [.tuple xs] (.list xs) := fun G H vs e d Q q => by
  cases d with
  | cons d1 d2 =>
    cases d2
    cases d1 with
    | tup h1 a1 => exact ⟨_, _, rfl, .inr (SqT.of (e _ _ h1)), fun l hl => q _ _ _ (Up.new e hl _) (.lst upd_same (a1.mono (Ex.up (e.fresh hl))))⟩
theorem c_tupL {xs : List PyData} : CaD K (fun ws H Q => ∃ p ys, ws = [.ref p] ∧ ((SqL K H p ys ∧ ∀ l, H l = none → Q (.ref l) (upd H l (.tup ys))) ∨ (SqT K H p ys ∧ Q (.ref p) H))) [.list xs] (.tuple xs) := fun G H vs e d Q q => by
  cases d with
  | cons d1 d2 =>
    cases d2
    cases d1 with
    | lst h1 a1 => exact ⟨_, _, rfl, .inl ⟨SqL.of (e _ _ h1), fun l hl => q _ _ _ (Up.new e hl _) (.tup upd_same (a1.mono (Ex.up (e.fresh hl))))⟩⟩
theorem c_tupT {xs : List PyData} : CaD K (fun ws H Q => ∃ p ys, ws = [.ref p] ∧ ((SqL K H p ys ∧ ∀ l, H l = none → Q (.ref l) (upd H l (.tup ys))) ∨ (SqT K H p ys ∧ Q (.ref p) H))) [.tuple xs] (.tuple xs) := fun G H vs e d Q q => by
  cases d with
  | cons d1 d2 =>
    cases d2
    cases d1 with
    | tup h1 a1 => exact ⟨_, _, rfl, .inr ⟨SqT.of (e _ _ h1), q _ G H (Up.rf e) (.tup h1 a1)⟩⟩
theorem c_strI {i : Int} (h : i.natAbs.log2 < 1920) : CaD K (fun xs H Q => ∃ i, xs = [.int i] ∧ i.natAbs.log2 < 1920 ∧ Q (.str (toString i)) H) [.int i] (.str (toString i)) := fun G H vs e d Q q => by
  cases d with
  | cons d1 d2 => cases d2; cases d1; exact ⟨i, rfl, h, q _ G H (Up.rf e) (.str _)⟩
/-! texts' methods -/
theorem e_m1 {rm : V → List V → Hp → VK → Prop} {a : Str} (h1 : EvE K σ F to (.str a)) (h2 : EvE K σ F te y)
    (hr : ∀ (G H : Hp) (u : V), Ex G H → Da K G u y → ∀ Q : VK, (∀ w G' H', Up G H G' H' → Da K G' w z → Q w H') → rm (.str a) [u] H Q) : EvE K σ F (tM1 rm to te) z :=
  fun G H e1 e2 Q q => h1 G H e1 e2 _ fun v G1 H1 u1 d1 => by
    cases d1
    exact ⟨⟨a, rfl⟩, h2 G1 H1 (e1.tr u1.g) u1.h _ fun u G2 H2 u2 d2 => hr G2 H2 u u2.h d2 Q fun w G3 H3 u3 d3 => q w G3 H3 ((u1.tr u2).tr u3) d3⟩
theorem e_m0 {rm : V → List V → Hp → VK → Prop} {a : Str} (h1 : EvE K σ F to (.str a))
    (hr : ∀ (G H : Hp), Ex G H → ∀ Q : VK, (∀ w G' H', Up G H G' H' → Da K G' w z → Q w H') → rm (.str a) [] H Q) : EvE K σ F (tM0 rm to) z :=
  fun G H e1 e2 Q q => h1 G H e1 e2 _ fun v G1 H1 u1 d1 => by
    cases d1
    exact ⟨⟨a, rfl⟩, hr G1 H1 u1.h Q fun w G3 H3 u3 d3 => q w G3 H3 (u1.tr u3) d3⟩
theorem e_find {a b : Str} (h1 : EvE K σ F to (.str a)) (h2 : EvE K σ F te (.str b)) :
    EvE K σ F (tM1 (fun x xs H Q => ∃ a b, x = .str a ∧ xs = [.str b] ∧ Q (.int (Txt.find a b)) H) to te) (.int (Txt.find a b)) :=
  e_m1 h1 h2 fun G H u e d Q q => by cases d; exact ⟨a, b, rfl, rfl, q _ G H (Up.rf e) (.int _)⟩
theorem e_upper {a : Str} (h1 : EvE K σ F to (.str a)) (hl : a.length ≤ 1000000) :
    EvE K σ F (tM0 (fun x xs H Q => ∃ a, x = .str a ∧ xs = [] ∧ a.length ≤ 5592405 ∧ Q (.str (Txt.upper a)) H) to) (.str (Txt.upper a)) :=
  e_m0 h1 fun G H e Q q => ⟨a, rfl, rfl, by omega, q _ G H (Up.rf e) (.str _)⟩
theorem daAll_strs {G : Hp} : ∀ ys : List Str, DaAll K G (ys.map V.str) (ys.map .str)
  | [] => .nil
  | y :: ys => .cons (.str y) (daAll_strs ys)
theorem e_split {a b : Str} (h1 : EvE K σ F to (.str a)) (h2 : EvE K σ F te (.str b)) (hb : (b.length == 0) = false) (ha : a.length ≤ 1000000) :
    EvE K σ F (tM1 (fun x xs H Q => ∃ a b, x = .str a ∧ xs = [.str b] ∧ (b.length == 0) = false ∧ a.length + 2 ≤ sizeLine ∧ rNewStrs (Txt.split a b) H Q) to te) (.list ((Txt.split a b).map .str)) :=
  e_m1 h1 h2 fun G H u e d Q q => by
    cases d
    exact ⟨a, b, rfl, rfl, hb, Nat.le_trans (Nat.add_le_add_right ha 2) (by decide), fun p hp => q _ _ _ (Up.new e hp _) (.lst upd_same (daAll_strs _))⟩
/-! slices -/
theorem oo_none : EvO σ F tNoPart none := fun G H _ e2 Q q => q G H (Up.rf e2)
theorem oo_some {i : Int} (h : EvE K σ F te (.int i)) : EvO σ F (tPart te) (some i) := fun G H e1 e2 Q q => h G H e1 e2 _ fun v G1 H1 u1 d1 => by
  cases d1; exact ⟨i, rfl, q G1 H1 u1⟩
def cutD (xs : List PyData) (lo hi : Option Int) : List PyData := (xs.drop (HT.sIx xs.length 0 lo)).take (HT.sIx xs.length xs.length hi - HT.sIx xs.length 0 lo)
theorem DaAll.cut {G : Hp} {vs : List V} {xs : List PyData} (h : DaAll K G vs xs) (lo hi : Option Int) : DaAll K G (cutV vs lo hi) (cutD xs lo hi) := by
  unfold cutV cutD
  rw [h.length]
  exact (h.drop _).take _
theorem e_slL {tl th : TO} {xs : List PyData} {lo hi : Option Int} (h : EvE K σ F te (.list xs)) (h1 : EvO σ F tl lo) (h2 : EvO σ F th hi) :
    EvE K σ F (tSl (rSlL K) te tl th) (.list (cutD xs lo hi)) := fun G H e1 e2 Q q => h G H e1 e2 _ fun v G1 H1 u1 d1 =>
  h1 G1 H1 (e1.tr u1.g) u1.h _ fun G2 H2 u2 => h2 G2 H2 ((e1.tr u1.g).tr u2.g) u2.h _ fun G3 H3 u3 => by
    cases d1 with
    | lst h1 a1 =>
      exact ⟨_, _, rfl, SqL.of (u3.h _ _ (u3.g _ _ (u2.g _ _ h1))), fun p hp =>
        q _ _ _ (((u1.tr u2).tr u3).tr (Up.new u3.h hp _)) (.lst upd_same ((((a1.cut lo hi).mono u2.g).mono u3.g).mono (Ex.up (u3.h.fresh hp))))⟩
theorem e_slT {tl th : TO} {xs : List PyData} {lo hi : Option Int} (h : EvE K σ F te (.tuple xs)) (h1 : EvO σ F tl lo) (h2 : EvO σ F th hi) :
    EvE K σ F (tSl (rSlA K) te tl th) (.tuple (cutD xs lo hi)) := fun G H e1 e2 Q q => h G H e1 e2 _ fun v G1 H1 u1 d1 =>
  h1 G1 H1 (e1.tr u1.g) u1.h _ fun G2 H2 u2 => h2 G2 H2 ((e1.tr u1.g).tr u2.g) u2.h _ fun G3 H3 u3 => by
    cases d1 with
    | tup h1 a1 =>
      refine ⟨_, _, rfl, SqT.of (u3.h _ _ (u3.g _ _ (u2.g _ _ h1))), fun hw => ?_, fun _ p hp => ?_⟩
      · refine q _ G3 H3 ((u1.tr u2).tr u3) (.tup (u3.g _ _ (u2.g _ _ h1)) ?_)
        have := ((a1.cut lo hi).mono u2.g).mono u3.g
        have e : cutD xs lo hi = xs := by
          unfold cutD
          rw [a1.length] at hw
          rw [hw.1, hw.2, List.drop_zero, Nat.sub_zero, List.take_length]
        rw [e]
        exact ((a1.mono u2.g)).mono u3.g
      · exact q _ _ _ (((u1.tr u2).tr u3).tr (Up.new u3.h hp _)) (.tup upd_same ((((a1.cut lo hi).mono u2.g).mono u3.g).mono (Ex.up (u3.h.fresh hp))))
theorem e_slS {tl th : TO} {a : Str} {lo hi : Option Int} (h : EvE K σ F te (.str a)) (h1 : EvO σ F tl lo) (h2 : EvO σ F th hi) (hl : a.length ≤ 1000000) :
    EvE K σ F (tSl rSlS te tl th) (.str (cutS a lo hi)) := fun G H e1 e2 Q q => h G H e1 e2 _ fun v G1 H1 u1 d1 =>
  h1 G1 H1 (e1.tr u1.g) u1.h _ fun G2 H2 u2 => h2 G2 H2 ((e1.tr u1.g).tr u2.g) u2.h _ fun G3 H3 u3 => by
    cases d1
    exact ⟨a, rfl, Nat.le_trans hl (by decide), q _ G3 H3 ((u1.tr u2).tr u3) (.str _)⟩
theorem e_revL {xs : List PyData} (h : EvE K σ F te (.list xs)) : EvE K σ F (tRevL K te) (.list xs.reverse) := fun G H e1 e2 Q q => h G H e1 e2 _ fun v G1 H1 u1 d1 => by
  cases d1 with
  | lst h1 a1 => exact ⟨_, _, rfl, SqL.of (u1.h _ _ h1), fun p hp => q _ _ _ (u1.tr (Up.new u1.h hp _)) (.lst upd_same (a1.rev.mono (Ex.up (u1.h.fresh hp))))⟩
theorem e_revT {xs : List PyData} (h : EvE K σ F te (.tuple xs)) : EvE K σ F (tRevT K te) (.tuple xs.reverse) := fun G H e1 e2 Q q => h G H e1 e2 _ fun v G1 H1 u1 d1 => by
  cases d1 with
  | tup h1 a1 => exact ⟨_, _, rfl, SqT.of (u1.h _ _ h1), fun p hp => q _ _ _ (u1.tr (Up.new u1.h hp _)) (.tup upd_same (a1.rev.mono (Ex.up (u1.h.fresh hp))))⟩
end
end KD
set_option Elab.async false
set_option linter.all false
set_option maxRecDepth 100000
set_option maxHeartbeats 4000000
namespace KD
open PySem PySem.Spec PyProof.Rows L2

/-! ### what is walked, as data -/
def Wk (K : PySem.W.Frag) (J : It) (G : Hp) (ds : List PyData) : Prop := ∀ (i : Nat) (G1 H1 : Hp), Ex G G1 → Ex G1 H1 →
  (∀ d, ds[i]? = some d → J.go i H1 ∧ ∀ x H', J.yld i H1 x H' → ∃ G', Up G1 H1 G' H' ∧ Da K G' x d) ∧ (i = ds.length → J.stop i H1)
def EvI (K : PySem.W.Frag) (σ : L2.St) (F : Hp) (wi : TI) (ds : List PyData) : Prop :=
  ∀ G H, Ex F G → Ex G H → ∀ R : It → Hp → Prop, (∀ J G' H', Up G H G' H' → Wk K J G' ds → R J H') → wi σ H R
section
variable {K : PySem.W.Frag} {σ : L2.St} {F F' : Hp} {ta tb tl te : TE} {ds es : List PyData} {as : TA} {d : PyData}
theorem EvI.is {wi : TI} {ds' : List PyData} (h : EvI K σ F wi ds) (e : ds = ds') : EvI K σ F wi ds' := e ▸ h
theorem i_list (h : EvE K σ F tl (.list ds)) : EvI K σ F (iList K tl) ds := fun G H e1 e2 R q => h G H e1 e2 _ fun v G1 H1 u1 d1 => by
  cases d1 with
  | @lst a xs _ h1 a1 =>
    refine ⟨a, rfl, ⟨xs, SqL.of (u1.h _ _ h1)⟩, q _ G1 H1 u1 fun i G2 H2 e3 e4 => ⟨fun d hd => ?_, fun hi => ?_⟩⟩
    · obtain ⟨x, hx, dx⟩ := a1.at hd
      have hs : SqL K H2 a xs := SqL.of (e4 _ _ (e3 _ _ h1))
      refine ⟨⟨xs, x, hs, hx⟩, ?_⟩
      rintro y H' ⟨rfl, hy⟩
      have e := hy xs hs
      rw [hx] at e; cases e
      exact ⟨G2, Up.rf e4, dx.mono e3⟩
    · have hi := Nat.le_of_eq hi.symm
      exact ⟨xs, SqL.of (e4 _ _ (e3 _ _ h1)), by rw [a1.length]; exact hi⟩
theorem i_tup (h : EvE K σ F tl (.tuple ds)) : EvI K σ F (iTup K tl) ds := fun G H e1 e2 R q => h G H e1 e2 _ fun v G1 H1 u1 d1 => by
  cases d1 with
  | @tup a xs _ h1 a1 =>
    refine ⟨a, rfl, ⟨xs, SqT.of (u1.h _ _ h1)⟩, q _ G1 H1 u1 fun i G2 H2 e3 e4 => ⟨fun d hd => ?_, fun hi => ?_⟩⟩
    · obtain ⟨x, hx, dx⟩ := a1.at hd
      have hs : SqT K H2 a xs := SqT.of (e4 _ _ (e3 _ _ h1))
      refine ⟨⟨xs, x, hs, hx⟩, ?_⟩
      rintro y H' ⟨rfl, hy⟩
      have e := hy xs hs
      rw [hx] at e; cases e
      exact ⟨G2, Up.rf e4, dx.mono e3⟩
    · have hi := Nat.le_of_eq hi.symm
      exact ⟨xs, SqT.of (e4 _ _ (e3 _ _ h1)), by rw [a1.length]; exact hi⟩
def sgns (z : Str) : List PyData := z.cps.toList.map fun c => .str ⟨#[c]⟩
theorem i_str {z : Str} (h : EvE K σ F tl (.str z)) : EvI K σ F (iStr tl) (sgns z) := fun G H e1 e2 R q => h G H e1 e2 _ fun v G1 H1 u1 d1 => by
  cases d1
  refine ⟨z, rfl, q _ G1 H1 u1 fun i G2 H2 e3 e4 => ⟨fun d hd => ?_, fun hi => ?_⟩⟩
  · unfold sgns at hd
    rw [List.getElem?_map] at hd
    obtain ⟨c, hc, rfl⟩ := Option.map_eq_some_iff.mp hd
    have hc' : z.cps[i]? = some c := by rw [← Array.getElem?_toList]; exact hc
    refine ⟨?_, ?_⟩
    · obtain ⟨hi, _⟩ := Array.getElem?_eq_some_iff.mp hc'
      exact hi
    · rintro y H' ⟨rfl, c', hy, rfl⟩
      rw [hc'] at hy; cases hy
      exact ⟨G2, Up.rf e4, .str _⟩
  · have hi := Nat.le_of_eq hi.symm
    show z.cps.size ≤ i
    simpa [sgns] using hi
def nums (lo : Int) (n : Nat) : List PyData := (List.range n).map fun i => .int (lo + (i : Nat))
theorem nums_get {lo : Int} {n i : Nat} {d : PyData} (h : (nums lo n)[i]? = some d) : i < n ∧ d = .int (lo + (i : Nat)) := by
  unfold nums at h
  rw [List.getElem?_map] at h
  obtain ⟨c, hc, rfl⟩ := Option.map_eq_some_iff.mp h
  obtain ⟨hi, e⟩ := List.getElem?_eq_some_iff.mp hc
  rw [List.getElem_range] at e
  subst e
  exact ⟨by simpa using hi, rfl⟩
theorem wk_range {lo : Int} {n : Nat} {G : Hp} : Wk K (Itr lo n) G (nums lo n) := fun i G2 H2 e3 e4 => ⟨fun d hd => by
    obtain ⟨hi, rfl⟩ := nums_get hd
    refine ⟨hi, ?_⟩
    rintro y H' ⟨rfl, rfl⟩
    exact ⟨G2, Up.rf e4, .int _⟩, fun hi => by
    have hi := Nat.le_of_eq hi.symm
    show n ≤ i
    simpa [nums] using hi⟩
theorem i_range1 {j : Int} (h : EvA K σ F as [.int j]) (h1 : -(2 ^ 62) ≤ j) (h2 : j < 2 ^ 62) : EvI K σ F (iRng1 as) (nums 0 j.toNat) := fun G H e1 e2 R q => h G H e1 e2 _ fun vs G1 H1 u1 d1 => by
  cases d1 with
  | cons da db => cases db; cases da; exact ⟨j, rfl, h1, h2, q _ G1 H1 u1 wk_range⟩
theorem i_range2 {i j : Int} (h : EvA K σ F as [.int i, .int j]) (h1 : -(2 ^ 62) ≤ i ∧ i < 2 ^ 62 ∧ -(2 ^ 62) ≤ j ∧ j < 2 ^ 62) : EvI K σ F (iRng2 as) (nums i (j - i).toNat) :=
  fun G H e1 e2 R q => h G H e1 e2 _ fun vs G1 H1 u1 d1 => by
    cases d1 with
    | cons da db => cases db with
      | cons db dc => cases dc; cases da; cases db; exact ⟨i, j, rfl, h1, q _ G1 H1 u1 wk_range⟩
def enumD (ds : List PyData) : List PyData := ds.zipIdx.map fun p => .tuple [.int (p.2 : Nat), p.1]
theorem enumD_get {i : Nat} {d : PyData} (h : (enumD ds)[i]? = some d) : ∃ x, ds[i]? = some x ∧ d = .tuple [.int (i : Nat), x] := by
  unfold enumD at h
  rw [List.getElem?_map, List.getElem?_zipIdx] at h
  obtain ⟨c, hc, rfl⟩ := Option.map_eq_some_iff.mp h
  obtain ⟨x, hx, rfl⟩ := Option.map_eq_some_iff.mp hc
  exact ⟨x, hx, by simp⟩
theorem enumD_length : (enumD ds).length = ds.length := by simp [enumD]
theorem i_enum (h : EvA K σ F as [.list ds]) : EvI K σ F (iEnum K as) (enumD ds) := fun G H e1 e2 R q => h G H e1 e2 _ fun vs G1 H1 u1 d1 => by
  cases d1 with
  | cons da db =>
    cases db
    cases da with
    | @lst a xs _ h1 a1 =>
      refine ⟨a, xs, rfl, SqL.of (u1.h _ _ h1), q _ G1 H1 u1 fun i G2 H2 e3 e4 => ⟨fun d hd => ?_, fun hi => ?_⟩⟩
      · obtain ⟨x0, h0, rfl⟩ := enumD_get hd
        obtain ⟨x, hx, dx⟩ := a1.at h0
        have hs : SqL K H2 a xs := SqL.of (e4 _ _ (e3 _ _ h1))
        refine ⟨⟨xs, x, hs, hx⟩, ?_⟩
        rintro y H' ⟨T, x', rfl, nT, rfl, hy⟩
        have e := hy xs hs
        rw [hx] at e; cases e
        exact ⟨_, Up.new e4 nT _, .tup upd_same (.cons (.int _) (.cons ((dx.mono e3).mono (Ex.up (e4.fresh nT))) .nil))⟩
      · have hi := Nat.le_of_eq hi.symm
        exact ⟨xs, SqL.of (e4 _ _ (e3 _ _ h1)), by rw [a1.length]; rw [enumD_length] at hi; exact hi⟩
def zipD (ds es : List PyData) : List PyData := (ds.zip es).map fun p => .tuple [p.1, p.2]
theorem zipD_get {i : Nat} {d : PyData} (h : (zipD ds es)[i]? = some d) : ∃ x y, ds[i]? = some x ∧ es[i]? = some y ∧ d = .tuple [x, y] := by
  unfold zipD at h
  rw [List.getElem?_map] at h
  obtain ⟨c, hc, rfl⟩ := Option.map_eq_some_iff.mp h
  obtain ⟨h1, h2⟩ := List.getElem?_zip_eq_some.mp hc
  exact ⟨c.1, c.2, h1, h2, rfl⟩
theorem i_zip (h : EvA K σ F as [.list ds, .list es]) : EvI K σ F (iZip K as) (zipD ds es) := fun G H e1 e2 R q => h G H e1 e2 _ fun vs G1 H1 u1 d1 => by
  cases d1 with
  | cons da db =>
    cases db with
    | cons db dc =>
      cases dc
      cases da with
      | @lst a xs _ h1 a1 =>
        cases db with
        | @lst b ys _ h2 a2 =>
          refine ⟨a, b, xs, ys, rfl, SqL.of (u1.h _ _ h1), SqL.of (u1.h _ _ h2), q _ G1 H1 u1 fun i G2 H2 e3 e4 => ⟨fun d hd => ?_, fun hi => ?_⟩⟩
          · obtain ⟨x0, y0, hx0, hy0, rfl⟩ := zipD_get hd
            obtain ⟨x, hx, dx⟩ := a1.at hx0
            obtain ⟨y, hy, dy⟩ := a2.at hy0
            have hs : SqL K H2 a xs := SqL.of (e4 _ _ (e3 _ _ h1))
            have ht : SqL K H2 b ys := SqL.of (e4 _ _ (e3 _ _ h2))
            refine ⟨⟨xs, ys, x, y, hs, ht, hx, hy⟩, ?_⟩
            rintro z H' ⟨T, x', y', rfl, nT, rfl, hx', hy'⟩
            have e := hx' xs hs
            rw [hx] at e; cases e
            have e := hy' ys ht
            rw [hy] at e; cases e
            exact ⟨_, Up.new e4 nT _, .tup upd_same (.cons ((dx.mono e3).mono (Ex.up (e4.fresh nT))) (.cons ((dy.mono e3).mono (Ex.up (e4.fresh nT))) .nil))⟩
          · have hi := Nat.le_of_eq hi.symm
            refine ⟨xs, ys, SqL.of (e4 _ _ (e3 _ _ h1)), SqL.of (e4 _ _ (e3 _ _ h2)), ?_⟩
            rw [a1.length, a2.length]
            simp [zipD] at hi
            omega
end

/-! ### targets -/
def Tg (K : PySem.W.Frag) (g : TG) (σ : L2.St) (d : PyData) (P : Hp → L2.St → Prop) : Prop :=
  ∀ (G H : Hp) (x : V), Ex G H → Da K G x d → ∀ Q : L2.St → Hp → Prop, (∀ σ', P G σ' → Q σ' H) → g x σ H Q
section
variable {K : PySem.W.Frag} {σ : L2.St} {F F' : Hp} {d d1 d2 d3 : PyData} {i j l : Nat}
theorem g_name : Tg K (gName i) σ d (fun G σ' => ∃ v, Da K G v d ∧ σ' = σ.set i (some v)) := fun G H x e h Q q => q _ ⟨x, h, rfl⟩
theorem g_tup2 : Tg K (gTup K 2 (gCons (gName i) (gCons (gName j) gNil))) σ (.tuple [d1, d2])
    (fun G σ' => ∃ v w, Da K G v d1 ∧ Da K G w d2 ∧ σ' = (σ.set i (some v)).set j (some w)) := fun G H x e h Q q => by
  cases h with
  | tup h1 a1 =>
    cases a1 with
    | cons da a2 => cases a2 with
      | cons db a3 => cases a3; exact ⟨_, _, rfl, SqT.of (e _ _ h1), rfl, _, _, rfl, _, _, rfl, rfl, q _ ⟨_, _, da, db, rfl⟩⟩
theorem g_tup12 : Tg K (gTup K 2 (gCons (gName i) (gCons (gTup K 2 (gCons (gName j) (gCons (gName l) gNil))) gNil))) σ (.tuple [d1, .tuple [d2, d3]])
    (fun G σ' => ∃ v w z, Da K G v d1 ∧ Da K G w d2 ∧ Da K G z d3 ∧ σ' = ((σ.set i (some v)).set j (some w)).set l (some z)) := fun G H x e h Q q => by
  cases h with
  | tup h1 a1 =>
    cases a1 with
    | cons da a2 => cases a2 with
      | cons db a3 =>
        cases a3
        cases db with
        | tup h2 b1 =>
          cases b1 with
          | cons db b2 => cases b2 with
            | cons dc b3 =>
              cases b3
              exact ⟨_, _, rfl, SqT.of (e _ _ h1), rfl, _, _, rfl, _, _, rfl, ⟨_, _, rfl, SqT.of (e _ _ h2), rfl, _, _, rfl, _, _, rfl, rfl, rfl, q _ ⟨_, _, _, da, db, dc, rfl⟩⟩⟩
end

/-! ### list comprehensions -/
section
variable {K : PySem.W.Frag} {σ : L2.St} {F : Hp}
theorem e_lc {wi : TI} {g : TG} {tt : TT} {te : TE} {vs : List Nat} {ds : List PyData} {p : PyData → Bool} {f : PyData → PyData} (hi : EvI K σ F wi ds) (hz : ds.length ≤ 100000)
    (ht : ∀ d ∈ ds, ∃ P, Tg K g (wipe σ vs) d P ∧ ∀ F' σ', Ex F F' → P F' σ' →
      wipe σ' vs = wipe σ vs ∧ EvT σ' F' tt (p d) ∧ (p d = true → EvE K σ' F' te (f d))) :
    EvE K σ F (tLc wi g tt te vs) (.list ((ds.filter p).map f)) := fun G H e1 e2 Q q => hi G H e1 e2 _ fun J G1 H1 u1 wk => by
  intro D hD
  refine ⟨fun i m H2 => m = ds.length - i ∧ i ≤ ds.length ∧ ∃ (G2 : Hp) (acc : List V), Ex G1 G2 ∧ Ex G2 H2 ∧ Ex H1 H2 ∧ (∀ b, H1 b ≠ none → G1 b = none → G2 b = none) ∧
      H2 D = some (.lst acc) ∧ G2 D = none ∧ DaAll K G2 acc (((ds.take i).filter p).map f),
    ⟨_, rfl, Nat.zero_le _, G1, [], Ex.rf _, u1.h.tr (Ex.up hD), Ex.up hD, fun _ _ h => h, upd_same, u1.h.fresh hD, .nil⟩, ?_⟩
  rintro i m H2 ⟨rfl, hi', G2, acc, eg, eh, em, en, hd, gd, ha⟩
  obtain ⟨w1, w2⟩ := wk i G2 H2 eg eh
  by_cases hlt : i < ds.length
  · obtain ⟨hgo, hy⟩ := w1 _ (List.getElem?_eq_getElem hlt)
    have hm : ds[i] ∈ ds := List.getElem_mem hlt
    have tk : (ds.take (i + 1)) = ds.take i ++ [ds[i]] := by rw [List.take_add_one, List.getElem?_eq_getElem hlt]; rfl
    refine .inr ⟨hgo, fun H3 => ∃ (G3 : Hp) (acc : List V), Ex G1 G3 ∧ Ex G3 H3 ∧ Ex H1 H3 ∧ (∀ b, H1 b ≠ none → G1 b = none → G3 b = none) ∧
      H3 D = some (.lst acc) ∧ G3 D = none ∧ DaAll K G3 acc (((ds.take (i + 1)).filter p).map f), ?_, ?_⟩
    · rintro H3 ⟨G3, acc3, r⟩
      exact ⟨ds.length - (i + 1), by omega, rfl, hlt, G3, acc3, r⟩
    · intro x H3 hyl
      obtain ⟨G3, u3, dx⟩ := hy x H3 hyl
      obtain ⟨P, tg, body⟩ := ht _ hm
      refine tg G3 H3 x u3.h dx _ fun σ' hP => ?_
      obtain ⟨hw, hT, hE⟩ := body G3 σ' ((e1.tr u1.g).tr (eg.tr u3.g)) hP
      refine ⟨hw, hT G3 H3 (Ex.rf _) u3.h _ fun G4 H4 u4 => ?_⟩
      have u34 := u3.tr u4
      have ne : H2 D ≠ none := by rw [hd]; simp
      by_cases hp : p ds[i] = true
      · rw [hp]
        refine iteT (hE hp G4 H4 u4.g u4.h _ fun y G5 H5 u5 dy => ?_)
        have u := u34.tr u5
        refine ⟨acc, u.m _ _ hd, ?_, G5, acc ++ [y], eg.tr u.g, ?_, ?_, fun b h1 h2 => u.n b (fun z => ?_) (en b h1 h2), upd_same, u.n D ne gd, ?_⟩
        · have := ha.length
          rw [List.length_map] at this
          have l2 : ((ds.take i).filter p).length ≤ ds.length := Nat.le_trans (List.length_filter_le _ _) (by rw [List.length_take]; omega)
          exact Nat.lt_of_le_of_lt (by omega : acc.length ≤ 100000) (by decide)
        · intro a o e
          rw [upd_ne (ne_of_none e (u.n D ne gd))]
          exact u.h a o e
        · intro a o e
          rw [upd_ne (ne_of_none e hD)]
          exact u.m a o (em a o e)
        · cases e : H1 b with
          | none => exact h1 e
          | some o => rw [em b o e] at z; cases z
        · rw [tk, List.filter_append, List.map_append]
          refine (ha.mono u.g).append ?_
          rw [List.filter_cons, if_pos hp]
          exact .cons dy .nil
      · have hp' : p ds[i] = false := by simpa using hp
        rw [hp']
        refine iteF ⟨G4, acc, eg.tr u34.g, u34.h, em.tr u34.m, fun b h1 h2 => u34.n b (fun z => ?_) (en b h1 h2), u34.m _ _ hd, u34.n D ne gd, ?_⟩
        · cases e : H1 b with
          | none => exact h1 e
          | some o => rw [em b o e] at z; cases z
        · rw [tk, List.filter_append, List.filter_cons, if_neg (by rw [hp']; simp), List.filter_nil, List.append_nil]
          exact ha.mono u34.g
  · have hle : ds.length ≤ i := by omega
    refine .inl ⟨w2 (by omega), q _ (upd G2 D (.lst acc)) H2 (u1.tr ⟨eg.tr (Ex.up gd), ?_, em, fun b h1 h2 => ?_⟩) (.lst upd_same ?_)⟩
    · intro a o e
      by_cases h : a = D
      · subst h; rw [upd_same] at e; rw [hd]; exact e
      · rw [upd_ne h] at e; exact eh a o e
    · rw [upd_ne (fun z => h1 (by rw [z]; exact hD))]; exact en b h1 h2
    · rw [List.take_of_length_le hle] at ha
      exact ha.mono (Ex.up gd)
end

/-! ### statements -/
def RetE (K : PySem.W.Frag) (σ : L2.St) (F : Hp) (t : TS) (d : PyData) : Prop :=
  ∀ G H, Ex F G → Ex G H → ∀ D : Ends, (∀ v G' H', Up G H G' H' → Da K G' v d → D.rt v H') → t D σ H
section
variable {K : PySem.W.Frag} {σ : L2.St} {F : Hp} {te : TE} {tt : TT} {t u : TS} {d x y d1 d2 d3 : PyData} {i j l : Nat} {as : TA}
theorem RetE.is {d' : PyData} (h : RetE K σ F t d) (e : d = d') : RetE K σ F t d' := e ▸ h
theorem r_ret (h : EvE K σ F te d) : RetE K σ F (tRet te) d := fun G H e1 e2 D q => h G H e1 e2 _ q
theorem r_if {b : Bool} (h : EvT σ F tt b) (h1 : b = true → RetE K σ F t x) (h2 : b = false → RetE K σ F u y) : RetE K σ F (tIfS tt t u) (bif b then x else y) :=
  fun G H e1 e2 D q => h G H e1 e2 _ fun G1 H1 u1 => by
    cases b with
    | true => exact iteT (h1 rfl G1 H1 (e1.tr u1.g) u1.h D fun w G2 H2 u2 d2 => q w G2 H2 (u1.tr u2) d2)
    | false => exact iteF (h2 rfl G1 H1 (e1.tr u1.g) u1.h D fun w G2 H2 u2 d2 => q w G2 H2 (u1.tr u2) d2)
/-- if c: return .. ahead of the rest -/
theorem r_guard {b : Bool} (h : EvT σ F tt b) (h1 : b = true → RetE K σ F t x) (h2 : b = false → RetE K σ F u y) : RetE K σ F (tSeq (tIfS tt t tNext) u) (bif b then x else y) :=
  fun G H e1 e2 D q => h G H e1 e2 _ fun G1 H1 u1 => by
    cases b with
    | true => exact iteT (h1 rfl G1 H1 (e1.tr u1.g) u1.h _ fun w G2 H2 u2 d2 => q w G2 H2 (u1.tr u2) d2)
    | false => exact iteF (h2 rfl G1 H1 (e1.tr u1.g) u1.h _ fun w G2 H2 u2 d2 => q w G2 H2 (u1.tr u2) d2)
theorem r_set (h : EvE K σ F te d) (hu : ∀ v F', Ex F F' → Da K F' v d → RetE K (σ.set i (some v)) F' u y) : RetE K σ F (tSeq (tAsg te (gName i)) u) y :=
  fun G H e1 e2 D q => h G H e1 e2 _ fun v G1 H1 u1 dv => hu v G1 (e1.tr u1.g) dv G1 H1 (Ex.rf _) u1.h _ fun w G2 H2 u2 d2 => q w G2 H2 (u1.tr u2) d2
theorem r_tup2 (h : EvE K σ F te (.tuple [d1, d2])) (hu : ∀ v w F', Ex F F' → Da K F' v d1 → Da K F' w d2 → RetE K ((σ.set i (some v)).set j (some w)) F' u y) :
    RetE K σ F (tSeq (tAsg te (gTup K 2 (gCons (gName i) (gCons (gName j) gNil)))) u) y :=
  fun G H e1 e2 D q => h G H e1 e2 _ fun v G1 H1 u1 dv => g_tup2 G1 H1 v u1.h dv _ fun σ' ⟨v, w, da, db, e⟩ => by
    subst e
    exact hu v w G1 (e1.tr u1.g) da db G1 H1 (Ex.rf _) u1.h _ fun w G2 H2 u2 d2 => q w G2 H2 (u1.tr u2) d2
theorem r_par (h : EvA K σ F as [d1, d2]) (hu : ∀ v w F', Ex F F' → Da K F' v d1 → Da K F' w d2 → RetE K ((σ.set i (some v)).set j (some w)) F' u y) :
    RetE K σ F (tSeq (tPar i j as) u) y :=
  fun G H e1 e2 D q => h G H e1 e2 _ fun vs G1 H1 u1 dv => by
    cases dv with
    | cons da dv => cases dv with
      | cons db dv =>
        cases dv
        exact ⟨_, _, rfl, hu _ _ G1 (e1.tr u1.g) da db G1 H1 (Ex.rf _) u1.h _ fun w G2 H2 u2 d2 => q w G2 H2 (u1.tr u2) d2⟩
end

/-! ### a pure def: the answer is fn of the arguments -/
def spP (K : PySem.W.Frag) (n : Nat) (pre : List PyData → Prop) (fn : List PyData → PyData) : Sp := fun vs H Q _ => vs.length = n ∧
  ∃ G ds, Ex G H ∧ DaAll K G vs ds ∧ pre ds ∧ ∀ v G' H', Up G H G' H' → Da K G' v (fn ds) → Q v H'
section
variable {P : Program} {w : World} {K : PySem.W.Frag} {mg : Str → Option Value} {base : Heap}
theorem okP {x qual : Str} {st : Stmt} {f : Addr} {fd : FuncData} {N ps : List Str} {k n : Nat} {pre : List PyData → Prop} {fn : List PyData → PyData}
    (F : Fun K x qual st f fd) (S : FnScope N ps (defScope st)) (hn : ps.length = n)
    (hbody : ∀ (cdv : Value) (A : Around) (out : List Env) (s : Shared) (H : Hp) (vs : List V) (E : XK) (G : Hp) (ds : List PyData),
      Room k (A.deeper (envOfC qual (defScope st) s.heap.objs.size f cdv)) →
      Quiet (A.deeper (envOfC qual (defScope st) s.heap.objs.size f cdv)) → vs.length = n → DaAll K G vs ds → pre ds →
      ∃ t, PSs (cxOf CX0 P w K mg base N qual (defScope st) f cdv A out s H E).nox (defBody st) t ∧ RetE K (start N vs) G t (fn ds)) :
    FnG P w K mg base CX0 (k + 1) f fd ps (spP K n pre fn) := by
  refine okG F S (fun vs H Q E h => h.1.trans hn.symm) fun cdv A out s H vs Q E hr hq h => ?_
  obtain ⟨hl, G, ds, eg, da, hp, q⟩ := h
  obtain ⟨t, ht, hR⟩ := hbody cdv A out s H vs E G ds hr hq hl da hp
  exact ⟨t, ht, hR G H (Ex.rf _) eg _ q⟩
variable {σ : L2.St} {F : Hp} {as : TA} {ds : List PyData} {n : Nat} {pre : List PyData → Prop} {fn : List PyData → PyData} {E : XK}
theorem e_call (h : EvA K σ F as ds) (hn : ds.length = n) (hp : pre ds) : EvE K σ F (tCall (spP K n pre fn) [] E as) (fn ds) :=
  fun G H e1 e2 Q q => h G H e1 e2 _ fun vs G1 H1 u1 d1 =>
    ⟨by rw [List.append_nil, d1.length]; exact hn, G1, ds, u1.h, by rw [List.append_nil]; exact d1, hp, fun v G2 H2 u2 d2 => q v G2 H2 (u1.tr u2) d2⟩
theorem e_kw (h : EvA K σ F as ds) (hn : ds.length = n) (hp : pre ds) : EvE K σ F (tCallK (spP K n pre fn) kwG E tNil as) (fn ds) :=
  fun G H e1 e2 Q q => h G H e1 e2 _ fun vs G1 H1 u1 d1 =>
    ⟨by show vs.length = n; rw [d1.length]; exact hn, G1, ds, u1.h, d1, hp, fun v G2 H2 u2 d2 => q v G2 H2 (u1.tr u2) d2⟩
end
end KD
set_option Elab.async false
set_option linter.all false
set_option maxRecDepth 100000
set_option maxHeartbeats 4000000
namespace KD
open PySem PySem.Spec PyProof.Rows L2
/-! ### isinstance of data -/
def isStrD : PyData → Bool | .str _ => true | _ => false
def isTupD : PyData → Bool | .tuple _ => true | _ => false
def isListD : PyData → Bool | .list _ => true | _ => false
def isDictD : PyData → Bool | .dict _ => true | _ => false
def isBoolD : PyData → Bool | .bool _ => true | _ => false
def isIntD : PyData → Bool | .int _ | .bool _ => true | _ => false
def isNumD : PyData → Bool | .int _ => true | _ => false
theorem k_str (d : PyData) : kitB (clsD d) "str" = some (isStrD d) := by
  cases d <;> simp only [clsD, isStrD, isTupD, isListD, isDictD, isBoolD, isIntD] <;> decide +kernel
theorem k_tuple (d : PyData) : kitB (clsD d) "tuple" = some (isTupD d) := by
  cases d <;> simp only [clsD, isStrD, isTupD, isListD, isDictD, isBoolD, isIntD] <;> decide +kernel
theorem k_list (d : PyData) : kitB (clsD d) "list" = some (isListD d) := by
  cases d <;> simp only [clsD, isStrD, isTupD, isListD, isDictD, isBoolD, isIntD] <;> decide +kernel
theorem k_dict (d : PyData) : kitB (clsD d) "dict" = some (isDictD d) := by
  cases d <;> simp only [clsD, isStrD, isTupD, isListD, isDictD, isBoolD, isIntD] <;> decide +kernel
theorem k_bool (d : PyData) : kitB (clsD d) "bool" = some (isBoolD d) := by
  cases d <;> simp only [clsD, isStrD, isTupD, isListD, isDictD, isBoolD, isIntD] <;> decide +kernel
theorem k_int (d : PyData) : kitB (clsD d) "int" = some (isIntD d) := by
  cases d <;> simp only [clsD, isStrD, isTupD, isListD, isDictD, isBoolD, isIntD] <;> decide +kernel
theorem of_isStr {d : PyData} (h : isStrD d = true) : ∃ s, d = .str s := by cases d <;> first | exact ⟨_, rfl⟩ | cases h
theorem of_isTup {d : PyData} (h : isTupD d = true) : ∃ s, d = .tuple s := by cases d <;> first | exact ⟨_, rfl⟩ | cases h
theorem of_isNum {d : PyData} (h : isNumD d = true) : ∃ s, d = .int s := by cases d <;> first | exact ⟨_, rfl⟩ | cases h
/-! ### sizes -/
mutual
def fit : PyData → Bool
  | .str x => decide (x.length ≤ 100000)
  | .list xs | .tuple xs => decide (xs.length ≤ 10000) && fitAll xs
  | _ => true
def fitAll : List PyData → Bool
  | [] => true
  | x :: xs => fit x && fitAll xs
end
theorem fit_of_mem : ∀ {xs : List PyData} {x : PyData}, fitAll xs = true → x ∈ xs → fit x = true
  | y :: ys, x, h, hm => by
    have hh := Bool.and_eq_true_iff.mp (show (fit y && fitAll ys) = true from h)
    rcases List.mem_cons.mp hm with rfl | hm
    · exact hh.1
    · exact fit_of_mem hh.2 hm
theorem fit_tuple {xs : List PyData} (h : fit (.tuple xs) = true) : xs.length ≤ 10000 ∧ fitAll xs = true := by
  have := Bool.and_eq_true_iff.mp (show (decide (xs.length ≤ 10000) && fitAll xs) = true from by simpa [fit] using h)
  exact ⟨of_decide_eq_true this.1, this.2⟩
theorem fit_str {s : Str} (h : fit (.str s) = true) : s.length ≤ 100000 := by simpa [fit] using h
/-! one item of each sign -/
theorem mem_sgns {z : Str} {d : PyData} (h : d ∈ sgns z) : ∃ c, c ∈ z.cps.toList ∧ d = .str ⟨#[c]⟩ := by
  unfold sgns at h
  obtain ⟨c, hc, rfl⟩ := List.mem_map.mp h
  exact ⟨c, hc, rfl⟩
theorem sgns_length {z : Str} : (sgns z).length = z.length := by
  unfold sgns
  rw [List.length_map, Array.length_toList]; rfl
/-- a wiped slot, stored and wiped -/
theorem wipe1 {σ : L2.St} {i : Nat} {v : Option V} : wipe ((wipe σ [i]).set i v) [i] = wipe σ [i] := by
  show ((σ.set i none).set i v).set i none = σ.set i none
  rw [List.set_set, List.set_set]
/-! ### what is known already -/
section
variable {K : PySem.W.Frag} {σ : L2.St} {F : Hp} {te ta tb : TE} {tt tu : TT} {t u : TS} {d x y : PyData}
theorem t_or1 (h : EvT σ F tt true) : EvT σ F (tOr tt tu) true := fun G H e1 e2 Q q => h G H e1 e2 _ fun G1 H1 u1 => iteT (q G1 H1 u1)
theorem t_or0 {b : Bool} (h : EvT σ F tt false) (h2 : EvT σ F tu b) : EvT σ F (tOr tt tu) b := (t_or h fun _ => h2).is (by simp)
theorem t_and0 (h : EvT σ F tt false) : EvT σ F (tAnd tt tu) false := fun G H e1 e2 Q q => h G H e1 e2 _ fun G1 H1 u1 => iteF (q G1 H1 u1)
theorem t_and1 {b : Bool} (h : EvT σ F tt true) (h2 : EvT σ F tu b) : EvT σ F (tAnd tt tu) b := (t_and h fun _ => h2).is (by simp)
theorem e_and0 (h : EvE K σ F ta (.bool false)) : EvE K σ F (tAndV ta tb) (.bool false) := (e_and (b := false) h fun z => nomatch z).is (by simp)
theorem e_and1 {b : Bool} (h : EvE K σ F ta (.bool true)) (h2 : EvE K σ F tb (.bool b)) : EvE K σ F (tAndV ta tb) (.bool b) := (e_and h fun _ => h2).is (by simp)
theorem r_guard1 (h : EvT σ F tt true) (h1 : RetE K σ F t x) : RetE K σ F (tSeq (tIfS tt t tNext) u) x := (r_guard (y := x) h (fun _ => h1) fun z => nomatch z).is rfl
theorem r_guard0 (h : EvT σ F tt false) (h1 : RetE K σ F u x) : RetE K σ F (tSeq (tIfS tt t tNext) u) x := (r_guard (x := x) h (fun z => nomatch z) fun _ => h1).is rfl
/-- [e for x in ..], x in slot i, e pure -/
theorem e_lc1 {wi : TI} {i : Nat} {ds : List PyData} {f : PyData → PyData} (hi : EvI K σ F wi ds) (hz : ds.length ≤ 100000)
    (ht : ∀ d ∈ ds, ∀ F' v, Ex F F' → Da K F' v d → EvE K ((wipe σ [i]).set i (some v)) F' te (f d)) :
    EvE K σ F (tLc wi (gName i) tYes te [i]) (.list (ds.map f)) :=
  (e_lc (p := fun _ => true) (f := f) hi hz fun d hd => ⟨_, g_name, fun F' σ' ef hP => by
    obtain ⟨v, dv, rfl⟩ := hP
    exact ⟨wipe1, t_yes, fun _ => ht d hd F' v ef dv⟩⟩).is (by rw [List.filter_eq_self.mpr (fun _ _ => rfl)])
/-- [e for x in .. if t] -/
theorem e_lc1f {wi : TI} {i : Nat} {ds : List PyData} {p : PyData → Bool} {f : PyData → PyData} (hi : EvI K σ F wi ds) (hz : ds.length ≤ 100000)
    (ht : ∀ d ∈ ds, ∀ F' v, Ex F F' → Da K F' v d → EvT ((wipe σ [i]).set i (some v)) F' tt (p d) ∧ (p d = true → EvE K ((wipe σ [i]).set i (some v)) F' te (f d))) :
    EvE K σ F (tLc wi (gName i) tt te [i]) (.list ((ds.filter p).map f)) :=
  e_lc hi hz fun d hd => ⟨_, g_name, fun F' σ' ef hP => by
    obtain ⟨v, dv, rfl⟩ := hP
    exact ⟨wipe1, ht d hd F' v ef dv⟩⟩
/-- all([b for x in ..]) -/
theorem e_all1 {wi : TI} {i : Nat} {ds : List PyData} {f : PyData → Bool} (hi : EvI K σ F wi ds) (hz : ds.length ≤ 100000)
    (ht : ∀ d ∈ ds, ∀ F' v, Ex F F' → Da K F' v d → EvE K ((wipe σ [i]).set i (some v)) F' te (.bool (f d))) :
    EvE K σ F (tCB (rAll K) (tCons (tLc wi (gName i) tYes te [i]) tNil)) (.bool (ds.all f)) := by
  have h := e_lc1 (f := fun d => .bool (f d)) hi hz ht
  have e : ds.map (fun d => PyData.bool (f d)) = (ds.map f).map .bool := by rw [List.map_map]; rfl
  rw [e] at h
  refine (e_cb (a_cons h a_nil) c_all).is ?_
  rw [List.all_map]; rfl
end
theorem eqv_nil {xs : List PyData} : PyData.eqv (.list xs) (.list []) = xs.isEmpty := by
  cases xs <;> rfl
theorem cmpOk_nil {xs : List PyData} : cmpOk (.list xs) (.list []) = true := by
  cases xs with
  | nil => rfl
  | cons x r => simp [cmpOk]
end KD
set_option Elab.async false
set_option linter.all false
set_option maxRecDepth 100000
set_option maxHeartbeats 4000000
namespace KD
open PySem PySem.Spec PyProof.Rows L2
/-! ### the rules that speak of the written part, by its name (so that they serve within a comprehension's block) -/
section
variable (K : PySem.W.Frag) {X : Cx}
theorem ix_listK (h : X.K = K := by rfl) : IxR X (rIxL K) := h ▸ ix_list
theorem ix_tupK (h : X.K = K := by rfl) : IxR X (rIxT K) := h ▸ ix_tup
theorem call_isiK' (h : X.K = K := by rfl) : CallR X (.builtin "isinstance") (rIsi K) := h ▸ call_isi
theorem cr_allK (hc : X.calm = true) (h : X.K = K := by rfl) : CallR X (.builtin "all") (rAll K) := h ▸ cr_all hc
theorem cr_anyK (hc : X.calm = true) (h : X.K = K := by rfl) : CallR X (.builtin "any") (rAny K) := h ▸ cr_any hc
theorem call_reprK (hq : Quiet X.A) (hu : X.A.units + 64 < cLine) (h : X.K = K := by rfl) : CallR X (.builtin "repr") (rRepr K) := h ▸ call_repr hq hu
theorem op_eqDaK (hu : X.A.units + 64 < cLine) (h : X.K = K := by rfl) : OpR X (compareOp .Eq) (rEqDa K) := h ▸ op_eqDa hu
theorem op_neDaK (hu : X.A.units + 64 < cLine) (h : X.K = K := by rfl) : OpR X (compareOp .NotEq) (rNeDa K) := h ▸ op_neDa hu
theorem sl_listK (h : X.K = K := by rfl) : SlR X (rSlL K) := h ▸ sl_list
theorem sl_tupAK (h : X.K = K := by rfl) : SlR X (rSlA K) := h ▸ sl_tupA
theorem op_catAK (h : X.K = K := by rfl) : OpR X (binaryOp .Add) (rCatA K) := h ▸ op_catA
theorem cr_sortedSK (h : X.K = K := by rfl) : CallR X (.builtin "sorted") (rSortedS K) := h ▸ cr_sortedS
def rLenQ : List V → Hp → VK → Prop := fun xs H Q => ∃ p ys, xs = [.ref p] ∧ (SqL K H p ys ∨ SqT K H p ys) ∧ Q (.int ys.length) H
def rListQ : List V → Hp → VK → Prop := fun xs H Q => ∃ p ys, xs = [.ref p] ∧ (SqL K H p ys ∨ SqT K H p ys) ∧ ∀ l, H l = none → Q (.ref l) (upd H l (.lst ys))
def rTupQ : List V → Hp → VK → Prop := fun xs H Q => ∃ p ys, xs = [.ref p] ∧ ((SqL K H p ys ∧ ∀ l, H l = none → Q (.ref l) (upd H l (.tup ys))) ∨ (SqT K H p ys ∧ Q (.ref p) H))
theorem call_lenK (h : X.K = K := by rfl) : CallR X (.builtin "len") (rLenQ K) := h ▸ call_len_seq
theorem call_listK (h : X.K = K := by rfl) : CallR X (.type "list") (rListQ K) := h ▸ call_list_of
theorem call_tupK (h : X.K = K := by rfl) : CallR X (.type "tuple") (rTupQ K) := h ▸ call_tuple_of
def rDictQ : List V → Hp → VK → Prop := fun xs H Q => ∃ (a : Addr) (ps : List Addr) (kvs : List (Key × V)), xs = [.ref a] ∧ SqL K H a (ps.map V.ref) ∧
  Paired (fun p kv => SqT K H p [kV kv.1, kv.2]) ps kvs ∧ ∀ p, H p = none → Q (.ref p) (upd H p (.dK (mergeK [] kvs)))
theorem call_dictK (hc : X.calm = true) (h : X.K = K := by rfl) : CallR X (.type "dict") (rDictQ K) := h ▸ call_dictP hc
theorem pe_revLK {e : Expr} {te : TE} {k : Nat} {p1 p2 p3 pos : Pos} (he : PE X e te) (h : X.K = K := by rfl) :
    PE X (.Subscript e (.Slice none none (some (.UnaryOp .USub (.Constant (.int 1) k p1) p2)) p3) pos) (tRevL K te) := h ▸ pe_revL he
theorem pe_revTK {e : Expr} {te : TE} {k : Nat} {p1 p2 p3 pos : Pos} (he : PE X e te) (h : X.K = K := by rfl) :
    PE X (.Subscript e (.Slice none none (some (.UnaryOp .USub (.Constant (.int 1) k p1) p2)) p3) pos) (tRevT K te) := h ▸ pe_revT he
theorem pi_listK {tg l : Expr} {tl : TE} (hl : PE X l tl) (h : X.K = K := by rfl) : PI X tg l (iList K tl) := h ▸ pi_list hl
theorem pi_tupK {tg l : Expr} {tl : TE} (hl : PE X l tl) (h : X.K = K := by rfl) : PI X tg l (iTup K tl) := h ▸ pi_tup hl
theorem pi_enumK {e : Expr} {ta : TA} {p pos tpos : Pos} {elts : List Expr} {kk : Nat} (hg : Gl X "enumerate") (hm : X.mg "enumerate" = none) (ha : PA X [e] ta)
    (h : X.K = K := by rfl) (hs : starEach [e] X.env = [(false, eval e X.env)] := by rfl) :
    PI X (.Tuple elts kk tpos) (.Call (.Name "enumerate" p) [e] [] pos) (iEnum K ta) := h ▸ pi_enum hg hm ha hs
theorem pi_zipK {e e2 : Expr} {ta : TA} {p pos tpos : Pos} {elts : List Expr} {kk : Nat} (hg : Gl X "zip") (hm : X.mg "zip" = none) (ha : PA X [e, e2] ta)
    (h : X.K = K := by rfl) (hs : starEach [e, e2] X.env = (false, eval e X.env) :: starEach [e2] X.env := by rfl)
    (hpl : (backTo pos (starEach [e2] X.env)).any (·.1) = false := by rfl) :
    PI X (.Tuple elts kk tpos) (.Call (.Name "zip" p) [e, e2] [] pos) (iZip K ta) := h ▸ pi_zip hg hm ha hs hpl
theorem pg_tupK {es : List Expr} {k : Nat} {pos : Pos} {n : Nat} {t : TGs} (hc : X.calm = true) (hs : PGs X es t) (h : X.K = K := by rfl)
    (hn : (assignEach es X.env).length = n := by rfl) (hst : (assignEach es X.env).findIdx? (·.1) = none := by rfl) :
    PG X (.Tuple es k pos) (gTup K n t) := h ▸ pg_tup hc hs hn hst
theorem pt_truthK {a : Expr} {ta : TE} (ha : PE X a ta) (he : ∀ whole, isTrue a X.env whole = (do let v ← whole; standAt a.pos; holding [v] (truthy v))) (h : X.K = K := by rfl) :
    PT X a (fun σ H Q => ta σ H fun x H' => ∃ k, TruV K x H' k ∧ Q k H') := h ▸ pt_truth ha he
end
section
variable {K : PySem.W.Frag}
theorem q_lenL {xs : List PyData} : CaD K (rLenQ K) [.list xs] (.int xs.length) := c_lenL
theorem q_lenT {xs : List PyData} : CaD K (rLenQ K) [.tuple xs] (.int xs.length) := c_lenT
theorem q_listL {xs : List PyData} : CaD K (rListQ K) [.list xs] (.list xs) := c_listL
theorem q_listT {xs : List PyData} : CaD K (rListQ K) [.tuple xs] (.list xs) := c_listT
theorem q_tupL {xs : List PyData} : CaD K (rTupQ K) [.list xs] (.tuple xs) := c_tupL
theorem q_tupT {xs : List PyData} : CaD K (rTupQ K) [.tuple xs] (.tuple xs) := c_tupT
end
end KD
set_option Elab.async false
set_option linter.all false
set_option maxRecDepth 100000
set_option maxHeartbeats 4000000
namespace KD
open PySem PySem.Spec PyProof.Rows L2
/-! ### the deck: the law's source of draws, a list that changes -/
structure Deck (G H : Hp) (dk cl : Addr) (m : Nat) : Prop where
  ne : dk ≠ cl
  gd : G dk = none
  gc : G cl = none
  ex : ∃ (cs : List Int) (t n : Int), H dk = some (.lst [.ref cl, .int t, .int n]) ∧ H cl = some (.lst (cs.map V.int)) ∧ cs.length ≤ 63 ∧
    0 ≤ n ∧ n ≤ m ∧ 0 ≤ t ∧ t < 4294967296
/-- what was tracked stays, but for the deck; what is new in G was not tracked -/
structure UpM (dk cl : Addr) (G H G' H' : Hp) : Prop where
  g : Ex G G'
  h : Ex G' H'
  m : ∀ b o, b ≠ dk → b ≠ cl → H b = some o → H' b = some o
  n : ∀ b, H b ≠ none → G b = none → G' b = none
  t : ∀ b, H b ≠ none → H' b ≠ none
section
variable {dk cl : Addr} {G H G1 H1 G2 H2 : Hp} {m k : Nat}
theorem UpM.tr (a : UpM dk cl G H G1 H1) (b : UpM dk cl G1 H1 G2 H2) : UpM dk cl G H G2 H2 where
  g := a.g.tr b.g
  h := b.h
  m := fun c o h1 h2 e => b.m c o h1 h2 (a.m c o h1 h2 e)
  n := fun c h1 h2 => b.n c (a.t c h1) (a.n c h1 h2)
  t := fun c h => b.t c (a.t c h)
theorem Up.toM (a : Up G H G1 H1) : UpM dk cl G H G1 H1 where
  g := a.g
  h := a.h
  m := fun c o _ _ e => a.m c o e
  n := a.n
  t := fun c h z => by
    cases q : H c with
    | none => exact h q
    | some o => rw [a.m c o q] at z; cases z
theorem UpM.rf (e : Ex G H) : UpM dk cl G H G H := (Up.rf e).toM
theorem Deck.dn (d : Deck G H dk cl m) : H dk ≠ none := by
  obtain ⟨_, _, _, e, _⟩ := d.ex
  rw [e]; simp
theorem Deck.cn (d : Deck G H dk cl m) : H cl ≠ none := by
  obtain ⟨_, _, _, _, e, _⟩ := d.ex
  rw [e]; simp
theorem Deck.up (d : Deck G H dk cl m) (u : Up G H G1 H1) : Deck G1 H1 dk cl m := by
  obtain ⟨cs, t, n, e1, e2, r⟩ := d.ex
  exact ⟨d.ne, u.n _ d.dn d.gd, u.n _ d.cn d.gc, cs, t, n, u.m _ _ e1, u.m _ _ e2, r⟩
theorem Deck.mono (d : Deck G H dk cl m) (h : m ≤ k) : Deck G H dk cl k := by
  obtain ⟨cs, t, n, e1, e2, h1, h2, h3, r⟩ := d.ex
  exact ⟨d.ne, d.gd, d.gc, cs, t, n, e1, e2, h1, h2, by omega, r⟩
end
/-- a list that is being made: at L, not yet in G -/
structure ListAt (K : PySem.W.Frag) (L : Addr) (ds : List PyData) (G H : Hp) : Prop where
  gl : G L = none
  ex : ∃ acc, H L = some (.lst acc) ∧ DaAll K G acc ds
section
variable {K : PySem.W.Frag} {L dk cl : Addr} {ds : List PyData} {G H G1 H1 : Hp}
theorem ListAt.ln (l : ListAt K L ds G H) : H L ≠ none := by
  obtain ⟨_, e, _⟩ := l.ex
  rw [e]; simp
theorem ListAt.up (l : ListAt K L ds G H) (u : Up G H G1 H1) : ListAt K L ds G1 H1 := by
  obtain ⟨acc, e, a⟩ := l.ex
  exact ⟨u.n _ l.ln l.gl, acc, u.m _ _ e, a.mono u.g⟩
theorem ListAt.upM (l : ListAt K L ds G H) (h1 : L ≠ dk) (h2 : L ≠ cl) (u : UpM dk cl G H G1 H1) : ListAt K L ds G1 H1 := by
  obtain ⟨acc, e, a⟩ := l.ex
  exact ⟨u.n _ l.ln l.gl, acc, u.m _ _ h1 h2 e, a.mono u.g⟩
/-- it is finished: it joins G -/
theorem ListAt.done (l : ListAt K L ds G H) (e : Ex G H) : ∃ G', Ex G G' ∧ Ex G' H ∧ Da K G' (.ref L) (.list ds) ∧ (∀ b, b ≠ L → G' b = G b) := by
  obtain ⟨acc, h, a⟩ := l.ex
  refine ⟨upd G L (.lst acc), Ex.up l.gl, fun b o q => ?_, .lst upd_same (a.mono (Ex.up l.gl)), fun b hb => upd_ne hb⟩
  by_cases hb : b = L
  · subst hb; rw [upd_same] at q; rw [h]; exact q
  · rw [upd_ne hb] at q; exact e b o q
end

/-! ### what draws -/
def spDraw : Sp := fun vs H Q _ => vs.length = 2 ∧ ∃ (dk cl : Addr) (lim : Int) (G : Hp) (m : Nat), vs = [.ref dk, .int lim] ∧ Ex G H ∧ Deck G H dk cl m ∧ m ≤ 1000000000 ∧ 0 < lim ∧ lim < 1000000000 ∧
  ∀ (i : Int) (H' : Hp), 0 ≤ i → i < lim → UpM dk cl G H G H' → Deck G H' dk cl (m + 1) → Q (.int i) H'
def spPick (K : PySem.W.Frag) : Sp := fun vs H Q _ => vs.length = 2 ∧ ∃ (dk cl a : Addr) (ds : List PyData) (G : Hp) (m : Nat), vs = [.ref dk, .ref a] ∧ Ex G H ∧ Deck G H dk cl m ∧ m ≤ 1000000000 ∧
  Da K G (.ref a) (.list ds) ∧ 0 < ds.length ∧ ds.length < 100000 ∧ ∀ (v : V) (d : PyData) (H' : Hp), d ∈ ds → Da K G v d → UpM dk cl G H G H' → Deck G H' dk cl (m + 1) → Q v H'
def EvN (K : PySem.W.Frag) (dk cl : Addr) (σ : L2.St) (F : Hp) (m : Nat) (te : TE) (m' : Nat) (P : PyData → Prop) : Prop :=
  ∀ G H, Ex F G → Ex G H → Deck G H dk cl m → ∀ Q : VK, (∀ v d G' H', UpM dk cl G H G' H' → Deck G' H' dk cl m' → P d → Da K G' v d → Q v H') → te σ H Q
def AvN (K : PySem.W.Frag) (dk cl : Addr) (σ : L2.St) (F : Hp) (m : Nat) (ta : TA) (m' : Nat) (P : List PyData → Prop) : Prop :=
  ∀ G H, Ex F G → Ex G H → Deck G H dk cl m → ∀ Q : List V → Hp → Prop, (∀ vs ds G' H', UpM dk cl G H G' H' → Deck G' H' dk cl m' → P ds → DaAll K G' vs ds → Q vs H') → ta σ H Q
section
variable {K : PySem.W.Frag} {dk cl : Addr} {σ : L2.St} {F : Hp} {m m1 m2 m' : Nat} {ta tb te : TE} {as : TA} {r : R2} {P P1 : PyData → Prop} {P2 : PyData → PyData → Prop} {PA : List PyData → Prop}
theorem n_pure {d : PyData} (h : EvE K σ F te d) : EvN K dk cl σ F m te m (fun x => x = d) := fun G H e1 e2 hD Q q =>
  h G H e1 e2 Q fun v G' H' u dv => q v d G' H' u.toM (hD.up u) rfl dv
theorem EvN.imp {P' : PyData → Prop} (h : EvN K dk cl σ F m te m' P) (hi : ∀ d, P d → P' d) : EvN K dk cl σ F m te m' P' := fun G H e1 e2 hD Q q =>
  h G H e1 e2 hD Q fun v d G' H' u hD' p dv => q v d G' H' u hD' (hi d p) dv
theorem n_draw {i0 : Nat} {E : XK} {lim : Int} (hs : σ[i0]? = some (some (.ref dk))) (hl : EvE K σ F te (.int lim)) (h0 : 0 < lim) (h1 : lim < 1000000000) (hm : m ≤ 1000000000) :
    EvN K dk cl σ F m (tCall spDraw [] E (tCons (tVar i0) (tCons te tNil))) (m + 1) (fun d => ∃ i, d = .int i ∧ 0 ≤ i ∧ i < lim) := fun G H e1 e2 hD Q q => by
  refine ⟨.ref dk, hs, hl G H e1 e2 _ fun v G1 H1 u1 d1 => ?_⟩
  cases d1
  refine ⟨rfl, dk, cl, lim, G1, m, rfl, u1.h, hD.up u1, hm, h0, h1, fun i H' hi0 hi1 u hD' => ?_⟩
  exact q _ _ _ _ (u1.toM.tr u) hD' ⟨i, rfl, hi0, hi1⟩ (.int i)
theorem n_pick {i0 : Nat} {E : XK} {ds : List PyData} (hs : σ[i0]? = some (some (.ref dk))) (hl : EvE K σ F te (.list ds)) (h0 : 0 < ds.length) (h1 : ds.length < 100000) (hm : m ≤ 1000000000) :
    EvN K dk cl σ F m (tCall (spPick K) [] E (tCons (tVar i0) (tCons te tNil))) (m + 1) (fun d => d ∈ ds) := fun G H e1 e2 hD Q q => by
  refine ⟨.ref dk, hs, hl G H e1 e2 _ fun v G1 H1 u1 d1 => ?_⟩
  obtain ⟨a, rfl⟩ : ∃ a, v = .ref a := by cases d1 with | lst h _ => exact ⟨_, rfl⟩
  refine ⟨rfl, dk, cl, a, ds, G1, m, rfl, u1.h, hD.up u1, hm, d1, h0, h1, fun v d H' hd dv u hD' => ?_⟩
  exact q _ _ _ _ (u1.toM.tr u) hD' hd dv
theorem n_op {f : PyData → PyData → PyData} (ha : EvN K dk cl σ F m ta m1 P1) (hb : ∀ x, P1 x → EvN K dk cl σ F m1 tb m2 (P2 x)) (ho : ∀ x y, P1 x → P2 x y → OpD K r x y (f x y)) :
    EvN K dk cl σ F m (tOp r ta tb) m2 (fun z => ∃ x y, P1 x ∧ P2 x y ∧ z = f x y) := fun G H e1 e2 hD Q q =>
  ha G H e1 e2 hD _ fun v x G1 H1 u1 hD1 p1 d1 => hb x p1 G1 H1 (e1.tr u1.g) u1.h hD1 _ fun w y G2 H2 u2 hD2 p2 d2 =>
    ho x y p1 p2 G2 H2 v w u2.h (d1.mono u2.g) d2 Q fun z G3 H3 u3 d3 => q z _ G3 H3 ((u1.tr u2).tr u3.toM) (hD2.up u3) ⟨x, y, p1, p2, rfl⟩ d3
theorem an_nil : AvN K dk cl σ F m tNil m (fun ds => ds = []) := fun G H e1 e2 hD Q q => q [] [] G H (UpM.rf e2) hD rfl .nil
theorem an_cons {PA : PyData → List PyData → Prop} (h : EvN K dk cl σ F m te m1 P1) (hr : ∀ x, P1 x → AvN K dk cl σ F m1 as m2 (PA x)) :
    AvN K dk cl σ F m (tCons te as) m2 (fun ds => ∃ x r, P1 x ∧ PA x r ∧ ds = x :: r) := fun G H e1 e2 hD Q q =>
  h G H e1 e2 hD _ fun v x G1 H1 u1 hD1 p1 d1 => hr x p1 G1 H1 (e1.tr u1.g) u1.h hD1 _ fun vs xs G2 H2 u2 hD2 p2 d2 =>
    q (v :: vs) (x :: xs) G2 H2 (u1.tr u2) hD2 ⟨x, xs, p1, p2, rfl⟩ (.cons (d1.mono u2.g) d2)
theorem an_pure {ds : List PyData} (h : EvA K σ F as ds) : AvN K dk cl σ F m as m (fun x => x = ds) := fun G H e1 e2 hD Q q =>
  h G H e1 e2 Q fun v G' H' u dv => q v ds G' H' u.toM (hD.up u) rfl dv
theorem AvN.imp {P' : List PyData → Prop} (h : AvN K dk cl σ F m as m' PA) (hi : ∀ d, PA d → P' d) : AvN K dk cl σ F m as m' P' := fun G H e1 e2 hD Q q =>
  h G H e1 e2 hD Q fun v d G' H' u hD' p dv => q v d G' H' u hD' (hi d p) dv
theorem n_tup (h : AvN K dk cl σ F m as m' PA) (hl : ∀ ds, PA ds → ds.length ≤ 100000) : EvN K dk cl σ F m (tTup as) m' (fun d => ∃ ds, PA ds ∧ d = .tuple ds) := fun G H e1 e2 hD Q q =>
  h G H e1 e2 hD _ fun vs ds G1 H1 u1 hD1 p d1 => ⟨by rw [d1.length]; exact Nat.le_trans (hl ds p) (by decide), fun a ha =>
    q _ _ _ _ (u1.tr (Up.new u1.h ha _).toM) (hD1.up (Up.new u1.h ha _)) ⟨ds, p, rfl⟩ (.tup upd_same (d1.mono (Ex.up (u1.h.fresh ha))))⟩
theorem n_lst (h : AvN K dk cl σ F m as m' PA) (hl : ∀ ds, PA ds → ds.length ≤ 100000) : EvN K dk cl σ F m (tLst as) m' (fun d => ∃ ds, PA ds ∧ d = .list ds) := fun G H e1 e2 hD Q q =>
  h G H e1 e2 hD _ fun vs ds G1 H1 u1 hD1 p d1 => ⟨by rw [d1.length]; exact Nat.le_trans (hl ds p) (by decide), fun a ha =>
    q _ _ _ _ (u1.tr (Up.new u1.h ha _).toM) (hD1.up (Up.new u1.h ha _)) ⟨ds, p, rfl⟩ (.lst upd_same (d1.mono (Ex.up (u1.h.fresh ha))))⟩
theorem n_cb {rc : List V → Hp → VK → Prop} {f : List PyData → PyData} (h : AvN K dk cl σ F m as m' PA) (hc : ∀ ds, PA ds → CaD K rc ds (f ds)) :
    EvN K dk cl σ F m (tCB rc as) m' (fun d => ∃ ds, PA ds ∧ d = f ds) := fun G H e1 e2 hD Q q =>
  h G H e1 e2 hD _ fun vs ds G1 H1 u1 hD1 p d1 => hc ds p G1 H1 vs u1.h d1 Q fun w G3 H3 u3 d3 => q w _ G3 H3 (u1.tr u3.toM) (hD1.up u3) ⟨ds, p, rfl⟩ d3
/-- a pure def with drawn arguments -/
theorem n_call {n : Nat} {pre : List PyData → Prop} {fn : List PyData → PyData} {E : XK} (h : AvN K dk cl σ F m as m' PA) (hn : ∀ ds, PA ds → ds.length = n) (hp : ∀ ds, PA ds → pre ds) :
    EvN K dk cl σ F m (tCall (spP K n pre fn) [] E as) m' (fun d => ∃ ds, PA ds ∧ d = fn ds) := fun G H e1 e2 hD Q q =>
  h G H e1 e2 hD _ fun vs ds G1 H1 u1 hD1 p d1 =>
    ⟨by rw [List.append_nil, d1.length]; exact hn ds p, G1, ds, u1.h, by rw [List.append_nil]; exact d1, hp ds p, fun v G2 H2 u2 d2 => q v _ _ _ (u1.tr u2.toM) (hD1.up u2) ⟨ds, p, rfl⟩ d2⟩
/-- [e for x in ..], e draws c times at most -/
theorem n_lc1 {wi : TI} {i c : Nat} {ds : List PyData} {P : PyData → PyData → Prop} (hi : EvI K σ F wi ds) (hz : ds.length ≤ 100000)
    (ht : ∀ (k : Nat) (d : PyData), ds[k]? = some d → ∀ F' v, Ex F F' → Da K F' v d → EvN K dk cl ((wipe σ [i]).set i (some v)) F' (m + c * k) te (m + c * k + c) (P d)) :
    EvN K dk cl σ F m (tLc wi (gName i) tYes te [i]) (m + c * ds.length) (fun x => ∃ rs : List PyData, x = .list rs ∧ rs.length = ds.length ∧ ∀ (k : Nat) (d r : PyData), ds[k]? = some d → rs[k]? = some r → P d r) := fun G H e1 e2 hD Q q =>
  hi G H e1 e2 _ fun J G1 H1 u1 wk => by
  intro D hD0
  have hDk := hD.up u1
  have nd : D ≠ dk := fun z => hDk.dn (by rw [← z]; exact hD0)
  have nc : D ≠ cl := fun z => hDk.cn (by rw [← z]; exact hD0)
  refine ⟨fun k μ H2 => μ = ds.length - k ∧ k ≤ ds.length ∧ ∃ (G2 : Hp) (rs : List PyData), UpM dk cl G1 H1 G2 H2 ∧ Deck G2 H2 dk cl (m + c * k) ∧ ListAt K D rs G2 H2 ∧ rs.length = k ∧
      ∀ (j : Nat) (d r : PyData), ds[j]? = some d → rs[j]? = some r → P d r, ⟨_, rfl, Nat.zero_le _, G1, [], ?_, ?_, ?_, rfl, ?_⟩, ?_⟩
  · exact ⟨Ex.rf _, u1.h.tr (Ex.up hD0), fun b o _ _ e => Ex.up hD0 b o e, fun _ _ h => h, fun b h => by
      rw [upd_ne (fun z => h (by rw [z]; exact hD0))]; exact h⟩
  · have := hDk
    obtain ⟨cs, t, n, a1, a2, a3⟩ := this.ex
    exact ⟨this.ne, this.gd, this.gc, cs, t, n, by rw [upd_ne (ne_of_none a1 hD0)]; exact a1, by rw [upd_ne (ne_of_none a2 hD0)]; exact a2, by simpa using a3⟩
  · exact ⟨u1.h.fresh hD0, [], upd_same, .nil⟩
  · intro j d r _ hr; simp at hr
  rintro k μ H2 ⟨rfl, hk, G2, rs, u2, hD2, hL, hlen, hP⟩
  obtain ⟨w1, w2⟩ := wk k G2 H2 u2.g u2.h
  by_cases hlt : k < ds.length
  · obtain ⟨hgo, hy⟩ := w1 _ (List.getElem?_eq_getElem hlt)
    refine .inr ⟨hgo, fun H3 => ∃ (G3 : Hp) (rs : List PyData), UpM dk cl G1 H1 G3 H3 ∧ Deck G3 H3 dk cl (m + c * (k + 1)) ∧ ListAt K D rs G3 H3 ∧ rs.length = k + 1 ∧
      ∀ (j : Nat) (d r : PyData), ds[j]? = some d → rs[j]? = some r → P d r, ?_, ?_⟩
    · rintro H3 ⟨G3, rs3, r⟩
      exact ⟨ds.length - (k + 1), by omega, rfl, hlt, G3, rs3, r⟩
    · intro x H3 hyl
      obtain ⟨G3, u3, dx⟩ := hy x H3 hyl
      refine ⟨wipe1, ?_⟩
      unfold tYes
      dsimp only
      rw [if_pos rfl]
      refine ht k _ (List.getElem?_eq_getElem hlt) G3 x ((e1.tr u1.g).tr (u2.g.tr u3.g)) dx G3 H3 (Ex.rf _) u3.h (hD2.up u3) _ fun y dy G4 H4 u4 hD4 py dvy => ?_
      have hL4 := (hL.up u3).upM nd nc u4
      obtain ⟨acc, ea, ha⟩ := hL4.ex
      have gl := hL4.gl
      have up4 := (u2.tr u3.toM).tr u4
      refine ⟨acc, ea, ?_, G4, rs ++ [dy], ⟨up4.g, fun a o e => ?_, fun b o hb1 hb2 e => ?_, up4.n, fun b hb => ?_⟩, ?_, ⟨gl, acc ++ [y], upd_same, ha.append (.cons dvy .nil)⟩, by simp [hlen], ?_⟩
      · have := ha.length
        exact Nat.lt_of_le_of_lt (by omega : acc.length ≤ 100000) (by decide)
      · rw [upd_ne (ne_of_none e gl)]; exact up4.h a o e
      · have hbD : b ≠ D := fun z => by rw [z, hD0] at e; cases e
        rw [upd_ne hbD]; exact up4.m b o hb1 hb2 e
      · by_cases hbD : b = D
        · subst hbD; rw [upd_same]; simp
        · rw [upd_ne hbD]; exact up4.t b hb
      · obtain ⟨cs, t, n, a1, a2, a3⟩ := hD4.ex
        exact ⟨hD4.ne, hD4.gd, hD4.gc, cs, t, n, by rw [upd_ne nd.symm]; exact a1, by rw [upd_ne nc.symm]; exact a2, by
          rw [Nat.mul_add, Nat.mul_one, ← Nat.add_assoc]; exact a3⟩
      · intro j d r hd hr
        by_cases hj : j < k
        · exact hP j d r hd (by rw [List.getElem?_append_left (by omega)] at hr; exact hr)
        · have hjk : j = k := by
            have := (List.getElem?_eq_some_iff.mp hr).1
            simp [hlen] at this
            omega
          subst hjk
          rw [List.getElem?_append_right (by omega), hlen] at hr
          simp at hr
          subst hr
          rw [List.getElem?_eq_getElem hlt] at hd; cases hd
          exact py
  · have hle : ds.length ≤ k := by omega
    have hkk : k = ds.length := by omega
    obtain ⟨G3, g1, g2, g3, g4⟩ := hL.done u2.h
    refine .inl ⟨w2 (by omega), q _ (.list rs) G3 H2 (u1.toM.tr ⟨u2.g.tr g1, g2, u2.m, fun b h1 h2 => ?_, u2.t⟩) ?_ ⟨rs, rfl, by omega, hP⟩ g3⟩
    · have hbD : b ≠ D := fun z => h1 (by rw [z]; exact hD0)
      rw [g4 b hbD]
      exact u2.n b h1 h2
    · obtain ⟨cs, t, n, a1, a2, a3⟩ := hD2.ex
      exact ⟨hD2.ne, by rw [g4 _ nd.symm]; exact hD2.gd, by rw [g4 _ nc.symm]; exact hD2.gc, cs, t, n, a1, a2, by rw [← hkk]; exact a3⟩
end
end KD
set_option Elab.async false
set_option linter.all false
set_option maxRecDepth 100000
set_option maxHeartbeats 4000000
namespace KD
open PySem PySem.Spec PyProof.Rows L2
/-! ### the deck's own defs, whatever their written numbers are -/
abbrev oAdd : TE → TE → TE := tOp (rI0 fun i j => .int (i + j))
abbrev oMul : TE → TE → TE := tOp (rI CMul fun i j => .int (i * j))
abbrev oMod : TE → TE → TE := tOp (rI (fun _ j => 0 < j) fun i j => .int (i % j))
abbrev oDiv : TE → TE → TE := tOp (rI CDiv fun i j => .int (i / j))
abbrev nI (i : Int) : TE := tC (.int i)
def spDeck (K : PySem.W.Frag) : Sp := fun vs H Q _ => vs.length = 1 ∧ ∃ (a : Addr) (ns : List Int) (G : Hp), vs = [.ref a] ∧ SqL K H a (ns.map V.int) ∧ ns.length ≤ 63 ∧ Ex G H ∧
  ∀ dk cl H', Ex H H' → H dk = none → H cl = none → Deck G H' dk cl 0 → Q (.ref dk) H'
section
variable {K : PySem.W.Frag}
theorem pos64 {b : Int} (h : 0 ≤ b) (h2 : b < 2 ^ 64) : -(2 ^ 64) < b ∧ b < 2 ^ 64 := ⟨by omega, h2⟩
theorem tSeq_def (t u : TS) (D : Ends) (σ : L2.St) (H : Hp) : tSeq t u D σ H = t { D with nx := u D } σ H := rfl
/-- cells, total = list(script[:63]), A; for cell in cells: total = (total * B + cell % C + E) % M; return [cells[::-1], total, 0] -/
abbrev tsDeck (K : PySem.W.Frag) (A B C E M : Int) : TS :=
  tSeq (tPar 1 2 (tCons (tCB (rListQ K) (tCons (tSl (rSlL K) (tVar 0) tNoPart (tPart (nI 63))) tNil)) (tCons (nI A) tNil)))
    (tSeq (tFor (iList K (tVar 1)) (gName 3) (tAsg (oMod (oAdd (oAdd (oMul (tVar 2) (nI B)) (oMod (tVar 3) (nI C))) (nI E)) (nI M)) (gName 2)))
      (tRet (tLst (tCons (tRevL K (tVar 1)) (tCons (tVar 2) (tCons (nI 0) tNil))))))
theorem deck_read {A B C E M : Int} (hA : 0 ≤ A ∧ A < 4294967296) (hB : -(2 ^ 64) < B ∧ B < 2 ^ 64) (hC : 0 < C) (hM : 0 < M ∧ M < 4294967296) {vs : List V} {H : Hp} {Q : VK} {E0 : XK} (h : spDeck K vs H Q E0) :
    tsDeck K A B C E M { nx := fun _ H' => Q .non H', rt := Q } (vs.map some ++ [none, none, none]) H := by
  obtain ⟨_, a, ns, G, rfl, hS, hl, eg, q⟩ := h
  show tsDeck K A B C E M { nx := fun _ H' => Q .non H', rt := Q } [some (.ref a), none, none, none] H
  refine ⟨.ref a, rfl, 63, rfl, a, ns.map V.int, rfl, hS, fun p hp => ⟨p, _, rfl, .inl (SqL.of upd_same), fun l hl' => ⟨_, _, rfl, ?_⟩⟩⟩
  have nlp : l ≠ p := fun e => by rw [e, upd_same] at hl'; cases hl'
  have hl0 : H l = none := by rw [upd_ne nlp] at hl'; exact hl'
  have cut : cutV (ns.map V.int) none (some 63) = ns.map V.int := by
    unfold cutV
    show List.take (min 63 (ns.map V.int).length - 0) _ = _
    rw [HT.sIx_none, List.drop_zero, Nat.sub_zero, Nat.min_eq_right (by rw [List.length_map]; exact hl), List.take_length]
  rw [cut] at hl' ⊢
  generalize hH1 : upd (upd H p (.lst (ns.map V.int))) l (.lst (ns.map V.int)) = H1
  have eH1 : Ex H H1 := by rw [← hH1]; exact (Ex.up hp).tr (Ex.up hl')
  have hl1 : H1 l = some (.lst (ns.map V.int)) := by rw [← hH1]; exact upd_same
  show tSeq _ _ _ [some (.ref a), some (.ref l), some (.int A), none] H1
  refine ⟨.ref l, rfl, l, rfl, ⟨_, SqL.of hl1⟩, ?_⟩
  refine for_list (K := K) (a := l) (xs := ns.map V.int) (fun _ σ H2 => ∃ t v3, σ = [some (.ref a), some (.ref l), some (.int t), v3] ∧ 0 ≤ t ∧ t < 4294967296 ∧ H2 = H1)
    ⟨A, none, rfl, hA.1, hA.2, rfl⟩ (fun i σ H2 _ ⟨_, _, _, _, _, e⟩ => by rw [e]; exact SqL.of hl1) (fun i x σ H2 hx ⟨t, v3, e, h1, h2, e2⟩ => ?_) (fun σ H2 ⟨t, v3, e, h1, h2, e2⟩ => ?_)
  · subst e e2
    obtain ⟨n, _, rfl⟩ : ∃ n, ns[i]? = some n ∧ V.int n = x := by
      rw [List.getElem?_map] at hx
      exact Option.map_eq_some_iff.mp hx
    refine ⟨_, rfl, _, _, rfl, rfl, .inr hB, _, rfl, _, _, rfl, rfl, hC, _, _, rfl, rfl, _, _, rfl, rfl, _, _, rfl, rfl, hM.1, ?_⟩
    exact ⟨_, _, rfl, Int.emod_nonneg _ (by omega), Int.lt_trans (Int.emod_lt_of_pos _ hM.1) hM.2, rfl⟩
  · subst e e2
    refine ⟨.ref l, rfl, l, _, rfl, SqL.of hl1, fun c hc => ⟨_, rfl, by show 3 ≤ sizeLine; decide, fun d hd => ?_⟩⟩
    have ndc : d ≠ c := fun z => by rw [z, upd_same] at hd; cases hd
    have hd0 : H2 d = none := by rw [upd_ne ndc] at hd; exact hd
    have nc : H c = none := eH1.fresh hc
    have nd : H d = none := eH1.fresh hd0
    refine q d c _ (eH1.tr ((Ex.up hc).tr (Ex.up hd))) nd nc ⟨ndc, eg.fresh nd, eg.fresh nc, ns.reverse, t, 0, upd_same, ?_, by rw [List.length_reverse]; exact hl, by omega, by omega, h1, h2⟩
    rw [upd_ne ndc.symm, upd_same, List.map_reverse]
abbrev oPow : TE → TE → TE := tOp (rI CPow fun i j => .int (i ^ j.toNat))
abbrev dAt (K : PySem.W.Frag) (i : Int) : TE := tOp (rIxL K) (tVar 0) (nI i)
/-- the draw, whatever comes last -/
abbrev tsDraw (K : PySem.W.Frag) (rest : TS) : TS :=
  tSeq (tAsg (oAdd (dAt K 2) (nI 1)) (gSub (tVar 0) (nI 2) rSetL)) (tSeq (tAsg (dAt K 1) (gName 2))
    (tSeq (tIfS (tTest (tOp (rNeDa K) (dAt K 0) (tLst tNil)))
      (tSeq (tAsg (tBM0 K "list" rPop (dAt K 0)) (gName 2))
        (tSeq (tIfS (tTest (tOp (rI0 fun i j => .bl (decide (j ≤ i))) (tVar 2) (oPow (nI 10) (nI 18))))
          (tSeq (tDrop (tBM K "list" rAppend (dAt K 0) (tCons (oDiv (tVar 2) (tVar 1)) tNil))) (tRet (oMod (tVar 2) (tVar 1)))) tNext)
          (tAsg (oAdd (tVar 2) (dAt K 1)) (gName 2)))) tNext) rest))
abbrev tsLast1 (K : PySem.W.Frag) (a b c d e f g h i j k : Int) : TS :=
  tSeq (tAsg (oMod (oMul (oAdd (oAdd (oMod (tVar 2) (nI a)) (oMul (oMul (nI b) (dAt K 2)) (dAt K 2))) (nI c)) (nI d)) (nI e)) (gName 3))
    (tSeq (tAsg (oMod (oAdd (oAdd (oMul (tVar 3) (tVar 3)) (oMul (nI f) (dAt K 2))) (nI g)) (nI h)) (gName 3))
      (tRet (oMod (oDiv (oMod (oAdd (oMul (tVar 3) (tVar 3)) (oMul (nI i) (tVar 3))) (nI j)) (nI k)) (tVar 1))))
abbrev tsLast2 (K : PySem.W.Frag) (a b c d e f g h i j k : Int) : TS :=
  tSeq (tAsg (oMod (oMul (oAdd (oAdd (oMod (tVar 2) (nI a)) (oMul (oMul (nI b) (dAt K 2)) (dAt K 2))) (nI c)) (nI d)) (nI e)) (gName 3))
    (tSeq (tAsg (oMod (oAdd (oAdd (oMul (tVar 3) (tVar 3)) (oMul (nI f) (dAt K 2))) (nI g)) (nI h)) (gName 3))
      (tRet (oMod (oDiv (oMod (oMul (tVar 3) (nI i)) (nI j)) (nI k)) (tVar 1))))
/-- what the last rows must do: give a number below the limit, from any cell -/
def LastOk (K : PySem.W.Frag) (rest : TS) : Prop := ∀ (dk cl : Addr) (lim t n c : Int) (x3 : Option V) (H : Hp) (D : Ends), 0 < lim → lim < 1000000000 → 0 ≤ n → n < 2 ^ 40 →
  H dk = some (.lst [.ref cl, .int t, .int n]) → (∀ i, 0 ≤ i → i < lim → D.rt (.int i) H) → rest D [some (.ref dk), some (.int lim), some (.int c), x3] H
theorem at2 {a b c : V} : atI [a, b, c] 2 = some c := rfl
theorem at1 {a b c : V} : atI [a, b, c] 1 = some b := rfl
theorem at0 {a b c : V} : atI [a, b, c] 0 = some a := rfl
theorem last1 {a b c d e f g h i j k : Int} (ha : 0 < a) (hb : -(2 ^ 64) < b ∧ b < 2 ^ 64) (hd : -(2 ^ 64) < d ∧ d < 2 ^ 64) (he : 0 < e ∧ e < 2 ^ 32) (hf : -(2 ^ 64) < f ∧ f < 2 ^ 64) (hh : 0 < h ∧ h < 2 ^ 32)
    (hi : -(2 ^ 64) < i ∧ i < 2 ^ 64) (hj : 0 < j) (hk : 0 < k ∧ k < 1073741824) : LastOk K (tsLast1 K a b c d e f g h i j k) := by
  intro dk cl lim t n cell x3 H D h0 h1 n0 n1 hd0 q
  have hs := SqL.of (K := K) hd0
  have nb : -(2 ^ 64) < n ∧ n < 2 ^ 64 := ⟨by omega, by omega⟩
  refine ⟨_, rfl, _, _, rfl, rfl, ha, .ref dk, rfl, dk, _, 2, _, rfl, rfl, hs, at2, _, _, rfl, rfl, .inl hb, .ref dk, rfl, dk, _, 2, _, rfl, rfl, hs, at2, _, _, rfl, rfl, .inr nb, _, _, rfl, rfl, _, _, rfl, rfl,
    _, _, rfl, rfl, .inr hd, _, _, rfl, rfl, he.1, ?_⟩
  show tSeq _ _ D [some (.ref dk), some (.int lim), some (.int cell), some (.int (((cell % a + b * n * n + c) * d) % e))] H
  generalize hv : (((cell % a + b * n * n + c) * d) % e : Int) = v
  have v0 : 0 ≤ v := by rw [← hv]; exact Int.emod_nonneg _ (by omega)
  have v1 : v < 2 ^ 32 := by rw [← hv]; exact Int.lt_trans (Int.emod_lt_of_pos _ he.1) he.2
  refine ⟨.int v, rfl, .int v, rfl, _, _, rfl, rfl, .inl ⟨by omega, by omega⟩, .ref dk, rfl, dk, _, 2, _, rfl, rfl, hs, at2, _, _, rfl, rfl, .inl hf, _, _, rfl, rfl, _, _, rfl, rfl, _, _, rfl, rfl, hh.1, ?_⟩
  show tRet (oMod (oDiv (oMod (oAdd (oMul (tVar 3) (tVar 3)) (oMul (nI i) (tVar 3))) (nI j)) (nI k)) (tVar 1)) D [some (.ref dk), some (.int lim), some (.int cell), some (.int ((v * v + f * n + g) % h))] H
  generalize hw : ((v * v + f * n + g) % h : Int) = w
  have w0 : 0 ≤ w := by rw [← hw]; exact Int.emod_nonneg _ (by omega)
  have w1 : w < 2 ^ 32 := by rw [← hw]; exact Int.lt_trans (Int.emod_lt_of_pos _ hh.1) hh.2
  refine ⟨.int w, rfl, .int w, rfl, _, _, rfl, rfl, .inl ⟨by omega, by omega⟩, .int w, rfl, _, _, rfl, rfl, .inl hi, _, _, rfl, rfl, _, _, rfl, rfl, hj, _, _, rfl, rfl, hk, .int lim, rfl, _, _, rfl, rfl, h0, ?_⟩
  exact q _ (Int.emod_nonneg _ (by omega)) (Int.emod_lt_of_pos _ h0)
theorem last2 {a b c d e f g h i j k : Int} (ha : 0 < a) (hb : -(2 ^ 64) < b ∧ b < 2 ^ 64) (hd : -(2 ^ 64) < d ∧ d < 2 ^ 64) (he : 0 < e ∧ e < 2 ^ 32) (hf : -(2 ^ 64) < f ∧ f < 2 ^ 64) (hh : 0 < h ∧ h < 2 ^ 32)
    (hi : -(2 ^ 64) < i ∧ i < 2 ^ 64) (hj : 0 < j) (hk : 0 < k ∧ k < 1073741824) : LastOk K (tsLast2 K a b c d e f g h i j k) := by
  intro dk cl lim t n cell x3 H D h0 h1 n0 n1 hd0 q
  have hs := SqL.of (K := K) hd0
  have nb : -(2 ^ 64) < n ∧ n < 2 ^ 64 := ⟨by omega, by omega⟩
  refine ⟨_, rfl, _, _, rfl, rfl, ha, .ref dk, rfl, dk, _, 2, _, rfl, rfl, hs, at2, _, _, rfl, rfl, .inl hb, .ref dk, rfl, dk, _, 2, _, rfl, rfl, hs, at2, _, _, rfl, rfl, .inr nb, _, _, rfl, rfl, _, _, rfl, rfl,
    _, _, rfl, rfl, .inr hd, _, _, rfl, rfl, he.1, ?_⟩
  show tSeq _ _ D [some (.ref dk), some (.int lim), some (.int cell), some (.int (((cell % a + b * n * n + c) * d) % e))] H
  generalize hv : (((cell % a + b * n * n + c) * d) % e : Int) = v
  have v0 : 0 ≤ v := by rw [← hv]; exact Int.emod_nonneg _ (by omega)
  have v1 : v < 2 ^ 32 := by rw [← hv]; exact Int.lt_trans (Int.emod_lt_of_pos _ he.1) he.2
  refine ⟨.int v, rfl, .int v, rfl, _, _, rfl, rfl, .inl ⟨by omega, by omega⟩, .ref dk, rfl, dk, _, 2, _, rfl, rfl, hs, at2, _, _, rfl, rfl, .inl hf, _, _, rfl, rfl, _, _, rfl, rfl, _, _, rfl, rfl, hh.1, ?_⟩
  show tRet (oMod (oDiv (oMod (oMul (tVar 3) (nI i)) (nI j)) (nI k)) (tVar 1)) D [some (.ref dk), some (.int lim), some (.int cell), some (.int ((v * v + f * n + g) % h))] H
  generalize hw : ((v * v + f * n + g) % h : Int) = w
  have w0 : 0 ≤ w := by rw [← hw]; exact Int.emod_nonneg _ (by omega)
  have w1 : w < 2 ^ 32 := by rw [← hw]; exact Int.lt_trans (Int.emod_lt_of_pos _ hh.1) hh.2
  refine ⟨.int w, rfl, _, _, rfl, rfl, .inr hi, _, _, rfl, rfl, hj, _, _, rfl, rfl, hk, .int lim, rfl, _, _, rfl, rfl, h0, ?_⟩
  exact q _ (Int.emod_nonneg _ (by omega)) (Int.emod_lt_of_pos _ h0)
theorem daAll_ints {G : Hp} : ∀ ns : List Int, DaAll K G (ns.map V.int) (ns.map .int)
  | [] => .nil
  | n :: ns => .cons (.int n) (daAll_ints ns)
theorem draw_read {rest : TS} (hr : LastOk K rest) {vs : List V} {H : Hp} {Q : VK} {E0 : XK} (h : spDraw vs H Q E0) :
    tsDraw K rest { nx := fun _ H' => Q .non H', rt := Q } (vs.map some ++ [none, none]) H := by
  obtain ⟨_, dk, cl, lim, G, m, rfl, eg, hD, hm, h0, h1, q⟩ := h
  obtain ⟨cs, t, n, e1, e2, hcs, n0, n1, t0, t1⟩ := hD.ex
  show tsDraw K rest { nx := fun _ H' => Q .non H', rt := Q } [some (.ref dk), some (.int lim), none, none] H
  refine ⟨.ref dk, rfl, dk, _, 2, _, rfl, rfl, SqL.of e1, at2, _, _, rfl, rfl, .ref dk, rfl, dk, _, 2, 2, rfl, rfl, e1, rfl, ?_⟩
  generalize hH1 : upd H dk (.lst (([V.ref cl, V.int t, V.int n] : List V).set 2 (V.int (n + 1)))) = H1
  have f1 : H1 dk = some (.lst [.ref cl, .int t, .int (n + 1)]) := by rw [← hH1]; exact upd_same
  have f2 : H1 cl = some (.lst (cs.map V.int)) := by rw [← hH1, upd_ne hD.ne.symm]; exact e2
  have f3 : ∀ b, b ≠ dk → H1 b = H b := fun b hb => by rw [← hH1, upd_ne hb]
  -- what any later heap must show
  have fin : ∀ (cs' : List Int) (H2 : Hp) (i : Int), H2 dk = some (.lst [.ref cl, .int t, .int (n + 1)]) → H2 cl = some (.lst (cs'.map V.int)) → cs'.length ≤ 63 →
      (∀ b o, b ≠ dk → b ≠ cl → H1 b = some o → H2 b = some o) → 0 ≤ i → i < lim → Q (.int i) H2 := by
    intro cs' H2 i g1 g2 g3 g4 i0 i1
    refine q i H2 i0 i1 ⟨Ex.rf _, fun b o e => ?_, fun b o hb1 hb2 e => g4 b o hb1 hb2 (by rw [f3 b hb1]; exact e), fun _ _ h => h, fun b hb => ?_⟩
      ⟨hD.ne, hD.gd, hD.gc, cs', t, n + 1, g1, g2, g3, by omega, by omega, t0, t1⟩
    · have hb1 : b ≠ dk := fun z => by rw [z, hD.gd] at e; cases e
      have hb2 : b ≠ cl := fun z => by rw [z, hD.gc] at e; cases e
      exact g4 b o hb1 hb2 (by rw [f3 b hb1]; exact eg b o e)
    · by_cases hb1 : b = dk
      · rw [hb1, g1]; simp
      · by_cases hb2 : b = cl
        · rw [hb2, g2]; simp
        · cases e : H b with
          | none => exact absurd e hb
          | some o => rw [g4 b o hb1 hb2 (by rw [f3 b hb1]; exact e)]; simp
  refine ⟨.ref dk, rfl, dk, _, 1, _, rfl, rfl, SqL.of f1, at1, ?_⟩
  refine ⟨.ref dk, rfl, dk, _, 0, _, rfl, rfl, SqL.of f1, at0, Nat.zero_le _, fun p hp => ?_⟩
  have np1 : dk ≠ p := fun z => by rw [← z, f1] at hp; cases hp
  have np2 : cl ≠ p := fun z => by rw [← z, f2] at hp; cases hp
  generalize hH2 : upd H1 p (.lst []) = H2
  have k1 : H2 dk = some (.lst [.ref cl, .int t, .int (n + 1)]) := by rw [← hH2, upd_ne np1]; exact f1
  have k2 : H2 cl = some (.lst (cs.map V.int)) := by rw [← hH2, upd_ne np2]; exact f2
  have k3 : ∀ b o, b ≠ dk → b ≠ cl → H1 b = some o → H2 b = some o := fun b o _ _ e => by rw [← hH2, upd_ne (ne_of_none e hp)]; exact e
  refine ⟨.list (cs.map .int), .list [], .lst k2 (daAll_ints cs), .lst (by rw [← hH2]; exact upd_same) .nil, cmpOk_nil, _, rfl, ?_⟩
  rw [eqv_nil]
  cases hc : cs with
  | nil =>
    refine iteF ?_
    refine hr dk cl lim t (n + 1) t none H2 _ h0 h1 (by omega) (by omega) k1 fun i i0 i1 => ?_
    exact fin cs H2 i k1 k2 hcs k3 i0 i1
  | cons x r =>
    refine iteT ?_
    rw [hc] at k2
    obtain ⟨y, hy⟩ : ∃ y, (x :: r)[(x :: r).length - 1]? = some y := ⟨_, List.getElem?_eq_getElem (by simp)⟩
    refine ⟨.ref dk, rfl, dk, _, 0, _, rfl, rfl, SqL.of k1, at0, .inl ⟨rfl, _, SqL.of k2⟩, cl, _, V.int y, rfl, rfl, k2, ?_, ?_⟩
    · rw [List.length_map, List.getElem?_map, hy]; rfl
    have dl : ((x :: r).map V.int).dropLast = (x :: r).dropLast.map V.int := List.map_dropLast.symm
    rw [dl]
    generalize hH3 : upd H2 cl (.lst ((x :: r).dropLast.map V.int)) = H3
    have l1 : H3 dk = some (.lst [.ref cl, .int t, .int (n + 1)]) := by rw [← hH3, upd_ne hD.ne]; exact k1
    have l2 : H3 cl = some (.lst ((x :: r).dropLast.map V.int)) := by rw [← hH3]; exact upd_same
    have l3 : ∀ b o, b ≠ dk → b ≠ cl → H1 b = some o → H3 b = some o := fun b o h1 h2 e => by rw [← hH3, upd_ne h2]; exact k3 b o h1 h2 e
    have len : (x :: r).dropLast.length + 1 ≤ 63 := by
      rw [List.length_dropLast]
      rw [hc] at hcs
      simp only [List.length_cons] at hcs ⊢
      omega
    refine ⟨.int y, rfl, _, _, rfl, rfl, ⟨by decide, by decide, by decide⟩, _, _, rfl, rfl, _, rfl, ite2 (fun e => ?_) (fun e => ?_)⟩
    · refine ⟨.ref dk, rfl, dk, _, 0, _, rfl, rfl, SqL.of l1, at0, .inl ⟨rfl, _, SqL.of l2⟩, .int y, rfl, .int lim, rfl, _, _, rfl, rfl, ⟨h0, by omega⟩, cl, _, _, rfl, rfl, l2, ?_, ?_⟩
      · rw [List.length_map]
        exact Nat.lt_of_lt_of_le (by omega : _ < 64) (by decide)
      refine ⟨.int y, rfl, .int lim, rfl, _, _, rfl, rfl, h0, ?_⟩
      refine fin ((x :: r).dropLast ++ [y / lim]) _ _ (by rw [upd_ne hD.ne]; exact l1) (by rw [upd_same, List.map_append]; rfl) (by rw [List.length_append]; exact len)
        (fun b o h1 h2 e => by rw [upd_ne h2]; exact l3 b o h1 h2 e) (Int.emod_nonneg _ (by omega)) (Int.emod_lt_of_pos _ h0)
    · refine ⟨.int y, rfl, .ref dk, rfl, dk, _, 1, _, rfl, rfl, SqL.of l1, at1, _, _, rfl, rfl, ?_⟩
      refine hr dk cl lim t (n + 1) (y + t) none H3 _ h0 h1 (by omega) (by omega) l1 fun i i0 i1 => ?_
      exact fin _ H3 i l1 l2 (by omega) l3 i0 i1
/-- items[draw(deck, len(items))] -/
abbrev tsPick (K : PySem.W.Frag) (E : XK) : TS := tRet (tOp (rIxL K) (tVar 1) (tCall spDraw [] E (tCons (tVar 0) (tCons (tCB (rLenQ K) (tCons (tVar 1) tNil)) tNil))))
theorem pick_read {E E0 : XK} {vs : List V} {H : Hp} {Q : VK} (h : spPick K vs H Q E0) : tsPick K E { nx := fun _ H' => Q .non H', rt := Q } (vs.map some) H := by
  obtain ⟨_, dk, cl, a, ds, G, m, rfl, eg, hD, hm, hda, h0, h1, q⟩ := h
  obtain ⟨xs, ha, ax⟩ : ∃ xs, G a = some (.lst xs) ∧ DaAll K G xs ds := by cases hda with | lst h1 h2 => exact ⟨_, h1, h2⟩
  have hl := ax.length
  show tsPick K E _ [some (.ref dk), some (.ref a)] H
  refine ⟨.ref a, rfl, .ref dk, rfl, .ref a, rfl, a, xs, rfl, .inl (SqL.of (eg _ _ ha)), rfl, dk, cl, xs.length, G, m, rfl, eg, hD, hm, by omega, by omega, fun i H' i0 i1 u hD' => ?_⟩
  have hx : i.toNat < xs.length := by omega
  obtain ⟨d, hd, dd⟩ := ax.get (List.getElem?_eq_getElem hx)
  refine ⟨a, xs, i, xs[i.toNat], rfl, rfl, SqL.of (u.h _ _ ha), ?_, q _ d H' (List.mem_of_getElem? hd) dd u hD'⟩
  have e := atI_nat (List.getElem?_eq_getElem hx)
  rw [Int.toNat_of_nonneg i0] at e
  exact e
end
end KD
set_option Elab.async false
set_option linter.all false
set_option maxRecDepth 100000
set_option maxHeartbeats 4000000
namespace KD
open PySem PySem.Spec PyProof.Rows L2
/-! ### sizes: what is small enough to be shown -/
/-- w: weight, k: depth -/
def sml (w k : Nat) (d : PyData) : Bool := (((d.leavesShort 60 && d.showable) && (!d.hasDict && fit d)) && decide (d.depth ≤ k)) && decide (d.weight ≤ w)
structure Sml (w k : Nat) (d : PyData) : Prop where
  s : d.leavesShort 60 = true
  h : d.showable = true
  n : d.hasDict = false
  f : fit d = true
  p : d.depth ≤ k
  w : d.weight ≤ w
theorem sml_iff {w k : Nat} {d : PyData} : sml w k d = true ↔ Sml w k d := by
  unfold sml
  simp only [Bool.and_eq_true, decide_eq_true_eq, Bool.not_eq_true']
  exact ⟨fun ⟨⟨⟨⟨a, b⟩, c, e⟩, f⟩, g⟩ => ⟨a, b, c, e, f, g⟩, fun h => ⟨⟨⟨⟨h.s, h.h⟩, h.n, h.f⟩, h.p⟩, h.w⟩⟩
theorem Sml.mono {w k w' k' : Nat} {d : PyData} (h : Sml w k d) (hw : w ≤ w') (hk : k ≤ k') : Sml w' k' d := ⟨h.s, h.h, h.n, h.f, Nat.le_trans h.p hk, Nat.le_trans h.w hw⟩
theorem Sml.repOk {w k : Nat} {d : PyData} (h : Sml w k d) (hw : w ≤ 100000) (hk : k ≤ 40) : repOk d = true := by
  unfold KD.repOk
  have hs := PyData.shown_le 60 (by decide) d h.s
  have := h.w
  have hd := h.p
  simp only [Bool.and_eq_true, decide_eq_true_eq, Bool.or_eq_true, h.h, h.n, Bool.not_false, or_true, true_and, and_true]
  refine ⟨by omega, Nat.le_trans hs ?_⟩
  have : (60 + 2) * d.weight ≤ 62 * 100000 := Nat.mul_le_mul (by decide) (by omega)
  omega
theorem sml_all {w k : Nat} : ∀ {xs : List PyData}, (∀ x ∈ xs, Sml w k x) → PyData.leavesShortAll 60 xs = true ∧ PyData.showableAll xs = true ∧ PyData.hasDictAll xs = false ∧ fitAll xs = true ∧
    PyData.depthAll xs ≤ k ∧ PyData.weightAll xs ≤ (w + 1) * xs.length
  | [], _ => ⟨rfl, rfl, rfl, rfl, Nat.zero_le _, Nat.zero_le _⟩
  | x :: xs, h => by
    obtain ⟨a, b, c, d, e, f⟩ := sml_all (xs := xs) fun y hy => h y (List.mem_cons_of_mem _ hy)
    have hx := h x List.mem_cons_self
    refine ⟨?_, ?_, ?_, ?_, ?_, ?_⟩
    · show (x.leavesShort 60 && _) = true
      rw [hx.s, a]; rfl
    · show (x.showable && _) = true
      rw [hx.h, b]; rfl
    · show (x.hasDict || _) = false
      rw [hx.n, c]; rfl
    · show (fit x && _) = true
      rw [hx.f, d]; rfl
    · show max x.depth _ ≤ k
      exact Nat.max_le.mpr ⟨hx.p, e⟩
    · show x.weight + 1 + PyData.weightAll xs ≤ _
      have := hx.w
      rw [List.length_cons, Nat.mul_add, Nat.mul_one]
      omega
theorem Sml.tup {w k n : Nat} {xs : List PyData} (h : ∀ x ∈ xs, Sml w k x) (hl : xs.length ≤ n) (hn : n ≤ 10000) : Sml ((w + 1) * n) (k + 1) (.tuple xs) := by
  obtain ⟨a, b, c, d, e, f⟩ := sml_all h
  refine ⟨a, by simpa [PyData.showable] using b, by simpa [PyData.hasDict] using c, ?_, ?_, ?_⟩
  · show (decide (xs.length ≤ 10000) && fitAll xs) = true
    rw [d, decide_eq_true (by omega : xs.length ≤ 10000)]; rfl
  · show PyData.depthAll xs + 1 ≤ k + 1
    omega
  · exact Nat.le_trans f (Nat.mul_le_mul_left _ hl)
theorem Sml.lst {w k n : Nat} {xs : List PyData} (h : ∀ x ∈ xs, Sml w k x) (hl : xs.length ≤ n) (hn : n ≤ 10000) : Sml ((w + 1) * n) (k + 1) (.list xs) := by
  obtain ⟨a, b, c, d, e, f⟩ := sml_all h
  refine ⟨a, by simpa [PyData.showable] using b, by simpa [PyData.hasDict] using c, ?_, ?_, ?_⟩
  · show (decide (xs.length ≤ 10000) && fitAll xs) = true
    rw [d, decide_eq_true (by omega : xs.length ≤ 10000)]; rfl
  · show PyData.depthAll xs + 1 ≤ k + 1
    omega
  · exact Nat.le_trans f (Nat.mul_le_mul_left _ hl)
theorem sml_str {s : Str} {n : Nat} (hl : s.length ≤ n) (hn : n ≤ 100000) (hc : ∀ c ∈ s.cps.toList, c < 16 ^ 8) : Sml n 0 (.str s) :=
  ⟨by show (s.cps.toList.all fun c => decide (c < 16 ^ 8)) = true
      exact List.all_eq_true.mpr fun c h => decide_eq_true (hc c h),
   rfl, rfl, by simp [fit]; omega, Nat.le_refl _, hl⟩
theorem sml_none : Sml 1 0 .none := ⟨rfl, rfl, rfl, rfl, by decide, by decide⟩
theorem sml_bool (b : Bool) : Sml 1 0 (.bool b) := ⟨rfl, rfl, rfl, rfl, Nat.le_refl _, Nat.zero_le _⟩
theorem log2_small {n : Nat} (h : n < 2 ^ 40) : n.log2 < 40 := by
  by_cases h0 : n = 0
  · subst h0; decide
  · exact (Nat.log2_lt h0).mpr h
theorem sml_int {i : Int} (h : i.natAbs < 10 ^ 12) : Sml 60 0 (.int i) := by
  have hl : i.natAbs.log2 < 40 := log2_small (Nat.lt_trans h (by decide))
  refine ⟨?_, ?_, rfl, rfl, Nat.le_refl _, ?_⟩
  · show decide ((PyData.shown (.int i)).length ≤ 60) = true
    exact decide_eq_true (Nat.le_trans (PyData.shown_int_le h) (by decide))
  · show decide (i.natAbs.log2 < 1920) = true
    exact decide_eq_true (by omega)
  · show (if i == 0 then 0 else i.natAbs.log2 + 1) ≤ 60
    split <;> omega
end KD
set_option Elab.async false
set_option linter.all false
set_option maxRecDepth 100000
set_option maxHeartbeats 1000000
namespace KD
open PySem PySem.Spec PyProof.Rows L2
/-! ### parts of law k01 that other laws use, too -/
abbrev letters : Str := "abcdefghijklmnopqrstuvwxyz"
def okD (d : PyData) : Bool := fit d && repOk d
theorem boolOk (b : Bool) : repOk (.bool b) = true := by cases b <;> decide +kernel
theorem eqv_three (a b : Str) : PyData.eqv (.list [.str a, .str a, .str b]) (.list [.str a, .str a, .str b]) = true := by
  simp [PyData.eqv, PyData.eqvAll]
section
variable {K : PySem.W.Frag}
/-! ### drawn names and signatures -/
structure SN (n : Nat) (s : Str) : Prop where
  l : s.length ≤ n
  c : ∀ c ∈ s.cps.toList, c < 128
theorem SN.mono {n m : Nat} {s : Str} (h : SN n s) (hm : n ≤ m) : SN m s := ⟨Nat.le_trans h.l hm, h.c⟩
theorem SN.app {n m : Nat} {s t : Str} (h : SN n s) (h2 : SN m t) : SN (n + m) (s ++ t) := by
  refine ⟨by rw [strLen_append]; exact Nat.add_le_add h.l h2.l, fun c hc => ?_⟩
  have e : (s ++ t).cps.toList = s.cps.toList ++ t.cps.toList := by
    show (s.cps ++ t.cps).toList = _
    rw [Array.toList_append]
  rw [e] at hc
  rcases List.mem_append.mp hc with hc | hc
  · exact h.c c hc
  · exact h2.c c hc
def snB (n : Nat) (s : Str) : Bool := decide (s.length ≤ n) && s.cps.toList.all fun c => decide (c < 128)
theorem SN.of {n : Nat} {s : Str} (h : snB n s = true) : SN n s := by
  have := Bool.and_eq_true_iff.mp h
  exact ⟨of_decide_eq_true this.1, fun c hc => of_decide_eq_true (List.all_eq_true.mp this.2 c hc)⟩
theorem SN.cut {n : Nat} {s : Str} (h : SN n s) (lo hi : Option Int) : SN n (cutS s lo hi) := by
  refine ⟨?_, fun c hc => h.c c ?_⟩
  · show (Array.size _) ≤ n
    rw [show (cutS s lo hi).cps = ((s.cps.toList.drop (HT.sIx s.length 0 lo)).take (HT.sIx s.length s.length hi - HT.sIx s.length 0 lo)).toArray from rfl, List.size_toArray, List.length_take, List.length_drop, Array.length_toList]
    have := h.l
    have e : s.cps.size = s.length := rfl
    omega
  · have e : (cutS s lo hi).cps.toList = (s.cps.toList.drop (HT.sIx s.length 0 lo)).take (HT.sIx s.length s.length hi - HT.sIx s.length 0 lo) := rfl
    rw [e] at hc
    exact List.mem_of_mem_drop (List.mem_of_mem_take hc)
theorem SN.sign {c : Nat} (h : c < 128) : SN 1 ⟨#[c]⟩ := ⟨Nat.le_refl _, fun d hd => by simp at hd; omega⟩
theorem SN.sml {n : Nat} {s : Str} (h : SN n s) (hn : n ≤ 100000) : Sml n 0 (.str s) := sml_str h.l hn fun c hc => Nat.lt_trans (h.c c hc) (by decide)
def spNames (K : PySem.W.Frag) : Sp := fun vs H Q _ => vs.length = 2 ∧ ∃ (dk cl : Addr) (many : Int) (G : Hp) (m : Nat), vs = [.ref dk, .int many] ∧ Ex G H ∧ Deck G H dk cl m ∧ m ≤ 999999000 ∧ 0 ≤ many ∧ many ≤ 6 ∧
  ∀ (v : V) (ss : List Str) (G' H' : Hp), UpM dk cl G H G' H' → Deck G' H' dk cl (m + 2) → ss.length = many.toNat → (∀ s ∈ ss, SN 9 s) → Da K G' v (.list (ss.map .str)) → Q v H'
theorem strs_of {G : Hp} : ∀ {ss : List Str} {acc : List V}, DaAll K G acc (ss.map .str) → acc = ss.map V.str
  | [], _, h => by cases h; rfl
  | s :: ss, _, h => by
    cases h with
    | cons h1 h2 => cases h1; rw [strs_of h2]; rfl
abbrev words : List Str := Txt.split "case part tag call ask same is not both either yes no and or none one root union take" " " ++ Txt.split "never number plus least most make test gather else rank tags voids" " "
theorem words_ok : (words.all (snB 9) && decide (words.length = 31)) = true := by decide +kernel
theorem letters_ok : (decide (letters.cps.toList.length = 26) && letters.cps.toList.all fun c => decide (c < 128)) = true := by decide +kernel
theorem at_some {α : Type} {xs : List α} {i : Int} (h0 : 0 ≤ i) (h1 : i < xs.length) : ∃ x, atI xs i = some x ∧ x ∈ xs := by
  have hi : i.toNat < xs.length := by omega
  refine ⟨xs[i.toNat], ?_, List.getElem_mem hi⟩
  have := atI_nat (List.getElem?_eq_getElem hi)
  rw [Int.toNat_of_nonneg h0] at this
  exact this
theorem tpar3_of {dk cl : Addr} {σ : L2.St} {F : Hp} {m m' : Nat} {ta : TA} {PA : List PyData → Prop} {i j l : Nat} {u : TS} {D : Ends} {G H : Hp} (h : AvN K dk cl σ F m ta m' PA) (e1 : Ex F G) (e2 : Ex G H) (hD : Deck G H dk cl m)
    (q : ∀ x y z ds G' H', UpM dk cl G H G' H' → Deck G' H' dk cl m' → PA ds → DaAll K G' [x, y, z] ds → u D (((σ.set i (some x)).set j (some y)).set l (some z)) H')
    (hn : ∀ ds, PA ds → ds.length = 3 := by rintro _ ⟨_, _, _, ⟨_, _, _, ⟨_, _, _, rfl, rfl⟩, rfl⟩, rfl⟩; rfl) :
    tSeq (tPar3 i j l ta) u D σ H := h G H e1 e2 hD _ fun vs ds G1 H1 u1 hD1 hp hd => by
  have hl : vs.length = 3 := by rw [hd.length]; exact hn ds hp
  match vs, hl with
  | [x, y, z], _ => exact ⟨x, y, z, rfl, q x y z ds G1 H1 u1 hD1 hp hd⟩
theorem ev_go {σ : L2.St} {G H : Hp} {te : TE} {d : PyData} {Q : VK} (h : EvE K σ G te d) (e : Ex G H) (q : ∀ v G' H', Up G H G' H' → Da K G' v d → Q v H') : te σ H Q :=
  h G H (Ex.rf _) e Q q
theorem UpM.put {dk cl L : Addr} {G H G' H' : Hp} {o : HO} (u : UpM dk cl G H G' H') (hL : H L = none) (gl : G' L = none) : UpM dk cl G H G' (upd H' L o) :=
  ⟨u.g, fun b p e => by rw [upd_ne (ne_of_none e gl)]; exact u.h b p e, fun b p h1 h2 e => by rw [upd_ne (ne_of_none e hL)]; exact u.m b p h1 h2 e, u.n, fun b hb => by
    by_cases z : b = L
    · rw [z, upd_same]; simp
    · rw [upd_ne z]; exact u.t b hb⟩
theorem Deck.put {dk cl L : Addr} {G H : Hp} {o : HO} {m : Nat} (d : Deck G H dk cl m) (h1 : L ≠ dk) (h2 : L ≠ cl) : Deck G (upd H L o) dk cl m := by
  obtain ⟨cs, t, n, a1, a2, a3⟩ := d.ex
  exact ⟨d.ne, d.gd, d.gc, cs, t, n, by rw [upd_ne h1.symm]; exact a1, by rw [upd_ne h2.symm]; exact a2, a3⟩
theorem ListAt.put {L : Addr} {ds : List PyData} {G H : Hp} {acc : List V} {v : V} {d : PyData} (l : ListAt K L ds G H) (_ : H L = some (.lst acc)) (da : DaAll K G acc ds) (h : Da K G v d) : ListAt K L (ds ++ [d]) G (upd H L (.lst (acc ++ [v]))) :=
  ⟨l.gl, _, upd_same, da.append (.cons h .nil)⟩
theorem small2 {a b x y : Nat} (h1 : x ≤ a) (h2 : y ≤ b) (h : a + b ≤ 1000000 := by decide) : x + y ≤ 1000000 := Nat.le_trans (Nat.add_le_add h1 h2) h
theorem elem_ix {σ : L2.St} {F : Hp} {te tj : TE} {ds : List PyData} {i : Int} (h1 : EvE K σ F te (.list ds)) (h2 : EvE K σ F tj (.int i)) (h0 : 0 ≤ i) (hi : i < ds.length)
    (hs : ∀ d ∈ ds, ∃ s, SN 9 s ∧ d = .str s) : ∃ s, SN 9 s ∧ EvE K σ F (tOp (rIxL K) te tj) (.str s) := by
  obtain ⟨d, hd, hm⟩ := at_some h0 hi
  obtain ⟨s, s9, rfl⟩ := hs d hm
  exact ⟨s, s9, e_op h1 h2 (o_ixL hd)⟩
theorem elem_of {σ : L2.St} {F G H : Hp} {te : TE} {Q : VK} (h : ∃ s, SN 9 s ∧ EvE K σ F te (.str s)) (e1 : Ex F G) (e2 : Ex G H)
    (q : ∀ s G' H', SN 9 s → Up G H G' H' → Q (.str s) H') : te σ H Q := by
  obtain ⟨s, s9, he⟩ := h
  exact he G H e1 e2 Q fun v G' H' u d => by cases d; exact q s G' H' s9 u
/-! ### drawn signatures -/
def TagD (d : PyData) : Prop := ∃ s c, d = .tuple [.str s, .int c] ∧ SN 9 s ∧ 0 ≤ c ∧ c ≤ 3
structure TagsD (ds : List PyData) : Prop where
  l : ds.length ≤ 6
  a : ∀ d ∈ ds, TagD d
def spTags (K : PySem.W.Frag) : Sp := fun vs H Q _ => vs.length = 1 ∧ ∃ (dk cl : Addr) (G : Hp) (m : Nat), vs = [.ref dk] ∧ Ex G H ∧ Deck G H dk cl m ∧ m ≤ 999990000 ∧
  ∀ (v : V) (ds : List PyData) (G' H' : Hp), UpM dk cl G H G' H' → Deck G' H' dk cl (m + 9) → TagsD ds → Da K G' v (.tuple ds) → Q v H'
def addD : PyData → PyData → PyData
  | .int a, .int b => .int (a + b)
  | _, _ => .none
def tupD : List PyData → PyData
  | [.list xs] => .tuple xs
  | _ => .none
/-! ### what a bent signature is made of -/
theorem up1_low : ∀ c, c < 128 → up1 c < 128 := by decide +kernel
theorem SN.upper {n : Nat} {s : Str} (h : SN n s) : SN n (Txt.upper s) := by
  rw [upper_ascii h.c]
  refine ⟨?_, fun c hc => ?_⟩
  · show (s.cps.map up1).size ≤ n
    rw [Array.size_map]; exact h.l
  · have hc' : c ∈ (s.cps.map up1).toList := hc
    rw [Array.toList_map] at hc'
    obtain ⟨x, hx, rfl⟩ := List.mem_map.mp hc'
    exact up1_low x (h.c x hx)
abbrev SI (d : PyData) : Prop := Sml 200 2 d
theorem SI.of {w k : Nat} {d : PyData} (h : Sml w k d) (hw : w ≤ 200 := by decide) (hk : k ≤ 2 := by decide) : SI d := h.mono hw hk
theorem SN.si {n : Nat} {s : Str} (h : SN n s) (hn : n ≤ 60 := by decide) : Sml 60 0 (.str s) := (h.sml (by omega)).mono hn (Nat.le_refl _)
theorem si_int {i : Int} (h : i.natAbs < 10 ^ 12 := by omega) : Sml 60 0 (.int i) := sml_int h
theorem si_two {k : Nat} {a b : PyData} (ha : Sml 60 k a) (hb : Sml 60 k b) : Sml 122 (k + 1) (.tuple [a, b]) :=
  Sml.tup (n := 2) (w := 60) (by intro x hx; rcases List.mem_cons.mp hx with rfl | hx; exact ha; rcases List.mem_cons.mp hx with rfl | hx; exact hb; cases hx) (Nat.le_refl _) (by decide)
theorem si_two' {k : Nat} {a b : PyData} (ha : Sml 140 k a) (hb : Sml 140 k b) : Sml 282 (k + 1) (.tuple [a, b]) :=
  Sml.tup (n := 2) (w := 140) (by intro x hx; rcases List.mem_cons.mp hx with rfl | hx; exact ha; rcases List.mem_cons.mp hx with rfl | hx; exact hb; cases hx) (Nat.le_refl _) (by decide)
theorem si_twoL {k : Nat} {a b : PyData} (ha : Sml 60 k a) (hb : Sml 60 k b) : Sml 122 (k + 1) (.list [a, b]) :=
  Sml.lst (n := 2) (w := 60) (by intro x hx; rcases List.mem_cons.mp hx with rfl | hx; exact ha; rcases List.mem_cons.mp hx with rfl | hx; exact hb; cases hx) (Nat.le_refl _) (by decide)
theorem si_one {k : Nat} {a : PyData} (ha : Sml 60 k a) : Sml 61 (k + 1) (.tuple [a]) :=
  Sml.tup (n := 1) (w := 60) (by intro x hx; rcases List.mem_cons.mp hx with rfl | hx; exact ha; cases hx) (Nat.le_refl _) (by decide)
theorem si_three {k : Nat} {a b c : PyData} (ha : Sml 60 k a) (hb : Sml 60 k b) (hc : Sml 60 k c) : Sml 183 (k + 1) (.tuple [a, b, c]) :=
  Sml.tup (n := 3) (w := 60) (by intro x hx; rcases List.mem_cons.mp hx with rfl | hx; exact ha; rcases List.mem_cons.mp hx with rfl | hx; exact hb; rcases List.mem_cons.mp hx with rfl | hx; exact hc; cases hx) (Nat.le_refl _) (by decide)
theorem TagD.si {d : PyData} (h : TagD d) : Sml 122 1 d := by
  obtain ⟨s, c, rfl, s9, c0, c3⟩ := h
  exact si_two s9.si (si_int)
/-- a tuple of at most n small items -/
def SL (n : Nat) (d : PyData) : Prop := ∃ xs, d = .tuple xs ∧ xs.length ≤ n ∧ ∀ x ∈ xs, Sml 300 2 x
theorem okD_of {w k : Nat} {d : PyData} (h : Sml w k d) (hw : w ≤ 100000) (hk : k ≤ 40) : okD d = true := by
  unfold okD
  rw [h.f, h.repOk hw hk]; rfl
theorem SL.ok {n : Nat} {d : PyData} (h : SL n d) (hn : n ≤ 30) : okD d = true := by
  obtain ⟨xs, rfl, hl, hx⟩ := h
  exact okD_of (Sml.tup hx (Nat.le_trans hl hn) (by decide)) (by decide) (by decide)
theorem TagsD.sl {ds : List PyData} (h : TagsD ds) : ∀ x ∈ ds, Sml 300 2 x := fun x hx => (h.a x hx).si.mono (by decide) (by decide)
theorem SL.cut {n : Nat} {xs : List PyData} (h : SL n (.tuple xs)) (lo hi : Option Int) : SL n (.tuple (KD.cutD xs lo hi)) := by
  obtain ⟨_, e, hl, hx⟩ := h
  cases e
  refine ⟨_, rfl, ?_, fun x hm => hx x (List.mem_of_mem_drop (List.mem_of_mem_take hm))⟩
  unfold KD.cutD
  rw [List.length_take, List.length_drop]; omega
theorem SL.rev {n : Nat} {xs : List PyData} (h : SL n (.tuple xs)) : SL n (.tuple xs.reverse) := by
  obtain ⟨_, e, hl, hx⟩ := h
  cases e
  exact ⟨_, rfl, by rw [List.length_reverse]; exact hl, fun x hm => hx x (List.mem_reverse.mp hm)⟩
theorem SL.app {n m : Nat} {xs ys : List PyData} (h : SL n (.tuple xs)) (h2 : SL m (.tuple ys)) : SL (n + m) (.tuple (xs ++ ys)) := by
  obtain ⟨_, e, hl, hx⟩ := h
  obtain ⟨_, e2, hl2, hx2⟩ := h2
  cases e; cases e2
  refine ⟨_, rfl, by rw [List.length_append]; omega, fun x hm => ?_⟩
  rcases List.mem_append.mp hm with h | h
  · exact hx x h
  · exact hx2 x h
/-! the dict of a signature's pairs -/
def vD : V → PyData
  | .int i => .int i
  | _ => .none
def kvOf : List PyData → List (Key × V)
  | .tuple [.str s, .int c] :: r => (.inr s, .int c) :: kvOf r
  | _ :: r => kvOf r
  | [] => []
def KvOk (kv : Key × V) : Prop := ∃ s c, kv = (.inr s, .int c) ∧ SN 9 s ∧ 0 ≤ c ∧ c ≤ 3
theorem kvOf_ok : ∀ {xs : List PyData}, (∀ d ∈ xs, TagD d) → (∀ kv ∈ kvOf xs, KvOk kv) ∧ (kvOf xs).length = xs.length
  | [], _ => ⟨fun _ h => (by cases h), rfl⟩
  | x :: xs, h => by
    obtain ⟨s, c, rfl, s9, c0, c3⟩ := h x List.mem_cons_self
    obtain ⟨a, b⟩ := kvOf_ok (xs := xs) fun d hd => h d (List.mem_cons_of_mem _ hd)
    refine ⟨fun kv hk => ?_, congrArg (· + 1) b⟩
    rcases List.mem_cons.mp hk with rfl | hk
    · exact ⟨s, c, rfl, s9, c0, c3⟩
    · exact a kv hk
theorem putK_ok {kvs : List (Key × V)} {k : Key} {v : V} (h : ∀ kv ∈ kvs, KvOk kv) (hk : KvOk (k, v)) : ∀ kv ∈ putK kvs k v, KvOk kv := by
  intro kv hm
  unfold putK at hm
  split at hm
  · obtain ⟨x, hx, rfl⟩ := List.mem_map.mp hm
    split
    · rename_i e; rw [e]; exact hk
    · exact h x hx
  · rcases List.mem_append.mp hm with h1 | h1
    · exact h kv h1
    · simp at h1; subst h1; exact hk
theorem mergeK_ok : ∀ {more kvs : List (Key × V)}, (∀ kv ∈ kvs, KvOk kv) → (∀ kv ∈ more, KvOk kv) → ∀ kv ∈ mergeK kvs more, KvOk kv
  | [], kvs, h, _ => h
  | (k, v) :: r, kvs, h, h2 => by
    show ∀ kv ∈ mergeK (putK kvs k v) r, KvOk kv
    exact mergeK_ok (putK_ok h (h2 _ List.mem_cons_self)) fun kv hk => h2 kv (List.mem_cons_of_mem _ hk)
def kvD : List (Key × V) → List (PyData × PyData)
  | [] => []
  | kv :: r => (keyD kv.1, vD kv.2) :: kvD r
theorem daKv_of {G : Hp} : ∀ {kvs : List (Key × V)}, (∀ kv ∈ kvs, KvOk kv) → DaKv K G kvs (kvD kvs)
  | [], _ => .nil
  | x :: r, h => by
    obtain ⟨s, c, rfl, _⟩ := h x List.mem_cons_self
    exact .cons (.int c) (daKv_of fun kv hk => h kv (List.mem_cons_of_mem _ hk))
theorem kv_all : ∀ {kvs : List (Key × V)}, (∀ kv ∈ kvs, KvOk kv) → PyData.leavesShortKv 60 (kvD kvs) = true ∧ PyData.showableKv (kvD kvs) = true ∧ noListKv (kvD kvs) = true ∧
    PyData.depthKv (kvD kvs) ≤ 0 ∧ PyData.weightKv (kvD kvs) ≤ 122 * kvs.length
  | [], _ => ⟨rfl, rfl, rfl, Nat.le_refl _, Nat.zero_le _⟩
  | x :: r, h => by
    obtain ⟨a, b, c, d, e⟩ := kv_all (kvs := r) fun kv hk => h kv (List.mem_cons_of_mem _ hk)
    obtain ⟨s, i, rfl, s9, i0, i3⟩ := h x List.mem_cons_self
    have hs : Sml 60 0 (.str s) := s9.si
    have hi : Sml 60 0 (.int i) := si_int
    refine ⟨?_, ?_, ?_, ?_, ?_⟩
    · show ((PyData.str s).leavesShort 60 && (PyData.int i).leavesShort 60 && _) = true
      rw [hs.s, hi.s, a]; rfl
    · show ((PyData.str s).showable && (PyData.int i).showable && _) = true
      rw [hs.h, hi.h, b]; rfl
    · show (noList (.int i) && _) = true
      rw [c]; rfl
    · show max (max (PyData.str s).depth (PyData.int i).depth) _ ≤ 0
      exact Nat.max_le.mpr ⟨Nat.max_le.mpr ⟨hs.p, hi.p⟩, d⟩
    · show (PyData.str s).weight + (PyData.int i).weight + 2 + _ ≤ _
      have h1 := hs.w
      have h2 := hi.w
      rw [List.length_cons, Nat.mul_add]
      omega
theorem okKv {kvs : List (Key × V)} (h : ∀ kv ∈ kvs, KvOk kv) (hl : kvs.length ≤ 100) : okD (.dict (kvD kvs)) = true := by
  obtain ⟨a, b, c, d, e⟩ := kv_all h
  have hs := PyData.shown_le 60 (by decide) (.dict (kvD kvs)) a
  have hw : (PyData.dict (kvD kvs)).weight ≤ 122 * 100 := Nat.le_trans e (Nat.mul_le_mul_left _ hl)
  have hd : (PyData.dict (kvD kvs)).depth ≤ 40 := Nat.le_trans (Nat.succ_le_succ d) (by decide)
  have h1 : (PyData.dict (kvD kvs)).showable = true := b
  have h2 : noList (.dict (kvD kvs)) = true := c
  unfold okD repOk
  rw [h1, h2, decide_eq_true hd, decide_eq_true (Nat.le_trans hs (by omega : _ ≤ 16000000))]
  rfl
def dictD : List PyData → PyData
  | [.list xs] => .dict (kvD (mergeK [] (kvOf xs)))
  | _ => .none
theorem pairs_of {G H : Hp} (eGH : Ex G H) : ∀ {vs : List V} {xs : List PyData}, (∀ d ∈ xs, TagD d) → DaAll K G vs xs → ∃ ps : List Addr, vs = ps.map V.ref ∧ Paired (fun p (kv : Key × V) => SqT K H p [kV kv.1, kv.2]) ps (kvOf xs)
  | _, [], _, h => by cases h; exact ⟨[], rfl, .nil⟩
  | _, x :: xs, ht, h => by
    obtain ⟨s, c, rfl, _⟩ := ht x List.mem_cons_self
    cases h with
    | cons h1 h2 =>
      obtain ⟨ps, rfl, hp⟩ := pairs_of eGH (fun d hd => ht d (List.mem_cons_of_mem _ hd)) h2
      cases h1 with
      | tup e a =>
        rename_i p _
        cases a with | cons a1 a => ?_
        cases a with | cons a2 a => ?_
        cases a; cases a1; cases a2
        exact ⟨p :: ps, rfl, .cons (SqT.of (eGH _ _ e)) hp⟩
theorem c_dictL {xs : List PyData} (ht : ∀ d ∈ xs, TagD d) : CaD K (rDictQ K) [.list xs] (dictD [.list xs]) := fun G H vs e d Q q => by
  cases d with
  | cons d1 d2 =>
    cases d2
    cases d1 with
    | lst h1 a1 =>
      rename_i a ws
      obtain ⟨ps, rfl, hp⟩ := pairs_of e ht a1
      refine ⟨_, ps, _, rfl, SqL.of (e _ _ h1), hp, fun p hf => ?_⟩
      exact q _ _ _ (Up.new e hf _) (.dic upd_same (daKv_of (mergeK_ok (by intro _ h; cases h) (kvOf_ok ht).1)))
/-! ### bent signatures -/
section
variable {dk cl : Addr} {σ : L2.St} {F : Hp} {m m1 m2 m' n a b : Nat} {te ta tb tj : TE} {as : TA} {R : PyData → Prop}
def catTD : PyData → PyData → PyData
  | .tuple a, .tuple b => .tuple (a ++ b)
  | _, _ => .none
def catLD : PyData → PyData → PyData
  | .list a, .list b => .list (a ++ b)
  | _, _ => .none
def repLD (n : Nat) : PyData → PyData → PyData
  | .list a, _ => .list (List.replicate n a).flatten
  | _, _ => .none
def ixLD (i : Int) : PyData → PyData → PyData
  | .list a, _ => (atI a i).getD .none
  | _, _ => .none
theorem nv_go {G H : Hp} {Q : VK} {P : PyData → Prop} (h : EvN K dk cl σ G m te m' P) (e : Ex G H) (hD : Deck G H dk cl m)
    (q : ∀ v d G' H', UpM dk cl G H G' H' → Deck G' H' dk cl m' → P d → Da K G' v d → Q v H') : te σ H Q := h G H (Ex.rf _) e hD Q q
theorem st_set {i : Nat} {u : TS} {D : Ends} {G H : Hp} {P : PyData → Prop} (h : EvN K dk cl σ G m te m' P) (e : Ex G H) (hD : Deck G H dk cl m)
    (q : ∀ v d G' H', UpM dk cl G H G' H' → Deck G' H' dk cl m' → P d → Da K G' v d → u D (σ.set i (some v)) H') : tSeq (tAsg te (gName i)) u D σ H :=
  h G H (Ex.rf _) e hD _ fun v d G' H' u hD' p dv => q v d G' H' u hD' p dv
theorem st_ret {D : Ends} {G H : Hp} {P : PyData → Prop} (h : EvN K dk cl σ G m te m' P) (e : Ex G H) (hD : Deck G H dk cl m)
    (q : ∀ v d G' H', UpM dk cl G H G' H' → Deck G' H' dk cl m' → P d → Da K G' v d → D.rt v H') : tRet te D σ H :=
  h G H (Ex.rf _) e hD _ fun v d G' H' u hD' p dv => q v d G' H' u hD' p dv
theorem s_pure {xs : List PyData} (h : EvE K σ F te (.tuple xs)) (hs : SL n (.tuple xs)) : EvN K dk cl σ F m te m (SL n) := (n_pure h).imp fun d e => e ▸ hs
theorem s_cat (h1 : EvN K dk cl σ F m ta m1 (SL a)) (h2 : EvN K dk cl σ F m1 tb m2 (SL b)) (hn : a + b ≤ 1000 := by decide) : EvN K dk cl σ F m (tOp (rCatA K) ta tb) m2 (SL (a + b)) :=
  (n_op (f := catTD) h1 (fun _ _ => h2) (by rintro _ _ ⟨xs, rfl, h, _⟩ ⟨ys, rfl, h', _⟩; exact o_catT (by omega))).imp
    (by rintro _ ⟨_, _, ⟨xs, rfl, hx⟩, ⟨ys, rfl, hy⟩, rfl⟩; exact SL.app ⟨xs, rfl, hx⟩ ⟨ys, rfl, hy⟩)
theorem s_one (h : EvN K dk cl σ F m te m' (fun d => Sml 300 2 d)) : EvN K dk cl σ F m (tTup (tCons te tNil)) m' (SL 1) :=
  (n_tup (an_cons h fun _ _ => an_nil) (by rintro _ ⟨_, _, _, rfl, rfl⟩; exact (show 1 ≤ 100000 by decide))).imp
    (by rintro _ ⟨_, ⟨x, _, hx, rfl, rfl⟩, rfl⟩; exact ⟨_, rfl, Nat.le_refl _, by intro y hy; rcases List.mem_cons.mp hy with rfl | hy; exact hx; cases hy⟩)
structure AllR (R : PyData → Prop) (n : Nat) (ds : List PyData) : Prop where
  l : ds.length = n
  a : ∀ d ∈ ds, R d
def NL (R : PyData → Prop) (n : Nat) (d : PyData) : Prop := ∃ xs, d = .list xs ∧ AllR R n xs
theorem ak_nil : AvN K dk cl σ F m tNil m (AllR R 0) := an_nil.imp fun _ e => e ▸ ⟨rfl, fun _ h => by cases h⟩
theorem ak_cons (h : EvN K dk cl σ F m te m1 R) (hr : AvN K dk cl σ F m1 as m2 (AllR R n)) : AvN K dk cl σ F m (tCons te as) m2 (AllR R (n + 1)) :=
  (an_cons h fun _ _ => hr).imp (by
    rintro _ ⟨x, r, hx, hr, rfl⟩
    exact ⟨congrArg (· + 1) hr.l, fun d hd => by
      rcases List.mem_cons.mp hd with rfl | hd
      · exact hx
      · exact hr.a d hd⟩)
theorem l_of (h : AvN K dk cl σ F m as m' (AllR R n)) (hn : n ≤ 1000 := by decide) : EvN K dk cl σ F m (tLst as) m' (NL R n) :=
  (n_lst h (by intro ds hd; have := hd.l; omega)).imp (by rintro _ ⟨ds, hd, rfl⟩; exact ⟨ds, rfl, hd⟩)
theorem l_cat (h1 : EvN K dk cl σ F m ta m1 (NL R a)) (h2 : EvN K dk cl σ F m1 tb m2 (NL R b)) (hn : a + b ≤ 1000 := by decide) : EvN K dk cl σ F m (tOp rCat ta tb) m2 (NL R (a + b)) :=
  (n_op (f := catLD) h1 (fun _ _ => h2) (by rintro _ _ ⟨xs, rfl, h, _⟩ ⟨ys, rfl, h', _⟩; exact o_cat (by omega))).imp
    (by
      rintro _ ⟨_, _, ⟨xs, rfl, hx⟩, ⟨ys, rfl, hy⟩, rfl⟩
      exact ⟨_, rfl, by rw [List.length_append, hx.l, hy.l], fun d hd => (List.mem_append.mp hd).elim (hx.a d) (hy.a d)⟩)
theorem l_rep (h1 : EvN K dk cl σ F m ta m1 (NL R 1)) : EvN K dk cl σ F m (tOp rRep ta (tC (.int 6))) m1 (NL R 6) :=
  (n_op (f := repLD 6) h1 (fun _ _ => n_pure (d := .int 6) e_int) (by rintro _ _ ⟨xs, rfl, h, _⟩ rfl; exact o_rep (n := 6) (by omega) (by decide))).imp
    (by
      rintro _ ⟨_, _, ⟨xs, rfl, hx⟩, rfl, rfl⟩
      refine ⟨_, rfl, ?_, fun d hd => ?_⟩
      · rw [List.length_flatten, List.map_replicate, hx.l]; rfl
      · obtain ⟨ys, hy, hd⟩ := List.mem_flatten.mp hd
        rw [List.mem_replicate] at hy
        rw [hy.2] at hd
        exact hx.a d hd)
theorem l_ix {i : Int} (h1 : EvN K dk cl σ F m ta m1 (NL R n)) (h2 : EvE K σ F tj (.int i)) (h0 : 0 ≤ i) (hi : i < n) : EvN K dk cl σ F m (tOp (rIxL K) ta tj) m1 R :=
  (n_op (f := ixLD i) h1 (fun _ _ => n_pure h2) (by
    rintro _ _ ⟨xs, rfl, h⟩ rfl
    obtain ⟨d, hd, hm⟩ := at_some (xs := xs) h0 (by rw [h.l]; exact hi)
    refine o_ixL ?_
    show _ = some ((atI xs i).getD .none)
    rw [hd]; rfl)).imp
    (by
      rintro _ ⟨_, _, ⟨xs, rfl, h⟩, rfl, rfl⟩
      obtain ⟨d, hd, hm⟩ := at_some (xs := xs) h0 (by rw [h.l]; exact hi)
      show R ((atI xs i).getD .none)
      rw [hd]
      exact h.a d hm)
abbrev R3 (d : PyData) : Prop := Sml 300 2 d
abbrev RO (d : PyData) : Prop := okD d = true
theorem i_of {w k : Nat} {d : PyData} (h : EvE K σ F te d) (hs : Sml w k d) (hw : w ≤ 300 := by decide) (hk : k ≤ 2 := by decide) : EvN K dk cl σ F m te m R3 :=
  (n_pure h).imp fun _ e => e ▸ hs.mono hw hk
theorem s_ok (h : EvN K dk cl σ F m te m' (SL n)) (hn : n ≤ 30 := by decide) : EvN K dk cl σ F m te m' RO := h.imp fun _ p => p.ok hn
theorem tpar2_of {PA : List PyData → Prop} {i j : Nat} {u : TS} {D : Ends} {G H : Hp} (h : AvN K dk cl σ F m as m' PA) (e1 : Ex F G) (e2 : Ex G H) (hD : Deck G H dk cl m)
    (q : ∀ x y ds G' H', UpM dk cl G H G' H' → Deck G' H' dk cl m' → PA ds → DaAll K G' [x, y] ds → u D ((σ.set i (some x)).set j (some y)) H')
    (hn : ∀ ds, PA ds → ds.length = 2 := by rintro _ ⟨_, _, _, ⟨_, _, _, rfl, rfl⟩, rfl⟩; rfl) :
    tSeq (tPar i j as) u D σ H := h G H e1 e2 hD _ fun vs ds G1 H1 u1 hD1 hp hd => by
  have hl : vs.length = 2 := by rw [hd.length]; exact hn ds hp
  match vs, hl with
  | [x, y], _ => exact ⟨x, y, rfl, q x y ds G1 H1 u1 hD1 hp hd⟩
/-! a pair of a name and a count -/
def PrE (K : PySem.W.Frag) (σ : L2.St) (F : Hp) (te : TE) : Prop := ∃ s c, (SN 9 s ∧ 0 ≤ c ∧ c ≤ 3) ∧ EvE K σ F te (.tuple [.str s, .int c])
theorem pr_if {tt : TT} {b : Bool} (h : EvT σ F tt b) (h1 : b = true → PrE K σ F ta) (h2 : PrE K σ F tb) : PrE K σ F (tIf tt ta tb) := by
  cases b with
  | true =>
    obtain ⟨s, c, hs, he⟩ := h1 rfl
    exact ⟨s, c, hs, (e_if (y := .none) h (fun _ => he) fun z => by cases z).is rfl⟩
  | false =>
    obtain ⟨s, c, hs, he⟩ := h2
    exact ⟨s, c, hs, (e_if (x := .none) h (fun z => by cases z) fun _ => he).is rfl⟩
theorem pr_go {G H : Hp} {Q : VK} (h : PrE K σ G te) (e : Ex G H)
    (q : ∀ s c v G' H', (SN 9 s ∧ 0 ≤ c ∧ c ≤ 3) → Up G H G' H' → Da K G' v (.tuple [.str s, .int c]) → Q v H') : te σ H Q := by
  obtain ⟨s, c, hs, he⟩ := h
  exact ev_go he e fun v G' H' u d => q s c v G' H' hs u d
end
/-! ### a list that is added to, and the deck beside it -/
structure Lp (K : PySem.W.Frag) (dk cl L : Addr) (R : PyData → Prop) (n : Nat) (ds : List PyData) (G H : Hp) (m : Nat) : Prop where
  e : Ex G H
  d : Deck G H dk cl m
  l : ListAt K L ds G H
  n1 : L ≠ dk
  n2 : L ≠ cl
  len : ds.length = n
  all : ∀ d ∈ ds, R d
section
variable {dk cl L : Addr} {σ : L2.St} {F : Hp} {m m1 m2 m' n a b : Nat} {te ta tb tj : TE} {as : TA} {R : PyData → Prop} {ds : List PyData} {G H G1 H1 : Hp}
theorem Lp.up (I : Lp K dk cl L R n ds G H m) (u : UpM dk cl G H G1 H1) (hD : Deck G1 H1 dk cl m') : Lp K dk cl L R n ds G1 H1 m' :=
  ⟨u.h, hD, I.l.upM I.n1 I.n2 u, I.n1, I.n2, I.len, I.all⟩
theorem Lp.upP (I : Lp K dk cl L R n ds G H m) (u : Up G H G1 H1) : Lp K dk cl L R n ds G1 H1 m := I.up u.toM (I.d.up u)
theorem Lp.put {acc : List V} {v : V} {d : PyData} (I : Lp K dk cl L R n ds G H m) (h1 : H L = some (.lst acc)) (h2 : DaAll K G acc ds) (hv : Da K G v d) (hr : R d) :
    Lp K dk cl L R (n + 1) (ds ++ [d]) G (upd H L (.lst (acc ++ [v]))) m :=
  ⟨fun b o e => by rw [upd_ne (ne_of_none e I.l.gl)]; exact I.e b o e, I.d.put I.n1 I.n2, I.l.put h1 h2 hv, I.n1, I.n2, by rw [List.length_append, I.len]; rfl, fun x hx => by
    rcases List.mem_append.mp hx with h | h
    · exact I.all x h
    · rcases List.mem_cons.mp h with rfl | h
      · exact hr
      · cases h⟩
theorem do_append {i : Nat} {D : Ends} (hv : σ[i]? = some (some (.ref L))) (I : Lp K dk cl L R n ds G H m) (h : EvN K dk cl σ G m te m' R) (hn : n ≤ 100000)
    (q : ∀ ds' G' H', Ex G G' → Lp K dk cl L R (n + 1) ds' G' H' m' → D.nx σ H') : tDrop (tBM K "list" rAppend (tVar i) (tCons te tNil)) D σ H := by
  obtain ⟨acc, ea, _⟩ := I.l.ex
  refine ⟨.ref L, hv, .inl ⟨rfl, acc, SqL.of ea⟩, h G H (Ex.rf _) I.e I.d _ fun v d G1 H1 u1 hD1 p dv => ?_⟩
  have I1 := I.up u1 hD1
  obtain ⟨acc1, ea1, da1⟩ := I1.l.ex
  refine ⟨L, acc1, v, rfl, rfl, ea1, ?_, q _ G1 _ u1.g (I1.put ea1 da1 dv p)⟩
  rw [da1.length, I.len]
  exact Nat.lt_of_le_of_lt hn (by decide)
theorem st_append {i : Nat} {u : TS} {D : Ends} (hv : σ[i]? = some (some (.ref L))) (I : Lp K dk cl L R n ds G H m) (h : EvN K dk cl σ G m te m' R) (hn : n ≤ 100000)
    (q : ∀ ds' G' H', Ex G G' → Lp K dk cl L R (n + 1) ds' G' H' m' → u D σ H') : tSeq (tDrop (tBM K "list" rAppend (tVar i) (tCons te tNil))) u D σ H :=
  do_append (D := { D with nx := u D }) hv I h hn q
/-- some = some + [..], the new list kept apart -/
theorem st_catL {i : Nat} {u : TS} {D : Ends} (h1 : EvN K dk cl σ G m ta m1 (NL R a)) (h2 : EvN K dk cl σ G m1 tb m2 (NL R b)) (e : Ex G H) (hD : Deck G H dk cl m) (hn : a + b ≤ 1000)
    (q : ∀ L ds G' H', Ex G G' → Lp K dk cl L R (a + b) ds G' H' m2 → u D (σ.set i (some (.ref L))) H') : tSeq (tAsg (tOp rCat ta tb) (gName i)) u D σ H := by
  refine h1 G H (Ex.rf _) e hD _ fun v d1 G1 H1 u1 hD1 p1 x1 => h2 G1 H1 u1.g u1.h hD1 _ fun w d2 G2 H2 u2 hD2 p2 x2 => ?_
  obtain ⟨l1, rfl, p1⟩ := p1
  obtain ⟨l2, rfl, p2⟩ := p2
  cases x1 with | lst k1 a1 => ?_
  cases x2 with | lst k2 a2 => ?_
  have k1' := u2.h _ _ (u2.g _ _ k1)
  refine ⟨_, _, _, _, rfl, rfl, k1', u2.h _ _ k2, ?_, fun L hL => ?_⟩
  · rw [a1.length, a2.length, p1.l, p2.l]
    exact Nat.le_trans hn (by decide)
  · refine q L (l1 ++ l2) G2 _ (u1.g.tr u2.g) ⟨u2.h.tr (Ex.up hL), hD2.up (?_ : Up G2 H2 G2 _), ⟨u2.h.fresh hL, _, upd_same, (a1.mono u2.g).append a2⟩, fun z => hD2.dn (by rw [← z]; exact hL), fun z => hD2.cn (by rw [← z]; exact hL), ?_, ?_⟩
    · exact ⟨Ex.rf _, u2.h.tr (Ex.up hL), Ex.up hL, fun _ _ h => h⟩
    · rw [List.length_append, p1.l, p2.l]
    · exact fun d hd => (List.mem_append.mp hd).elim (p1.a d) (p2.a d)
theorem st_guard {tt : TT} {t u : TS} {D : Ends} (h : EvT σ G tt false) (e : Ex G H) (q : ∀ G' H', Up G H G' H' → u D σ H') : tSeq (tIfS tt t tNext) u D σ H :=
  h G H (Ex.rf _) e _ fun G1 H1 u1 => iteF (q G1 H1 u1)
theorem e_dnew : EvE K σ F tDNewK (.dict []) := fun G H _ e2 Q q => fun p hp => q _ _ _ (Up.new e2 hp _) (.dic upd_same .nil)
theorem i_ok {d : PyData} (h : EvE K σ F te d) (hs : okD d = true := by decide +kernel) : EvN K dk cl σ F m te m RO := (n_pure h).imp fun _ e => e ▸ hs
/-- no item fails: [x for x in xs if not right(x)] is empty -/
theorem e_none {wi : TI} {i : Nat} {E : XK} (hi : EvI K σ F wi ds) (hok : ∀ d ∈ ds, okD d = true) (hz : ds.length ≤ 100000) (hw : decide (i < σ.length) = true := by rfl) :
    EvE K σ F (tLc wi (gName i) (tNot (tB (tCall (spP K 1 (fun ds => ds.all okD = true) fun _ => .bool true) [] E (tCons (tVar i) tNil)))) (tVar i) [i]) (.list []) :=
  (e_lc1f (p := fun _ => false) (f := fun d => d) hi hz fun d hd F' v _ dv =>
    ⟨(t_not (t_val (b := true) (e_call (a_cons (e_var (by rw [List.getElem?_set_self (by rw [wipe_length]; exact of_decide_eq_true hw)]) dv) a_nil) rfl (by simpa using hok d hd)))).is rfl, fun z => by cases z⟩).is
    (by rw [List.filter_eq_nil_iff.mpr (fun _ _ z => by cases z)]; rfl)
/-- for x, y in a tuple of pairs, with a list and the deck beside it -/
theorem n_right {E : XK} (h : EvN K dk cl σ F m te m' (fun d => okD d = true)) :
    EvN K dk cl σ F m (tCall (spP K 1 (fun ds => ds.all okD = true) fun _ => .bool true) [] E (tCons te tNil)) m' (fun d => d = .bool true) :=
  (n_call (an_cons h fun _ _ => an_nil) (by rintro _ ⟨_, _, _, rfl, rfl⟩; rfl) (by rintro _ ⟨x, _, hx, rfl, rfl⟩; simpa using hx)).imp (by rintro _ ⟨_, _, rfl⟩; rfl)
/-- if not a or not b: .., where both hold -/
theorem do_guard2 {t : TS} {D : Ends} (h1 : EvN K dk cl σ G m ta m1 (fun d => d = .bool true)) (h2 : ∀ G', Ex G G' → EvN K dk cl σ G' m1 tb m2 (fun d => d = .bool true)) (e : Ex G H) (hD : Deck G H dk cl m)
    (q : ∀ G' H', UpM dk cl G H G' H' → Deck G' H' dk cl m2 → D.nx σ H') : tIfS (tOr (tNot (tB ta)) (tNot (tB tb))) t tNext D σ H := by
  refine h1 G H (Ex.rf _) e hD _ fun v d G1 H1 u1 hD1 p1 x1 => ?_
  subst p1
  cases x1
  refine ⟨true, rfl, iteF (h2 G1 u1.g G1 H1 (Ex.rf _) u1.h hD1 _ fun v d G2 H2 u2 hD2 p2 x2 => ?_)⟩
  subst p2
  cases x2
  exact ⟨true, rfl, iteF (q G2 H2 (u1.tr u2) hD2)⟩
end
section
variable {dk cl L : Addr} {m n : Nat} {ds : List PyData}
def addSD : PyData → PyData → PyData
  | .str a, .str b => .str (a ++ b)
  | _, _ => .none
theorem five_ok : ∀ d ∈ ([.str "", .str "a", .str "A", .str " ", .str "aaaaa"] : List PyData), ∃ t, d = .str t ∧ SN 5 t :=
  List.forall_mem_cons.mpr ⟨⟨_, rfl, SN.of (by decide +kernel)⟩, List.forall_mem_cons.mpr ⟨⟨_, rfl, SN.of (by decide +kernel)⟩, List.forall_mem_cons.mpr ⟨⟨_, rfl, SN.of (by decide +kernel)⟩,
    List.forall_mem_cons.mpr ⟨⟨_, rfl, SN.of (by decide +kernel)⟩, List.forall_mem_cons.mpr ⟨⟨_, rfl, SN.of (by decide +kernel)⟩, fun _ h => by cases h⟩⟩⟩⟩⟩
theorem Lp.cast {L : Addr} {R : PyData → Prop} {n' m' : Nat} {G H : Hp} (I : Lp K dk cl L R n ds G H m) (hn : n = n') (hm : m ≤ m') : Lp K dk cl L R n' ds G H m' :=
  ⟨I.e, I.d.mono hm, I.l, I.n1, I.n2, hn ▸ I.len, I.all⟩
end
end
end KD
set_option Elab.async false
set_option linter.all false
set_option maxRecDepth 100000
set_option maxHeartbeats 1000000
namespace KD
open PySem PySem.Spec PyProof.Rows L2
/-! ### loops that may return -/
/-- t returns z (some z) or goes on (none); but for vs the state is kept -/
def BodE (K : PySem.W.Frag) (σ : L2.St) (F : Hp) (vs : List Nat) (t : TS) (o : Option PyData) : Prop :=
  ∀ G H, Ex F G → Ex G H → ∀ D : Ends, (∀ z, o = some z → ∀ v G' H', Up G H G' H' → Da K G' v z → D.rt v H') →
    (o = none → ∀ σ' G' H', wipe σ' vs = wipe σ vs → Up G H G' H' → D.nx σ' H') → t D σ H
section
variable {K : PySem.W.Frag} {σ : L2.St} {F : Hp} {vs : List Nat} {t u tb : TS} {o o2 : Option PyData} {y z : PyData} {tt : TT} {te : TE} {b : Bool}
theorem BodE.is {o' : Option PyData} (h : BodE K σ F vs t o) (e : o = o') : BodE K σ F vs t o' := e ▸ h
theorem b_guard (h : EvT σ F tt b) (h1 : b = true → EvE K σ F te z) : BodE K σ F vs (tIfS tt (tRet te) tNext) (bif b then some z else none) :=
  fun G H e1 e2 D q1 q2 => h G H e1 e2 _ fun G1 H1 u1 => by
    cases b with
    | true => exact iteT (h1 rfl G1 H1 (e1.tr u1.g) u1.h _ fun w G2 H2 u2 d2 => q1 z rfl w G2 H2 (u1.tr u2) d2)
    | false => exact iteF (q2 rfl σ G1 H1 rfl u1)
theorem b_seq (h1 : BodE K σ F vs t o) (h2 : o = none → ∀ σ' F', wipe σ' vs = wipe σ vs → Ex F F' → BodE K σ' F' vs u o2) :
    BodE K σ F vs (tSeq t u) (o.or o2) :=
  fun G H e1 e2 D q1 q2 => h1 G H e1 e2 _ (fun z hz v G1 H1 u1 d1 => q1 z (by rw [hz, Option.some_or]) v G1 H1 u1 d1) fun hn σ1 G1 H1 hw u1 =>
    h2 hn σ1 G1 hw (e1.tr u1.g) G1 H1 (Ex.rf _) u1.h D (fun z hz v G2 H2 u2 d2 => q1 z (by rw [hn, Option.none_or]; exact hz) v G2 H2 (u1.tr u2) d2)
      fun hz σ2 G2 H2 hw2 u2 => q2 (by rw [hn, Option.none_or]; exact hz) σ2 G2 H2 (hw2.trans hw) (u1.tr u2)
theorem r_body (h : BodE K σ F vs t o) (hu : o = none → ∀ σ' F', wipe σ' vs = wipe σ vs → Ex F F' → RetE K σ' F' u y) : RetE K σ F (tSeq t u) (o.getD y) :=
  fun G H e1 e2 D q => h G H e1 e2 _ (fun z hz v G1 H1 u1 d1 => q v G1 H1 u1 (by rw [hz]; exact d1)) fun hn σ1 G1 H1 hw u1 =>
    hu hn σ1 G1 hw (e1.tr u1.g) G1 H1 (Ex.rf _) u1.h D fun w G2 H2 u2 d2 => q w G2 H2 (u1.tr u2) (by rw [hn]; exact d2)
theorem b_for {wi : TI} {g : TG} {ds : List PyData} {p : PyData → Bool} (hi : EvI K σ F wi ds)
    (ht : ∀ d ∈ ds, ∀ σ0, wipe σ0 vs = wipe σ vs → ∃ P, Tg K g σ0 d P ∧ ∀ F' σ', Ex F F' → P F' σ' →
      wipe σ' vs = wipe σ vs ∧ BodE K σ' F' vs tb (bif p d then none else some z)) :
    BodE K σ F vs (tFor wi g tb) (bif ds.all p then none else some z) := fun G H e1 e2 D q1 q2 => hi G H e1 e2 _ fun J G1 H1 u1 wk => by
  refine ⟨fun i m σ' H' => m = ds.length - i ∧ i ≤ ds.length ∧ wipe σ' vs = wipe σ vs ∧ (ds.take i).all p = true ∧ ∃ G', Up G1 H1 G' H',
    ⟨_, rfl, Nat.zero_le _, rfl, rfl, G1, Up.rf u1.h⟩, ?_⟩
  rintro i m σ' H' ⟨rfl, hi', hw, hp, G', u'⟩
  obtain ⟨w1, w2⟩ := wk i G' H' u'.g u'.h
  by_cases hlt : i < ds.length
  · obtain ⟨hgo, hy⟩ := w1 _ (List.getElem?_eq_getElem hlt)
    have hm : ds[i] ∈ ds := List.getElem_mem hlt
    have tk : (ds.take (i + 1)) = ds.take i ++ [ds[i]] := by rw [List.take_add_one, List.getElem?_eq_getElem hlt]; rfl
    refine .inr ⟨hgo, fun σ2 H2 => wipe σ2 vs = wipe σ vs ∧ (ds.take (i + 1)).all p = true ∧ ∃ G2, Up G1 H1 G2 H2, ?_, ?_⟩
    · rintro σ2 H2 ⟨a, b, c⟩
      exact ⟨ds.length - (i + 1), by omega, rfl, hlt, a, b, c⟩
    · intro x H3 hyl
      obtain ⟨G3, u3, dx⟩ := hy x H3 hyl
      obtain ⟨P, tg, body⟩ := ht _ hm σ' hw
      refine tg G3 H3 x u3.h dx _ fun σ2 hP => ?_
      have e3 := (e1.tr u1.g).tr (u'.g.tr u3.g)
      obtain ⟨hw2, hb⟩ := body G3 σ2 e3 hP
      refine hb G3 H3 (Ex.rf _) u3.h _ (fun z' hz v G4 H4 u4 d4 => ?_) fun hn σ4 G4 H4 hw4 u4 => ⟨hw4.trans hw2, ?_, G4, (u'.tr u3).tr u4⟩
      · have hpf : p ds[i] = false := by
          cases e : p ds[i] with
          | true => rw [e] at hz; cases hz
          | false => rfl
        rw [hpf] at hz
        refine q1 z' ?_ v G4 H4 ((u1.tr (u'.tr u3)).tr u4) d4
        have : ds.all p = false := by
          rw [List.all_eq_false]
          exact ⟨_, hm, by rw [hpf]; simp⟩
        rw [this]; exact hz
      · have hpt : p ds[i] = true := by
          cases e : p ds[i] with
          | true => rfl
          | false => rw [e] at hn; cases hn
        rw [tk, List.all_append, hp]
        simp [hpt]
  · have hle : ds.length ≤ i := by omega
    refine .inl ⟨w2 (by omega), q2 ?_ σ' G' H' hw (u1.tr u')⟩
    rw [List.take_of_length_le hle] at hp
    rw [hp]; rfl
theorem set_none_get {σ : L2.St} {i k : Nat} (h : k ≠ i) : (σ.set i none)[k]? = σ[k]? := by
  rw [List.getElem?_set_ne (fun e => h e.symm)]
theorem wipe_get {k : Nat} : ∀ {vs : List Nat} {σ : L2.St}, k ∉ vs → (wipe σ vs)[k]? = σ[k]?
  | [], _, _ => rfl
  | v :: vs, σ, h => by
    show ((wipe σ vs).set v none)[k]? = _
    rw [set_none_get (fun e => h (by rw [e]; exact List.mem_cons_self))]
    exact wipe_get fun e => h (List.mem_cons_of_mem _ e)
theorem get_of_wipe {σ σ' : L2.St} {k : Nat} (h : wipe σ' vs = wipe σ vs) (hk : k ∉ vs) : σ'[k]? = σ[k]? := by
  rw [← wipe_get hk (σ := σ'), h, wipe_get hk]
end
/-! ### dicts by their keys -/
section
variable {K : PySem.W.Frag} {σ : L2.St} {F : Hp} {td ty te : TE}
def getKv : List (PyData × PyData) → Str → Option PyData
  | [], _ => none
  | (.str t, v) :: r, s => if t = s then some v else getKv r s
  | _ :: r, s => getKv r s
theorem getKv_of {G : Hp} {s : Str} : ∀ {kvs : List (Key × V)} {ds : List (PyData × PyData)}, DaKv K G kvs ds →
    (getKv ds s = none ∧ valV kvs (.inr s) = none) ∨ ∃ d v, getKv ds s = some d ∧ valV kvs (.inr s) = some v ∧ Da K G v d
  | _, [], h => by cases h; exact .inl ⟨rfl, rfl⟩
  | _, _ :: ds, h => by
    cases h with
    | cons hd hr =>
      rename_i k v vs d
      cases k with
      | inl i =>
        have := getKv_of (s := s) hr
        rw [valV_neg (by simp)]
        exact this
      | inr t =>
        by_cases e : t = s
        · subst e
          exact .inr ⟨d, v, by simp [getKv, keyD], valV_pos rfl, hd⟩
        · rw [valV_neg (by simpa using e)]
          simp only [getKv, keyD, if_neg e]
          exact getKv_of hr
theorem e_dget {kvs : List (PyData × PyData)} {s : Str} {d : PyData} (h1 : EvE K σ F td (.dict kvs)) (h2 : EvE K σ F ty (.str s)) (hg : getKv kvs s = some d) : EvE K σ F (tDGet td ty) d :=
  fun G H e1 e2 Q q => h1 G H e1 e2 _ fun v G1 H1 u1 d1 => h2 G1 H1 (e1.tr u1.g) u1.h _ fun w G2 H2 u2 d2 => by
    cases d2
    cases d1 with
    | dic ha hk =>
      rcases getKv_of (s := s) hk with ⟨n1, _⟩ | ⟨d', v', g1, g2, dv⟩
      · rw [n1] at hg; cases hg
      · rw [g1] at hg; cases hg
        have e := DGet.k (k := .inr s) (u2.h _ _ (u2.g _ _ ha))
        rw [g2] at e
        exact ⟨_, v', rfl, e, q v' G2 H2 (u1.tr u2) (dv.mono u2.g)⟩
theorem e_dnotin {kvs : List (PyData × PyData)} {s : Str} (h1 : EvE K σ F ty (.str s)) (h2 : EvE K σ F td (.dict kvs)) : EvE K σ F (tDNotIn ty td) (.bool (!(getKv kvs s).isSome)) :=
  fun G H e1 e2 Q q => h1 G H e1 e2 _ fun w G1 H1 u1 d1 => h2 G1 H1 (e1.tr u1.g) u1.h _ fun v G2 H2 u2 d2 => by
    cases d1
    cases d2 with
    | dic ha hk =>
      refine ⟨_, _, rfl, DGet.k (k := .inr s) (u2.h _ _ ha), q _ G2 H2 (u1.tr u2) ?_⟩
      rcases getKv_of (s := s) hk with ⟨n1, n2⟩ | ⟨d', v', g1, g2, dv⟩
      · rw [n1, n2]; exact .bl _
      · rw [g1, g2]; exact .bl _
end
end KD
set_option Elab.async false
set_option linter.all false
set_option maxRecDepth 100000
set_option maxHeartbeats 1000000
namespace KD
open PySem PySem.Spec PyProof.Rows L2
/-! ### it == () -/
def rEqT0 (K : PySem.W.Frag) : R2 := fun x y H Q => ∃ d, Da K H x (.tuple d) ∧ Da K H y (.tuple []) ∧ Q (.bl d.isEmpty) H
theorem op_eqT0 {X : Cx} (hu : X.A.units + 64 < cLine) : OpR X (compareOp .Eq) (rEqT0 X.K) := by
  intro pins s σ H x y v u Q I rx ry h
  obtain ⟨d, hd, he, q⟩ := h
  cases hd with
  | tup h1 a1 => cases he with
    | tup h2 a2 =>
      cases rx; cases ry
      cases a2
      obtain ⟨_, its, rv, ho⟩ := I.hok _ _ h1
      obtain ⟨_, its2, rv2, ho2⟩ := I.hok _ _ h2
      have e1 := rv.length; have e2 := rv2.length; have e3 := a1.length
      have z2 : its2 = [] := List.length_eq_zero_iff.mp (by simpa using e2.symm)
      subst z2
      refine SeqAt.eq_tupleAt (e := fun _ => true) ho ho2 (by omega) (fun j j1 j2 => by simp at j2) ⟨.bl _, H, I, rfl, ?_⟩
      have : ((List.range (min its.toArray.size ([] : List Value).toArray.size)).all (fun _ => true) && its.toArray.size == ([] : List Value).toArray.size) = d.isEmpty := by
        have hz : its.length = d.length := by omega
        clear e1 e2 e3 a1 q
        cases d with
        | nil =>
          have : its = [] := List.length_eq_zero_iff.mp hz
          subst this; rfl
        | cons y r =>
          cases its with
          | nil => cases hz
          | cons a b => simp
      rw [this]; exact q
theorem op_eqT0K (K : PySem.W.Frag) {X : Cx} (hu : X.A.units + 64 < cLine) (h : X.K = K := by rfl) : OpR X (compareOp .Eq) (rEqT0 K) := h ▸ op_eqT0 hu
theorem o_eqT0 {K : PySem.W.Frag} {xs : List PyData} : OpD K (rEqT0 K) (.tuple xs) (.tuple []) (.bool xs.isEmpty) := fun G H v u e d1 d2 Q q => by
  exact ⟨xs, d1.mono e, d2.mono e, q _ G H (Up.rf e) (.bl _)⟩
/-! ### more of loops that return -/
section
variable {K : PySem.W.Frag} {σ σ0 : L2.St} {F : Hp} {vs : List Nat} {t u tb : TS} {o o2 : Option PyData} {y z : PyData} {tt : TT} {te : TE} {b : Bool}
theorem b_gseq (h : EvT σ F tt b) (h1 : b = true → EvE K σ F te z) (h2 : b = false → ∀ F', Ex F F' → BodE K σ F' vs u o2) :
    BodE K σ F vs (tSeq (tIfS tt (tRet te) tNext) u) (bif b then some z else o2) :=
  fun G H e1 e2 D q1 q2 => h G H e1 e2 _ fun G1 H1 u1 => by
    cases b with
    | true => exact iteT (h1 rfl G1 H1 (e1.tr u1.g) u1.h _ fun w G2 H2 u2 d2 => q1 z rfl w G2 H2 (u1.tr u2) d2)
    | false =>
      exact iteF (h2 rfl G1 (e1.tr u1.g) G1 H1 (Ex.rf _) u1.h D (fun z hz v G2 H2 u2 d2 => q1 z hz v G2 H2 (u1.tr u2) d2)
        fun hz σ2 G2 H2 hw2 u2 => q2 hz σ2 G2 H2 hw2 (u1.tr u2))
theorem b_more {i : Nat} (h : BodE K σ F vs t o) : BodE K σ F (i :: vs) t o := fun G H e1 e2 D q1 q2 =>
  h G H e1 e2 D q1 fun hn σ' G' H' hw u => q2 hn σ' G' H' (congrArg (fun s : L2.St => s.set i none) hw) u
theorem wipe_at {k : Nat} : ∀ {vs : List Nat} {σ : L2.St}, (wipe σ vs)[k]? = if k ∈ vs then (σ[k]?).map (fun _ => none) else σ[k]?
  | [], σ => by simp [wipe]
  | v :: vs, σ => by
    show ((wipe σ vs).set v none)[k]? = _
    by_cases e : k = v
    · subst e
      rw [if_pos List.mem_cons_self]
      by_cases hl : k < σ.length
      · rw [List.getElem?_set_self (by rw [wipe_length]; exact hl), List.getElem?_eq_getElem hl]; rfl
      · have h1 : σ[k]? = none := List.getElem?_eq_none (by omega)
        rw [h1, List.getElem?_eq_none (by rw [List.length_set, wipe_length]; omega)]; rfl
    · rw [set_none_get e, wipe_at]
      by_cases hm : k ∈ vs
      · rw [if_pos hm, if_pos (List.mem_cons_of_mem _ hm)]
      · rw [if_neg hm, if_neg (by simp [e, hm])]
theorem wipe_set {i : Nat} {x : Option V} (h : i ∈ vs) : wipe (σ.set i x) vs = wipe σ vs := by
  apply List.ext_getElem?
  intro k
  rw [wipe_at, wipe_at]
  by_cases e : k = i
  · subst e
    rw [if_pos h, if_pos h]
    by_cases hl : k < σ.length
    · rw [List.getElem?_set_self hl, List.getElem?_eq_getElem hl]; rfl
    · rw [List.getElem?_eq_none (by rw [List.length_set]; omega), List.getElem?_eq_none (by omega)]
  · rw [List.getElem?_set_ne (fun z => e z.symm)]
theorem len_of_wipe (h : wipe σ0 vs = wipe σ vs) : σ0.length = σ.length := by
  rw [← wipe_length σ0 vs, h, wipe_length]
theorem get_set {i : Nat} (hi : i < σ.length) {v : Option V} : (σ.set i v)[i]? = some v := List.getElem?_set_self hi
theorem get_other {i k : Nat} {v : Option V} {r : Option (Option V)} (hk : k ≠ i) (h : σ[k]? = r) : (σ.set i v)[k]? = r := by
  rw [List.getElem?_set_ne (fun e => hk e.symm)]; exact h
end
/-! ### f(b = .., a = ..): two parameters by name, the second one first -/
def kwR {α : Type} : List α → List α → List α
  | [], [b, a] => [a, b]
  | _, _ => []
theorem kb_swap {K : PySem.W.Frag} {fd : FuncData} {p q : Str} (h : ∀ a b : Value, bindArgs fd ⟨[], [(q, b), (p, a)]⟩ = pure [(p, a), (q, b)]) : KBinds K fd [p, q] [q, p] kwR kwR := by
  refine ⟨fun s us ws _ hl => ?_, fun {vs us zs ws} r1 r2 => ?_⟩
  · match us, ws, hl with
    | [], [b, a], _ => exact .of_eq (h a b)
    | [], [], hl => exact absurd hl (by simp [kwR])
    | [], [_], hl => exact absurd hl (by simp [kwR])
    | [], _ :: _ :: _ :: _, hl => exact absurd hl (by simp [kwR])
    | _ :: _, _, hl => exact absurd hl (by simp [kwR])
  · cases r1 with
    | nil =>
      cases r2 with
      | nil => exact .nil
      | cons h1 r2 => cases r2 with
        | nil => exact .nil
        | cons h2 r2 => cases r2 with
          | nil => exact .cons h2 (.cons h1 .nil)
          | cons h3 r2 => exact .nil
    | cons _ _ => exact .nil
theorem e_kwR {K : PySem.W.Frag} {σ : L2.St} {F : Hp} {as : TA} {d1 d2 : PyData} {pre : List PyData → Prop} {fn : List PyData → PyData} {E : XK} (h : EvA K σ F as [d2, d1]) (hp : pre [d1, d2]) :
    EvE K σ F (tCallK (spP K 2 pre fn) kwR E tNil as) (fn [d1, d2]) := fun G H e1 e2 Q q => h G H e1 e2 _ fun vs G1 H1 u1 da => by
  cases da with | cons a2 da => ?_
  cases da with | cons a1 da => ?_
  cases da
  exact ⟨rfl, G1, _, u1.h, .cons a1 (.cons a2 .nil), hp, fun v G2 H2 u2 d2 => q v G2 H2 (u1.tr u2) d2⟩
end KD
set_option Elab.async false
set_option linter.all false
set_option maxRecDepth 100000
set_option maxHeartbeats 1000000
namespace KD
open PySem PySem.Spec PyProof.Rows L2
/-! ### a pick from a list or a tuple -/
def rIxS2 (K : PySem.W.Frag) : R2 := fun x y H Q => rIxL K x y H Q ∨ rIxT K x y H Q
theorem ix_s2K (K : PySem.W.Frag) {X : Cx} (h : X.K = K := by rfl) : IxR X (rIxS2 K) := by
  intro value slice pins s σ H x y v u Q I rx ry q e
  rcases q with q | q
  · exact ix_listK K h value slice pins s σ H x y v u Q I rx ry q e
  · exact ix_tupK K h value slice pins s σ H x y v u Q I rx ry q e
def spPickS (K : PySem.W.Frag) : Sp := fun vs H Q _ => vs.length = 2 ∧ ∃ (dk cl a : Addr) (d0 : PyData) (ds : List PyData) (G : Hp) (m : Nat), vs = [.ref dk, .ref a] ∧ Ex G H ∧ Deck G H dk cl m ∧ m ≤ 1000000000 ∧
  (d0 = .list ds ∨ d0 = .tuple ds) ∧ Da K G (.ref a) d0 ∧ 0 < ds.length ∧ ds.length < 100000 ∧ ∀ (v : V) (d : PyData) (H' : Hp), d ∈ ds → Da K G v d → UpM dk cl G H G H' → Deck G H' dk cl (m + 1) → Q v H'
abbrev tsPickS (K : PySem.W.Frag) (E : XK) : TS := tRet (tOp (rIxS2 K) (tVar 1) (tCall spDraw [] E (tCons (tVar 0) (tCons (tCB (rLenQ K) (tCons (tVar 1) tNil)) tNil))))
theorem pickS_read {K : PySem.W.Frag} {E E0 : XK} {vs : List V} {H : Hp} {Q : VK} (h : spPickS K vs H Q E0) : tsPickS K E { nx := fun _ H' => Q .non H', rt := Q } (vs.map some) H := by
  obtain ⟨_, dk, cl, a, d0, ds, G, m, rfl, eg, hD, hm, hd0, hda, h0, h1, q⟩ := h
  show tsPickS K E _ [some (.ref dk), some (.ref a)] H
  obtain ⟨xs, ax, hs, hx2⟩ : ∃ xs, DaAll K G xs ds ∧ (∀ H', Ex G H' → SqL K H' a xs ∨ SqT K H' a xs) ∧ True := by
    rcases hd0 with rfl | rfl
    · cases hda with | lst h1 h2 => exact ⟨_, h2, fun H' e => .inl (SqL.of (e _ _ h1)), trivial⟩
    · cases hda with | tup h1 h2 => exact ⟨_, h2, fun H' e => .inr (SqT.of (e _ _ h1)), trivial⟩
  have hl := ax.length
  refine ⟨.ref a, rfl, .ref dk, rfl, .ref a, rfl, a, xs, rfl, hs H eg, rfl, dk, cl, xs.length, G, m, rfl, eg, hD, hm, by omega, by omega, fun i H' i0 i1 u hD' => ?_⟩
  have hx : i.toNat < xs.length := by omega
  obtain ⟨d, hd, dd⟩ := ax.get (List.getElem?_eq_getElem hx)
  have e := atI_nat (List.getElem?_eq_getElem hx)
  rw [Int.toNat_of_nonneg i0] at e
  have fin := q _ d H' (List.mem_of_getElem? hd) dd u hD'
  rcases hs H' u.h with z | z
  · exact .inl ⟨a, xs, i, xs[i.toNat], rfl, rfl, z, e, fin⟩
  · exact .inr ⟨a, xs, i, xs[i.toNat], rfl, rfl, z, e, fin⟩
theorem n_pickS {K : PySem.W.Frag} {dk cl : Addr} {σ : L2.St} {F : Hp} {m : Nat} {te : TE} {i0 : Nat} {E : XK} {d0 : PyData} {ds : List PyData} (hs : σ[i0]? = some (some (.ref dk))) (hl : EvE K σ F te d0) (hd : d0 = .list ds ∨ d0 = .tuple ds)
    (h0 : 0 < ds.length) (h1 : ds.length < 100000) (hm : m ≤ 1000000000) : EvN K dk cl σ F m (tCall (spPickS K) [] E (tCons (tVar i0) (tCons te tNil))) (m + 1) (fun d => d ∈ ds) := fun G H e1 e2 hD Q q => by
  refine ⟨.ref dk, hs, hl G H e1 e2 _ fun v G1 H1 u1 d1 => ?_⟩
  obtain ⟨a, rfl⟩ : ∃ a, v = .ref a := by
    rcases hd with rfl | rfl
    · cases d1 with | lst h _ => exact ⟨_, rfl⟩
    · cases d1 with | tup h _ => exact ⟨_, rfl⟩
  refine ⟨rfl, dk, cl, a, d0, ds, G1, m, rfl, u1.h, hD.up u1, hm, hd, d1, h0, h1, fun v d H' hd dv u hD' => ?_⟩
  exact q v d G1 H' (u1.toM.tr u) hD' hd dv
end KD
set_option Elab.async false
set_option linter.all false
set_option maxRecDepth 100000
set_option maxHeartbeats 4000000
namespace KD
open PySem PySem.Spec PyProof.Rows L2
/-! ### a tuple once: the tuple itself -/
theorem tuple_mul1 (l : Addr) (items : Array Value) (n : Nat) (dd : Option Addr) (sl : Array (Option Value)) (u : Tok) :
    Meets (Builtin.«tuple.__mul__» ⟨[.ref l, .int 1 u], []⟩) (fun _ R s => s.heap.get? l = some { cls := .type "tuple", dict := dd, data := .seq items n, slots := sl } ∧ R (.ok (.ret (Value.ref l))) s) :=
  .of_wp fun prog w A R s h => by
    rcases s with ⟨mem, gens, drawn, toks, sys⟩
    rcases h with ⟨hl, h⟩
    have whole := AutoSeq1.idx_int
    have c0 : (decide ((1 : Int) < -(2 ^ 63)) || decide ((1 : Int) ≥ 2 ^ 63)) = false := by decide
    have c1 : (items.isEmpty || (1 : Int) == 1) = true := by simp
    wp_walk using wpAny_loadPart' hl
    have d0 := decide_eq_false (show ¬ _ = true from Bool.eq_false_iff.mp c0)
    have d1 := decide_eq_true c1
    iterate 2
      try first
        | refine wpAny_ite_false d0 ?_
        | refine wpAny_ite_true d1 ?_
      try wp_walk using wpAny_loadPart' hl
    exact ⟨_, rfl, h⟩
def rRepT1 (K : PySem.W.Frag) : R2 := fun x y H Q => ∃ l xs, x = .ref l ∧ y = .int 1 ∧ SqT K H l xs ∧ Q (.ref l) H
theorem op_repT1 {X : Cx} : OpR X (binaryOp .Mult) (rRepT1 X.K) := by
  rintro pins s σ H x y v u Q I rx ry ⟨l, xs, rfl, rfl, hT, q⟩
  cases rx
  obtain ⟨t, rfl⟩ := ry
  rcases I.tuple hT with ⟨its, r, ⟨⟨cls, dd, data, sl⟩, ho, kind, n, cells⟩, hs⟩
  obtain rfl : cls = _ := kind
  obtain rfl : data = _ := cells
  refine wpAny_binaryOp_repeat_ref (T := "tuple") (U := "int") (by decide) ⟨_, ho, rfl⟩ (fun s' => typeIs_int s' 1 t) noFill_tuple_mul F.fills_int_mul F.slot_int_rmul repeat_tuple F.slot_int_index.lookup
    (call_meets F.slot_int_rmul (typeIs_int s 1 t) F.entry_int_rmul (F.args_int_rmul_2 _ _) (int_rmul_tuple 1 t l its.toArray n dd sl)
      ⟨ho, rfl, ⟨_, ho, rfl⟩, call_meets F.slot_tuple_mul ⟨_, ho, rfl⟩ F.entry_tuple_mul (F.args_tuple_mul_2 _ _) (tuple_mul1 l its.toArray n dd sl t) ⟨ho, ?_⟩⟩)
  exact ⟨.ref l, H, I, rfl, q⟩
/-- a tuple that is not empty, one time and more -/
def rRepQ (K : PySem.W.Frag) : R2 := fun x y H Q => rRepT1 K x y H Q ∨ rRepT K x y H Q
theorem op_repQ (K : PySem.W.Frag) {X : Cx} (h : X.K = K := by rfl) : OpR X (binaryOp .Mult) (rRepQ K) := h ▸ OpR.or op_repT1 op_repT
theorem o_repT {K : PySem.W.Frag} {xs : List PyData} {k : Int} (hx : xs ≠ []) (h1 : 1 ≤ k) (h2 : k ≤ 1000) (hl : xs.length ≤ 1000) : OpD K (rRepQ K) (.tuple xs) (.int k) (.tuple (List.replicate k.toNat xs).flatten) := fun G H v u e d1 d2 Q q => by
  have rep : ∀ k, ∀ G : Hp, ∀ ws : List V, DaAll K G ws xs → DaAll K G (List.replicate k ws).flatten (List.replicate k xs).flatten := by
    intro k G ws h
    induction k with
    | zero => exact .nil
    | succ k ih =>
      rw [List.replicate_succ, List.replicate_succ, List.flatten_cons, List.flatten_cons]
      exact h.append ih
  cases d2
  cases d1 with
  | tup g1 a1 =>
    rename_i l ws
    have hwl := a1.length
    by_cases hk : k = 1
    · subst hk
      refine .inl ⟨l, ws, rfl, rfl, SqT.of (e _ _ g1), q _ G H (Up.rf e) ?_⟩
      have : (List.replicate (1 : Int).toNat xs).flatten = xs := by simp
      rw [this]
      exact .tup g1 a1
    · refine .inr ⟨l, k, ws, rfl, rfl, SqT.of (e _ _ g1), ?_, by omega, h2, by omega, fun p hp => ?_⟩
      · intro z
        rw [z] at hwl
        exact hx (List.length_eq_zero_iff.mp hwl.symm)
      · exact q _ _ _ (Up.new e hp _) (.tup upd_same ((rep k.toNat G _ a1).mono (Ex.up (e.fresh hp))))
end KD
set_option Elab.async false
set_option linter.all false
set_option maxRecDepth 100000
set_option maxHeartbeats 1000000
namespace KD
open PySem PySem.Spec PyProof.Rows L2
/-! ### more statements beside the deck -/
section
variable {K : PySem.W.Frag} {dk cl L : Addr} {σ : L2.St} {m m1 m2 m' : Nat} {te tf : TE} {R R' : PyData → Prop} {P P1 P2 : PyData → Prop} {G H : Hp} {t u : TS} {tt : TT} {D : Ends} {b : Bool}
theorem Lp.emp (I : Lp K dk cl L R 0 [] G H m) : Lp K dk cl L R' 0 [] G H m := ⟨I.e, I.d, I.l, I.n1, I.n2, rfl, fun _ h => by cases h⟩
/-- a, b, c = .., .., [] where the third is a list to be added to -/
theorem tpar3L {i j l : Nat} (h1 : EvN K dk cl σ G m te m1 P1) (h2 : ∀ G', Ex G G' → EvN K dk cl σ G' m1 tf m2 P2) (e : Ex G H) (hD : Deck G H dk cl m)
    (q : ∀ x y L d1 d2 G' H', UpM dk cl G H G' H' → H L = none → Lp K dk cl L R 0 [] G' H' m2 → P1 d1 → P2 d2 → Da K G' x d1 → Da K G' y d2 → u D (((σ.set i (some x)).set j (some y)).set l (some (.ref L))) H') :
    tSeq (tPar3 i j l (tCons te (tCons tf (tCons (tLst tNil) tNil)))) u D σ H := by
  refine h1 G H (Ex.rf _) e hD _ fun x d1 G1 H1 u1 hD1 p1 a1 => h2 G1 u1.g G1 H1 (Ex.rf _) u1.h hD1 _ fun y d2 G2 H2 u2 hD2 p2 a2 => ?_
  refine ⟨Nat.zero_le _, fun L hL => ⟨x, y, .ref L, rfl, ?_⟩⟩
  have u12 := u1.tr u2
  have hLH : H L = none := by
    cases z : H L with
    | none => rfl
    | some o => exact absurd hL (u12.t L (by rw [z]; simp))
  refine q x y L d1 d2 G2 _ (u12.put hLH (u2.h.fresh hL)) hLH ⟨u2.h.tr (Ex.up hL), hD2.up (?_ : Up G2 H2 G2 _), ⟨u2.h.fresh hL, _, upd_same, .nil⟩, fun z => hD2.dn (by rw [← z]; exact hL), fun z => hD2.cn (by rw [← z]; exact hL), rfl, fun _ h => by cases h⟩ p1 p2 (a1.mono u2.g) a2
  exact ⟨Ex.rf _, u2.h.tr (Ex.up hL), Ex.up hL, fun _ _ h => h⟩
/-- if .. : t (which may return), then the rest -/
theorem st_if (h : EvT σ G tt b) (e : Ex G H) (h1 : b = true → ∀ G' H', Up G H G' H' → t { D with nx := u D } σ H') (h2 : b = false → ∀ G' H', Up G H G' H' → u D σ H') :
    tSeq (tIfS tt t tNext) u D σ H := h G H (Ex.rf _) e _ fun G1 H1 u1 => by
  cases b with
  | true => exact iteT (h1 rfl G1 H1 u1)
  | false => exact iteF (h2 rfl G1 H1 u1)
/-- a, b = what is drawn, a pair -/
theorem st_pair {i j : Nat} (h : EvN K dk cl σ G m te m' P) (e : Ex G H) (hD : Deck G H dk cl m) (hp : ∀ d, P d → ∃ d1 d2, d = .tuple [d1, d2])
    (q : ∀ v w d1 d2 G' H', UpM dk cl G H G' H' → Deck G' H' dk cl m' → P (.tuple [d1, d2]) → Da K G' v d1 → Da K G' w d2 → u D ((σ.set i (some v)).set j (some w)) H') :
    tSeq (tAsg te (gTup K 2 (gCons (gName i) (gCons (gName j) gNil)))) u D σ H := h G H (Ex.rf _) e hD _ fun v d G1 H1 u1 hD1 p dv => by
  obtain ⟨d1, d2, rfl⟩ := hp d p
  refine g_tup2 (K := K) G1 H1 _ u1.h dv _ ?_
  rintro _ ⟨x, y, a, b, rfl⟩
  exact q x y d1 d2 G1 H1 u1 hD1 p a b
/-- an item is added, and what else was tracked is kept -/
theorem do_appendM {i n : Nat} {ds : List PyData} (hv : σ[i]? = some (some (.ref L))) (I : Lp K dk cl L R n ds G H m) (h : EvN K dk cl σ G m te m' R) (hn : n ≤ 100000)
    (q : ∀ ds' G' H1 o, UpM dk cl G H G' H1 → G' L = none → Lp K dk cl L R (n + 1) ds' G' (upd H1 L o) m' → D.nx σ (upd H1 L o)) : tDrop (tBM K "list" rAppend (tVar i) (tCons te tNil)) D σ H := by
  obtain ⟨acc, ea, _⟩ := I.l.ex
  refine ⟨.ref L, hv, .inl ⟨rfl, acc, SqL.of ea⟩, h G H (Ex.rf _) I.e I.d _ fun v d G1 H1 u1 hD1 p dv => ?_⟩
  have I1 := I.up u1 hD1
  obtain ⟨acc1, ea1, da1⟩ := I1.l.ex
  refine ⟨L, acc1, v, rfl, rfl, ea1, ?_, q _ G1 H1 _ u1 I1.l.gl (I1.put ea1 da1 dv p)⟩
  rw [da1.length, I.len]
  exact Nat.lt_of_le_of_lt hn (by decide)
theorem UpM.done {G0 H0 : Hp} {ds : List PyData} (u : UpM dk cl G0 H0 G H) (hL : H0 L = none) (l : ListAt K L ds G H) (n1 : L ≠ dk) (n2 : L ≠ cl) (hD : Deck G H dk cl m) :
    ∃ G', UpM dk cl G0 H0 G' H ∧ Deck G' H dk cl m ∧ Da K G' (.ref L) (.list ds) := by
  obtain ⟨G', g1, g2, g3, g4⟩ := l.done u.h
  refine ⟨G', ⟨u.g.tr g1, g2, u.m, fun b h1 h2 => ?_, u.t⟩, ?_, g3⟩
  · rw [g4 b (fun z => h1 (by rw [z]; exact hL))]; exact u.n b h1 h2
  · obtain ⟨cs, t, n, a1, a2, a3⟩ := hD.ex
    exact ⟨hD.ne, by rw [g4 _ n1.symm]; exact hD.gd, by rw [g4 _ n2.symm]; exact hD.gc, cs, t, n, a1, a2, a3⟩
/-- a if what is drawn else b -/
theorem n_ifD {F : Hp} {ta tb : TE} (h : EvN K dk cl σ F m te m1 (fun d => ∃ b, d = .bool b)) (h1 : EvN K dk cl σ F m1 ta m2 P) (h2 : EvN K dk cl σ F m1 tb m2 P) : EvN K dk cl σ F m (tIf (tTest te) ta tb) m2 P :=
  fun G H e1 e2 hD Q q => h G H e1 e2 hD _ fun v d G1 H1 u1 hD1 p1 d1 => by
    obtain ⟨b, rfl⟩ := p1
    cases d1
    refine ⟨b, rfl, ?_⟩
    cases b with
    | true => exact iteT (h1 G1 H1 (e1.tr u1.g) u1.h hD1 Q fun v d G2 H2 u2 hD2 p d2 => q v d G2 H2 (u1.tr u2) hD2 p d2)
    | false => exact iteF (h2 G1 H1 (e1.tr u1.g) u1.h hD1 Q fun v d G2 H2 u2 hD2 p d2 => q v d G2 H2 (u1.tr u2) hD2 p d2)
/-- a pick from what is drawn -/
theorem n_pickN {F : Hp} {i0 : Nat} {E : XK} (hs : σ[i0]? = some (some (.ref dk))) (hm : m1 ≤ 1000000000)
    (hl : EvN K dk cl σ F m te m1 (fun d0 => ∃ ds, (d0 = .list ds ∨ d0 = .tuple ds) ∧ 0 < ds.length ∧ ds.length < 100000 ∧ ∀ d ∈ ds, P d)) :
    EvN K dk cl σ F m (tCall (spPickS K) [] E (tCons (tVar i0) (tCons te tNil))) (m1 + 1) P := fun G H e1 e2 hD Q q => by
  refine ⟨.ref dk, hs, hl G H e1 e2 hD _ fun v d0 G1 H1 u1 hD1 p1 d1 => ?_⟩
  obtain ⟨ds, hd, h0, h1, hP⟩ := p1
  obtain ⟨a, rfl⟩ : ∃ a, v = .ref a := by
    rcases hd with rfl | rfl
    · cases d1 with | lst h _ => exact ⟨_, rfl⟩
    · cases d1 with | tup h _ => exact ⟨_, rfl⟩
  refine ⟨rfl, dk, cl, a, d0, ds, G1, m1, rfl, u1.h, hD1, hm, hd, d1, h0, h1, fun v d H' hd dv u hD' => ?_⟩
  exact q v d G1 H' (u1.tr u) hD' (hP d hd) dv
end
end KD
set_option Elab.async false
set_option linter.all false
set_option maxRecDepth 100000
set_option maxHeartbeats 1000000
namespace KD
open PySem PySem.Spec PyProof.Rows L2
/-! ### small data that may hold a dict, or a list, but not both -/
structure Smx (w k : Nat) (d : PyData) : Prop where
  s : d.leavesShort 60 = true
  h : d.showable = true
  x : noList d = true ∨ d.hasDict = false
  f : fit d = true
  p : d.depth ≤ k
  w : d.weight ≤ w
theorem Sml.x {w k : Nat} {d : PyData} (h : Sml w k d) : Smx w k d := ⟨h.s, h.h, .inr h.n, h.f, h.p, h.w⟩
theorem Smx.mono {w k w' k' : Nat} {d : PyData} (h : Smx w k d) (hw : w ≤ w') (hk : k ≤ k') : Smx w' k' d := ⟨h.s, h.h, h.x, h.f, Nat.le_trans h.p hk, Nat.le_trans h.w hw⟩
theorem Smx.ok {w k : Nat} {d : PyData} (h : Smx w k d) (hw : w ≤ 100000) (hk : k ≤ 40) : okD d = true := by
  have hs := PyData.shown_le 60 (by decide) d h.s
  have := h.w
  have hd := h.p
  have hx : (noList d || !d.hasDict) = true := by
    rcases h.x with e | e
    · rw [e]; rfl
    · rw [e]; simp
  unfold okD KD.repOk
  simp only [Bool.and_eq_true, decide_eq_true_eq, h.f, h.h, hx, true_and]
  refine ⟨by omega, Nat.le_trans hs ?_⟩
  have : (60 + 2) * d.weight ≤ 62 * 100000 := Nat.mul_le_mul (by decide) (by omega)
  omega
/-- neither -/
structure Cln (w k : Nat) (d : PyData) : Prop where
  m : Sml w k d
  l : noList d = true
theorem noListAll_of : ∀ {xs : List PyData}, (∀ x ∈ xs, noList x = true) → noListAll xs = true
  | [], _ => rfl
  | x :: xs, h => by
    show (noList x && noListAll xs) = true
    rw [h x List.mem_cons_self, noListAll_of fun y hy => h y (List.mem_cons_of_mem _ hy)]; rfl
theorem hasDictAll_of : ∀ {xs : List PyData}, (∀ x ∈ xs, x.hasDict = false) → PyData.hasDictAll xs = false
  | [], _ => rfl
  | x :: xs, h => by
    show (x.hasDict || PyData.hasDictAll xs) = false
    rw [h x List.mem_cons_self, hasDictAll_of fun y hy => h y (List.mem_cons_of_mem _ hy)]; rfl
theorem smx_all {w k : Nat} : ∀ {xs : List PyData}, (∀ x ∈ xs, Smx w k x) → PyData.leavesShortAll 60 xs = true ∧ PyData.showableAll xs = true ∧ fitAll xs = true ∧ PyData.depthAll xs ≤ k ∧ PyData.weightAll xs ≤ (w + 1) * xs.length
  | [], _ => ⟨rfl, rfl, rfl, Nat.zero_le _, Nat.zero_le _⟩
  | x :: xs, h => by
    obtain ⟨a, b, d, e, f⟩ := smx_all (xs := xs) fun y hy => h y (List.mem_cons_of_mem _ hy)
    have hx := h x List.mem_cons_self
    refine ⟨?_, ?_, ?_, ?_, ?_⟩
    · show (x.leavesShort 60 && _) = true
      rw [hx.s, a]; rfl
    · show (x.showable && _) = true
      rw [hx.h, b]; rfl
    · show (fit x && _) = true
      rw [hx.f, d]; rfl
    · show max x.depth _ ≤ k
      exact Nat.max_le.mpr ⟨hx.p, e⟩
    · show x.weight + 1 + PyData.weightAll xs ≤ _
      have := hx.w
      rw [List.length_cons, Nat.mul_add, Nat.mul_one]
      omega
theorem Smx.tup {w k n : Nat} {xs : List PyData} (h : ∀ x ∈ xs, Smx w k x) (hx : (∀ x ∈ xs, noList x = true) ∨ ∀ x ∈ xs, x.hasDict = false) (hl : xs.length ≤ n) (hn : n ≤ 10000) : Smx ((w + 1) * n) (k + 1) (.tuple xs) := by
  obtain ⟨a, b, d, e, f⟩ := smx_all h
  refine ⟨a, b, ?_, ?_, Nat.succ_le_succ e, Nat.le_trans f (Nat.mul_le_mul_left _ hl)⟩
  · rcases hx with hx | hx
    · exact .inl (noListAll_of hx)
    · exact .inr (hasDictAll_of hx)
  · show (decide (xs.length ≤ 10000) && fitAll xs) = true
    rw [d, decide_eq_true (by omega : xs.length ≤ 10000)]; rfl
theorem Cln.x {w k : Nat} {d : PyData} (h : Cln w k d) : Smx w k d := h.m.x
theorem Cln.mono {w k w' k' : Nat} {d : PyData} (h : Cln w k d) (hw : w ≤ w') (hk : k ≤ k') : Cln w' k' d := ⟨h.m.mono hw hk, h.l⟩
/-- one item among clean ones -/
theorem Smx.among {w k n : Nat} {xs zs : List PyData} {y : PyData} (hx : ∀ x ∈ xs, Cln w k x) (hy : Smx w k y) (hz : ∀ x ∈ zs, Cln w k x) (hl : (xs ++ [y] ++ zs).length ≤ n) (hn : n ≤ 10000) :
    Smx ((w + 1) * n) (k + 1) (.tuple (xs ++ [y] ++ zs)) := by
  have mem : ∀ x ∈ xs ++ [y] ++ zs, Cln w k x ∨ x = y := fun x h => by
    rcases List.mem_append.mp h with h | h
    · rcases List.mem_append.mp h with h | h
      · exact .inl (hx x h)
      · rcases List.mem_cons.mp h with h | h
        · exact .inr h
        · cases h
    · exact .inl (hz x h)
  refine Smx.tup (fun x h => ?_) ?_ hl hn
  · rcases mem x h with h | rfl
    · exact h.x
    · exact hy
  · rcases hy.x with e | e
    · refine .inl fun x h => ?_
      rcases mem x h with h | rfl
      · exact h.l
      · exact e
    · refine .inr fun x h => ?_
      rcases mem x h with h | rfl
      · exact h.m.n
      · exact e
theorem Cln.tup {w k n : Nat} {xs : List PyData} (h : ∀ x ∈ xs, Cln w k x) (hl : xs.length ≤ n) (hn : n ≤ 10000) : Cln ((w + 1) * n) (k + 1) (.tuple xs) :=
  ⟨Sml.tup (fun x hx => (h x hx).m) hl hn, noListAll_of fun x hx => (h x hx).l⟩
theorem Cln.int {i : Int} (h : i.natAbs < 10 ^ 12) : Cln 60 0 (.int i) := ⟨sml_int h, rfl⟩
theorem Cln.str {n : Nat} {s : Str} (h : SN n s) (hn : n ≤ 60) : Cln 60 0 (.str s) := ⟨h.si hn, rfl⟩
end KD
set_option Elab.async false
set_option linter.all false
set_option maxRecDepth 100000
set_option maxHeartbeats 1000000
namespace KD
open PySem PySem.Spec PyProof.Rows L2
/-! ### several lists that change, beside the deck -/
section
variable {K : PySem.W.Frag} {dk cl L La Lb : Addr} {σ : L2.St} {m m1 m2 m' n : Nat} {te tf tb : TE} {R : PyData → Prop} {P : PyData → Prop} {ds : List PyData} {G H G0 H0 : Hp} {t u : TS} {D : Ends}
/-- a list of the def's own at L: not frozen, not the deck -/
structure Own (K : PySem.W.Frag) (dk cl L : Addr) (ds : List PyData) (G H : Hp) : Prop where
  a : ListAt K L ds G H
  d : L ≠ dk
  c : L ≠ cl
theorem Own.upM {G1 H1 : Hp} (o : Own K dk cl L ds G H) (u : UpM dk cl G H G1 H1) : Own K dk cl L ds G1 H1 := ⟨o.a.upM o.d o.c u, o.d, o.c⟩
theorem Own.ex (o : Own K dk cl L ds G H) : ∃ acc, H L = some (.lst acc) ∧ DaAll K G acc ds := o.a.ex
/-- another object changes -/
theorem Own.other {o' : HO} (o : Own K dk cl L ds G H) (h : L ≠ La) : Own K dk cl L ds G (upd H La o') := by
  obtain ⟨acc, e, a⟩ := o.a.ex
  exact ⟨⟨o.a.gl, acc, by rw [upd_ne h]; exact e, a⟩, o.d, o.c⟩
theorem Own.is {xs : List V} {es : List PyData} (o : Own K dk cl L ds G H) (h : DaAll K G xs es) : Own K dk cl L es G (upd H L (.lst xs)) := ⟨⟨o.a.gl, xs, upd_same, h⟩, o.d, o.c⟩
theorem Own.new {xs : List V} (hL : H L = none) (e : Ex G H) (hD : Deck G H dk cl m) (h : DaAll K G xs ds) : Own K dk cl L ds G (upd H L (.lst xs)) :=
  ⟨⟨e.fresh hL, xs, upd_same, h⟩, fun z => hD.dn (by rw [← z]; exact hL), fun z => hD.cn (by rw [← z]; exact hL)⟩
theorem Own.da (o : Own K dk cl L ds G H) (e : Ex G H) : Da K H (.ref L) (.list ds) := by
  obtain ⟨acc, h, a⟩ := o.a.ex
  exact .lst h (a.mono e)
theorem Own.sq (o : Own K dk cl L ds G H) : ∃ acc, SqL K H L acc ∧ acc.length = ds.length := by
  obtain ⟨acc, h, a⟩ := o.a.ex
  exact ⟨acc, SqL.of h, a.length⟩
/-- a change at an object that is not frozen and was not there at first -/
theorem UpM.own {o : HO} (u : UpM dk cl G0 H0 G H) (hL : H0 L = none) (gl : G L = none) : UpM dk cl G0 H0 G (upd H L o) := u.put hL gl
theorem Ex.at {o : HO} (e : Ex G H) (gl : G L = none) : Ex G (upd H L o) := fun b p q => by rw [upd_ne (ne_of_none q gl)]; exact e b p q
theorem UpM.none (u : UpM dk cl G0 H0 G H) (hL : H L = Option.none) : H0 L = Option.none := by
  cases z : H0 L with
  | none => rfl
  | some o => exact absurd hL (u.t L (by rw [z]; simp))
theorem Own.done (o : Own K dk cl L ds G H) (u : UpM dk cl G0 H0 G H) (hL : H0 L = Option.none) (hD : Deck G H dk cl m) : ∃ G', UpM dk cl G0 H0 G' H ∧ Deck G' H dk cl m ∧ Ex G G' ∧ (∀ b, b ≠ L → G' b = G b) ∧ Da K G' (.ref L) (.list ds) := by
  obtain ⟨G', g1, g2, g3, g4⟩ := o.a.done u.h
  refine ⟨G', ⟨u.g.tr g1, g2, u.m, fun b h1 h2 => ?_, u.t⟩, ?_, g1, g4, g3⟩
  · rw [g4 b (fun z => h1 (by rw [z]; exact hL))]; exact u.n b h1 h2
  · obtain ⟨cs, t, n, a1, a2, a3⟩ := hD.ex
    exact ⟨hD.ne, by rw [g4 _ o.d.symm]; exact hD.gd, by rw [g4 _ o.c.symm]; exact hD.gc, cs, t, n, a1, a2, a3⟩
theorem Own.toLp (o : Own K dk cl L ds G H) (e : Ex G H) (hD : Deck G H dk cl m) (hR : ∀ d ∈ ds, R d) : Lp K dk cl L R ds.length ds G H m := ⟨e, hD, o.a, o.d, o.c, rfl, hR⟩
/-- x = x + .. , x a list of one's own -/
theorem do_catO {i : Nat} {A : List PyData → Prop} (hv : σ[i]? = some (some (.ref L))) (o : Own K dk cl L ds G H) (h : EvN K dk cl σ G m tb m' (fun d => ∃ ys, d = .list ys ∧ A ys)) (e : Ex G H) (hD : Deck G H dk cl m)
    (hn : ∀ ys, A ys → ds.length + ys.length ≤ 100000)
    (q : ∀ L' ys G' H1 o', UpM dk cl G H G' H1 → H1 L' = Option.none → A ys → Deck G' (upd H1 L' o') dk cl m' → Own K dk cl L' (ds ++ ys) G' (upd H1 L' o') → D.nx (σ.set i (some (.ref L'))) (upd H1 L' o')) :
    tAsg (tOp rCat (tVar i) tb) (gName i) D σ H := by
  refine ⟨.ref L, hv, h G H (Ex.rf _) e hD _ fun v d G1 H1 u1 hD1 p dv => ?_⟩
  obtain ⟨ys, rfl, ha⟩ := p
  have o1 := o.upM u1
  obtain ⟨acc, h1, a1⟩ := o1.ex
  cases dv with | lst k2 a2 => ?_
  refine ⟨_, _, _, _, rfl, rfl, h1, u1.h _ _ k2, ?_, fun L' hL => ?_⟩
  · rw [a1.length, a2.length]; exact Nat.le_trans (hn ys ha) (by decide)
  · refine q L' ys G1 H1 _ u1 hL ha ?_ (Own.new hL u1.h hD1 (a1.append a2))
    exact hD1.put (fun z => hD1.dn (by rw [← z]; exact hL)) (fun z => hD1.cn (by rw [← z]; exact hL))
/-- x = [] -/
theorem st_newO {i : Nat} (e : Ex G H) (hD : Deck G H dk cl m)
    (q : ∀ L o', H L = Option.none → Ex G (upd H L o') → UpM dk cl G H G (upd H L o') → Deck G (upd H L o') dk cl m → Own K dk cl L [] G (upd H L o') → u D (σ.set i (some (.ref L))) (upd H L o')) : tSeq (tAsg (tLst tNil) (gName i)) u D σ H := by
  refine ⟨Nat.zero_le _, fun L hL => ?_⟩
  exact q L _ hL (e.tr (Ex.up hL)) ((UpM.rf e).own hL (e.fresh hL)) (hD.put (fun z => hD.dn (by rw [← z]; exact hL)) (fun z => hD.cn (by rw [← z]; exact hL))) (Own.new hL e hD .nil)
/-- an item is added: which one is told -/
theorem do_appendO {i : Nat} (hv : σ[i]? = some (some (.ref L))) (o : Own K dk cl L ds G H) (h : EvN K dk cl σ G m te m' P) (e : Ex G H) (hD : Deck G H dk cl m) (hn : ds.length ≤ 100000)
    (q : ∀ d G' H1 o', UpM dk cl G H G' H1 → G' L = Option.none → P d → Ex G' (upd H1 L o') → Deck G' (upd H1 L o') dk cl m' → Own K dk cl L (ds ++ [d]) G' (upd H1 L o') → D.nx σ (upd H1 L o')) : tDrop (tBM K "list" rAppend (tVar i) (tCons te tNil)) D σ H := by
  obtain ⟨acc, ea, _⟩ := o.ex
  refine ⟨.ref L, hv, .inl ⟨rfl, acc, SqL.of ea⟩, h G H (Ex.rf _) e hD _ fun v d G1 H1 u1 hD1 p dv => ?_⟩
  have o1 := o.upM u1
  obtain ⟨acc1, ea1, da1⟩ := o1.ex
  refine ⟨L, acc1, v, rfl, rfl, ea1, ?_, q d G1 H1 _ u1 o1.a.gl p (u1.h.at o1.a.gl) (hD1.put o1.d o1.c) (o1.is (da1.append (.cons dv .nil)))⟩
  rw [da1.length]
  exact Nat.lt_of_le_of_lt hn (by decide)
/-- `into.append(from.pop(draw(deck, len(from))))` -/
theorem do_move {i j i0 : Nat} {E : XK} (h0 : σ[i0]? = some (some (.ref dk))) (hi : σ[i]? = some (some (.ref La))) (hj : σ[j]? = some (some (.ref Lb))) (hne : La ≠ Lb) {sp ls : List PyData}
    (o1 : Own K dk cl La sp G H) (o2 : Own K dk cl Lb ls G H) (e : Ex G H) (hD : Deck G H dk cl m) (hp : 0 < ls.length) (hl : ls.length ≤ 10000) (hs : sp.length ≤ 10000) (hm : m ≤ 1000000000)
    (q : ∀ (k : Nat) (d : PyData) H1 a b, ls[k]? = some d → UpM dk cl G H G H1 → Ex G (upd (upd H1 Lb a) La b) → Deck G (upd (upd H1 Lb a) La b) dk cl (m + 1) → Own K dk cl La (sp ++ [d]) G (upd (upd H1 Lb a) La b) → Own K dk cl Lb (ls.eraseIdx k) G (upd (upd H1 Lb a) La b) →
      D.nx σ (upd (upd H1 Lb a) La b)) :
    tDrop (tBM K "list" rAppend (tVar i) (tCons (tBM K "list" rPopAt (tVar j) (tCons (tCall spDraw [] E (tCons (tVar i0) (tCons (tCB (rLenQ K) (tCons (tVar j) tNil)) tNil))) tNil)) tNil)) D σ H := by
  obtain ⟨a1, e1, _⟩ := o1.ex
  obtain ⟨a2, e2, d2⟩ := o2.ex
  have l2 := d2.length
  refine ⟨.ref La, hi, .inl ⟨rfl, a1, SqL.of e1⟩, .ref Lb, hj, .inl ⟨rfl, a2, SqL.of e2⟩, .ref dk, h0, .ref Lb, hj, Lb, a2, rfl, .inl (SqL.of e2), rfl, dk, cl, a2.length, G, m, rfl, e, hD, hm, by omega, by omega, fun x H1 x0 x1 u1 hD1 => ?_⟩
  have p1 := o1.upM u1
  have p2 := o2.upM u1
  obtain ⟨b1, f1, g1⟩ := p1.ex
  obtain ⟨b2, f2, g2⟩ := p2.ex
  have l1 := g1.length
  have l3 := g2.length
  have hx : x.toNat < b2.length := by omega
  obtain ⟨d, hd, dd⟩ := g2.get (List.getElem?_eq_getElem hx)
  refine ⟨Lb, b2, x, x.toNat, b2[x.toNat], rfl, rfl, f2, by omega, by omega, seqIndex_of x0 (by omega), List.getElem?_eq_getElem hx, ?_⟩
  have ga : DaAll K G (b2.eraseIdx x.toNat) (ls.eraseIdx x.toNat) := by
    rw [List.eraseIdx_eq_take_drop_succ, List.eraseIdx_eq_take_drop_succ]
    exact (g2.take _).append (g2.drop _)
  refine ⟨La, b1, _, rfl, rfl, by rw [upd_ne hne]; exact f1, Nat.lt_of_le_of_lt (by omega : b1.length ≤ 10000) (by decide), ?_⟩
  refine q x.toNat d H1 _ _ hd u1 ((u1.h.at p2.a.gl).at p1.a.gl) ((hD1.put p2.d p2.c).put p1.d p1.c) ((p1.other hne).is (g1.append (.cons dd .nil))) ((p2.is ga).other hne.symm)
end
section
variable {K : PySem.W.Frag} {dk cl : Addr} {σ : L2.St} {F : Hp} {m m' : Nat} {te tb : TE}
theorem erase_perm {α : Type} (l : List α) (k : Nat) (h : k < l.length) : (l[k] :: l.eraseIdx k).Perm l := by
  rw [List.eraseIdx_eq_take_drop_succ]
  have : l = l.take k ++ l[k] :: l.drop (k+1) := by simp
  refine (List.perm_middle.symm).trans ?_
  rw [← this]
theorem erase_map {α β : Type} (f : α → β) (l : List α) (k : Nat) : (l.eraseIdx k).map f = (l.map f).eraseIdx k := by
  rw [List.eraseIdx_eq_take_drop_succ, List.eraseIdx_eq_take_drop_succ, List.map_append, List.map_take, List.map_drop]
theorem OpD.is {r : R2} {x y z z' : PyData} (h : OpD K r x y z) (e : z = z') : OpD K r x y z' := e ▸ h
/-! tests that draw -/
def TvN (K : PySem.W.Frag) (dk cl : Addr) (σ : L2.St) (F : Hp) (m : Nat) (tt : TT) (m' : Nat) (b : Bool) : Prop :=
  ∀ G H, Ex F G → Ex G H → Deck G H dk cl m → ∀ Q : Bool → Hp → Prop, (∀ G' H', UpM dk cl G H G' H' → Deck G' H' dk cl m' → Q b H') → tt σ H Q
theorem tn_pure {tt : TT} {b : Bool} (h : EvT σ F tt b) : TvN K dk cl σ F m tt m b := fun G H e1 e2 hD Q q => h G H e1 e2 _ fun G' H' u => q G' H' u.toM (hD.up u)
theorem tn_val {b : Bool} (h : EvN K dk cl σ F m te m' (fun d => d = .bool b)) : TvN K dk cl σ F m (tB te) m' b := fun G H e1 e2 hD Q q =>
  h G H e1 e2 hD _ fun v d G' H' u hD' p dv => by
    subst p
    cases dv
    exact ⟨b, rfl, q G' H' u hD'⟩
theorem tn_not {tt : TT} {b : Bool} (h : TvN K dk cl σ F m tt m' b) : TvN K dk cl σ F m (tNot tt) m' (!b) := fun G H e1 e2 hD Q q => h G H e1 e2 hD _ fun G' H' u hD' => q G' H' u hD'
theorem tn_or0 {tt tu : TT} {m1 : Nat} {b : Bool} (h1 : TvN K dk cl σ F m tt m1 false) (h2 : TvN K dk cl σ F m1 tu m' b) : TvN K dk cl σ F m (tOr tt tu) m' b := fun G H e1 e2 hD Q q =>
  h1 G H e1 e2 hD _ fun G1 H1 u1 hD1 => iteF (h2 G1 H1 (e1.tr u1.g) u1.h hD1 Q fun G2 H2 u2 hD2 => q G2 H2 (u1.tr u2) hD2)
theorem TvN.is {tt : TT} {b b' : Bool} (h : TvN K dk cl σ F m tt m' b) (e : b = b') : TvN K dk cl σ F m tt m' b' := e ▸ h
theorem do_guardN {G H : Hp} {tt : TT} {t : TS} {D : Ends} (h : TvN K dk cl σ G m tt m' false) (e : Ex G H) (hD : Deck G H dk cl m) (q : ∀ G' H', UpM dk cl G H G' H' → Deck G' H' dk cl m' → D.nx σ H') : tIfS tt t tNext D σ H :=
  h G H (Ex.rf _) e hD _ fun G' H' u hD' => iteF (q G' H' u hD')
theorem o_notB {a b : Bool} : OpD K rNotB (.bool a) (.bool b) (.bool (!decide (a = b))) := fun G H v u e d1 d2 Q q => by
  cases d1; cases d2
  exact ⟨a, b, rfl, rfl, q _ G H (Up.rf e) (.bl _)⟩
theorem o_isB {a b : Bool} : OpD K rIsB (.bool a) (.bool b) (.bool (decide (a = b))) := fun G H v u e d1 d2 Q q => by
  cases d1; cases d2
  exact ⟨a, b, rfl, rfl, q _ G H (Up.rf e) (.bl _)⟩
/-! int of a bool -/
abbrev rInt1 : List V → Hp → VK → Prop := fun xs H Q => (∃ i, xs = [.int i] ∧ Q (.int i) H) ∨ ∃ k, xs = [.bl k] ∧ Q (.int (if k then 1 else 0)) H
theorem c_intB {b : Bool} : CaD K rInt1 [.bool b] (.int (if b then 1 else 0)) := fun G H vs e d Q q => by
  cases d with
  | cons d1 d2 => cases d2; cases d1; exact .inr ⟨b, rfl, q _ G H (Up.rf e) (.int _)⟩
theorem c_intI {i : Int} : CaD K rInt1 [.int i] (.int i) := fun G H vs e d Q q => by
  cases d with
  | cons d1 d2 => cases d2; cases d1; exact .inl ⟨i, rfl, q _ G H (Up.rf e) (.int _)⟩
/-- [x] * (a number of times that is drawn) -/
theorem n_reps {x : PyData} {lo hi : Int} (h1 : EvE K σ F te (.list [x])) (h2 : EvN K dk cl σ F m tb m' (fun d => ∃ c : Int, d = .int c ∧ lo ≤ c ∧ c ≤ hi)) (h0 : 0 ≤ lo) (hh : hi ≤ 1000) :
    EvN K dk cl σ F m (tOp rRep te tb) m' (fun d => ∃ ys, d = .list ys ∧ ∃ c : Nat, ys = List.replicate c x ∧ lo ≤ c ∧ (c : Int) ≤ hi) :=
  (n_op (f := fun _ y => match y with | .int c => .list (List.replicate c.toNat x) | _ => .none) (n_pure h1) (fun _ _ => h2) (by
    rintro _ _ rfl ⟨c, rfl, c0, c1⟩
    have := o_rep (K := K) (xs := [x]) (n := c.toNat) (by simp; omega) (by omega)
    rw [List.flatten_replicate_singleton, Int.toNat_of_nonneg (by omega)] at this
    exact this)).imp (by
    rintro _ ⟨_, _, rfl, ⟨c, rfl, c0, c1⟩, rfl⟩
    exact ⟨_, rfl, c.toNat, rfl, by omega, by omega⟩)
end
end KD
set_option Elab.async false
set_option linter.all false
set_option maxRecDepth 100000
set_option maxHeartbeats 1000000
namespace KD
open PySem PySem.Spec PyProof.Rows L2
/-! ### zip of a list and a tuple -/
def ItzM (K : PySem.W.Frag) (a b : Addr) : It where
  go := fun i H => ∃ (xs ys : List V), SqL K H a xs ∧ SqT K H b ys ∧ i < xs.length ∧ i < ys.length
  yld := fun i H v H' => ∃ T x y, v = .ref T ∧ H T = none ∧ H' = upd H T (.tup [x, y]) ∧ (∀ xs, SqL K H a xs → xs[i]? = some x) ∧ ∀ ys, SqT K H b ys → ys[i]? = some y
  stop := fun i H => ∃ (xs ys : List V), SqL K H a xs ∧ SqT K H b ys ∧ (i = xs.length ∨ i = ys.length) ∧ i ≤ xs.length ∧ i ≤ ys.length
theorem mem5 {c z u v p q : Addr} (h : c ∈ [z, u, v, p, q]) : c = z ∨ c = u ∨ c = v ∨ c = p ∨ c = q := by simpa using h
theorem turn_zipM {P : Program} {w : World} {K : PySem.W.Frag} {elts : List Expr} {kk : Nat} {tpos : Pos} {a b z TI TO i1 i2 : Addr} (S : ZipSep2 z TI TO i1 i2 [i1, a] [i2, b]) (ha : a ≠ i1) (hb : b ≠ i2) :
    Turn P w K (.Tuple elts kk tpos) (ItzM K a b) [z, TI, TO, i1, i2] z (fun i h => IsZip h z TI TO .none ∧ IsTupOf2 h TI (.ref i1) (.ref i2) ∧ (∃ x y, IsTupOf2 h TO x y) ∧ h.IsListIter i1 a i ∧ h.IsTupleIter i2 b i) := by
  have out : ∀ {H : Hp} {h' : Heap} {s : Shared}, (∀ c o, c ≠ z → c ≠ TO → c ≠ i1 → c ≠ i2 → s.heap.get? c = some o → h'.get? c = some o) → ∀ c o, c ∉ [z, TI, TO, i1, i2] → s.heap.get? c = some o → h'.get? c = some o :=
    fun k c o hc e => k c o (fun y => hc (by simp [y])) (fun y => hc (by simp [y])) (fun y => hc (by simp [y])) (fun y => hc (by simp [y])) e
  constructor
  · simp
  · rintro i h ⟨hz, hTI, ⟨x, y, hTO⟩, ⟨o1, e1, _, d1⟩, ⟨o2, e2, _, d2⟩⟩ c hc
    rcases mem5 hc with rfl | rfl | rfl | rfl | rfl
    · exact ⟨_, hz, fun v y => nomatch y⟩
    · exact ⟨_, hTI, fun v y => nomatch y⟩
    · exact ⟨_, hTO, fun v y => nomatch y⟩
    · exact ⟨o1, e1, fun v y => by rw [d1] at y; cases y⟩
    · exact ⟨o2, e2, fun v y => by rw [d2] at y; cases y⟩
  · rintro i h h' ⟨hz, hTI, ⟨x, y, hTO⟩, h1, h2⟩ k
    exact ⟨k z (by simp) _ hz, k TI (by simp) _ hTI, ⟨x, y, k TO (by simp) _ hTO⟩, h1.at fun o e => k i1 (by simp) o e, h2.at fun o e => k i2 (by simp) o e⟩
  · intro X hP hw hK hc i pins s σ H E I hf st hg
    subst hP hw hK
    obtain ⟨hz, hTI, ⟨x0, y0, hTO⟩, h1, h2⟩ := st
    obtain ⟨xs, ys, qx, qy, lx, ly⟩ := hg
    obtain ⟨its, rv, p1, _⟩ := I.list qx
    obtain ⟨jts, rw2, p2, _⟩ := I.tuple qy
    have l1 := rv.length
    have l2 := rw2.length
    have hzl : z < s.heap.objs.size := Heap.lt_size hz
    have hh : X.A.in1.handled = none := I.ok.hd hc
    refine wpAny_pyNext_zipD2_item S (Draws.list hh i1 a ha its.toArray) (Draws.tuple hh i2 b hb jts.toArray) hz hTI hTO ⟨h1, p1.isList⟩ ⟨h2, p2⟩ (by simp; omega) (by simp; omega) fun u1 u2 h' tk f1 f2 z' TO' s1 s2 hT hsz hk => ?_
    obtain ⟨v1, hv1, r1⟩ : ∃ v, xs[i]? = some v ∧ RelV v u1 := by
      obtain ⟨u, hu, ru⟩ := rv.get (List.getElem?_eq_getElem lx)
      have : its[i]? = some u1 := by simpa using f1
      rw [this] at hu; cases hu
      exact ⟨_, List.getElem?_eq_getElem lx, ru⟩
    obtain ⟨v2, hv2, r2⟩ : ∃ v, ys[i]? = some v ∧ RelV v u2 := by
      obtain ⟨u, hu, ru⟩ := rw2.get (List.getElem?_eq_getElem ly)
      have : jts[i]? = some u2 := by simpa using f2
      rw [this] at hu; cases hu
      exact ⟨_, List.getElem?_eq_getElem ly, ru⟩
    refine ⟨_, rfl, wpAny_letOwnedTupleGo_zip (s := { s with heap := h', toks := tk }) z' fun h'' z'' sb => ?_⟩
    have hT2 : h''.get? s.heap.objs.size = some { cls := .type "tuple", data := .seq #[u1, u2] } := (sb.2 _ (Nat.ne_of_gt hzl)).trans hT
    have k2 : ∀ c o, c ∉ [z, TI, TO, i1, i2] → s.heap.get? c = some o → h''.get? c = some o := fun c o hcm e => (sb.2 c (fun y => hcm (by simp [y]))).trans (out (H := H) hk c o hcm e)
    have I1 : Inv X pins σ (upd H s.heap.objs.size (.tup [v1, v2])) { s with heap := h'', toks := tk } :=
      I.turnedNew (t' := tk) k2 hf (Nat.le_refl _) ⟨by show 2 ≤ sizeLine; decide, [u1, u2], .cons r1 (.cons r2 .nil), ⟨_, hT2, rfl, _, rfl⟩⟩
    refine ⟨.ref s.heap.objs.size, _, I1, rfl, ⟨_, v1, v2, rfl, I.hok.fresh (Nat.le_refl _), rfl, fun l hl => by rw [I.list_inj hl qx]; exact hv1, fun l hl => by rw [I.tuple_inj hl qy]; exact hv2⟩, ⟨z'', ?_, ⟨u1, u2, ?_⟩, ?_, ?_⟩, fun c hcm => ?_⟩
    · exact (sb.2 _ S.TIz).trans (hk _ _ S.TIz S.TITO S.TIi1 S.TIi2 hTI)
    · exact (sb.2 _ S.TOz).trans TO'
    · exact s1.1.at fun o e => (sb.2 _ S.zi1.symm).trans e
    · exact s2.1.at fun o e => (sb.2 _ S.zi2.symm).trans e
    · have hlt : c < s.heap.objs.size := by
        rcases mem5 hcm with rfl | rfl | rfl | rfl | rfl
        · exact hzl
        · exact Heap.lt_size hTI
        · exact Heap.lt_size hTO
        · obtain ⟨_, e, _⟩ := h1; exact Heap.lt_size e
        · obtain ⟨_, e, _⟩ := h2; exact Heap.lt_size e
      rw [upd_ne (Nat.ne_of_lt hlt)]
      exact (hf c hcm).1
  · intro X hP hw hK hc i pins s σ H E I hf st hg
    subst hP hw hK
    obtain ⟨hz, hTI, ⟨x0, y0, hTO⟩, h1, h2⟩ := st
    obtain ⟨xs, ys, qx, qy, he, lx, ly⟩ := hg
    obtain ⟨its, rv, p1, _⟩ := I.list qx
    obtain ⟨jts, rw2, p2, _⟩ := I.tuple qy
    have l1 := rv.length
    have l2 := rw2.length
    have hh : X.A.in1.handled = none := I.ok.hd hc
    exact wpAny_pyNext_zipD2_end S (Draws.list hh i1 a ha its.toArray) (Draws.tuple hh i2 b hb jts.toArray) hz hTI hTO ⟨h1, p1.isList⟩ ⟨h2, p2⟩ (by simp; omega) (by simp; omega) (by simp; omega)
      fun h' tk hk => ⟨rfl, I.turnedL (t' := tk) (out (H := H) hk) hf⟩
  · exact fun A i s Q E st h => wpAny_pyIter_zip st.1 h
def iZipM (K : PySem.W.Frag) (ta : TA) : TI := fun σ H R => ta σ H fun vs H1 => ∃ a b xs ys, vs = [.ref a, .ref b] ∧ SqL K H1 a xs ∧ SqT K H1 b ys ∧ R (ItzM K a b) H1
theorem pi_zipM {X : Cx} {e e2 : Expr} {ta : TA} {p pos tpos : Pos} {elts : List Expr} {kk : Nat} (hg : Gl X "zip") (hm : X.mg "zip" = none) (ha : PA X [e, e2] ta)
    (hs : starEach [e, e2] X.env = (false, eval e X.env) :: starEach [e2] X.env := by rfl) (hpl : (backTo pos (starEach [e2] X.env)).any (·.1) = false := by rfl) :
    PI X (.Tuple elts kk tpos) (.Call (.Name "zip" p) [e, e2] [] pos) (iZipM X.K ta) := by
  constructor
  intro pins s σ H R I h
  refine Call_ (ld_blt I hg hm PyProof.Rows.boot_zip (PyProof.Rows.callWith_type1 (thn (ha.run pos pins s σ H _ I h) ?_) hs hpl))
  rintro us s1 ⟨vs, H1, I1, r1, a, b, xs, ys, rfl, qx, qy, q⟩
  cases r1 with | cons r r1 => ?_
  cases r1 with | cons r' r1 => ?_
  cases r1; cases r; cases r'
  obtain ⟨its, rv, p1, _⟩ := I1.list qx
  obtain ⟨jts, rw2, p2, _⟩ := I1.tuple qy
  have la := p1.lt
  obtain ⟨ob, hob, _⟩ := id p2
  have lb := Heap.lt_size hob
  refine zip_begins2 (begins_list a its.toArray) (begins_tuple b jts.toArray) p1.isList p2 fun h' hz hTI hTO e1 e2 hsz hk => wpAny_pyIter_zip hz ?_
  refine ⟨s1.heap.objs.size + 4, [s1.heap.objs.size + 4, s1.heap.objs.size + 2, s1.heap.objs.size + 3, s1.heap.objs.size, s1.heap.objs.size + 1], _, ItzM X.K a b, H1, rfl, I1.kept (t' := s1.toks) hk, turn_zipM ?_ (Nat.ne_of_lt la) (Nat.ne_of_lt (Nat.lt_succ_of_lt lb)),
    ⟨hz, hTI, ⟨_, _, hTO⟩, ⟨_, e1, rfl, rfl⟩, ⟨_, e2, rfl, rfl⟩⟩, fun c hcm => ?_, q⟩
  · have hla : @LT.lt Nat instLTNat a s1.heap.objs.size := la
    have hlb : @LT.lt Nat instLTNat b s1.heap.objs.size := lb
    generalize s1.heap.objs.size = n at hla hlb
    have ne : ∀ {x y : Nat}, x ≠ y → ¬ ((x : Addr) = y) := fun h => h
    constructor <;> first
      | exact List.mem_cons_self
      | (refine ne ?_; show ¬ (_ : Nat) = _; omega)
      | (simp only [List.mem_cons, List.not_mem_nil, or_false, not_or]; refine ⟨ne ?_, ne ?_⟩ <;> (show ¬ (_ : Nat) = _; omega))
  · have hle : s1.heap.objs.size ≤ c := by
      rcases mem5 hcm with rfl | rfl | rfl | rfl | rfl <;> first | exact Nat.le_refl _ | exact Nat.le_add_right _ _
    exact I1.fpOk hle (I1.hok.fresh hle)
theorem pi_zipMK (K : PySem.W.Frag) {X : Cx} {e e2 : Expr} {ta : TA} {p pos tpos : Pos} {elts : List Expr} {kk : Nat} (hg : Gl X "zip") (hm : X.mg "zip" = none) (ha : PA X [e, e2] ta) (h : X.K = K := by rfl)
    (hs : starEach [e, e2] X.env = (false, eval e X.env) :: starEach [e2] X.env := by rfl) (hpl : (backTo pos (starEach [e2] X.env)).any (·.1) = false := by rfl) :
    PI X (.Tuple elts kk tpos) (.Call (.Name "zip" p) [e, e2] [] pos) (iZipM K ta) := h ▸ pi_zipM hg hm ha hs hpl
section
variable {K : PySem.W.Frag} {σ : L2.St} {F : Hp} {as : TA} {ds es : List PyData}
theorem i_zipM (h : EvA K σ F as [.list ds, .tuple es]) : EvI K σ F (iZipM K as) (zipD ds es) := fun G H e1 e2 R q => h G H e1 e2 _ fun vs G1 H1 u1 d1 => by
  cases d1 with | cons da db => ?_
  cases db with | cons db dc => ?_
  cases dc
  cases da with | lst h1 a1 => ?_
  cases db with | tup h2 a2 => ?_
  rename_i a xs b ys
  refine ⟨a, b, xs, ys, rfl, SqL.of (u1.h _ _ h1), SqT.of (u1.h _ _ h2), q _ G1 H1 u1 fun i G2 H2 e3 e4 => ?_⟩
  have l1 := a1.length
  have l2 := a2.length
  have hs : SqL K H2 a xs := SqL.of (e4 _ _ (e3 _ _ h1))
  have ht : SqT K H2 b ys := SqT.of (e4 _ _ (e3 _ _ h2))
  refine ⟨fun d hd => ?_, fun hi => ?_⟩
  · obtain ⟨x0, y0, hx0, hy0, rfl⟩ := zipD_get hd
    obtain ⟨x, hx, dx⟩ := a1.at hx0
    obtain ⟨y, hy, dy⟩ := a2.at hy0
    refine ⟨⟨xs, ys, hs, ht, (List.getElem?_eq_some_iff.mp hx).1, (List.getElem?_eq_some_iff.mp hy).1⟩, ?_⟩
    rintro z H' ⟨T, x', y', rfl, nT, rfl, hx', hy'⟩
    have e := hx' xs hs
    rw [hx] at e; cases e
    have e := hy' ys ht
    rw [hy] at e; cases e
    exact ⟨_, Up.new e4 nT _, .tup upd_same (.cons ((dx.mono e3).mono (Ex.up (e4.fresh nT))) (.cons ((dy.mono e3).mono (Ex.up (e4.fresh nT))) .nil))⟩
  · have : (zipD ds es).length = min ds.length es.length := by simp [zipD]
    exact ⟨xs, ys, hs, ht, by omega, by omega, by omega⟩
end
/-! ### list.extend by a tuple -/
def rExtT (K : PySem.W.Frag) : V → List V → Hp → VK → Prop := fun x vs H Q => ∃ l b xs zs, x = .ref l ∧ vs = [.ref b] ∧ H l = some (.lst xs) ∧ SqT K H b zs ∧ xs.length + zs.length ≤ sizeLine ∧ Q .non (upd H l (.lst (xs ++ zs)))
theorem extend_tuple (l b : Addr) (items more : Array Value) (n m : Nat) (dd : Option Addr) (sl : Array (Option Value)) (hs0 : ¬(!items.isEmpty && Builtin.List.listTooLong (items.size + more.size)) = true) (hs1 : items.size ≤ sizeLine)
    (hs2 : items.size + more.size ≤ sizeLine + 1) :
    Meets (Builtin.«list.extend» ⟨[.ref l, .ref b], []⟩) (fun _ R s => s.heap.get? l = some { cls := .type "list", data := .seq items n } ∧ s.heap.get? b = some { cls := .type "tuple", dict := dd, data := .seq more m, slots := sl } ∧
      R (.ok (.ret Value.none)) { s with heap := s.heap.update l (Obj.mapSeq fun x => x ++ more), toks := s.toks }) :=
  .of_wp fun prog w A R s h => by
    obtain ⟨hp, g, d, tk, os⟩ := s
    obtain ⟨hl, hb, h⟩ := h
    have f1 := AutoSeq1.idx_int
    have f2 := AutoSeq1.sub_tuple_tuple
    have f3 := AutoSeq1.sub_list_list
    have f4 := AutoSeq1.sub_tuple_list
    have f5 := AutoSeq1.sub_list_tuple
    have hz' : (items ++ more).size ≤ sizeLine + 1 := by rw [Array.size_append]; exact hs2
    wp_walk using (wpAny_updateSeq hl rfl (hz := hs1) (_hz' := hz')), wpAny_loadPart' hl, wpAny_loadPart' hb
    exact ⟨_, rfl, h⟩
theorem mt_extendT {X : Cx} (K : PySem.W.Frag) (h : X.K = K := by rfl) : MtM X "list.extend" (rExtT K) := by
  subst h
  rintro pins s σ H x vs v us Q I rx rv ⟨l, b, xs, zs, rfl, rfl, hl, hb, hz, q⟩
  cases rx
  obtain ⟨u, rfl, ru⟩ := rv.one
  cases ru
  obtain ⟨_, its, n, r, hlen, e⟩ := I.lstM hl
  obtain ⟨jts, r2, p2, _⟩ := I.tuple hb
  have hlen2 := r2.length
  have hsum : its.toArray.size + jts.toArray.size ≤ sizeLine := by
    rw [List.size_toArray, List.size_toArray]; omega
  obtain ⟨⟨cls, dd, data, sl⟩, ho, hc, n2, hd⟩ := p2
  simp only at hc hd
  subst hc hd
  refine call_meets F.slot_list_extend ⟨_, e, rfl⟩ F.entry_list_extend (F.args_list_extend_2 _ _) (extend_tuple l b its.toArray jts.toArray n n2 dd sl (by rw [notLongL hsum, Bool.and_false]; exact Bool.false_ne_true) (by rw [List.size_toArray]; omega) (by omega)) ⟨e, ho, ?_⟩
  refine ⟨.non, _, I.lset (its' := its ++ jts) hl e (by simp) (r.append r2) ?_, rfl, q⟩
  rw [List.length_append]; omega
/-! ### more by the written part's name -/
theorem cr_maxK (K : PySem.W.Frag) {X : Cx} (hc : X.calm = true) (h : X.K = K := by rfl) : CallR X (.builtin "max") (rMax K) := h ▸ cr_max hc
theorem PE.or {X : Cx} {e : Expr} {t u : TE} (h1 : PE X e t) (h2 : PE X e u) : PE X e (fun σ H Q => t σ H Q ∨ u σ H Q) :=
  ⟨fun pins s σ H Q I h => h.elim (h1.run pins s σ H Q I) (h2.run pins s σ H Q I)⟩
end KD
set_option Elab.async false
set_option linter.all false
set_option maxRecDepth 100000
set_option maxHeartbeats 1000000
namespace KD
open PySem PySem.Spec PyProof.Rows L2
/-! ### enumerate of a tuple -/
def enumObj (it : Addr) : Obj := { cls := .type "enumerate", data := .fields #[.none, .bool false, .ref it, rawInt 0, .none, .none] }
theorem enum_new {v : Value} {o : Obj} {P : Heap → Prop} (B : Begins v o P) :
    Meets (Builtin.«enumerate.__new__» ⟨[.type "enumerate", v], []⟩) (fun _ R s => P s.heap ∧ R (.ok (.ret (.ref (s.heap.push o).objs.size))) { s with heap := (s.heap.push o).push (enumObj s.heap.objs.size) }) :=
  .of_wp fun prog w A R s h => by
    obtain ⟨hp, gs, dr, tk, os⟩ := s
    obtain ⟨hP, hR⟩ := h
    have hsub := sub_enumerate
    have step : ∀ {A' : Around} {E : Value → Shared → Prop} {Q : Value → Shared → Prop}, Q (.ref hp.objs.size) ⟨hp.push o, gs, dr, tk, os⟩ → wpAny (model prog w) A' (pyIter v) Q E ⟨hp, gs, dr, tk, os⟩ :=
      fun y => B.iter prog w _ _ ⟨hp, gs, dr, tk, os⟩ _ hP y
    wp_walk using step
    refine wpAny_stack_any fun st => wpAny_pure ?_
    split
    · rename_i c _ _ _ _ _
      cases (c == Value.type "enumerate") <;> (wp_walk using step) <;> exact ⟨_, rfl, hR⟩
    · wp_walk using step
      exact ⟨_, rfl, hR⟩
theorem enum_call {prog : Program} {w : World} {A : Around} {E : Value → Shared → Prop} {s : Shared} {v : Value} {o : Obj} {P : Heap → Prop} {Q : Value → Shared → Prop} (B : Begins v o P) (hP : P s.heap)
    (h : ∀ h', IsEnum h' (s.heap.objs.size + 1) s.heap.objs.size 0 .none → h'.get? s.heap.objs.size = some o → (∀ b q, s.heap.get? b = some q → h'.get? b = some q) → Q (.ref (s.heap.objs.size + 1)) { s with heap := h' }) :
    wpAny (model prog w) A (call (.type "enumerate") [v]) Q E s := by
  refine callType_new F.called_enumerate (by decide) (F.typeCall_enumerate_1 _) (F.newCall_enumerate_1 _) (fun ob => F.args_object_init_2 ob _) F.entry_enumerate_new (enum_new B) ⟨hP, ?_⟩
  have hz : (s.heap.push o).objs.size = s.heap.objs.size + 1 := Heap.size_push ..
  show _ ∧ _
  have he := Heap.get?_push_size (s.heap.push o) (o := enumObj s.heap.objs.size) rfl
  rw [hz] at he ⊢
  exact ⟨⟨_, he, rfl⟩, h _ he (Heap.get?_push_of_some _ (Heap.get?_push_size _ B.free)) fun b q e => Heap.get?_push_of_some _ (Heap.get?_push_of_some _ e)⟩
def ItT (K : PySem.W.Frag) (a : Addr) : It where
  go := fun i H => ∃ (xs : List V), SqT K H a xs ∧ i < xs.length
  yld := fun i H v H' => ∃ T x, v = .ref T ∧ H T = none ∧ H' = upd H T (.tup [.int (i : Nat), x]) ∧ ∀ xs, SqT K H a xs → xs[i]? = some x
  stop := fun i H => ∃ xs : List V, SqT K H a xs ∧ i = xs.length
theorem mem2 {c e it : Addr} (h : c ∈ [e, it]) : c = e ∨ c = it := by simpa using h
theorem turn_enumT {P : Program} {w : World} {K : PySem.W.Frag} {elts : List Expr} {kk : Nat} {tpos : Pos} {a e it : Addr} (hae : a ≠ e) (hai : a ≠ it) (hei : e ≠ it) :
    Turn P w K (.Tuple elts kk tpos) (ItT K a) [e, it] e (fun i h => (∃ old, IsEnum h e it ((i : Nat) : Int) old) ∧ h.IsTupleIter it a i) := by
  constructor
  · simp
  · rintro i h ⟨⟨old, he⟩, ⟨o, ho, hc, hd⟩⟩ c hcm
    rcases mem2 hcm with rfl | rfl
    · exact ⟨_, he, fun v y => nomatch y⟩
    · exact ⟨o, ho, fun v y => by rw [hd] at y; cases y⟩
  · rintro i h h' ⟨⟨old, he⟩, hit⟩ k
    exact ⟨⟨old, k e (by simp) _ he⟩, hit.at fun o y => k it (by simp) o y⟩
  · intro X hP hw hK hc i pins s σ H E I hf st hg
    subst hP hw hK
    obtain ⟨⟨old, he⟩, hit⟩ := st
    obtain ⟨xs, hq, hx⟩ := hg
    obtain ⟨its, rv, p, _⟩ := I.tuple hq
    have hl := rv.length
    have hel : e < s.heap.objs.size := Heap.lt_size he
    have hh : X.A.in1.handled = none := I.ok.hd hc
    refine wpAny_pyNext_enum_itemD (Draws.tuple hh it a hai its.toArray) he ⟨hit, p⟩ (by simp; omega) hei (by simp [hei, hae.symm]) fun u h' tk hu ho st' hT hsz hk => ?_
    obtain ⟨v, hv, ru⟩ : ∃ v, xs[i]? = some v ∧ RelV v u := by
      obtain ⟨u', hu', ru⟩ := rv.get (List.getElem?_eq_getElem hx)
      have : its[i]? = some u := by simpa using hu
      rw [this] at hu'; cases hu'
      exact ⟨_, List.getElem?_eq_getElem hx, ru⟩
    refine ⟨_, rfl, wpAny_letOwnedTupleGo_enum (s := { s with heap := h', toks := tk + 1 }) ho fun h'' he' sb => ?_⟩
    have hT2 : h''.get? s.heap.objs.size = some { cls := .type "tuple", data := .seq #[.int i tk, u] } := (sb.2 _ (Nat.ne_of_gt hel)).trans hT
    have I1 : Inv X pins σ (upd H s.heap.objs.size (.tup [.int (i : Nat), v])) { s with heap := h'', toks := tk + 1 } :=
      I.turnedNew (ch := [e, it]) (fun b ob hb y => (sb.2 b (fun z => hb (by simp [z]))).trans (hk b ob (fun z => hb (by simp [z])) (fun z => hb (by simp [z])) y)) hf (Nat.le_refl _)
        ⟨by show 2 ≤ sizeLine; decide, [.int i tk, u], .cons ⟨_, rfl⟩ (.cons ru .nil), ⟨_, hT2, rfl, _, rfl⟩⟩
    refine ⟨.ref s.heap.objs.size, _, I1, rfl, ⟨_, v, rfl, I.hok.fresh (Nat.le_refl _), rfl, fun ys hy => by rw [I.tuple_inj hy hq]; exact hv⟩, ⟨⟨u, ?_⟩, st'.1.at fun o y => (sb.2 it hei.symm).trans y⟩, fun b hb => ?_⟩
    · have e1 : ((i + 1 : Nat) : Int) = (i : Int) + 1 := by omega
      rw [e1]
      exact he'
    · have hb' : b < s.heap.objs.size := by
        rcases mem2 hb with rfl | rfl
        · exact hel
        · obtain ⟨_, y, _⟩ := hit; exact Heap.lt_size y
      rw [upd_ne (Nat.ne_of_lt hb')]
      exact (hf b hb).1
  · intro X hP hw hK hc i pins s σ H E I hf st hg
    subst hP hw hK
    obtain ⟨⟨old, he⟩, hit⟩ := st
    obtain ⟨xs, hq, hx⟩ := hg
    obtain ⟨its, rv, p, _⟩ := I.tuple hq
    have hl := rv.length
    have hh : X.A.in1.handled = none := I.ok.hd hc
    obtain ⟨f0, f1, f2, f3, f4, f5⟩ := hf it (by simp)
    have hn : i = its.toArray.size := by rw [List.size_toArray]; omega
    refine wpAny_pyNext_enum_endD (Draws.tuple hh it a hai its.toArray) he ⟨hn ▸ hit, p⟩ fun h' eb => ⟨rfl, I.turned (t' := s.toks) (fun b o hb y => eb b o hb y) f0 f1 f3 f4 f5⟩
  · exact fun A i s Q E st h => let ⟨⟨_, he⟩, _⟩ := st; wpAny_pyIter_enum he h
def iEnT (K : PySem.W.Frag) (ta : TA) : TI := fun σ H R => ta σ H fun vs H1 => ∃ a xs, vs = [.ref a] ∧ SqT K H1 a xs ∧ R (ItT K a) H1
theorem pi_enumT {X : Cx} {e : Expr} {ta : TA} {p pos tpos : Pos} {elts : List Expr} {kk : Nat} (hg : Gl X "enumerate") (hm : X.mg "enumerate" = none) (ha : PA X [e] ta) (hs : starEach [e] X.env = [(false, eval e X.env)] := by rfl) :
    PI X (.Tuple elts kk tpos) (.Call (.Name "enumerate" p) [e] [] pos) (iEnT X.K ta) := by
  constructor
  intro pins s σ H R I h
  refine Call_ (ld_blt I hg hm boot_enumerate (PyProof.Rows.callWith_type1 (thn (ha.run pos pins s σ H _ I h) ?_) hs rfl))
  rintro us s1 ⟨vs, H1, I1, r1, a, xs, rfl, qx, q⟩
  cases r1 with | cons r r1 => ?_
  cases r1; cases r
  obtain ⟨its, rv, p2, _⟩ := I1.tuple qx
  obtain ⟨ob, hob, _⟩ := id p2
  have la : @LT.lt Nat instLTNat a s1.heap.objs.size := Heap.lt_size hob
  refine enum_call (begins_tuple a its.toArray) p2 fun h' he ho hk => wpAny_pyIter_enum he ?_
  refine ⟨s1.heap.objs.size + 1, [s1.heap.objs.size + 1, s1.heap.objs.size], _, ItT X.K a, H1, rfl, I1.kept (t' := s1.toks) hk, turn_enumT (Nat.ne_of_lt (Nat.lt_succ_of_lt la)) (Nat.ne_of_lt la) (Nat.succ_ne_self _), ⟨⟨_, he⟩, ⟨_, ho, rfl, rfl⟩⟩, fun c hcm => ?_, q⟩
  have hle : s1.heap.objs.size ≤ c := by
    rcases mem2 hcm with rfl | rfl
    · exact Nat.le_add_right _ _
    · exact Nat.le_refl _
  exact I1.fpOk hle (I1.hok.fresh hle)
theorem pi_enumKT (K : PySem.W.Frag) {X : Cx} {e : Expr} {ta : TA} {p pos tpos : Pos} {elts : List Expr} {kk : Nat} (hg : Gl X "enumerate") (hm : X.mg "enumerate" = none) (ha : PA X [e] ta) (h : X.K = K := by rfl) (hs : starEach [e] X.env = [(false, eval e X.env)] := by rfl) :
    PI X (.Tuple elts kk tpos) (.Call (.Name "enumerate" p) [e] [] pos) (iEnT K ta) := h ▸ pi_enumT hg hm ha hs
/-! ### what is walked, as data -/
section
variable {K : PySem.W.Frag} {σ : L2.St} {F : Hp} {as : TA} {ds es : List PyData}
theorem i_enumT (h : EvA K σ F as [.tuple ds]) : EvI K σ F (iEnT K as) (enumD ds) := fun G H e1 e2 R q => h G H e1 e2 _ fun vs G1 H1 u1 d1 => by
  cases d1 with | cons da db => ?_
  cases db
  cases da with | tup h1 a1 => ?_
  rename_i a xs
  refine ⟨a, xs, rfl, SqT.of (u1.h _ _ h1), q _ G1 H1 u1 fun i G2 H2 e3 e4 => ⟨fun d hd => ?_, fun hi => ?_⟩⟩
  · obtain ⟨x0, h0, rfl⟩ := enumD_get hd
    obtain ⟨x, hx, dx⟩ := a1.at h0
    have hs : SqT K H2 a xs := SqT.of (e4 _ _ (e3 _ _ h1))
    refine ⟨⟨xs, hs, (List.getElem?_eq_some_iff.mp hx).1⟩, ?_⟩
    rintro y H' ⟨T, x', rfl, nT, rfl, hy⟩
    have e := hy xs hs
    rw [hx] at e; cases e
    exact ⟨_, Up.new e4 nT _, .tup upd_same (.cons (.int _) (.cons ((dx.mono e3).mono (Ex.up (e4.fresh nT))) .nil))⟩
  · have := a1.length
    rw [enumD_length] at hi
    exact ⟨xs, SqT.of (e4 _ _ (e3 _ _ h1)), by omega⟩
end
end KD
/-! ### sheets as graphs: sameness, depth-first numbering, least sheets -/
set_option linter.all false
namespace KM
section
variable {α : Type}
abbrev Sheet (α : Type) := List (α × List Nat)
def tg (s : Sheet α) (i : Nat) : Option α := (s[i]?).map (·.1)
def fl (s : Sheet α) (i : Nat) : List Nat := ((s[i]?).map (·.2)).getD []
structure Ok (ar : α → Nat) (s : Sheet α) : Prop where
  a : ∀ r ∈ s, r.2.length = ar r.1
  f : ∀ r ∈ s, ∀ x ∈ r.2, x < s.length
theorem tg_at {s : Sheet α} {i : Nat} {r : α × List Nat} (h : s[i]? = some r) : tg s i = some r.1 := by unfold tg; rw [h]; rfl
theorem fl_at {s : Sheet α} {i : Nat} {r : α × List Nat} (h : s[i]? = some r) : fl s i = r.2 := by unfold fl; rw [h]; rfl
theorem at_lt {s : Sheet α} {i : Nat} (h : i < s.length) : ∃ r, s[i]? = some r ∧ r ∈ s := ⟨_, List.getElem?_eq_getElem h, List.getElem_mem h⟩
theorem Ok.fld {ar : α → Nat} {s : Sheet α} (h : Ok ar s) {i x : Nat} (hx : x ∈ fl s i) : x < s.length := by
  unfold fl at hx
  cases e : s[i]? with
  | none => rw [e] at hx; simp at hx
  | some r => rw [e] at hx; exact h.f r (List.mem_of_getElem? e) x hx
/-- alike down to a depth -/
def eqv (s t : Sheet α) : Nat → Nat → Nat → Prop
  | 0, _, _ => True
  | n + 1, i, j => tg s i = tg t j ∧ ∀ (a x y : Nat), (fl s i)[a]? = some x → (fl t j)[a]? = some y → eqv s t n x y
def Same (s t : Sheet α) (i j : Nat) : Prop := ∀ n, eqv s t n i j
theorem Same.tag {s t : Sheet α} {i j : Nat} (h : Same s t i j) : tg s i = tg t j := (h 1).1
theorem Same.fld {s t : Sheet α} {i j a x y : Nat} (h : Same s t i j) (hx : (fl s i)[a]? = some x) (hy : (fl t j)[a]? = some y) : Same s t x y := fun n => (h (n + 1)).2 a x y hx hy
theorem same_of {s t : Sheet α} (R : Nat → Nat → Prop) (h : ∀ i j, R i j → tg s i = tg t j ∧ ∀ (a x y : Nat), (fl s i)[a]? = some x → (fl t j)[a]? = some y → R x y) {i j : Nat} (hij : R i j) : Same s t i j := by
  intro n
  induction n generalizing i j with
  | zero => trivial
  | succ n ih => exact ⟨(h i j hij).1, fun a x y hx hy => ih ((h i j hij).2 a x y hx hy)⟩
theorem Same.rf (s : Sheet α) (i : Nat) : Same s s i i := same_of (fun i j => i = j) (by rintro i _ rfl; exact ⟨rfl, fun a x y hx hy => by rw [hx] at hy; cases hy; rfl⟩) rfl
theorem Same.sym {s t : Sheet α} {i j : Nat} (h : Same s t i j) : Same t s j i := same_of (fun j i => Same s t i j) (fun j i h => ⟨h.tag.symm, fun _ _ _ hx hy => h.fld hy hx⟩) h
theorem tg_lt {s : Sheet α} {i : Nat} (h : i < s.length) : ∃ z, tg s i = some z := ⟨_, tg_at (List.getElem?_eq_getElem h)⟩
theorem tg_none {s : Sheet α} {i : Nat} (h : ¬ i < s.length) : tg s i = none := by unfold tg; rw [List.getElem?_eq_none (by omega)]; rfl
theorem Ok.len {ar : α → Nat} {s t : Sheet α} (hs : Ok ar s) (ht : Ok ar t) {i j : Nat} (h : tg s i = tg t j) : (fl s i).length = (fl t j).length := by
  by_cases hi : i < s.length
  · obtain ⟨r, hr, hrm⟩ := at_lt hi
    by_cases hj : j < t.length
    · obtain ⟨q, hq, hqm⟩ := at_lt hj
      rw [tg_at hr, tg_at hq] at h
      rw [fl_at hr, fl_at hq, hs.a r hrm, ht.a q hqm, Option.some.inj h]
    · rw [tg_at hr, tg_none hj] at h; cases h
  · by_cases hj : j < t.length
    · obtain ⟨q, hq, hqm⟩ := at_lt hj
      rw [tg_at hq, tg_none hi] at h; cases h
    · unfold fl
      rw [List.getElem?_eq_none (by omega), List.getElem?_eq_none (by omega)]
theorem Same.tr {ar : α → Nat} {s t u : Sheet α} (hs : Ok ar s) (ht : Ok ar t) {i j k : Nat} (h : Same s t i j) (h2 : Same t u j k) : Same s u i k :=
  same_of (fun i k => ∃ j, Same s t i j ∧ Same t u j k) (by
    rintro i k ⟨j, h, h2⟩
    refine ⟨h.tag.trans h2.tag, fun a x z hx hz => ?_⟩
    have hl := hs.len ht h.tag
    have ha : a < (fl t j).length := by rw [← hl]; exact (List.getElem?_eq_some_iff.mp hx).1
    exact ⟨_, h.fld hx (List.getElem?_eq_getElem ha), h2.fld (List.getElem?_eq_getElem ha) hz⟩) ⟨j, h, h2⟩
theorem Same.lt {s t : Sheet α} {i j : Nat} (h : Same s t i j) (hi : i < s.length) : j < t.length := by
  obtain ⟨z, hz⟩ := tg_lt hi
  have e := h.tag
  rw [hz] at e
  by_cases hj : j < t.length
  · exact hj
  · rw [tg_none hj] at e; cases e
/-! ### a depth-first walk with a stack -/
inductive Dfs (F : Nat → List Nat) : List Nat → List Nat → List Nat → Prop
  | nil {met : List Nat} : Dfs F [] met met
  | skip {x : Nat} {st met r : List Nat} : x ∈ met → Dfs F st met r → Dfs F (x :: st) met r
  | push {x : Nat} {st met r : List Nat} : x ∉ met → Dfs F (F x ++ st) (met ++ [x]) r → Dfs F (x :: st) met r
inductive F2 (R : Nat → Nat → Prop) : List Nat → List Nat → Prop
  | nil : F2 R [] []
  | cons {x y : Nat} {xs ys : List Nat} : R x y → F2 R xs ys → F2 R (x :: xs) (y :: ys)
theorem F2.app {R : Nat → Nat → Prop} : ∀ {xs ys us vs : List Nat}, F2 R xs ys → F2 R us vs → F2 R (xs ++ us) (ys ++ vs)
  | _, _, _, _, .nil, h => h
  | _, _, _, _, .cons a b, h => .cons a (F2.app b h)
theorem F2.length {R : Nat → Nat → Prop} : ∀ {xs ys : List Nat}, F2 R xs ys → xs.length = ys.length
  | _, _, .nil => rfl
  | _, _, .cons _ b => congrArg (· + 1) b.length
/-- a relation that is one to one -/
def One (R : Nat → Nat → Prop) : Prop := ∀ x y x' y', R x y → R x' y' → (x = x' ↔ y = y')
theorem F2.mem {R : Nat → Nat → Prop} (o : One R) : ∀ {xs ys : List Nat} {x y : Nat}, F2 R xs ys → R x y → (x ∈ xs ↔ y ∈ ys)
  | _, _, _, _, .nil, _ => by simp
  | _, _, x, y, .cons a b, h => by
    rw [List.mem_cons, List.mem_cons, F2.mem o b h, o _ _ _ _ h a]
theorem F2.idx {R : Nat → Nat → Prop} (o : One R) : ∀ {xs ys : List Nat} {x y : Nat}, F2 R xs ys → R x y → xs.idxOf x = ys.idxOf y
  | _, _, _, _, .nil, _ => by simp
  | _, _, x, y, .cons (x := u) (y := v) a b, h => by
    rw [List.idxOf_cons, List.idxOf_cons]
    have e := o _ _ _ _ a h
    by_cases hx : u = x
    · have hy := e.mp hx
      simp [hx, hy]
    · have hy : ¬ v = y := fun z => hx (e.mpr z)
      rw [beq_false_of_ne hx, beq_false_of_ne hy, F2.idx o b h]
theorem F2.of_map {R : Nat → Nat → Prop} {f g : Nat → Nat} : ∀ {xs : List Nat}, (∀ x ∈ xs, R (f x) (g x)) → F2 R (xs.map f) (xs.map g)
  | [], _ => .nil
  | x :: xs, h => .cons (h x List.mem_cons_self) (F2.of_map fun y hy => h y (List.mem_cons_of_mem _ hy))
theorem F2.of_get {R : Nat → Nat → Prop} : ∀ {xs ys : List Nat}, xs.length = ys.length → (∀ (a x y : Nat), xs[a]? = some x → ys[a]? = some y → R x y) → F2 R xs ys
  | [], [], _, _ => .nil
  | x :: xs, y :: ys, hl, h => .cons (h 0 x y rfl rfl) (F2.of_get (by simpa using hl) fun a u v hu hv => h (a + 1) u v (by simpa using hu) (by simpa using hv))
theorem F2.get {R : Nat → Nat → Prop} : ∀ {xs ys : List Nat} {a x y : Nat}, F2 R xs ys → xs[a]? = some x → ys[a]? = some y → R x y
  | _, _, _, _, _, .nil, hx, _ => by simp at hx
  | _, _, 0, _, _, .cons h _, hx, hy => by simp at hx hy; subst hx hy; exact h
  | _, _, a + 1, _, _, .cons _ b, hx, hy => F2.get (a := a) b (by simpa using hx) (by simpa using hy)
theorem Dfs.rel {R : Nat → Nat → Prop} (o : One R) {F F' : Nat → List Nat} (hF : ∀ x y, R x y → F2 R (F x) (F' y)) : ∀ {st met r : List Nat}, Dfs F st met r → ∀ {st' met' : List Nat}, F2 R st st' → F2 R met met' → ∃ r', Dfs F' st' met' r' ∧ F2 R r r' := by
  intro st met r h
  induction h with
  | nil => intro st' met' h1 h2; cases h1; exact ⟨_, .nil, h2⟩
  | skip hx _ ih =>
    intro st' met' h1 h2
    cases h1 with
    | cons a b =>
      obtain ⟨r', d, f⟩ := ih b h2
      exact ⟨r', .skip ((F2.mem o h2 a).mp hx) d, f⟩
  | push hx _ ih =>
    intro st' met' h1 h2
    cases h1 with
    | cons a b =>
      obtain ⟨r', d, f⟩ := ih ((hF _ _ a).app b) (h2.app (.cons a .nil))
      exact ⟨r', .push (fun z => hx ((F2.mem o h2 a).mpr z)) d, f⟩
theorem Dfs.det {F : Nat → List Nat} {st met r r' : List Nat} (h : Dfs F st met r) (h' : Dfs F st met r') : r = r' := by
  induction h with
  | nil => cases h'; rfl
  | skip hx _ ih =>
    cases h' with
    | skip _ d => exact ih d
    | push hn _ => exact absurd hx hn
  | push hx _ ih =>
    cases h' with
    | skip hn _ => exact absurd hn hx
    | push _ d => exact ih d
/-- what is met: kept, distinct, closed -/
theorem Dfs.keep {F : Nat → List Nat} {st met r : List Nat} (h : Dfs F st met r) : (∀ x ∈ met, x ∈ r) ∧ (∀ x ∈ st, x ∈ r) := by
  induction h with
  | nil => exact ⟨fun _ h => h, fun _ h => by cases h⟩
  | skip hx _ ih => exact ⟨ih.1, fun y hy => by rcases List.mem_cons.mp hy with rfl | hy; exact ih.1 _ hx; exact ih.2 _ hy⟩
  | push _ _ ih => exact ⟨fun y hy => ih.1 _ (List.mem_append_left _ hy), fun y hy => by
      rcases List.mem_cons.mp hy with rfl | hy
      · exact ih.1 _ (List.mem_append_right _ List.mem_cons_self)
      · exact ih.2 _ (List.mem_append_right _ hy)⟩
theorem Dfs.nodup {F : Nat → List Nat} {st met r : List Nat} (h : Dfs F st met r) (hm : met.Nodup) : r.Nodup := by
  induction h with
  | nil => exact hm
  | skip _ _ ih => exact ih hm
  | push hx _ ih => exact ih (List.nodup_append.mpr ⟨hm, by simp, fun a ha b hb => by
      rcases List.mem_cons.mp hb with rfl | hb
      · exact fun e => hx (e ▸ ha)
      · cases hb⟩)
theorem Dfs.inv {F : Nat → List Nat} {P : Nat → Prop} (hF : ∀ x, P x → ∀ y ∈ F x, P y) {st met r : List Nat} (h : Dfs F st met r) (hs : ∀ x ∈ st, P x) (hm : ∀ x ∈ met, P x) : ∀ x ∈ r, P x := by
  induction h with
  | nil => exact hm
  | skip _ _ ih => exact ih (fun x hx => hs x (List.mem_cons_of_mem _ hx)) hm
  | push _ _ ih =>
    refine ih (fun x hx => ?_) fun x hx => ?_
    · rcases List.mem_append.mp hx with hx | hx
      · exact hF _ (hs _ List.mem_cons_self) x hx
      · exact hs x (List.mem_cons_of_mem _ hx)
    · rcases List.mem_append.mp hx with hx | hx
      · exact hm x hx
      · rcases List.mem_cons.mp hx with rfl | hx
        · exact hs _ List.mem_cons_self
        · cases hx
/-- fields of what is met are met -/
theorem Dfs.closed {F : Nat → List Nat} {st met r : List Nat} (h : Dfs F st met r) (hm : ∀ x ∈ met, ∀ y ∈ F x, y ∈ met ∨ y ∈ st) : ∀ x ∈ r, ∀ y ∈ F x, y ∈ r := by
  induction h with
  | nil => intro x hx y hy; rcases hm x hx y hy with h | h; exact h; cases h
  | skip hx _ ih =>
    refine ih fun z hz y hy => ?_
    rcases hm z hz y hy with h | h
    · exact .inl h
    · rcases List.mem_cons.mp h with rfl | h
      · exact .inl hx
      · exact .inr h
  | push hx _ ih =>
    refine ih fun z hz y hy => ?_
    rcases List.mem_append.mp hz with hz | hz
    · rcases hm z hz y hy with h | h
      · exact .inl (List.mem_append_left _ h)
      · rcases List.mem_cons.mp h with rfl | h
        · exact .inl (List.mem_append_right _ List.mem_cons_self)
        · exact .inr (List.mem_append_right _ h)
    · rcases List.mem_cons.mp hz with rfl | hz
      · exact .inr (List.mem_append_left _ hy)
      · cases hz
theorem Dfs.head {F : Nat → List Nat} {x : Nat} {r : List Nat} (h : Dfs F [x] [] r) : r[0]? = some x := by
  have pre : ∀ {st met r : List Nat}, Dfs F st met r → ∀ y, met[0]? = some y → r[0]? = some y := by
    intro st met r h
    induction h with
    | nil => exact fun _ h => h
    | skip _ _ ih => exact ih
    | push _ _ ih =>
      intro y hy
      refine ih y ?_
      rw [List.getElem?_append_left (List.getElem?_eq_some_iff.mp hy).1]
      exact hy
  cases h with
  | skip hx _ => cases hx
  | push _ d => exact pre d x rfl
/-! ### the sheet of a walk -/
def rooted (T : Nat → α) (F : Nat → List Nat) (met : List Nat) : Sheet α := met.map fun k => (T k, (F k).map fun f => met.idxOf f)
structure Least (s : Sheet α) (root : Nat) (r : Sheet α) (num : Nat → Nat) (T : Nat → α) (F : Nat → List Nat) (met : List Nat) : Prop where
  n : ∀ i j, i < s.length → j < s.length → (num i = num j ↔ Same s s i j)
  t : ∀ i, i < s.length → tg s i = some (T (num i))
  f : ∀ i, i < s.length → F (num i) = (fl s i).map num
  d : Dfs F [num root] [] met
  r : r = rooted T F met
def IsLeast (s : Sheet α) (root : Nat) (r : Sheet α) : Prop := ∃ num T F met, Least s root r num T F met
theorem isLeast_uniq {ar : α → Nat} {s t : Sheet α} (hs : Ok ar s) (ht : Ok ar t) {i j : Nat} (hi : i < s.length) (hij : Same s t i j) {r q : Sheet α} (h : IsLeast s i r) (h' : IsLeast t j q) : r = q := by
  obtain ⟨num, T, F, met, L⟩ := h
  obtain ⟨num', T', F', met', L'⟩ := h'
  let R : Nat → Nat → Prop := fun c c' => ∃ a b, a < s.length ∧ b < t.length ∧ c = num a ∧ c' = num' b ∧ Same s t a b
  have one : One R := by
    rintro x y x' y' ⟨a, b, ha, hb, rfl, rfl, h⟩ ⟨a', b', ha', hb', rfl, rfl, h'⟩
    rw [L.n a a' ha ha', L'.n b b' hb hb']
    exact ⟨fun e => (h.sym.tr ht hs e).tr ht hs h', fun e => (h.tr hs ht e).tr hs ht h'.sym⟩
  have hF : ∀ x y, R x y → F2 R (F x) (F' y) := by
    rintro x y ⟨a, b, ha, hb, rfl, rfl, h⟩
    rw [L.f a ha, L'.f b hb]
    refine F2.of_get (by rw [List.length_map, List.length_map]; exact hs.len ht h.tag) fun k u v hu hv => ?_
    rw [List.getElem?_map] at hu hv
    obtain ⟨x, hx, rfl⟩ := Option.map_eq_some_iff.mp hu
    obtain ⟨y, hy, rfl⟩ := Option.map_eq_some_iff.mp hv
    exact ⟨x, y, hs.fld (List.mem_of_getElem? hx), ht.fld (List.mem_of_getElem? hy), rfl, rfl, h.fld hx hy⟩
  obtain ⟨m2, d2, f2⟩ := L.d.rel one hF (.cons ⟨i, j, hi, hij.lt hi, rfl, rfl, hij⟩ .nil) .nil
  have e := d2.det L'.d
  subst e
  rw [L.r, L'.r]
  have hcl := L.d.closed (by intro _ h; cases h)
  have hRm : ∀ x ∈ met, ∃ a, a < s.length ∧ x = num a := L.d.inv (P := fun x => ∃ a, a < s.length ∧ x = num a) (by
    rintro _ ⟨a, ha, rfl⟩ y hy
    rw [L.f a ha] at hy
    obtain ⟨z, hz, rfl⟩ := List.mem_map.mp hy
    exact ⟨z, hs.fld hz, rfl⟩) (by intro x hx; rcases List.mem_cons.mp hx with rfl | hx; exact ⟨i, hi, rfl⟩; cases hx) (by intro _ h; cases h)
  unfold rooted
  refine List.ext_getElem? fun k => ?_
  rw [List.getElem?_map, List.getElem?_map]
  have hl := f2.length
  by_cases hk : k < met.length
  · rw [List.getElem?_eq_getElem hk, List.getElem?_eq_getElem (by omega : k < m2.length)]
    have hR : R met[k] m2[k] := f2.get (a := k) (List.getElem?_eq_getElem hk) (List.getElem?_eq_getElem _)
    obtain ⟨a, b, ha, hb, ea, eb, h⟩ := hR
    show some _ = some _
    congr 1
    refine Prod.ext ?_ ?_
    · show T _ = T' _
      rw [ea, eb]
      have := h.tag
      rw [L.t a ha, L'.t b hb] at this
      exact Option.some.inj this
    · show (F _).map _ = (F' _).map _
      have hf := hF _ _ ⟨a, b, ha, hb, ea, eb, h⟩
      refine List.ext_getElem? fun c => ?_
      rw [List.getElem?_map, List.getElem?_map]
      have hl2 := hf.length
      by_cases hc : c < (F met[k]).length
      · rw [List.getElem?_eq_getElem hc, List.getElem?_eq_getElem (by omega : c < (F' m2[k]).length)]
        show some (met.idxOf _) = some (m2.idxOf _)
        rw [f2.idx one (hf.get (a := c) (List.getElem?_eq_getElem hc) (List.getElem?_eq_getElem _))]
      · rw [List.getElem?_eq_none (by omega), List.getElem?_eq_none (by omega)]; rfl
  · rw [List.getElem?_eq_none (by omega), List.getElem?_eq_none (by omega)]; rfl
/-- the least sheet writes the same value, and is a sheet -/
theorem isLeast_same {ar : α → Nat} {s r : Sheet α} (hs : Ok ar s) {i : Nat} (hi : i < s.length) (h : IsLeast s i r) : Ok ar r ∧ 0 < r.length ∧ r.length ≤ s.length ∧ Same r s 0 i := by
  obtain ⟨num, T, F, met, L⟩ := h
  have hcl := L.d.closed (by intro _ h; cases h)
  have hRm : ∀ x ∈ met, ∃ a, a < s.length ∧ x = num a := L.d.inv (P := fun x => ∃ a, a < s.length ∧ x = num a) (by
    rintro _ ⟨a, ha, rfl⟩ y hy
    rw [L.f a ha] at hy
    obtain ⟨z, hz, rfl⟩ := List.mem_map.mp hy
    exact ⟨z, hs.fld hz, rfl⟩) (by intro x hx; rcases List.mem_cons.mp hx with rfl | hx; exact ⟨i, hi, rfl⟩; cases hx) (by intro _ h; cases h)
  have hn := L.d.nodup .nil
  have h0 := L.d.head
  have hrl : r.length = met.length := by rw [L.r]; unfold rooted; rw [List.length_map]
  have hat : ∀ k a, met[k]? = some (num a) → a < s.length → r[k]? = some (T (num a), (F (num a)).map fun f => met.idxOf f) := fun k a hk ha => by
    rw [L.r]; unfold rooted; rw [List.getElem?_map, hk]; rfl
  refine ⟨⟨fun q hq => ?_, fun q hq x hx => ?_⟩, ?_, ?_, ?_⟩
  · obtain ⟨k, hk⟩ := List.mem_iff_getElem?.mp hq
    have hkl := (List.getElem?_eq_some_iff.mp hk).1
    obtain ⟨a, ha, e⟩ := hRm _ (List.getElem_mem (by omega : k < met.length))
    rw [hat k a (by rw [List.getElem?_eq_getElem (by omega : k < met.length), e]) ha] at hk
    cases hk
    show (List.map _ _).length = ar (T (num a))
    rw [List.length_map, L.f a ha, List.length_map]
    obtain ⟨z, hz, hzm⟩ := at_lt ha
    have := L.t a ha
    rw [tg_at hz] at this
    rw [fl_at hz, hs.a z hzm, Option.some.inj this]
  · obtain ⟨k, hk⟩ := List.mem_iff_getElem?.mp hq
    have hkl := (List.getElem?_eq_some_iff.mp hk).1
    obtain ⟨a, ha, e⟩ := hRm _ (List.getElem_mem (by omega : k < met.length))
    have hm : num a ∈ met := by rw [← e]; exact List.getElem_mem _
    rw [hat k a (by rw [List.getElem?_eq_getElem (by omega : k < met.length), e]) ha] at hk
    cases hk
    obtain ⟨f, hf, rfl⟩ := List.mem_map.mp hx
    rw [hrl]
    exact List.idxOf_lt_length_iff.mpr (hcl _ hm f hf)
  · rw [hrl]; exact (List.getElem?_eq_some_iff.mp h0).1
  · rw [hrl]
    -- distinct class numbers, each of a row
    have hch : ∀ k : Nat, ∃ a, k < met.length → a < s.length ∧ met[k]? = some (num a) := fun k => by
      by_cases hk : k < met.length
      · obtain ⟨a, ha, e⟩ := hRm _ (List.getElem_mem hk)
        exact ⟨a, fun _ => ⟨ha, by rw [List.getElem?_eq_getElem hk, e]⟩⟩
      · exact ⟨0, fun h => absurd h hk⟩
    have hg := Classical.axiomOfChoice hch
    obtain ⟨g, hg⟩ := hg
    have hnd : ((List.range met.length).map g).Nodup := by
      refine List.pairwise_map.mpr (List.Pairwise.imp_of_mem (fun {a b} ha hb hab e => hab ?_) List.nodup_range)
      have ha := List.mem_range.mp ha
      have hb := List.mem_range.mp hb
      have h1 := (hg a ha).2
      have h2 := (hg b hb).2
      rw [e, ← h2, List.getElem?_eq_getElem ha, List.getElem?_eq_getElem hb] at h1
      exact (List.getElem_inj hn).mp (Option.some.inj h1)
    have hsub : ∀ x ∈ (List.range met.length).map g, x ∈ List.range s.length := fun x hx => by
      obtain ⟨k, hk, rfl⟩ := List.mem_map.mp hx
      exact List.mem_range.mpr (hg k (List.mem_range.mp hk)).1
    have := hnd.length_le_of_subset hsub
    rw [List.length_map, List.length_range, List.length_range] at this
    exact this
  · refine same_of (fun k a => a < s.length ∧ met[k]? = some (num a)) (fun k a ⟨ha, hk⟩ => ⟨?_, fun c x y hx hy => ?_⟩) ⟨hi, h0⟩
    · rw [tg_at (hat k a hk ha), L.t a ha]
    · rw [fl_at (hat k a hk ha)] at hx
      have hx : ((F (num a)).map fun f => met.idxOf f)[c]? = some x := hx
      rw [L.f a ha, List.map_map, List.getElem?_map, hy] at hx
      have hx : met.idxOf (num y) = x := Option.some.inj hx
      have hya := hs.fld (List.mem_of_getElem? hy)
      refine ⟨hya, ?_⟩
      have hm : num y ∈ met := hcl (num a) (List.mem_of_getElem? hk) _ (by rw [L.f a ha]; exact List.mem_map_of_mem (List.mem_of_getElem? hy))
      have hlt := List.idxOf_lt_length_iff.mpr hm
      rw [← hx, List.getElem?_eq_getElem hlt, List.getElem_idxOf hlt]
end
end KM
set_option linter.all false
/-! ### classes of rows that are split until no field parts them -/
namespace KM
section
variable {α : Type} {s : Sheet α} {ar : α → Nat}
structure Part (s : Sheet α) (cl : List Nat) (ms : List (List Nat)) : Prop where
  l : cl.length = s.length
  m : ∀ (c : Nat) (xs : List Nat), ms[c]? = some xs → xs.Nodup ∧ xs ≠ [] ∧ ∀ i, i ∈ xs ↔ cl[i]? = some c
  c : ∀ (i c : Nat), cl[i]? = some c → c < ms.length
  t : ∀ (i j c : Nat), cl[i]? = some c → cl[j]? = some c → tg s i = tg s j
  b : ∀ (i j c : Nat), Same s s i j → cl[i]? = some c → cl[j]? = some c
theorem nodup_same {xs ys : List Nat} (hx : xs.Nodup) (h : ∀ x ∈ xs, x ∈ ys) (hl : ys.length ≤ xs.length) (hy : ys.Nodup) : ∀ y ∈ ys, y ∈ xs := by
  intro y hy2
  refine Classical.byContradiction fun hn => ?_
  have h1 : (y :: xs).Nodup := List.nodup_cons.mpr ⟨hn, hx⟩
  have h2 : (y :: xs) ⊆ ys := fun z hz => by
    rcases List.mem_cons.mp hz with rfl | hz
    · exact hy2
    · exact h z hz
  have := h1.length_le_of_subset h2
  rw [List.length_cons] at this
  omega
theorem Part.small {cl : List Nat} {ms : List (List Nat)} (P : Part s cl ms) : ms.length ≤ s.length := by
  have hch : ∀ k : Nat, ∃ a, k < ms.length → cl[a]? = some k := fun k => by
    by_cases hk : k < ms.length
    · obtain ⟨_, h2, h3⟩ := P.m k _ (List.getElem?_eq_getElem hk)
      obtain ⟨a, ha⟩ := List.exists_mem_of_ne_nil _ h2
      exact ⟨a, fun _ => (h3 a).mp ha⟩
    · exact ⟨0, fun h => absurd h hk⟩
  obtain ⟨g, hg⟩ := Classical.axiomOfChoice hch
  have hnd : ((List.range ms.length).map g).Nodup := by
    refine List.pairwise_map.mpr (List.Pairwise.imp_of_mem (fun {a b} ha hb hab e => hab ?_) List.nodup_range)
    have h1 := hg a (List.mem_range.mp ha)
    have h2 := hg b (List.mem_range.mp hb)
    rw [e, h2] at h1
    exact (Option.some.inj h1).symm
  have hsub : ((List.range ms.length).map g) ⊆ List.range s.length := fun x hx => by
    obtain ⟨k, hk, rfl⟩ := List.mem_map.mp hx
    have := (List.getElem?_eq_some_iff.mp (hg k (List.mem_range.mp hk))).1
    exact List.mem_range.mpr (by rw [← P.l]; exact this)
  have := hnd.length_le_of_subset hsub
  rw [List.length_map, List.length_range, List.length_range] at this
  exact this
/-- some rows of a class get a class of their own -/
structure Cut (cl : List Nat) (ms : List (List Nat)) (old : Nat) (xs mv cl' xs' : List Nat) (ms' : List (List Nat)) : Prop where
  h : ms[old]? = some xs
  n : mv.Nodup
  s : ∀ i : Nat, i ∈ mv → i ∈ xs
  e : mv ≠ []
  p : ∃ i : Nat, i ∈ xs ∧ i ∉ mv
  ln : cl'.length = cl.length
  ca : ∀ i : Nat, cl'[i]? = if i ∈ mv then some ms.length else cl[i]?
  xn : xs'.Nodup
  xm : ∀ i : Nat, i ∈ xs' ↔ i ∈ xs ∧ i ∉ mv
  mq : ms' = ms.set old xs' ++ [mv]
section
variable {cl : List Nat} {ms : List (List Nat)} {old : Nat} {xs mv cl' xs' : List Nat} {ms' : List (List Nat)} {W ch : List Nat}
theorem Cut.len (C : Cut cl ms old xs mv cl' xs' ms') : ms'.length = ms.length + 1 := by
  rw [C.mq, List.length_append, List.length_set]; rfl
theorem Cut.cases (C : Cut cl ms old xs mv cl' xs' ms') (P : Part s cl ms) {i c : Nat} (h : cl'[i]? = some c) : (i ∈ mv ∧ c = ms.length ∧ cl[i]? = some old) ∨ (i ∉ mv ∧ cl[i]? = some c ∧ c < ms.length) := by
  rw [C.ca] at h
  by_cases hm : i ∈ mv
  · rw [if_pos hm] at h
    exact .inl ⟨hm, (Option.some.inj h).symm, ((P.m _ _ C.h).2.2 i).mp (C.s i hm)⟩
  · rw [if_neg hm] at h
    exact .inr ⟨hm, h, P.c _ _ h⟩
theorem Cut.ref (C : Cut cl ms old xs mv cl' xs' ms') (P : Part s cl ms) {i j c : Nat} (hi : cl'[i]? = some c) (hj : cl'[j]? = some c) : ∃ d, cl[i]? = some d ∧ cl[j]? = some d := by
  rcases C.cases P hi with ⟨_, e, a⟩ | ⟨_, a, l⟩
  · rcases C.cases P hj with ⟨_, _, b⟩ | ⟨_, _, l⟩
    · exact ⟨_, a, b⟩
    · omega
  · rcases C.cases P hj with ⟨_, e, _⟩ | ⟨_, b, _⟩
    · omega
    · exact ⟨_, a, b⟩
theorem Cut.part (C : Cut cl ms old xs mv cl' xs' ms') (P : Part s cl ms) (hb : ∀ i j, i ∈ mv → Same s s i j → j ∈ mv) : Part s cl' ms' := by
  have ho := (List.getElem?_eq_some_iff.mp C.h).1
  refine ⟨C.ln.trans P.l, fun c zs hz => ?_, fun i c h => ?_, fun i j c hi hj => ?_, fun i j c hij hi => ?_⟩
  · rw [C.mq] at hz
    by_cases hc : c < ms.length
    · rw [List.getElem?_append_left (by rw [List.length_set]; exact hc)] at hz
      by_cases hco : old = c
      · subst hco
        rw [List.getElem?_set_self hc] at hz
        cases hz
        refine ⟨C.xn, ?_, fun i => ?_⟩
        · obtain ⟨i, hi, hn⟩ := C.p
          intro z
          have := (C.xm i).mpr ⟨hi, hn⟩
          rw [z] at this; cases this
        · rw [C.xm, C.ca, (P.m _ _ C.h).2.2 i]
          by_cases hm : i ∈ mv
          · rw [if_pos hm]
            refine ⟨fun h => absurd hm h.2, fun h => ?_⟩
            have := Option.some.inj h
            omega
          · rw [if_neg hm]
            exact ⟨fun h => h.1, fun h => ⟨h, hm⟩⟩
      · rw [List.getElem?_set_ne hco] at hz
        obtain ⟨h1, h2, h3⟩ := P.m c zs hz
        refine ⟨h1, h2, fun i => ?_⟩
        rw [h3, C.ca]
        by_cases hm : i ∈ mv
        · rw [if_pos hm]
          have ho := ((P.m _ _ C.h).2.2 i).mp (C.s i hm)
          refine ⟨fun h => ?_, fun h => ?_⟩
          · rw [ho] at h; exact absurd (Option.some.inj h) hco
          · have := Option.some.inj h
            omega
        · rw [if_neg hm]
    · rw [List.getElem?_append_right (by rw [List.length_set]; omega), List.length_set] at hz
      have hcl : c = ms.length := by
        have := (List.getElem?_eq_some_iff.mp hz).1
        rw [List.length_singleton] at this
        omega
      subst hcl
      rw [Nat.sub_self] at hz
      cases hz
      refine ⟨C.n, C.e, fun i => ?_⟩
      rw [C.ca]
      by_cases hm : i ∈ mv
      · rw [if_pos hm]; exact ⟨fun _ => rfl, fun _ => hm⟩
      · rw [if_neg hm]
        refine ⟨fun h => absurd h hm, fun h => ?_⟩
        have := P.c _ _ h
        omega
  · rw [C.len]
    rcases C.cases P h with ⟨_, e, _⟩ | ⟨_, _, l⟩ <;> omega
  · obtain ⟨d, h1, h2⟩ := C.ref P hi hj
    exact P.t i j d h1 h2
  · rcases C.cases P hi with ⟨hm, e, _⟩ | ⟨hm, h, _⟩
    · rw [C.ca, if_pos (hb i j hm hij), e]
    · rw [C.ca, if_neg (fun z => hm (hb j i z hij.sym))]
      exact P.b i j c hij h
/-- classes that are parted by a field: one of both waits, or is chosen now -/
def Jn (s : Sheet α) (cl W ch : List Nat) : Prop := ∀ (i j c a x y : Nat), cl[i]? = some c → cl[j]? = some c → (fl s i)[a]? = some x → (fl s j)[a]? = some y →
  cl[x]? = cl[y]? ∨ (∃ d ∈ W, cl[x]? = some d ∨ cl[y]? = some d) ∨ ¬(x ∈ ch ↔ y ∈ ch)
def St (s : Sheet α) (cl ch : List Nat) (a : Nat) : Prop := ∀ (i j c x y : Nat), cl[i]? = some c → cl[j]? = some c → (fl s i)[a]? = some x → (fl s j)[a]? = some y → (x ∈ ch ↔ y ∈ ch)
theorem Cut.jn (C : Cut cl ms old xs mv cl' xs' ms') (P : Part s cl ms) (J : Jn s cl W ch) : Jn s cl' (W ++ [ms.length]) ch := by
  intro i j c a x y hi hj hx hy
  obtain ⟨d, h1, h2⟩ := C.ref P hi hj
  have moved : ∀ {z d : Nat}, d ∈ W → cl[z]? = some d → ∃ e ∈ W ++ [ms.length], cl'[z]? = some e := fun {z d} hd hz => by
    by_cases hm : z ∈ mv
    · exact ⟨_, List.mem_append_right _ List.mem_cons_self, by rw [C.ca, if_pos hm]⟩
    · exact ⟨d, List.mem_append_left _ hd, by rw [C.ca, if_neg hm]; exact hz⟩
  rcases J i j d a x y h1 h2 hx hy with h | ⟨e, he, h⟩ | h
  · by_cases hmx : x ∈ mv
    · exact .inr (.inl ⟨_, List.mem_append_right _ List.mem_cons_self, .inl (by rw [C.ca, if_pos hmx])⟩)
    · by_cases hmy : y ∈ mv
      · exact .inr (.inl ⟨_, List.mem_append_right _ List.mem_cons_self, .inr (by rw [C.ca, if_pos hmy])⟩)
      · exact .inl (by rw [C.ca, C.ca, if_neg hmx, if_neg hmy]; exact h)
  · rcases h with h | h
    · obtain ⟨e', h1, h2⟩ := moved he h
      exact .inr (.inl ⟨e', h1, .inl h2⟩)
    · obtain ⟨e', h1, h2⟩ := moved he h
      exact .inr (.inl ⟨e', h1, .inr h2⟩)
  · exact .inr (.inr h)
theorem Cut.st (C : Cut cl ms old xs mv cl' xs' ms') (P : Part s cl ms) {a : Nat} (S : St s cl ch a) : St s cl' ch a := by
  intro i j c x y hi hj hx hy
  obtain ⟨d, h1, h2⟩ := C.ref P hi hj
  exact S i j d x y h1 h2 hx hy
end
/-! rows whose field is chosen -/
def HitP (s : Sheet α) (ch : List Nat) (a u : Nat) : Prop := ∃ x, (fl s u)[a]? = some x ∧ x ∈ ch
theorem hit_same (hs : Ok ar s) {ch : List Nat} (hc : ∀ x y, x ∈ ch → Same s s x y → y ∈ ch) {a u v : Nat} (h : Same s s u v) (hu : HitP s ch a u) : HitP s ch a v := by
  obtain ⟨x, hx, hm⟩ := hu
  have hl := hs.len hs h.tag
  have ha : a < (fl s v).length := by rw [← hl]; exact (List.getElem?_eq_some_iff.mp hx).1
  exact ⟨_, List.getElem?_eq_getElem ha, hc x _ hm (h.fld hx (List.getElem?_eq_getElem ha))⟩
/-- what is left of the hits, and what is uniform -/
structure Rest (s : Sheet α) (cl ch : List Nat) (a : Nat) (rs : List (Nat × List Nat)) : Prop where
  k : (rs.map (·.1)).Nodup
  m : ∀ (c : Nat) (h : List Nat), (c, h) ∈ rs → h.Nodup ∧ h ≠ [] ∧ ∀ u : Nat, u ∈ h ↔ cl[u]? = some c ∧ HitP s ch a u
  u : ∀ c : Nat, c ∉ rs.map (·.1) → ∀ i j : Nat, cl[i]? = some c → cl[j]? = some c → (HitP s ch a i ↔ HitP s ch a j)
section
variable {cl ch W : List Nat} {ms : List (List Nat)} {a c : Nat} {h xs : List Nat} {rs : List (Nat × List Nat)}
theorem Rest.st (hs : Ok ar s) (R : Rest s cl ch a []) : St s cl ch a := by
  intro i j c x y hi hj hx hy
  have := R.u c (by simp) i j hi hj
  refine ⟨fun h => ?_, fun h => ?_⟩
  · obtain ⟨z, hz, hm⟩ := this.mp ⟨x, hx, h⟩
    rw [hy] at hz; cases hz; exact hm
  · obtain ⟨z, hz, hm⟩ := this.mpr ⟨y, hy, h⟩
    rw [hx] at hz; cases hz; exact hm
theorem Rest.at (R : Rest s cl ch a ((c, h) :: rs)) (P : Part s cl ms) : ∃ xs, ms[c]? = some xs ∧ (∀ u ∈ h, u ∈ xs) ∧ h.length ≤ xs.length := by
  obtain ⟨h1, h2, h3⟩ := R.m c h List.mem_cons_self
  obtain ⟨u, hu⟩ := List.exists_mem_of_ne_nil _ h2
  have hc := P.c u c ((h3 u).mp hu).1
  obtain ⟨q1, q2, q3⟩ := P.m c _ (List.getElem?_eq_getElem hc)
  have hsub : ∀ u ∈ h, u ∈ ms[c] := fun u hu => (q3 u).mpr ((h3 u).mp hu).1
  exact ⟨_, List.getElem?_eq_getElem hc, hsub, h1.length_le_of_subset hsub⟩
/-- all of the class is hit -/
theorem Rest.all (R : Rest s cl ch a ((c, h) :: rs)) (P : Part s cl ms) (hx : ms[c]? = some xs) (hl : ¬ h.length < xs.length) : Rest s cl ch a rs := by
  obtain ⟨h1, h2, h3⟩ := R.m c h List.mem_cons_self
  obtain ⟨q1, q2, q3⟩ := P.m c _ hx
  have hsub : ∀ u ∈ h, u ∈ xs := fun u hu => (q3 u).mpr ((h3 u).mp hu).1
  have hall := nodup_same h1 hsub (by omega) q1
  have hk := List.nodup_cons.mp (show (c :: rs.map (·.1)).Nodup from R.k)
  refine ⟨hk.2, fun d g hg => R.m d g (List.mem_cons_of_mem _ hg), fun d hd i j hi hj => ?_⟩
  by_cases e : d = c
  · subst e
    have hi' := ((h3 i).mp (hall i ((q3 i).mpr hi))).2
    have hj' := ((h3 j).mp (hall j ((q3 j).mpr hj))).2
    exact ⟨fun _ => hj', fun _ => hi'⟩
  · exact R.u d (by simp only [List.map_cons, List.mem_cons, not_or]; exact ⟨e, hd⟩) i j hi hj
/-- a part of the class is hit: it, or the other part, moves -/
theorem Rest.cut {mv cl' xs' : List Nat} {ms' : List (List Nat)} (R : Rest s cl ch a ((c, h) :: rs)) (P : Part s cl ms) (hs : Ok ar s) (hc : ∀ x y, x ∈ ch → Same s s x y → y ∈ ch)
    (C : Cut cl ms c xs mv cl' xs' ms') (hmv : (∀ i, i ∈ mv ↔ i ∈ h) ∨ ∀ i, i ∈ mv ↔ i ∈ xs ∧ i ∉ h) : Part s cl' ms' ∧ Rest s cl' ch a rs := by
  obtain ⟨h1, h2, h3⟩ := R.m c h List.mem_cons_self
  obtain ⟨q1, q2, q3⟩ := P.m c _ C.h
  have hk := List.nodup_cons.mp (show (c :: rs.map (·.1)).Nodup from R.k)
  have inx : ∀ i, i ∈ h → i ∈ xs := fun u hu => (q3 u).mpr ((h3 u).mp hu).1
  have hitx : ∀ i, i ∈ xs → (HitP s ch a i ↔ i ∈ h) := fun i hi => ⟨fun z => (h3 i).mpr ⟨(q3 i).mp hi, z⟩, fun z => ((h3 i).mp z).2⟩
  have cloh : ∀ i j, i ∈ h → Same s s i j → j ∈ h := fun i j hi hij => (h3 j).mpr ⟨P.b i j c hij ((h3 i).mp hi).1, hit_same hs hc hij ((h3 i).mp hi).2⟩
  have clo : ∀ i j, i ∈ mv → Same s s i j → j ∈ mv := fun i j hi hij => by
    rcases hmv with hm | hm
    · exact (hm j).mpr (cloh i j ((hm i).mp hi) hij)
    · obtain ⟨a1, a2⟩ := (hm i).mp hi
      exact (hm j).mpr ⟨(q3 j).mpr (P.b i j c hij ((q3 i).mp a1)), fun z => a2 (cloh j i z hij.sym)⟩
  refine ⟨C.part P clo, hk.2, fun d g hg => ?_, fun d hd i j hi hj => ?_⟩
  · obtain ⟨g1, g2, g3⟩ := R.m d g (List.mem_cons_of_mem _ hg)
    have hdc : d ≠ c := fun e => hk.1 (by rw [← e]; exact List.mem_map_of_mem (f := fun p : Nat × List Nat => p.1) hg)
    obtain ⟨u0, hu0⟩ := List.exists_mem_of_ne_nil _ g2
    have hdl := P.c u0 d ((g3 u0).mp hu0).1
    refine ⟨g1, g2, fun u => ?_⟩
    rw [g3, C.ca]
    by_cases hm : u ∈ mv
    · rw [if_pos hm]
      have hu := (q3 u).mp (C.s u hm)
      refine ⟨fun z => ?_, fun z => ?_⟩
      · rw [hu] at z; exact absurd (Option.some.inj z.1).symm hdc
      · have := Option.some.inj z.1
        omega
    · rw [if_neg hm]
  · -- all of mv alike, all that stays alike
    have side : ∀ i, i ∈ xs → (i ∈ mv ↔ i ∈ h) ∨ True := fun _ _ => .inr trivial
    rcases C.cases P hi with ⟨mi, ei, oi⟩ | ⟨mi, oi, li⟩
    · rcases C.cases P hj with ⟨mj, ej, oj⟩ | ⟨mj, oj, lj⟩
      · rw [hitx i (C.s i mi), hitx j (C.s j mj)]
        rcases hmv with hm | hm
        · exact ⟨fun _ => (hm j).mp mj, fun _ => (hm i).mp mi⟩
        · exact ⟨fun z => absurd z ((hm i).mp mi).2, fun z => absurd z ((hm j).mp mj).2⟩
      · omega
    · rcases C.cases P hj with ⟨mj, ej, oj⟩ | ⟨mj, oj, lj⟩
      · omega
      · by_cases e : d = c
        · subst e
          have xi := (q3 i).mpr oi
          have xj := (q3 j).mpr oj
          rw [hitx i xi, hitx j xj]
          rcases hmv with hm | hm
          · exact ⟨fun z => absurd ((hm i).mpr z) mi, fun z => absurd ((hm j).mpr z) mj⟩
          · refine ⟨fun _ => Classical.byContradiction fun z => mj ((hm j).mpr ⟨xj, z⟩), fun _ => Classical.byContradiction fun z => mi ((hm i).mpr ⟨xi, z⟩)⟩
        · exact R.u d (by simp only [List.map_cons, List.mem_cons, not_or]; exact ⟨e, hd⟩) i j oi oj
end
/-! the whole -/
theorem Jn.start {cl : List Nat} {ms : List (List Nat)} (P : Part s cl ms) (hs : Ok ar s) : Jn s cl (List.range ms.length) [] := by
  intro i j c a x y hi hj hx hy
  have hxl : x < cl.length := by rw [P.l]; exact hs.fld (List.mem_of_getElem? hx)
  exact .inr (.inl ⟨cl[x], List.mem_range.mpr (P.c x _ (List.getElem?_eq_getElem hxl)), .inl (List.getElem?_eq_getElem hxl)⟩)
theorem Jn.pop {cl W xs : List Nat} {ms : List (List Nat)} {d : Nat} (P : Part s cl ms) (J : Jn s cl (W ++ [d]) []) (hx : ms[d]? = some xs) : Jn s cl W xs := by
  obtain ⟨_, _, q3⟩ := P.m d _ hx
  intro i j c a x y hi hj h1 h2
  rcases J i j c a x y hi hj h1 h2 with h | ⟨e, he, h⟩ | h
  · exact .inl h
  · rcases List.mem_append.mp he with he | he
    · exact .inr (.inl ⟨e, he, h⟩)
    · rcases List.mem_cons.mp he with rfl | he
      · by_cases hxy : x ∈ xs ↔ y ∈ xs
        · refine .inl ?_
          rcases h with h | h
          · rw [h, (q3 y).mp (hxy.mp ((q3 x).mpr h))]
          · rw [h, (q3 x).mp (hxy.mpr ((q3 y).mpr h))]
        · exact .inr (.inr hxy)
      · cases he
  · simp at h
theorem Jn.done {cl W ch : List Nat} (J : Jn s cl W ch) (S : ∀ a, St s cl ch a) : Jn s cl W [] := by
  intro i j c a x y hi hj h1 h2
  rcases J i j c a x y hi hj h1 h2 with h | h | h
  · exact .inl h
  · exact .inr (.inl h)
  · exact absurd (S a i j c x y hi hj h1 h2) h
theorem Part.final {cl : List Nat} {ms : List (List Nat)} (P : Part s cl ms) (hs : Ok ar s) (J : Jn s cl [] []) {i j : Nat} (hi : i < s.length) (hj : j < s.length) : cl[i]? = cl[j]? ↔ Same s s i j := by
  have hi' : i < cl.length := by rw [P.l]; exact hi
  have hj' : j < cl.length := by rw [P.l]; exact hj
  refine ⟨fun h => ?_, fun h => ?_⟩
  · refine same_of (fun i j => ∃ c, cl[i]? = some c ∧ cl[j]? = some c) (fun i j ⟨c, h1, h2⟩ => ⟨P.t i j c h1 h2, fun a x y hx hy => ?_⟩) ⟨cl[i], List.getElem?_eq_getElem hi', by rw [← h]; exact List.getElem?_eq_getElem hi'⟩
    have hxl : x < cl.length := by rw [P.l]; exact hs.fld (List.mem_of_getElem? hx)
    rcases J i j c a x y h1 h2 hx hy with h | ⟨_, h, _⟩ | h
    · exact ⟨_, List.getElem?_eq_getElem hxl, by rw [← h]; exact List.getElem?_eq_getElem hxl⟩
    · cases h
    · simp at h
  · have := P.b i j _ h (List.getElem?_eq_getElem hi')
    rw [this]
    exact List.getElem?_eq_getElem hi'
end
end KM
set_option Elab.async false
set_option linter.all false
set_option maxRecDepth 100000
set_option maxHeartbeats 1000000
namespace KD
open PySem PySem.Spec PyProof.Rows L2
/-! ### sheets as data -/
abbrev nD (k : Nat) : PyData := .int (k : Int)
abbrev vN (k : Nat) : V := .int (k : Int)
abbrev kN (k : Nat) : Key := .inl (k : Int)
abbrev kT (k : Nat) : Key × V := (kN k, .bl true)
def rowD (r : Str × List Nat) : PyData := .tuple [.str r.1, .tuple (r.2.map nD)]
def sheetD (s : KM.Sheet Str) : PyData := .tuple (s.map rowD)
theorem daAll_nats {K : PySem.W.Frag} {G : Hp} : ∀ {xs : List V} {ns : List Nat}, DaAll K G xs (ns.map nD) → xs = ns.map vN
  | _, [], h => by cases h; rfl
  | _, n :: ns, h => by
    cases h with
    | cons h1 h2 => cases h1; rw [daAll_nats h2]; rfl
theorem daAll_ofNats {K : PySem.W.Frag} {G : Hp} : ∀ {ns : List Nat}, DaAll K G (ns.map vN) (ns.map nD)
  | [] => .nil
  | n :: ns => .cons (.int _) daAll_ofNats
theorem kN_inj {a b : Nat} (h : kN a = kN b) : a = b := by
  have := Sum.inl.inj h
  omega
theorem valV_kT {k : Nat} : ∀ {xs : List Nat}, valV (xs.map kT) (kN k) = if k ∈ xs then some (.bl true) else none
  | [] => rfl
  | x :: xs => by
    by_cases e : x = k
    · subst e
      rw [List.map_cons, valV_pos rfl, if_pos List.mem_cons_self]
    · rw [List.map_cons, valV_neg (fun z => e (kN_inj z)), valV_kT]
      by_cases h : k ∈ xs
      · rw [if_pos h, if_pos (List.mem_cons_of_mem _ h)]
      · rw [if_neg h, if_neg (by simp [h, Ne.symm e])]
theorem putK_kT {k : Nat} {xs : List Nat} (h : k ∉ xs) : putK (xs.map kT) (kN k) (.bl true) = (xs ++ [k]).map kT := by
  rw [putK_new _ (by rw [valV_kT, if_neg h]), List.map_append]; rfl
theorem putK_kT1 {k : Nat} {xs : List Nat} (h : k ∈ xs) : putK (xs.map kT) (kN k) (.bl true) = xs.map kT := by
  unfold putK
  have : (xs.map kT).any (fun kv => decide (kv.1 = kN k)) = true := List.any_eq_true.mpr ⟨kT k, List.mem_map_of_mem h, by simp⟩
  rw [if_pos this, List.map_map]
  refine List.map_congr_left fun x hx => ?_
  show (if kN x = kN k then (kN x, V.bl true) else kT x) = kT x
  split <;> rfl
theorem dropK_kT {k : Nat} {xs : List Nat} : dropK (xs.map kT) (kN k) = (xs.filter fun x => decide (x ≠ k)).map kT := by
  unfold dropK
  rw [List.filter_map]
  congr 1
  refine List.filter_congr fun x hx => ?_
  show decide (kN x ≠ kN k) = decide (x ≠ k)
  by_cases e : x = k
  · subst e; simp
  · have h1 : kN x ≠ kN k := fun z => e (kN_inj z)
    simp only [ne_eq, h1, not_false_eq_true, decide_true, e]
/-! ### what stays -/
def Fr (ft : List Addr) (H H' : Hp) : Prop := ∀ x o, x ∉ ft → H x = some o → H' x = some o
theorem Fr.rf {ft : List Addr} {H : Hp} : Fr ft H H := fun _ _ _ h => h
theorem Fr.of {ft : List Addr} {H H' : Hp} (h : Ex H H') : Fr ft H H' := fun x o _ e => h x o e
theorem Fr.tr {ft : List Addr} {H H1 H2 : Hp} (a : Fr ft H H1) (b : Fr ft H1 H2) : Fr ft H H2 := fun x o h e => b x o h (a x o h e)
theorem Fr.upd {ft : List Addr} {H H' : Hp} {a : Addr} {o : HO} (f : Fr ft H H') (h : a ∈ ft ∨ H a = none) : Fr ft H (upd H' a o) := fun x u hx e => by
  have : x ≠ a := fun z => by
    rcases h with h | h
    · exact hx (z ▸ h)
    · rw [z, h] at e; cases e
  rw [upd_ne this]; exact f x u hx e
theorem Fr.mono {ft ft' : List Addr} {H H' : Hp} (f : Fr ft H H') (h : ∀ x ∈ ft, x ∈ ft') : Fr ft' H H' := fun x o hx e => f x o (fun z => hx (h x z)) e
theorem Fr.ex {ft : List Addr} {G H H' : Hp} (f : Fr ft H H') (e : Ex G H) (h : ∀ x ∈ ft, G x = none) : Ex G H' := fun x o g => f x o (fun z => by rw [h x z] at g; cases g) (e x o g)
/-! ### classes of rows, as an object of the program -/
structure PtAt (C : Addr) (H : Hp) (p a b : Addr) (ds : List Addr) (cl : List Nat) (ms : List (List Nat)) : Prop where
  hp : ∃ dx fs, H p = some (.ins C dx fs) ∧ fs.lookup ("class_of" : Str) = some (.ref a) ∧ fs.lookup ("members" : Str) = some (.ref b) ∧ fs.lookup ("by_class" : Str) = none ∧ fs.lookup ("split_off" : Str) = none
  ha : H a = some (.lst (cl.map vN))
  hb : H b = some (.lst (ds.map V.ref))
  ne : a ≠ b
  nd : ds.Nodup
  l : ds.length = ms.length
  m : ∀ (c : Nat) (d : Addr) (xs : List Nat), ds[c]? = some d → ms[c]? = some xs → H d = some (.dK (xs.map kT))
abbrev foot (p a b : Addr) (ds : List Addr) : List Addr := p :: a :: b :: ds
section
variable {C p a b d : Addr} {H H' : Hp} {ds : List Addr} {cl : List Nat} {ms : List (List Nat)} {c : Nat} {xs : List Nat}
theorem PtAt.dk (P : PtAt C H p a b ds cl ms) (h : d ∈ ds) : ∃ xs : List Nat, H d = some (.dK (xs.map kT)) := by
  obtain ⟨c, hc⟩ := List.mem_iff_getElem?.mp h
  have hl := (List.getElem?_eq_some_iff.mp hc).1
  rw [P.l] at hl
  exact ⟨_, P.m c d _ hc (List.getElem?_eq_getElem hl)⟩
theorem PtAt.pa (P : PtAt C H p a b ds cl ms) : p ≠ a := by
  obtain ⟨_, _, h, _⟩ := P.hp
  intro z; rw [z, P.ha] at h; cases h
theorem PtAt.pb (P : PtAt C H p a b ds cl ms) : p ≠ b := by
  obtain ⟨_, _, h, _⟩ := P.hp
  intro z; rw [z, P.hb] at h; cases h
theorem PtAt.dp (P : PtAt C H p a b ds cl ms) (h : d ∈ ds) : d ≠ p := by
  obtain ⟨_, _, h1, _⟩ := P.hp
  obtain ⟨_, h2⟩ := P.dk h
  intro z; rw [z, h1] at h2; cases h2
theorem PtAt.da (P : PtAt C H p a b ds cl ms) (h : d ∈ ds) : d ≠ a := by
  obtain ⟨_, h2⟩ := P.dk h
  intro z; rw [z, P.ha] at h2; cases h2
theorem PtAt.db (P : PtAt C H p a b ds cl ms) (h : d ∈ ds) : d ≠ b := by
  obtain ⟨_, h2⟩ := P.dk h
  intro z; rw [z, P.hb] at h2; cases h2
theorem PtAt.mono (P : PtAt C H p a b ds cl ms) (f : ∀ x o, x ∈ foot p a b ds → H x = some o → H' x = some o) : PtAt C H' p a b ds cl ms := by
  obtain ⟨dx, fs, h1, h2⟩ := P.hp
  refine ⟨⟨dx, fs, f _ _ (by simp) h1, h2⟩, f _ _ (by simp) P.ha, f _ _ (by simp) P.hb, P.ne, P.nd, P.l, fun c d xs hc hx => f _ _ ?_ (P.m c d xs hc hx)⟩
  have := List.mem_of_getElem? hc
  simp [this]
theorem PtAt.ex (P : PtAt C H p a b ds cl ms) (e : Ex H H') : PtAt C H' p a b ds cl ms := P.mono fun x o _ h => e x o h
/-- a store to something else -/
theorem PtAt.other {q : Addr} {o : HO} (P : PtAt C H p a b ds cl ms) (h : q ∉ foot p a b ds) : PtAt C (upd H q o) p a b ds cl ms := P.mono fun x u hx e => by
  rw [upd_ne (fun z : x = q => h (by rw [← z]; exact hx))]; exact e
end
end KD
set_option Elab.async false
set_option linter.all false
set_option maxRecDepth 100000
set_option maxHeartbeats 1000000
namespace KD
open PySem PySem.Spec PyProof.Rows L2
section
variable {K : PySem.W.Frag} {σ : L2.St} {F : Hp}
/-- [e for x in ..], e pure: the new list is the def's own -/
theorem lc_own {wi : TI} {g : TG} {tt : TT} {te : TE} {vs : List Nat} {ds : List PyData} {p : PyData → Bool} {f : PyData → PyData} (hi : EvI K σ F wi ds) (hz : ds.length ≤ 100000)
    (ht : ∀ d ∈ ds, ∃ P, Tg K g (wipe σ vs) d P ∧ ∀ F' σ', Ex F F' → P F' σ' → wipe σ' vs = wipe σ vs ∧ EvT σ' F' tt (p d) ∧ (p d = true → EvE K σ' F' te (f d)))
    {G H : Hp} (e1 : Ex F G) (e2 : Ex G H) {Q : VK} (q : ∀ L acc G' H', Up G H G' H' → H L = none → G' L = none → H' L = some (.lst acc) → DaAll K G' acc ((ds.filter p).map f) → Q (.ref L) H') : tLc wi g tt te vs σ H Q :=
  hi G H e1 e2 _ fun J G1 H1 u1 wk => by
  intro D hD
  have hDH : H D = none := by
    cases z : H D with
    | none => rfl
    | some o => rw [u1.m D o z] at hD; cases hD
  refine ⟨fun i μ H2 => μ = ds.length - i ∧ i ≤ ds.length ∧ ∃ (G2 : Hp) (acc : List V), Ex G1 G2 ∧ Ex G2 H2 ∧ Ex H1 H2 ∧ (∀ b, H1 b ≠ none → G1 b = none → G2 b = none) ∧ H2 D = some (.lst acc) ∧ G2 D = none ∧ DaAll K G2 acc (((ds.take i).filter p).map f),
    ⟨_, rfl, Nat.zero_le _, G1, [], Ex.rf _, u1.h.tr (Ex.up hD), Ex.up hD, fun _ _ h => h, upd_same, u1.h.fresh hD, .nil⟩, ?_⟩
  rintro i μ H2 ⟨rfl, hi', G2, acc, eg, eh, em, en, hd, gd, ha⟩
  obtain ⟨w1, w2⟩ := wk i G2 H2 eg eh
  have keepN : ∀ {G3 : Hp} {b : Addr}, (∀ b, H2 b ≠ none → G2 b = none → G3 b = none) → H1 b ≠ none → G1 b = none → G3 b = none := fun {G3 b} hn h1 h2 => hn b (fun z => by
    cases e : H1 b with
    | none => exact h1 e
    | some o => rw [em b o e] at z; cases z) (en b h1 h2)
  by_cases hlt : i < ds.length
  · obtain ⟨hgo, hy⟩ := w1 _ (List.getElem?_eq_getElem hlt)
    have tk : ds.take (i + 1) = ds.take i ++ [ds[i]] := by rw [List.take_add_one, List.getElem?_eq_getElem hlt]; rfl
    refine .inr ⟨hgo, fun H3 => ∃ (G3 : Hp) (acc : List V), Ex G1 G3 ∧ Ex G3 H3 ∧ Ex H1 H3 ∧ (∀ b, H1 b ≠ none → G1 b = none → G3 b = none) ∧ H3 D = some (.lst acc) ∧ G3 D = none ∧ DaAll K G3 acc (((ds.take (i + 1)).filter p).map f), ?_, ?_⟩
    · rintro H3 ⟨G3, acc3, r⟩
      exact ⟨ds.length - (i + 1), by omega, rfl, hlt, G3, acc3, r⟩
    · intro x H3 hyl
      obtain ⟨G3, u3, dx⟩ := hy x H3 hyl
      obtain ⟨P, tg, body⟩ := ht _ (List.getElem_mem hlt)
      refine tg G3 H3 x u3.h dx _ fun σ' hP => ?_
      obtain ⟨hw, hT, hE⟩ := body G3 σ' ((e1.tr u1.g).tr (eg.tr u3.g)) hP
      refine ⟨hw, hT G3 H3 (Ex.rf _) u3.h _ fun G4 H4 u4 => ?_⟩
      have u34 := u3.tr u4
      have ne : H2 D ≠ none := by rw [hd]; simp
      by_cases hp : p ds[i] = true
      · rw [hp]
        refine iteT (hE hp G4 H4 u4.g u4.h _ fun y G5 H5 u5 dy => ?_)
        have u := u34.tr u5
        refine ⟨acc, u.m _ _ hd, ?_, G5, acc ++ [y], eg.tr u.g, u.h.at (u.n D ne gd), fun a o e => ?_, fun b => keepN u.n, upd_same, u.n D ne gd, ?_⟩
        · have h1 := ha.length
          rw [List.length_map] at h1
          have h2 : ((ds.take i).filter p).length ≤ ds.length := Nat.le_trans (List.length_filter_le _ _) (by rw [List.length_take]; omega)
          exact Nat.lt_of_le_of_lt (by omega : acc.length ≤ 100000) (by decide)
        · rw [upd_ne (ne_of_none e hD)]
          exact u.m a o (em a o e)
        · rw [tk, List.filter_append, List.map_append]
          refine (ha.mono u.g).append ?_
          rw [List.filter_cons, if_pos hp]
          exact .cons dy .nil
      · have hp' : p ds[i] = false := by simpa using hp
        rw [hp']
        refine iteF ⟨G4, acc, eg.tr u34.g, u34.h, em.tr u34.m, fun b => keepN u34.n, u34.m _ _ hd, u34.n D ne gd, ?_⟩
        rw [tk, List.filter_append, List.filter_cons, if_neg (by rw [hp']; simp), List.filter_nil, List.append_nil]
        exact ha.mono u34.g
  · have hle : i = ds.length := by omega
    refine .inl ⟨w2 hle, q D acc G2 H2 (u1.tr ⟨eg, eh, em, en⟩) hDH gd hd ?_⟩
    rw [List.take_of_length_le (by omega)] at ha
    exact ha
theorem st_fld {ta tv : TE} {f : Str} {u : TS} {D : Ends} {H : Hp} (h : tv σ H fun y H1 => ta σ H1 fun x H2 => ∃ a C dx fs, x = .ref a ∧ H2 a = some (.ins C dx fs) ∧ Cls K C ∧ NoAttr K C f ∧ fs.length < 1000 ∧ u D σ (upd H2 a (.ins C dx (putF f y fs)))) :
    tSeq (sFld K ta tv f) u D σ H := h
end
/-! ### tags by number -/
def kvTg (acc : List Str) : List (Key × V) := acc.zipIdx.map fun p => ((.inr p.1 : Key), vN p.2)
def tagsIn : List Str → List Str → List Str
  | acc, [] => acc
  | acc, t :: r => tagsIn (if t ∈ acc then acc else acc ++ [t]) r
theorem kvTg_snoc {acc : List Str} {t : Str} : kvTg (acc ++ [t]) = kvTg acc ++ [(.inr t, vN acc.length)] := by
  unfold kvTg
  rw [List.zipIdx_append, List.map_append]
  simp
theorem kvTg_length {acc : List Str} : (kvTg acc).length = acc.length := by unfold kvTg; rw [List.length_map, List.length_zipIdx]
theorem kvTg_from {t : Str} : ∀ {acc : List Str} {k : Nat}, valV ((acc.zipIdx k).map fun p => ((.inr p.1 : Key), vN p.2)) (.inr t) = if t ∈ acc then some (vN (k + acc.idxOf t)) else none
  | [], k => rfl
  | x :: r, k => by
    rw [List.zipIdx_cons, List.map_cons]
    by_cases e : x = t
    · subst e
      rw [valV_pos rfl, if_pos List.mem_cons_self, List.idxOf_cons_self]
      rfl
    · rw [valV_neg (by simpa using e), kvTg_from]
      rw [List.idxOf_cons, beq_false_of_ne e]
      by_cases h : t ∈ r
      · rw [if_pos h, if_pos (List.mem_cons_of_mem _ h)]
        show some (vN _) = some (vN _)
        congr 2
        show k + 1 + List.idxOf t r = k + (List.idxOf t r + 1)
        omega
      · rw [if_neg h, if_neg (by simp [h, Ne.symm e])]
theorem valV_kvTg {acc : List Str} {t : Str} : valV (kvTg acc) (.inr t) = if t ∈ acc then some (vN (acc.idxOf t)) else none := by
  unfold kvTg
  rw [kvTg_from]
  simp
theorem tagsIn_keep : ∀ {ts acc : List Str}, (∀ t ∈ acc, t ∈ tagsIn acc ts) ∧ (∀ t ∈ ts, t ∈ tagsIn acc ts) ∧ (∀ t ∈ tagsIn acc ts, t ∈ acc ∨ t ∈ ts) ∧ (acc.Nodup → (tagsIn acc ts).Nodup)
  | [], acc => by
    refine ⟨fun _ h => h, fun _ h => ?_, fun _ h => .inl h, fun h => h⟩
    cases h
  | t :: ts, acc => by
    obtain ⟨a, b, c, d⟩ := tagsIn_keep (ts := ts) (acc := if t ∈ acc then acc else acc ++ [t])
    show (∀ x ∈ acc, x ∈ tagsIn (if t ∈ acc then acc else acc ++ [t]) ts) ∧ _
    have sub : ∀ x ∈ acc, x ∈ (if t ∈ acc then acc else acc ++ [t]) := fun x hx => by split; exact hx; exact List.mem_append_left _ hx
    have tin : t ∈ (if t ∈ acc then acc else acc ++ [t]) := by split; assumption; exact List.mem_append_right _ List.mem_cons_self
    refine ⟨fun x hx => a x (sub x hx), fun x hx => ?_, fun x hx => ?_, fun h => d ?_⟩
    · rcases List.mem_cons.mp hx with rfl | hx
      · exact a _ tin
      · exact b x hx
    · rcases c x hx with h | h
      · split at h
        · exact .inl h
        · rcases List.mem_append.mp h with h | h
          · exact .inl h
          · rcases List.mem_cons.mp h with rfl | h
            · exact .inr List.mem_cons_self
            · cases h
      · exact .inr (List.mem_cons_of_mem _ h)
    · split
      · exact h
      · rename_i hn
        exact List.nodup_append.mpr ⟨h, by simp, fun x hx y hy => by
          rcases List.mem_cons.mp hy with rfl | hy
          · exact fun e => hn (e ▸ hx)
          · cases hy⟩
theorem tagsIn_snoc : ∀ {ts acc : List Str} {t : Str}, tagsIn acc (ts ++ [t]) = if t ∈ tagsIn acc ts then tagsIn acc ts else tagsIn acc ts ++ [t]
  | [], acc, t => rfl
  | u :: ts, acc, t => by
    show tagsIn (if u ∈ acc then acc else acc ++ [u]) (ts ++ [t]) = _
    rw [tagsIn_snoc]; rfl
end KD
set_option Elab.async false
set_option linter.all false
set_option maxRecDepth 100000
set_option maxHeartbeats 1000000
namespace KD
open PySem PySem.Spec PyProof.Rows L2
/-! ### more walks, cuts of statements, classes of rows that change -/
theorem seq_with {t u : TS} {D : Ends} {σ : L2.St} {H : Hp} (P : L2.St → Hp → Prop) (h : ∀ σ H, P σ H → u D σ H) (q : ∀ U : L2.St → Hp → Prop, (∀ σ H, P σ H → U σ H) → t { D with nx := U } σ H) : tSeq t u D σ H := q _ h
theorem st_cb1 {r : List V → Hp → VK → Prop} {te : TE} {i : Nat} {u : TS} {D : Ends} {σ : L2.St} {H : Hp} (h : te σ H fun x H1 => r [x] H1 fun y H2 => u D (σ.set i (some y)) H2) : tSeq (tAsg (tCB r (tCons te tNil)) (gName i)) u D σ H := h
theorem yes_if {σ : L2.St} {H : Hp} {P R : Hp → Prop} (h : P H) : tYes σ H fun b H' => if b = true then P H' else R H' := by
  unfold tYes
  dsimp only
  rw [if_pos rfl]
  exact h
theorem st_e {te : TE} {i : Nat} {u : TS} {D : Ends} {σ : L2.St} {H : Hp} (h : te σ H fun x H1 => u D (σ.set i (some x)) H1) : tSeq (tAsg te (gName i)) u D σ H := h
section
variable {K : PySem.W.Frag} {a b d : Addr} {xs ys : List V} {J : It} {n : Nat} {G : Hp → Prop} {Y : Nat → Hp → V → Hp → Prop}
theorem walk_enumT : Walk (ItT K a) xs.length (fun H => SqT K H a xs) (YPair (fun i => some (.int (i : Nat))) (fun i => xs[i]?)) := by
  refine ⟨fun i _ hi q => ⟨xs, q, hi⟩, fun _ q => ⟨xs, q, rfl⟩, fun i H v H' _ q y => ?_⟩
  obtain ⟨T, x, h1, h2, h3, h4⟩ := y
  exact ⟨T, .int (i : Nat), x, h1, h2, h3, rfl, h4 xs q⟩
theorem walk_zipM (hl : xs.length = ys.length) : Walk (ItzM K a b) xs.length (fun H => SqL K H a xs ∧ SqT K H b ys) (YPair (fun i => xs[i]?) (fun i => ys[i]?)) := by
  refine ⟨fun i _ hi q => ?_, fun _ q => ?_, fun i H v H' _ q y => ?_⟩
  · exact ⟨xs, ys, q.1, q.2, hi, hl ▸ hi⟩
  · exact ⟨xs, ys, q.1, q.2, by omega⟩
  · obtain ⟨T, x, z, h1, h2, h3, h4, h5⟩ := y
    exact ⟨T, x, z, h1, h2, h3, h4 xs q.1, h5 ys q.2⟩
/-- a walk told by what stands after each turn; T what a turn does, by what it is to reach -/
theorem turns_it (w : Walk J n G Y) (Pv : Nat → Hp → Prop) {H0 : Hp} {Qd : Hp → Prop} {T : Nat → V → Hp → (Hp → Prop) → Prop} (h0 : Pv 0 H0) (hG : ∀ i H, i ≤ n → Pv i H → G H)
    (hs : ∀ i x H H', i < n → Pv i H → Y i H x H' → T i x H' (Pv (i + 1))) (hd : ∀ H, Pv n H → Qd H) :
    ∃ W : Nat → Nat → Hp → Prop, (∃ m, W 0 m H0) ∧ ∀ i m H, W i m H → (J.stop i H ∧ Qd H) ∨
      (J.go i H ∧ ∃ Nx : Hp → Prop, (∀ H', Nx H' → ∃ m', m' < m ∧ W (i + 1) m' H') ∧ ∀ x H', J.yld i H x H' → T i x H' Nx) := by
  refine ⟨fun i m H => i + m = n ∧ Pv i H, ⟨n, Nat.zero_add n, h0⟩, fun i m H ⟨sum, p⟩ => ?_⟩
  have g := hG i H (by omega) p
  rcases Nat.lt_or_ge i n with more | over
  · exact .inr ⟨w.goes i H more g, Pv (i + 1), fun H' p' => ⟨m - 1, by omega, by omega, p'⟩, fun x H' y => hs i x H H' more p (w.yields i H x H' more g y)⟩
  · obtain rfl : i = n := by omega
    exact .inl ⟨w.stops H g, hd H p⟩
/-- a dict comprehension over it -/
theorem dc_it (w : Walk J n G Y) {g : TG} {tt : TT} {tk tv : TE} {vs : List Nat} {σ : L2.St} {H1 : Hp} {D : Addr} {Qd : Hp → Prop} (Pv : Nat → Hp → Prop) (h0 : Pv 0 (upd H1 D (.dK []))) (hG : ∀ i H, i ≤ n → Pv i H → G H)
    (hs : ∀ i x H H', i < n → Pv i H → Y i H x H' → g x (wipe σ vs) H' fun σ2 H2 => wipe σ2 vs = wipe σ vs ∧ tt σ2 H2 fun b H3 =>
      if b = true then tk σ2 H3 fun y H4 => tv σ2 H4 fun z H5 => ∃ kvs k, y = kV k ∧ H5 D = some (.dK kvs) ∧ kvs.length < sizeLine ∧ Pv (i + 1) (upd H5 D (.dK (putK kvs k z))) else Pv (i + 1) H3) (hd : ∀ H, Pv n H → Qd H) :
    ∃ W : Nat → Nat → Hp → Prop, (∃ m, W 0 m (upd H1 D (.dK []))) ∧ ∀ i m H, W i m H →
      (J.stop i H ∧ Qd H) ∨ (J.go i H ∧ ∃ Nx : Hp → Prop, (∀ H', Nx H' → ∃ m', m' < m ∧ W (i + 1) m' H') ∧ ∀ x H', J.yld i H x H' → g x (wipe σ vs) H' fun σ2 H2 => wipe σ2 vs = wipe σ vs ∧ tt σ2 H2 fun b H3 =>
        if b = true then tk σ2 H3 fun y H4 => tv σ2 H4 fun z H5 => ∃ kvs k, y = kV k ∧ H5 D = some (.dK kvs) ∧ kvs.length < sizeLine ∧ Nx (upd H5 D (.dK (putK kvs k z))) else Nx H3) := by
  exact turns_it w Pv h0 hG hs hd
/-- a comprehension with two fors: within a turn -/
theorem in_it (w : Walk J n G Y) {g1 : TG} {tt1 : TT} {te : TE} {vs1 : List Nat} {σ2 : L2.St} {H4 : Hp} {D : Addr} {Nx : Hp → Prop} (Pv : Nat → Hp → Prop) (h0 : Pv 0 H4) (hG : ∀ i H, i ≤ n → Pv i H → G H)
    (hs : ∀ j x H H', j < n → Pv j H → Y j H x H' → g1 x (wipe σ2 vs1) H' fun σ3 H5 => wipe σ3 vs1 = wipe σ2 vs1 ∧ tt1 σ3 H5 fun b H6 =>
        if b = true then te σ3 H6 fun y H7 => ∃ acc, H7 D = some (.lst acc) ∧ acc.length < sizeLine ∧ Pv (j + 1) (upd H7 D (.lst (acc ++ [y]))) else Pv (j + 1) H6) (hd : ∀ H, Pv n H → Nx H) :
    ∃ W1 : Nat → Nat → Hp → Prop, (∃ m, W1 0 m H4) ∧ ∀ j k H, W1 j k H →
      (J.stop j H ∧ Nx H) ∨ (J.go j H ∧ ∃ Nx1 : Hp → Prop, (∀ H', Nx1 H' → ∃ k', k' < k ∧ W1 (j + 1) k' H') ∧ ∀ x H', J.yld j H x H' → g1 x (wipe σ2 vs1) H' fun σ3 H5 => wipe σ3 vs1 = wipe σ2 vs1 ∧ tt1 σ3 H5 fun b H6 =>
        if b = true then te σ3 H6 fun y H7 => ∃ acc, H7 D = some (.lst acc) ∧ acc.length < sizeLine ∧ Nx1 (upd H7 D (.lst (acc ++ [y]))) else Nx1 H6) := by
  exact turns_it w Pv h0 hG hs hd
/-- .. and the turns -/
theorem lc2_it (w : Walk J n G Y) {g : TG} {tt : TT} {wi1 : TI} {g1 : TG} {tt1 : TT} {te : TE} {vs vs1 : List Nat} {σ : L2.St} {H1 : Hp} {D : Addr} {Qd : Hp → Prop} (Pv : Nat → Hp → Prop) (h0 : Pv 0 (upd H1 D (.lst []))) (hG : ∀ i H, i ≤ n → Pv i H → G H)
    (hs : ∀ i x H H', i < n → Pv i H → Y i H x H' → ∀ Nx : Hp → Prop, (∀ H', Pv (i + 1) H' → Nx H') → g x (wipe σ vs) H' fun σ2 H2 => wipe σ2 vs = wipe σ vs ∧ tt σ2 H2 fun b H3 =>
      if b = true then wi1 σ2 H3 fun J1 H4 => ∃ W1 : Nat → Nat → Hp → Prop, (∃ m, W1 0 m H4) ∧ ∀ j k H, W1 j k H →
      (J1.stop j H ∧ Nx H) ∨ (J1.go j H ∧ ∃ Nx1 : Hp → Prop, (∀ H', Nx1 H' → ∃ k', k' < k ∧ W1 (j + 1) k' H') ∧ ∀ x H', J1.yld j H x H' → g1 x (wipe σ2 vs1) H' fun σ3 H5 => wipe σ3 vs1 = wipe σ2 vs1 ∧ tt1 σ3 H5 fun b H6 =>
        if b = true then te σ3 H6 fun y H7 => ∃ acc, H7 D = some (.lst acc) ∧ acc.length < sizeLine ∧ Nx1 (upd H7 D (.lst (acc ++ [y]))) else Nx1 H6)
    else Nx H3) (hd : ∀ H, Pv n H → Qd H) :
    ∃ W : Nat → Nat → Hp → Prop, (∃ m, W 0 m (upd H1 D (.lst []))) ∧ ∀ i m H, W i m H →
  (J.stop i H ∧ Qd H) ∨ (J.go i H ∧ ∃ Nx : Hp → Prop, (∀ H', Nx H' → ∃ m', m' < m ∧ W (i + 1) m' H') ∧ ∀ x H', J.yld i H x H' → g x (wipe σ vs) H' fun σ2 H2 => wipe σ2 vs = wipe σ vs ∧ tt σ2 H2 fun b H3 =>
    if b = true then wi1 σ2 H3 fun J1 H4 => ∃ W1 : Nat → Nat → Hp → Prop, (∃ m, W1 0 m H4) ∧ ∀ j k H, W1 j k H →
      (J1.stop j H ∧ Nx H) ∨ (J1.go j H ∧ ∃ Nx1 : Hp → Prop, (∀ H', Nx1 H' → ∃ k', k' < k ∧ W1 (j + 1) k' H') ∧ ∀ x H', J1.yld j H x H' → g1 x (wipe σ2 vs1) H' fun σ3 H5 => wipe σ3 vs1 = wipe σ2 vs1 ∧ tt1 σ3 H5 fun b H6 =>
        if b = true then te σ3 H6 fun y H7 => ∃ acc, H7 D = some (.lst acc) ∧ acc.length < sizeLine ∧ Nx1 (upd H7 D (.lst (acc ++ [y]))) else Nx1 H6)
    else Nx H3) := by
  exact turns_it w Pv h0 hG (fun i x H H' lt p y => hs i x H H' lt p y _ fun _ h => h) hd
end
section
variable {C p a b d : Addr} {H H' : Hp} {ds : List Addr} {cl cl' : List Nat} {ms : List (List Nat)} {c : Nat} {xs xs' mv : List Nat}
theorem PtAt.setD (P : PtAt C H p a b ds cl ms) (h : ds[c]? = some d) : PtAt C (upd H d (.dK (xs'.map kT))) p a b ds cl (ms.set c xs') := by
  have hm := List.mem_of_getElem? h
  obtain ⟨dx, fs, h1, h2⟩ := P.hp
  refine ⟨⟨dx, fs, by rw [upd_ne (P.dp hm).symm]; exact h1, h2⟩, by rw [upd_ne (P.da hm).symm]; exact P.ha, by rw [upd_ne (P.db hm).symm]; exact P.hb, P.ne, P.nd, by rw [List.length_set]; exact P.l, fun c' d' ys h3 h4 => ?_⟩
  by_cases e : c = c'
  · subst e
    have hl := (List.getElem?_eq_some_iff.mp h).1
    rw [List.getElem?_set_self (by rw [← P.l]; exact hl)] at h4
    rw [h] at h3
    cases h3; cases h4
    exact upd_same
  · rw [List.getElem?_set_ne e] at h4
    have hne : d' ≠ d := fun z => by
      subst z
      have h5 := (List.getElem?_eq_some_iff.mp h).1
      have h6 := (List.getElem?_eq_some_iff.mp h3).1
      rw [List.getElem?_eq_getElem h5] at h
      rw [List.getElem?_eq_getElem h6] at h3
      exact e ((List.getElem_inj P.nd).mp ((Option.some.inj h).trans (Option.some.inj h3).symm))
    rw [upd_ne hne]
    exact P.m c' d' ys h3 h4
theorem PtAt.setC (P : PtAt C H p a b ds cl ms) : PtAt C (upd H a (.lst (cl'.map vN))) p a b ds cl' ms := by
  obtain ⟨dx, fs, h1, h2⟩ := P.hp
  refine ⟨⟨dx, fs, by rw [upd_ne P.pa]; exact h1, h2⟩, upd_same, by rw [upd_ne P.ne.symm]; exact P.hb, P.ne, P.nd, P.l, fun c' d' ys h3 h4 => ?_⟩
  rw [upd_ne (P.da (List.mem_of_getElem? h3))]
  exact P.m c' d' ys h3 h4
theorem PtAt.app (P : PtAt C H p a b ds cl ms) (h : H d = some (.dK (mv.map kT))) (hn : d ∉ foot p a b ds) : PtAt C (upd H b (.lst (ds.map V.ref ++ [.ref d]))) p a b (ds ++ [d]) cl (ms ++ [mv]) := by
  obtain ⟨dx, fs, h1, h2⟩ := P.hp
  have hdb : d ≠ b := fun z => hn (by simp [z])
  have hdd : d ∉ ds := fun z => hn (by simp [z])
  refine ⟨⟨dx, fs, by rw [upd_ne P.pb]; exact h1, h2⟩, by rw [upd_ne P.ne]; exact P.ha, by rw [upd_same, List.map_append]; rfl, P.ne, List.nodup_append.mpr ⟨P.nd, by simp, fun x hx y hy => ?_⟩, by rw [List.length_append, List.length_append, P.l]; rfl, fun c' d' ys h3 h4 => ?_⟩
  · have : y = d := List.mem_singleton.mp hy
    exact fun e => hdd (by rw [← this, ← e]; exact hx)
  · by_cases hc : c' < ds.length
    · rw [List.getElem?_append_left hc] at h3
      rw [List.getElem?_append_left (by rw [← P.l]; exact hc)] at h4
      rw [upd_ne (P.db (List.mem_of_getElem? h3))]
      exact P.m c' d' ys h3 h4
    · rw [List.getElem?_append_right (by omega)] at h3
      rw [List.getElem?_append_right (by rw [← P.l]; omega), ← P.l] at h4
      have hz : c' - ds.length = 0 := by
        have := (List.getElem?_eq_some_iff.mp h3).1
        rw [List.length_singleton] at this
        omega
      rw [hz] at h3 h4
      cases h3; cases h4
      rw [upd_ne hdb]; exact h
/-- the foot is known by what stays -/
theorem Fr.foot_app {p a b d : Addr} {ds : List Addr} {x : Addr} : x ∈ foot p a b (ds ++ [d]) ↔ x ∈ foot p a b ds ∨ x = d := by
  simp only [List.mem_cons, List.mem_append, List.not_mem_nil, or_false]
  constructor
  · rintro (h | h | h | h | h) <;> simp [h]
  · rintro ((h | h | h | h) | h) <;> simp [h]
end
section
variable {X : Cx}
theorem sw_trueD {kx vx : Expr} {gs : List Comprehension} {scope : Scope} {pos py : Pos} {y : Str} {l : Nat} {env : Env} (hk : env.scope.kind = .function) (hy : env.scope.names.lookup y = some .local) (hl : (py.line == pos.line) = true)
    (ha : (scope.names.any fun (n, k) => n == y && (k == .local || k == .cell)) = false) : swapsWith (.DictComp kx vx gs scope pos) (some (.Name y py)) l env = pure true := by
  have block : env.blockKind = .function := (by unfold Env.blockKind; rw [hk]; rfl)
  have own : env.kindOf y = some .local := hy
  simp only [swapsWith, Expr.pos, block, own, hl, ha]
  rfl
theorem ps_setDc {i : Nat} {y : Str} {py : Pos} {kx vx tg iter : Expr} {ifs : List Expr} {scope : Scope} {own : List (Str × Nat)} {pos spos : Pos} {wi : TI} {g : TG} {tt : TT} {tk tv : TE} (hc : X.calm = true) (hN : X.N.Nodup) (hy : X.N[i]? = some y) (hyl : X.env.scope.names.lookup y = some .local)
    (hsw : swapsWith (.DictComp kx vx [⟨tg, iter, ifs, 0⟩] scope pos) (some (.Name y py)) spos.line X.env = pure true) (hi : PI X tg iter wi) (ok : BlkOk X.N X.env.scope scope own)
    (hg : ∀ (s : Shared) (H : Hp) (C : Addr) (cl : List (Str × Addr)) (fp : List Addr), PG (X.blk s H scope (compEnvC scope cl C X.env) fp) tg g) (ht : ∀ (s : Shared) (H : Hp) (C : Addr) (cl : List (Str × Addr)) (fp : List Addr), PTs (X.blk s H scope (compEnvC scope cl C X.env) fp) ifs tt)
    (hk : ∀ (s : Shared) (H : Hp) (C : Addr) (cl : List (Str × Addr)) (fp : List Addr), PE (X.blk s H scope (compEnvC scope cl C X.env) fp) kx tk)
    (he : ∀ (s : Shared) (H : Hp) (C : Addr) (cl : List (Str × Addr)) (fp : List Addr), PE (X.blk s H scope (compEnvC scope cl C X.env) fp) vx tv) (hs : ∀ x, foldedSetIterable iter X.env x = pure x := by intro _; rfl) :
    PS X (.Assign [.Name y py] (.DictComp kx vx [⟨tg, iter, ifs, 0⟩] scope pos) spos) (tAsg (tDc wi g tt tk tv (own.map (·.2))) (gName i)) := by
  refine ⟨fun pins s σ H D I h => ?_⟩
  rw [exec_Assign_Name_used _ _ _ _ hsw]
  refine wpAny_bind (wpAny_standAt (wpAny_bind ?_))
  show wpAny _ X.A (do let _ ← comprehension (.DictComp kx vx [⟨tg, iter, ifs, 0⟩] scope pos) scope X.env (firstIterPos [⟨tg, iter, ifs, 0⟩] pos) newDict false (eval iter X.env) (some (assign (.Name y py) X.env))) _ _ s
  have h : tDc wi g tt tk tv (own.map (·.2)) σ H (fun x H1 => gName i x σ H1 D.nx) := h
  apply wpAny_bind
  refine thn (dc_core (Qf := fun _ s' => SP X pins D .next s') hc hN I hi ok hg ht hk he hs h ?_) fun _ _ done => wpAny_pure (wpAny_pure done)
  rintro L C s' m H' made q kept ⟨f0, f1, _, f3, f4, f5⟩
  change wpAny _ _ (assign (.Name y py) X.env (.ref L)) _ _ _
  apply wpAny_assign_Name
  refine store_ok2 (v := V.ref L) made hN hy (.inl hyl) rfl (fun s2 I2 ⟨cell, same, which⟩ => ?_) (.inr hyl)
  have other : C ≠ cell := which.elim (fun z => z ▸ f1) fun z e => f4 y cell z e.symm
  exact ⟨m, kept.sameBut same other, fun h3 sb3 => ⟨_, H', I2.turned (t' := s2.toks) (fun b o hb e => (sb3.2 b hb).trans e) f0 f1 f3 f4 f5, q⟩⟩
end
theorem upd_ne_none {H : Hp} {a x : Addr} {o : HO} (h : upd H a o x = none) : x ≠ a ∧ H x = none := by
  have n : x ≠ a := fun z => by rw [z, upd_same] at h; cases h
  exact ⟨n, by rw [upd_ne n] at h; exact h⟩
end KD
set_option Elab.async false
set_option linter.all false
set_option maxRecDepth 100000
set_option maxHeartbeats 2000000
namespace KD
open PySem PySem.Spec PyProof.Rows L2
/-! ### zip's next while its last pair is kept -/
abbrev IsZipK (h : Heap) (z TI TO T : Addr) (f1 : Bool) : Prop :=
  h.get? z = some { cls := .type "zip", dict := none, data := .fields #[rawInt T, .bool f1, .bool false, .ref TI, .ref TO], slots := #[] }
section
variable {prog : Program} {w : World} {A : Around} {E : Value → Shared → Prop} {s : Shared} {z TI TO T i1 i2 : Addr} {f1 : Bool} {fp1 fp2 : List Addr} {n1 n2 i : Nat} {P1 P2 : Nat → Value → Prop} {St1 St2 : Nat → Heap → Prop}
theorem wpAny_loadIfAlive {a : Addr} {o : Obj} {Q : Option Obj → Shared → Prop} (h : s.heap.get? a = some o) (q : Q (some o) s) : wpAny (model prog w) A (loadIfAlive a) Q E s := fun Γ p hΓ => by
  unfold loadIfAlive
  rw [Sem.wp_loadIfAlive, h]
  exact wpAny_pure q Γ p hΓ
theorem notFree {Q : Bool → Shared → Prop} (hz : IsZipK s.heap z TI TO T f1) (hT : ∃ o, s.heap.get? T = some o)
    (h : ∀ h', IsZipK h' z TI TO T true → Heap.SameBut z s.heap h' → Q false { s with heap := h' }) : wpAny (model prog w) A (Builtin.SmallTypes.ownedTupleIsFree (.ref z)) Q E s := by
  obtain ⟨o, ho⟩ := hT
  unfold Builtin.SmallTypes.ownedTupleIsFree
  have alive : s.heap.get? (T : Int).toNat = some o := (Int.toNat_natCast T).symm ▸ ho
  refine wpAny_bind (wpAny_field hz rfl (x := rawInt T) rfl (?_ : wpAny _ _ (loadIfAlive _ >>= _) _ _ _))
  refine wpAny_bind (wpAny_loadIfAlive alive ?_)
  show wpAny _ _ (field (.ref z) 1 >>= _) _ _ _
  refine wpAny_bind (wpAny_field hz rfl (x := .bool f1) rfl ?_)
  cases f1 with
  | true =>
    exact wpAny_pure (h s.heap hz (Heap.SameBut.refl _ _))
  | false =>
    show wpAny _ _ (setField (.ref z) 1 (.bool true) >>= fun _ => pure false) _ _ _
    refine wpAny_bind (wpAny_setField_rec hz (by simp) fun h' h1 h2 => wpAny_pure (h h' h1 h2))
theorem zipK_item {Q : Option Value → Shared → Prop} (S : ZipSep2 z TI TO i1 i2 fp1 fp2) (D1 : Draws prog w A.in1 i1 fp1 n1 P1 St1) (D2 : Draws prog w A.in1 i2 fp2 n2 P2 St2)
    (hz : IsZipK s.heap z TI TO T f1) (hT : ∃ o, s.heap.get? T = some o) (hTI : IsTupOf2 s.heap TI (.ref i1) (.ref i2)) (st1 : St1 i s.heap) (st2 : St2 i s.heap) (hlt1 : i < n1) (hlt2 : i < n2)
    (hQ : ∀ x1 x2 h' tk, P1 i x1 → P2 i x2 → IsZipK h' z TI TO T true → St1 (i + 1) h' → St2 (i + 1) h' → IsTupOf2 h' s.heap.objs.size x1 x2 → h'.objs.size = s.heap.objs.size + 1 →
      (∀ c o, c ≠ z → c ≠ i1 → c ≠ i2 → s.heap.get? c = some o → h'.get? c = some o) → Q (some (.ref s.heap.objs.size)) { s with heap := h', toks := tk }) :
    wpAny (model prog w) A (pyNext (.ref z)) Q E s := by
  have hTy : s.TypeIs (.ref z) "zip" := ⟨_, hz, rfl⟩
  unfold pyNext
  refine wpAny_bind (wpAny_attempt (wpAny_callSpecial?_slot (name := Str.ofString "__next__") hTy F.slot_zip_next
    (wpAny_call_entry F.slot_zip_next hTy F.entry_zip_next (Q := fun v s' => wpAny (model prog w) A (pure (some v) : Sem (Option Value)) Q E s') ?_ (F.args_zip_next_1 _))))
  rcases s with ⟨hp, g, d, tk0, os⟩
  change wpAny _ _ (field _ 2 >>= _) _ _ _
  apply wpAny_bind
  refine wpAny_field hz rfl (x := .bool false) rfl ?_
  change wpAny _ _ (field _ 3 >>= _) _ _ _
  refine wpAny_bind (wpAny_field hz rfl (x := .ref TI) rfl (wpAny_bind (wpAny_seqItems hTI rfl ?_)))
  change wpAny _ _ (Builtin.SmallTypes.ownedTupleIsFree _ >>= _) _ _ _
  refine wpAny_bind (notFree hz hT fun g0 hz0 hs0 => ?_)
  replace hs0 : Heap.SameBut z hp g0 := hs0
  simp only [Bool.false_eq_true, if_false, ← Array.forIn_toList, List.forIn_cons, List.forIn_nil, Array.toList]
  refine wpAny_bind (wpAny_bind (wpAny_bind (wpAny_holding ?_)))
  show wpAny _ _ (Builtin.SmallTypes.nextOf (.ref i1) >>= _) _ _ ⟨g0, g, d, tk0, os⟩
  refine wpAny_bind (D1.item i _ _ _ hlt1 (D1.over st1 hs0 S.zf1) fun x1 p1 tk1 hx1 sn1 hp1 => wpAny_pure (wpAny_pure ?_))
  replace hp1 : Heap.SameBut i1 g0 p1 := hp1
  refine wpAny_bind (wpAny_bind (wpAny_holding ?_))
  show wpAny _ _ (Builtin.SmallTypes.nextOf (.ref i2) >>= _) _ _ ⟨p1, g, d, tk1, os⟩
  refine wpAny_bind (D2.item i _ _ _ hlt2 (D2.over (D2.over st2 hs0 S.zf2) hp1 S.sep1_2) fun x2 p2 tk2 hx2 sn2 hp2 => wpAny_pure (wpAny_pure (wpAny_pure ?_)))
  replace hp2 : Heap.SameBut i2 p1 p2 := hp2
  show wpAny _ _ (newTuple [x1, x2] >>= _) _ _ ⟨p2, g, d, tk2, os⟩
  refine wpAny_bind (wpAny_newTuple ?_)
  have hsz : p2.objs.size = hp.objs.size := by rw [hp2.1, hp1.1, hs0.1]
  have hzz : IsZipK p2 z TI TO T true := hp2.extBut _ _ S.zi2 (hp1.extBut _ _ S.zi1 hz0)
  have up : ∀ c o, p2.get? c = some o → (p2.push { cls := .type "tuple", data := .seq [x1, x2].toArray }).get? c = some o := fun c o e => Heap.get?_push_of_some _ e
  refine wpAny_pure ⟨_, rfl, wpAny_pure ?_⟩
  show Q (some (.ref p2.objs.size)) ⟨p2.push { cls := .type "tuple", data := .seq [x1, x2].toArray }, g, d, tk2, os⟩
  rw [hsz]
  refine hQ x1 x2 _ tk2 hx1 hx2 (up _ _ hzz) (D1.frame _ _ _ (D1.over sn1 hp2 S.sep2_1) fun b hb o e => up b o e) (D2.frame _ _ _ sn2 fun b hb o e => up b o e) ?_ ?_ fun c o cz c1 c2 e => up c o (hp2.extBut _ _ c2 (hp1.extBut _ _ c1 (hs0.extBut _ _ cz e)))
  · show (p2.push _).get? hp.objs.size = _
    rw [← hsz]
    exact Heap.get?_push_size _ rfl
  · rw [Heap.size_push, hsz]
theorem zipK_end {Q : Option Value → Shared → Prop} (S : ZipSep2 z TI TO i1 i2 fp1 fp2) (D1 : Draws prog w A.in1 i1 fp1 n1 P1 St1) 
    (hz : IsZipK s.heap z TI TO T f1) (hT : ∃ o, s.heap.get? T = some o) (hTI : IsTupOf2 s.heap TI (.ref i1) (.ref i2)) (st1 : St1 n1 s.heap)
    (hQ : ∀ h' tk, (∀ c o, c ≠ z → c ≠ i1 → s.heap.get? c = some o → h'.get? c = some o) → Q none { s with heap := h', toks := tk }) : wpAny (model prog w) A (pyNext (.ref z)) Q E s := by
  have hTy : s.TypeIs (.ref z) "zip" := ⟨_, hz, rfl⟩
  unfold pyNext
  refine wpAny_bind (wpAny_attempt (wpAny_callSpecial?_slot (name := Str.ofString "__next__") hTy F.slot_zip_next
    (wpAny_call_entry F.slot_zip_next hTy F.entry_zip_next (Q := fun v s' => wpAny (model prog w) A (pure (some v) : Sem (Option Value)) Q E s') ?_ (F.args_zip_next_1 _))))
  rcases s with ⟨hp, g, d, tk0, os⟩
  change wpAny _ _ (field _ 2 >>= _) _ _ _
  apply wpAny_bind
  refine wpAny_field hz rfl (x := .bool false) rfl ?_
  change wpAny _ _ (field _ 3 >>= _) _ _ _
  refine wpAny_bind (wpAny_field hz rfl (x := .ref TI) rfl (wpAny_bind (wpAny_seqItems hTI rfl ?_)))
  change wpAny _ _ (Builtin.SmallTypes.ownedTupleIsFree _ >>= _) _ _ _
  refine wpAny_bind (notFree hz hT fun g0 hz0 hs0 => ?_)
  replace hs0 : Heap.SameBut z hp g0 := hs0
  simp only [Bool.false_eq_true, if_false, ← Array.forIn_toList, List.forIn_cons, List.forIn_nil, Array.toList]
  refine wpAny_bind (wpAny_bind (wpAny_bind (wpAny_holding ?_)))
  show wpAny _ _ (Builtin.SmallTypes.nextOf (.ref i1) >>= _) _ _ ⟨g0, g, d, tk0, os⟩
  refine wpAny_bind (D1.done ⟨g0, g, d, tk0, os⟩ _ _ (D1.over st1 hs0 S.zf1) fun q e hq he => ?_)
  obtain ⟨o, ho, hc⟩ := he
  replace hq : Heap.ExtBut i1 g0 q := hq
  refine wpAny_bind (wpAny_isInstance (T := "StopIteration") (b := true) ⟨o, ho, hc⟩ isSubtype_stop ?_)
  exact wpAny_pure (hQ _ _ fun c o cz c1 e => hq _ _ c1 (hs0.extBut _ _ cz e))
end
/-- several new objects at once -/
theorem inv_many {X : Cx} {pins : List (Addr × Obj)} {σ : L2.St} {H H' : Hp} {s : Shared} {h' : Heap} {t' : Nat} (I : Inv X pins σ H s) (k : ∀ b u, s.heap.get? b = some u → h'.get? b = some u) (old : Ex H H')
    (new : ∀ b u, H' b = some u → H b = none → s.heap.objs.size ≤ b ∧ ObjOk X.prog X.w H' h' b u) : Inv X pins σ H' { s with heap := h', toks := t' } := by
  refine I.step (g' := s.gens) (d' := s.drawn) (ch := []) (fun b hb => by cases hb) (fun b o _ _ _ e _ => k b o e) (fun b o _ _ _ e _ => ⟨o.slots, k b o e⟩) (fun b o _ e n => ?_) (fun b o _ e => ⟨o, k b o e⟩) (fun b xs e => old _ _ e) (fun b o u e => old _ _ e) (fun b ps e => ⟨#[], by rw [Array.append_empty]; exact old _ _ e⟩) (fun m hm => ?_) (fun b u e => ?_) I.bare
  · cases z : H' b with
    | none => rfl
    | some u => exact absurd (Heap.lt_size e) (Nat.not_lt.mpr (new b u z n).1)
  · obtain ⟨o, es, ep, ho, r⟩ := hm
    exact ⟨o, es, ep, k _ o ho, r⟩
  · cases z : H b with
    | none => exact (new b u e z).2
    | some ov =>
      have := old _ _ z
      rw [this] at e
      cases e
      refine (I.hok b _ z).stay (fun c u _ q => k c u q) (fun c q => old _ _ q) fun c xs q => old _ _ q
theorem zip_no_len : typeLookup (.type "zip") "__len__" = pure none := by rw [typeLookup_type, builtinLookup_eq_fast]; kernel_rfl
theorem zip_no_hint : typeLookup (.type "zip") "__length_hint__" = pure none := by rw [typeLookup_type, builtinLookup_eq_fast]; kernel_rfl
section
variable {prog : Program} {w : World} {A : Around} {z TI TO i1 i2 L : Addr} {fp1 fp2 : List Addr} {n : Nat} {P1 P2 : Nat → Value → Prop} {St1 St2 : Nat → Heap → Prop} {R : Result → Shared → Prop} {res : Value}
/-- the zip, whether its pair is kept or not -/
structure Zst (z TI TO i1 i2 : Addr) (h : Heap) : Prop where
  a : IsZip h z TI TO .none ∨ ∃ T f1, IsZipK h z TI TO T f1 ∧ ∃ o, h.get? T = some o
  b : IsTupOf2 h TI (.ref i1) (.ref i2)
  c : ∃ a b, IsTupOf2 h TO a b
theorem zip_loop (S : ZipSep2 z TI TO i1 i2 fp1 fp2) (D1 : Draws prog w A.in1.in1 i1 fp1 n P1 St1) (D2 : Draws prog w A.in1.in1 i2 fp2 n P2 St2) (hn : n ≤ 1000) (hL : L ∉ [z, TI, TO, i1, i2] ∧ L ∉ fp1 ∧ L ∉ fp2) (B : Heap → Prop) :
    ∀ (k i : Nat) (s : Shared) (Ts : List Addr) (c : Nat), n - i = k → i ≤ n → Zst z TI TO i1 i2 s.heap → St1 i s.heap → St2 i s.heap → s.heap.get? L = some { cls := .type "list", dict := none, data := .seq (Ts.map Value.ref).toArray c, slots := #[] } → Ts.length = i → Ts.Nodup →
    (∀ (j : Nat) (T : Addr), Ts[j]? = some T → T ∉ [L, z, TI, TO, i1, i2] ∧ ∃ x y, P1 j x ∧ P2 j y ∧ IsTupOf2 s.heap T x y) →
    (∀ (s' : Shared) (Ts' : List Addr) (c' : Nat), (∀ b o, b ∉ [L, z, TI, TO, i1, i2] → s.heap.get? b = some o → s'.heap.get? b = some o) → s'.gens = s.gens → s'.drawn = s.drawn → s'.os = s.os →
      s'.heap.get? L = some { cls := .type "list", dict := none, data := .seq (Ts'.map Value.ref).toArray c', slots := #[] } → Ts'.length = n → Ts'.Nodup → (∀ (j : Nat) (T : Addr), Ts'[j]? = some T → (Ts[j]? = some T ∨ s.heap.objs.size ≤ T) ∧ ∃ x y, P1 j x ∧ P2 j y ∧ IsTupOf2 s'.heap T x y) → R (.ok (.ret res)) s') →
    codeAny (model prog w) A (.builtin "list.extend.loop" ⟨[.ref L, .ref z, res], []⟩) R s := by
  intro k
  induction k with
  | zero =>
    intro i s Ts c hk hi hz st1 st2 hL' hl hnd hT hR
    have hin : i = n := by omega
    subst hin
    refine codeAny_builtin F.entry_extend_loop ?_
    rw [Around.under_plainId F.plain_extend_loop _]
    show wpAny _ A.in1 (pyNext (.ref z) >>= _) _ _ s
    have fin : ∀ (h' : Heap) (tk : Nat), (∀ c o, c ≠ z → c ≠ TO → c ≠ i1 → c ≠ i2 → s.heap.get? c = some o → h'.get? c = some o) → R (.ok (.ret res)) { s with heap := h', toks := tk } := fun h' tk hk => by
      have nz := hL.1
      simp only [List.mem_cons, List.not_mem_nil, or_false, not_or] at nz
      refine hR _ Ts c (fun b o hb e => ?_) rfl rfl rfl (hk _ _ nz.1 nz.2.2.1 nz.2.2.2.1 nz.2.2.2.2 hL') hl hnd fun j T hj => ?_
      · simp only [List.mem_cons, List.not_mem_nil, or_false, not_or] at hb
        exact hk b o hb.2.1 hb.2.2.2.1 hb.2.2.2.2.1 hb.2.2.2.2.2 e
      · obtain ⟨n1, x, y, p1, p2, q⟩ := hT j T hj
        simp only [List.mem_cons, List.not_mem_nil, or_false, not_or] at n1
        exact ⟨.inl hj, x, y, p1, p2, hk _ _ n1.2.1 n1.2.2.2.1 n1.2.2.2.2.1 n1.2.2.2.2.2 q⟩
    obtain ⟨a, b, hTO⟩ := hz.c
    rcases hz.a with hz0 | ⟨T, f1, hz1, hTl⟩
    · refine wpAny_bind (wpAny_pyNext_zipD2_end S D1 D2 hz0 hz.b hTO st1 st2 (Nat.le_refl _) (Nat.le_refl _) (.inl rfl) fun h' tk hk => wpAny_pure (fin h' tk hk))
    · refine wpAny_bind (zipK_end S D1 hz1 hTl hz.b st1 fun h' tk hk => wpAny_pure (fin h' tk fun c o c1 _ c2 _ e => hk c o c1 c2 e))
  | succ k ih =>
    intro i s Ts c hk hi hz st1 st2 hL' hl hnd hT hR
    have hlt : i < n := by omega
    refine codeAny_builtin F.entry_extend_loop ?_
    rw [Around.under_plainId F.plain_extend_loop _]
    show wpAny _ A.in1 (pyNext (.ref z) >>= _) _ _ s
    have nz := hL.1
    simp only [List.mem_cons, List.not_mem_nil, or_false, not_or] at nz
    have hLlt := Heap.lt_size hL'
    have cont : ∀ (x1 x2 : Value) (h' : Heap) (tk : Nat), P1 i x1 → P2 i x2 → (∃ T f1, IsZipK h' z TI TO T f1 ∧ ∃ o, h'.get? T = some o) → St1 (i + 1) h' → St2 (i + 1) h' → (∃ a b, IsTupOf2 h' TO a b) → IsTupOf2 h' s.heap.objs.size x1 x2 →
        (∀ c o, c ≠ z → c ≠ TO → c ≠ i1 → c ≠ i2 → s.heap.get? c = some o → h'.get? c = some o) →
        wpAny (model prog w) A.in1 (updateSeq L (·.push (.ref s.heap.objs.size)) >>= fun _ => again (.builtin "list.extend.loop" ⟨[.ref L, .ref z, res], []⟩))
          (fun fin s' => match fin with | .done f => R (.ok f) s' | .again c' => c'.quiet = true ∧ codeAny (model prog w) A c' R s') (fun e s' => R (.error e) s') { s with heap := h', toks := tk } := fun x1 x2 h' tk hx1 hx2 hz' t1 t2 hTO' hT' hk' => by
      have hL1 := hk' _ _ nz.1 nz.2.2.1 nz.2.2.2.1 nz.2.2.2.2 hL'
      have oth : ∀ b o, b ≠ L → h'.get? b = some o → (h'.update L (Obj.mapSeq (·.push (.ref s.heap.objs.size)))).get? b = some o := fun b o hb e => (Heap.get?_update_other _ _ (Ne.symm hb)).trans e
      obtain ⟨T, f1, hz1, oT, hoT⟩ := hz'
      have hTlt : s.heap.objs.size ∉ [L, z, TI, TO, i1, i2] := by
        have a1 : ∀ {c : Addr} {o : Obj}, s.heap.get? c = some o → s.heap.objs.size ≠ c := fun h z => by rw [← z] at h; exact absurd (Heap.lt_size h) (Nat.lt_irrefl _)
        obtain ⟨o1, l1⟩ := D1.live _ _ st1
        obtain ⟨o2, l2⟩ := D2.live _ _ st2
        obtain ⟨oz, lz⟩ : ∃ o, s.heap.get? z = some o := by
          rcases hz.a with q | ⟨_, _, q, _⟩
          · exact ⟨_, q⟩
          · exact ⟨_, q⟩
        simp only [List.mem_cons, List.not_mem_nil, or_false, not_or]
        obtain ⟨_, _, lo⟩ := hz.c
        exact ⟨a1 hL', a1 lz, a1 hz.b, a1 lo, a1 l1, a1 l2⟩
      have hne : ∀ {b : Addr}, b ≠ L → ∀ {o : Obj}, h'.get? b = some o → (h'.update L (Obj.mapSeq (·.push (.ref s.heap.objs.size)))).get? b = some o := fun hb => fun e => oth _ _ hb e
      have hsz : 1001 < sizeLine := by decide
      have hup : (h'.update L (Obj.mapSeq (·.push (.ref s.heap.objs.size)))).objs.size = h'.objs.size := (Heap.SameBut.update (a := L) (h := h') ..).1
      have hnL : s.heap.objs.size ≠ L := fun y => hTlt (by rw [y]; exact List.mem_cons_self)
      have hlive : ∃ o, (h'.update L (Obj.mapSeq (·.push (.ref s.heap.objs.size)))).get? T = some o := by
        by_cases e : T = L
        · subst e; exact ⟨_, Heap.get?_update_self _ hL1 rfl⟩
        · exact ⟨oT, oth _ _ e hoT⟩
      have htup : ∀ {b : Addr} {x y : Value}, b ≠ L → IsTupOf2 h' b x y → IsTupOf2 (h'.update L (Obj.mapSeq (·.push (.ref s.heap.objs.size)))) b x y := fun hb e => oth _ _ hb e
      have hTIk : IsTupOf2 h' TI (.ref i1) (.ref i2) := hk' _ _ S.TIz S.TITO S.TIi1 S.TIi2 hz.b
      obtain ⟨ta, tb, hTO2⟩ := hTO'
      have hnd' : (Ts ++ [s.heap.objs.size]).Nodup := List.nodup_append.mpr ⟨hnd, by simp, fun x hx y hy => by
        have ey : y = s.heap.objs.size := List.mem_singleton.mp hy
        obtain ⟨j, hj⟩ := List.mem_iff_getElem?.mp hx
        obtain ⟨_, _, _, _, _, q⟩ := hT j x hj
        rw [ey]
        exact Nat.ne_of_lt (Heap.lt_size q)⟩
      obtain ⟨c2, hc2⟩ : ∃ c2, (h'.update L (Obj.mapSeq (·.push (.ref s.heap.objs.size)))).get? L = some { cls := .type "list", dict := none, data := .seq ((Ts ++ [s.heap.objs.size]).map Value.ref).toArray c2, slots := #[] } := ⟨_, (Heap.get?_update_self _ hL1 rfl).trans (by simp only [Obj.mapSeq, List.map_append, List.push_toArray, List.map_cons, List.map_nil]; rfl)⟩
      refine wpAny_bind (wpAny_updateSeq hL1 rfl (wpAny_pure ⟨plainId_quiet F.plain_extend_loop _, ih (i + 1) { s with heap := h'.update L (Obj.mapSeq (·.push (.ref s.heap.objs.size))), toks := tk } (Ts ++ [s.heap.objs.size]) _ (by omega) hlt ⟨.inr ⟨T, f1, oth _ _ (Ne.symm nz.1) hz1, hlive⟩, htup (Ne.symm nz.2.1) hTIk, ⟨ta, tb, htup (Ne.symm nz.2.2.1) hTO2⟩⟩ (D1.frame _ _ _ t1 fun b hb o e => oth b o (fun y => hL.2.1 (by rw [← y]; exact hb)) e) (D2.frame _ _ _ t2 fun b hb o e => oth b o (fun y => hL.2.2 (by rw [← y]; exact hb)) e) hc2 (by rw [List.length_append, hl]; rfl) hnd' (fun j T hj => ?_) fun s' Ts' c' hkk g1 g2 g3 hl' hl2 hl3 hT2 => ?_⟩)
        (by simp; omega) (by simp; omega))
      · by_cases hjl : j < Ts.length
        · rw [List.getElem?_append_left hjl] at hj
          obtain ⟨n1, x, y, q1, q2, q3⟩ := hT j T hj
          have n1' := n1
          simp only [List.mem_cons, List.not_mem_nil, or_false, not_or] at n1'
          exact ⟨n1, x, y, q1, q2, htup n1'.1 (hk' _ _ n1'.2.1 n1'.2.2.2.1 n1'.2.2.2.2.1 n1'.2.2.2.2.2 q3)⟩
        · rw [List.getElem?_append_right (by omega)] at hj
          have h0 := (List.getElem?_eq_some_iff.mp hj).1
          rw [List.length_singleton] at h0
          have hji : j = i := by omega
          have hz0 : j - Ts.length = 0 := by omega
          rw [hz0] at hj
          cases hj
          subst hji
          exact ⟨hTlt, x1, x2, hx1, hx2, htup hnL hT'⟩
      · refine hR s' Ts' c' (fun b o hb e => ?_) g1 g2 g3 hl' hl2 hl3 fun j T hj => ?_
        · have hb' := hb
          simp only [List.mem_cons, List.not_mem_nil, or_false, not_or] at hb'
          exact hkk b o hb (oth _ _ hb'.1 (hk' _ _ hb'.2.1 hb'.2.2.2.1 hb'.2.2.2.2.1 hb'.2.2.2.2.2 e))
        · obtain ⟨h1, h2⟩ := hT2 j T hj
          refine ⟨?_, h2⟩
          have hslt := Heap.lt_size hT'
          rcases h1 with h1 | h1
          · by_cases hjl : j < Ts.length
            · rw [List.getElem?_append_left hjl] at h1
              exact .inl h1
            · rw [List.getElem?_append_right (by omega)] at h1
              have h0 := (List.getElem?_eq_some_iff.mp h1).1
              rw [List.length_singleton] at h0
              have hz0 : j - Ts.length = 0 := by omega
              rw [hz0] at h1
              cases h1
              exact .inr (Nat.le_refl _)
          · refine .inr ?_
            have h1 : (h'.update L (Obj.mapSeq (·.push (.ref s.heap.objs.size)))).objs.size ≤ T := h1
            rw [hup] at h1
            exact Nat.le_trans (Nat.le_of_lt hslt) h1
    obtain ⟨a, b, hTO⟩ := hz.c
    rcases hz.a with hz0 | ⟨T, f1, hz1, hTl⟩
    · refine wpAny_bind (wpAny_pyNext_zipD2_item S D1 D2 hz0 hz.b hTO st1 st2 hlt hlt fun x1 x2 h' tk p1 p2 q1 q0 t1 t2 q2 _ hk' => cont x1 x2 h' tk p1 p2 ⟨_, _, q1, _, q2⟩ t1 t2 ⟨_, _, q0⟩ q2 hk')
    · refine wpAny_bind (zipK_item S D1 D2 hz1 hTl hz.b st1 st2 hlt hlt fun x1 x2 h' tk p1 p2 q1 t1 t2 q2 _ hk' => cont x1 x2 h' tk p1 p2 ⟨T, _, q1, ?_⟩ t1 t2 ⟨a, b, hk' _ _ S.TOz S.Ti1 S.Ti2 hTO⟩ q2 fun c o c1 _ c3 c4 e => hk' c o c1 c3 c4 e)
      obtain ⟨o, ho⟩ := hTl
      by_cases e1 : T = z
      · subst e1; exact ⟨_, q1⟩
      by_cases e2 : T = i1
      · subst e2; exact D1.live _ _ t1
      by_cases e3 : T = i2
      · subst e3; exact D2.live _ _ t2
      exact ⟨o, hk' _ _ e1 e2 e3 ho⟩
theorem list_zip_call {E : Value → Shared → Prop} {s : Shared} {Q : Value → Shared → Prop} (S : ZipSep2 z TI TO i1 i2 fp1 fp2) (D1 : Draws prog w A.in1.in1.in1 i1 fp1 n P1 St1) (D2 : Draws prog w A.in1.in1.in1 i2 fp2 n P2 St2) (hn : n ≤ 1000)
    (hz : Zst z TI TO i1 i2 s.heap) (h0 : IsZip s.heap z TI TO .none) (st1 : St1 0 s.heap) (st2 : St2 0 s.heap) (hf1 : ∀ b ∈ fp1, b < s.heap.objs.size) (hf2 : ∀ b ∈ fp2, b < s.heap.objs.size)
    (hQ : ∀ (s' : Shared) (Ts : List Addr) (c : Nat), (∀ b o, b ∉ [z, TI, TO, i1, i2] → s.heap.get? b = some o → s'.heap.get? b = some o) → s'.gens = s.gens → s'.drawn = s.drawn → s'.os = s.os →
      s'.heap.get? s.heap.objs.size = some { cls := .type "list", dict := none, data := .seq (Ts.map Value.ref).toArray c, slots := #[] } → Ts.length = n → Ts.Nodup →
      (∀ (j : Nat) (T : Addr), Ts[j]? = some T → s.heap.objs.size < T ∧ ∃ x y, P1 j x ∧ P2 j y ∧ IsTupOf2 s'.heap T x y) → Q (.ref s.heap.objs.size) s') :
    wpAny (model prog w) A (call (.type "list") [.ref z]) Q E s := by
  have lt : ∀ {b : Addr} {o : Obj}, s.heap.get? b = some o → b < s.heap.objs.size := fun h => Heap.lt_size h
  obtain ⟨o1, l1⟩ := D1.live _ _ st1
  obtain ⟨o2, l2⟩ := D2.live _ _ st2
  obtain ⟨ta, tb, lo⟩ := hz.c
  have hL : s.heap.objs.size ∉ [z, TI, TO, i1, i2] := by
    simp only [List.mem_cons, List.not_mem_nil, or_false, not_or]
    exact ⟨Nat.ne_of_gt (lt h0), Nat.ne_of_gt (lt hz.b), Nat.ne_of_gt (lt lo), Nat.ne_of_gt (lt l1), Nat.ne_of_gt (lt l2)⟩
  have hL1 : s.heap.objs.size ∉ fp1 := fun h => Nat.lt_irrefl _ (hf1 _ h)
  have hL2 : s.heap.objs.size ∉ fp2 := fun h => Nat.lt_irrefl _ (hf2 _ h)
  refine callType_codes (Q₁ := fun obj s₁ => obj = .ref s.heap.objs.size ∧ s₁ = { s with heap := s.heap.push { cls := .type "list", data := .seq #[] } }) F.called_list (F.typeCall_list_1 _) F.entry_list_init
    (code_list_new _ ⟨rfl, rfl⟩) fun obj s₁ h₁ => ?_
  obtain ⟨rfl, rfl⟩ := h₁
  have hS : (s.heap.push { cls := .type "list", data := .seq #[] }).get? s.heap.objs.size = some { cls := .type "list", data := .seq #[] } := Heap.get?_push_size _ rfl
  refine ⟨⟨_, hS, rfl⟩, F.args_list_init_2 _ _, ?_⟩
  show wpAny _ A.in1.in1 (do let old ← Builtin.List.listItems (.ref s.heap.objs.size); Builtin.List.listUpdate (.ref s.heap.objs.size) (fun _ => #[]); letGo old.toList.reverse; Builtin.List.listExtendWith (.ref s.heap.objs.size) (.ref z) .none) _ _ _
  refine wpAny_bind ?_
  unfold Builtin.List.listItems
  refine wpAny_bind (wpAny_seqItems hS rfl (wpAny_pure ?_))
  show wpAny _ A.in1.in1 (updateSeq s.heap.objs.size (fun _ => #[]) >>= fun _ => letGo (#[] : Array Value).toList.reverse >>= fun _ => Builtin.List.listExtendWith (.ref s.heap.objs.size) (.ref z) .none) _ _ _
  refine wpAny_bind (wpAny_updateSeq hS rfl ?_)
  have hS₂ := Heap.get?_update_self (Obj.mapSeq (fun _ => (#[] : Array Value))) hS rfl
  refine wpAny_bind (wpAny_letGo ?_)
  have k2 : ∀ b o, s.heap.get? b = some o → ((s.heap.push { cls := .type "list", data := .seq #[] }).update s.heap.objs.size (Obj.mapSeq (fun _ => (#[] : Array Value)))).get? b = some o := fun b o e =>
    (Heap.get?_update_other _ _ (Ne.symm (Nat.ne_of_lt (lt e)))).trans (Heap.get?_push_of_some _ e)
  have z2 : ((s.heap.push { cls := .type "list", data := .seq #[] }).update s.heap.objs.size (Obj.mapSeq (fun _ => (#[] : Array Value)))).objs.size = s.heap.objs.size + 1 := by
    rw [(Heap.SameBut.update (a := s.heap.objs.size) (h := s.heap.push { cls := .type "list", data := .seq #[] }) ..).1, Heap.size_push]
  generalize (s.heap.push { cls := .type "list", data := .seq #[] }).update s.heap.objs.size (Obj.mapSeq (fun _ => (#[] : Array Value))) = h2 at hS₂ k2 z2
  unfold Builtin.List.listExtendWith
  have hTy : ∀ {s2 : Shared}, IsZip s2.heap z TI TO .none → s2.TypeIs (.ref z) "zip" := fun h => ⟨_, h, rfl⟩
  have hz2 : IsZip ({ s with heap := h2 } : Shared).heap z TI TO .none := k2 _ _ h0
  refine wpAny_bind (wpAny_typeOf (hTy hz2) ?_)
  have hSI : s.heap.objs.size ≠ z := Nat.ne_of_gt (lt h0)
  have e1 : Builtin.List.listSameRef (.ref s.heap.objs.size) (.ref z) = false := by simp [Builtin.List.listSameRef, hSI]
  have e2 : (Value.type "zip" == Value.type "list") = false := by decide
  have e3 : (Value.type "zip" == Value.type "tuple") = false := by decide
  simp only [e1, e2, e3, Bool.or_false, Bool.false_eq_true, if_false]
  refine wpAny_bind (wpAny_pyIter_zip hz2 ?_)
  refine wpAny_bind (wpAny_holding ?_)
  unfold Builtin.List.listLengthHint
  refine wpAny_bind (wpAny_specialOf (hTy hz2) zip_no_len ?_)
  show wpAny _ A.in1.in1 (specialOf (Value.ref z) (Str.ofString "__length_hint__") >>= _) _ _ _
  refine wpAny_bind (wpAny_specialOf (hTy hz2) zip_no_hint ?_)
  refine wpAny_pure ?_
  show wpAny _ A.in1.in1 (rule "list.extend.makes-room" >>= fun _ => Builtin.List.listTouch (.ref s.heap.objs.size) >>= fun _ =>
    again (.builtin "list.extend.loop" ⟨[.ref s.heap.objs.size, .ref z, .none], []⟩)) _ _ _
  refine wpAny_bind (wpAny_rule ?_)
  refine wpAny_bind ?_
  show wpAny _ A.in1.in1 (updateSeq s.heap.objs.size (·.push .none) >>= fun _ => updateSeq s.heap.objs.size (·.pop)) _ _ _
  refine wpAny_bind (wpAny_updateSeq hS₂ rfl ?_)
  have hS₃ := Heap.get?_update_self (Obj.mapSeq (·.push Value.none)) hS₂ rfl
  refine wpAny_updateSeq (hz := by seq_fits) hS₃ rfl ?_
  have hS₄ := Heap.get?_update_self (Obj.mapSeq (·.pop)) hS₃ rfl
  have k4 : ∀ b o, s.heap.get? b = some o → ((h2.update s.heap.objs.size (Obj.mapSeq (·.push Value.none))).update s.heap.objs.size (Obj.mapSeq (·.pop))).get? b = some o := fun b o e =>
    (Heap.get?_update_other _ _ (Ne.symm (Nat.ne_of_lt (lt e)))).trans ((Heap.get?_update_other _ _ (Ne.symm (Nat.ne_of_lt (lt e)))).trans (k2 b o e))
  have z4 : ((h2.update s.heap.objs.size (Obj.mapSeq (·.push Value.none))).update s.heap.objs.size (Obj.mapSeq (·.pop))).objs.size = s.heap.objs.size + 1 := by
    rw [(Heap.SameBut.update (a := s.heap.objs.size) (h := h2.update s.heap.objs.size (Obj.mapSeq (·.push Value.none))) ..).1, (Heap.SameBut.update (a := s.heap.objs.size) (h := h2) ..).1, z2]
  generalize (h2.update s.heap.objs.size (Obj.mapSeq (·.push Value.none))).update s.heap.objs.size (Obj.mapSeq (·.pop)) = h4 at hS₄ k4 z4
  refine wpAny_pure ⟨plainId_quiet F.plain_extend_loop _, zip_loop S D1 D2 hn ⟨hL, hL1, hL2⟩ (fun _ => True) n 0 { s with heap := h4 } [] _ rfl (Nat.zero_le _) ⟨.inl (k4 _ _ h0), k4 _ _ hz.b, ⟨ta, tb, k4 _ _ lo⟩⟩ (D1.frame _ _ _ st1 fun b _ o e => k4 b o e) (D2.frame _ _ _ st2 fun b _ o e => k4 b o e) hS₄ rfl .nil (fun j T h => by simp at h) fun s' Ts c' hk g1 g2 g3 hl hln hnd hT => ?_⟩
  refine ⟨rfl, hQ s' Ts c' (fun b o hb e => hk b o (fun h => ?_) (k4 b o e)) g1 g2 g3 hl hln hnd fun j T hj => ?_⟩
  · rcases List.mem_cons.mp h with h | h
    · exact absurd (lt e) (by rw [h]; exact Nat.lt_irrefl _)
    · exact hb h
  · obtain ⟨h1, h2⟩ := hT j T hj
    refine ⟨?_, h2⟩
    rcases h1 with h1 | h1
    · simp at h1
    · have h1 : h4.objs.size ≤ T := h1
      rw [z4] at h1
      exact h1
end
theorem vals_refs : ∀ Ts : List Addr, Vals (Ts.map V.ref) (Ts.map Value.ref)
  | [] => .nil
  | T :: Ts => .cons rfl (vals_refs Ts)
structure ZipMade (H1 H2 : Hp) (L : Addr) (Ts : List Addr) (xs ys : List V) : Prop where
  e : Ex H1 H2
  nL : H1 L = none
  hL : H2 L = some (.lst (Ts.map V.ref))
  l : Ts.length = xs.length
  t : ∀ (j : Nat) (T : Addr) (x y : V), Ts[j]? = some T → xs[j]? = some x → ys[j]? = some y → H1 T = none ∧ H2 T = some (.tup [x, y])
def tLstZip (K : PySem.W.Frag) (ta : TA) : TE := fun σ H Q => ta σ H fun vs H1 => ∃ a b xs ys, vs = [.ref a, .ref b] ∧ SqT K H1 a xs ∧ SqT K H1 b ys ∧ xs.length = ys.length ∧ xs.length ≤ 1000 ∧
  ∀ (L : Addr) (Ts : List Addr) (H2 : Hp), ZipMade H1 H2 L Ts xs ys → Q (.ref L) H2
theorem pe_listZip {X : Cx} {e e2 : Expr} {ta : TA} {p p2 pos pos2 : Pos} (hc : X.calm = true) (hgl : Gl X "list") (hml : X.mg "list" = none) (hg : Gl X "zip") (hm : X.mg "zip" = none) (ha : PA X [e, e2] ta)
    (hs : starEach [e, e2] X.env = (false, eval e X.env) :: starEach [e2] X.env := by rfl) (hpl : (backTo pos2 (starEach [e2] X.env)).any (·.1) = false := by rfl)
    (na : starEach [.Call (.Name "zip" p2) [e, e2] [] pos2] X.env = (false, eval (.Call (.Name "zip" p2) [e, e2] [] pos2) X.env) :: starEach [] X.env := by rfl) :
    PE X (.Call (.Name "list" p) [.Call (.Name "zip" p2) [e, e2] [] pos2] [] pos) (tLstZip X.K ta) := by
  refine ⟨fun pins s σ H Q I h => ?_⟩
  refine Call_ (ld_blt I hgl hml boot_list (PyProof.Rows.callWith_type1 (args_cons (Call_ (ld_blt I hg hm PyProof.Rows.boot_zip (PyProof.Rows.callWith_type1 (thn (ha.run pos2 pins s σ H _ I h) ?_) hs hpl))) na) na))
  rintro us s1 ⟨vs, H1, I1, r1, a, b, xs, ys, rfl, qx, qy, hxy, hx1, q⟩
  cases r1 with | cons r r1 => ?_
  cases r1 with | cons r' r1 => ?_
  cases r1; cases r; cases r'
  obtain ⟨its, rv, p1, _⟩ := I1.tuple qx
  obtain ⟨jts, rw2, p2', _⟩ := I1.tuple qy
  have l1 := rv.length
  have l2 := rw2.length
  obtain ⟨oa, hoa, _⟩ := id p1
  obtain ⟨ob, hob, _⟩ := id p2'
  have la := Heap.lt_size hoa
  have lb := Heap.lt_size hob
  have hh : X.A.in1.handled = none := I1.ok.hd hc
  refine zip_begins2 (begins_tuple a its.toArray) (begins_tuple b jts.toArray) p1 p2' fun h' hz hTI hTO e1 e2 hsz hk => args_nil ?_
  have hS : ZipSep2 (s1.heap.objs.size + 4) (s1.heap.objs.size + 2) (s1.heap.objs.size + 3) s1.heap.objs.size (s1.heap.objs.size + 1) [s1.heap.objs.size, a] [s1.heap.objs.size + 1, b] := by
    have hla : @LT.lt Nat instLTNat a s1.heap.objs.size := la
    have hlb : @LT.lt Nat instLTNat b s1.heap.objs.size := lb
    generalize s1.heap.objs.size = n at hla hlb
    have ne : ∀ {x y : Nat}, x ≠ y → ¬ ((x : Addr) = y) := fun h => h
    constructor <;> first
      | exact List.mem_cons_self
      | (refine ne ?_; show ¬ (_ : Nat) = _; omega)
      | (simp only [List.mem_cons, List.not_mem_nil, or_false, not_or]; refine ⟨ne ?_, ne ?_⟩ <;> (show ¬ (_ : Nat) = _; omega))
  have ha1 : h'.IsTuple a its.toArray := (show s1.heap.IsTuple a its.toArray from p1).at fun o y => hk a o y
  have hb1 : h'.IsTuple b jts.toArray := (show s1.heap.IsTuple b jts.toArray from p2').at fun o y => hk b o y
  have hsz1 : its.toArray.size = xs.length := by rw [List.size_toArray]; exact l1.symm
  have hsz2 : jts.toArray.size = xs.length := by rw [List.size_toArray]; omega
  have D1 := Draws.tuple (prog := X.prog) (w := X.w) (A := X.A.in1.in1.in1) hh s1.heap.objs.size a (Nat.ne_of_lt la) its.toArray
  have D2 := Draws.tuple (prog := X.prog) (w := X.w) (A := X.A.in1.in1.in1) hh (s1.heap.objs.size + 1) b (Nat.ne_of_lt (Nat.lt_succ_of_lt lb)) jts.toArray
  rw [hsz1] at D1
  rw [hsz2] at D2
  refine list_zip_call (s := { s1 with heap := h' }) hS D1 D2 hx1 ⟨.inl hz, hTI, ⟨_, _, hTO⟩⟩ hz ⟨⟨_, e1, rfl, rfl⟩, ha1⟩ ⟨⟨_, e2, rfl, rfl⟩, hb1⟩ (fun c hc => ?_) (fun c hc => ?_) fun s' Ts c hkk g1 g2 g3 hl hln hnd hT => ?_
  · show c < h'.objs.size
    rw [hsz]
    rcases mem2 hc with rfl | rfl
    · exact Nat.lt_add_of_pos_right (by decide)
    · exact Nat.lt_of_lt_of_le la (Nat.le_add_right _ _)
  · show c < h'.objs.size
    rw [hsz]
    rcases mem2 hc with rfl | rfl
    · exact Nat.add_lt_add_left (by decide) _
    · exact Nat.lt_of_lt_of_le lb (Nat.le_add_right _ _)
  · have hl : s'.heap.get? h'.objs.size = some { cls := .type "list", dict := none, data := .seq (Ts.map Value.ref).toArray c, slots := #[] } := hl
    have hT : ∀ (j : Nat) (T : Addr), Ts[j]? = some T → h'.objs.size < T ∧ ∃ x y, its.toArray[j]? = some x ∧ jts.toArray[j]? = some y ∧ IsTupOf2 s'.heap T x y := hT
    show EP X pins σ Q (.ref h'.objs.size) s'
    rw [hsz] at hl hT ⊢
    have old : ∀ b u, s1.heap.get? b = some u → s'.heap.get? b = some u := fun b u e => by
      refine hkk b u (fun hm => ?_) (hk b u e)
      have hlt := Heap.lt_size e
      rcases mem5 hm with z | z | z | z | z
      · rw [z] at hlt; exact absurd hlt (Nat.not_lt.mpr (Nat.le_add_right _ _))
      · rw [z] at hlt; exact absurd hlt (Nat.not_lt.mpr (Nat.le_add_right _ _))
      · rw [z] at hlt; exact absurd hlt (Nat.not_lt.mpr (Nat.le_add_right _ _))
      · rw [z] at hlt; exact absurd hlt (Nat.lt_irrefl _)
      · rw [z] at hlt; exact absurd hlt (Nat.not_lt.mpr (Nat.le_add_right _ _))
    -- the heap as we see it
    obtain ⟨H2, hH2⟩ : ∃ H2 : Hp, ∀ x, H2 x = if x = s1.heap.objs.size + 5 then some (.lst (Ts.map V.ref)) else if x ∈ Ts then some (.tup [xs.getD (Ts.idxOf x) .non, ys.getD (Ts.idxOf x) .non]) else H1 x :=
      ⟨fun x => if x = s1.heap.objs.size + 5 then some (.lst (Ts.map V.ref)) else if x ∈ Ts then some (.tup [xs.getD (Ts.idxOf x) .non, ys.getD (Ts.idxOf x) .non]) else H1 x, fun _ => rfl⟩
    have big : ∀ T ∈ Ts, s1.heap.objs.size + 5 < T := fun T hm => by
      obtain ⟨j, hj⟩ := List.mem_iff_getElem?.mp hm
      exact (hT j T hj).1
    have ex12 : Ex H1 H2 := fun x o e => by
      rw [hH2, if_neg, if_neg]
      · exact e
      · intro z
        rw [I1.hok.fresh (Nat.le_of_lt (Nat.lt_of_le_of_lt (Nat.le_add_right _ _) (big x z)))] at e
        cases e
      · intro z
        rw [z, I1.hok.fresh (Nat.le_add_right _ _)] at e
        cases e
    have hTat : ∀ {j : Nat} {T : Addr}, Ts[j]? = some T → H2 T = some (.tup [xs.getD j .non, ys.getD j .non]) := fun {j T} hj => by
      have hm := List.mem_of_getElem? hj
      have hjl := (List.getElem?_eq_some_iff.mp hj).1
      have hidx : Ts.idxOf T = j := by
        rw [← (List.getElem?_eq_some_iff.mp hj).2]
        exact List.Nodup.idxOf_getElem hnd j hjl
      rw [hH2, if_neg (fun z => absurd (big T hm) (by rw [z]; exact Nat.lt_irrefl _)), if_pos hm, hidx]
    have rel : ∀ (j : Nat) (u1 u2 : Value), its.toArray[j]? = some u1 → jts.toArray[j]? = some u2 → ∃ x y, xs[j]? = some x ∧ ys[j]? = some y ∧ RelV x u1 ∧ RelV y u2 := fun j u1 u2 h1 h2 => by
      have h1 : its[j]? = some u1 := by simpa using h1
      have h2 : jts[j]? = some u2 := by simpa using h2
      have hjx : j < xs.length := by rw [l1]; exact (List.getElem?_eq_some_iff.mp h1).1
      have hjy : j < ys.length := by omega
      obtain ⟨v1, q1, r1⟩ := rv.get (List.getElem?_eq_getElem hjx)
      obtain ⟨v2, q2, r2⟩ := rw2.get (List.getElem?_eq_getElem hjy)
      rw [h1] at q1; cases q1
      rw [h2] at q2; cases q2
      exact ⟨_, _, List.getElem?_eq_getElem hjx, List.getElem?_eq_getElem hjy, r1, r2⟩
    have I2 : Inv X pins σ H2 { s1 with heap := s'.heap, toks := s'.toks } := by
      refine inv_many I1 old ex12 fun x u e hn => ?_
      rw [hH2] at e
      by_cases e1 : x = s1.heap.objs.size + 5
      · rw [if_pos e1] at e
        cases e
        refine ⟨by rw [e1]; exact Nat.le_add_right _ _, ?_⟩
        refine ⟨?_, Ts.map Value.ref, c, ?_, by rw [e1]; exact hl⟩
        · rw [List.length_map, hln]
          exact Nat.le_trans hx1 (by decide)
        · exact vals_refs Ts
      · rw [if_neg e1] at e
        by_cases e2 : x ∈ Ts
        · rw [if_pos e2] at e
          cases e
          obtain ⟨j, hj⟩ := List.mem_iff_getElem?.mp e2
          obtain ⟨h1, u1, u2, p1, p2, p3⟩ := hT j x hj
          obtain ⟨v1, v2, q1, q2, r1, r2⟩ := rel j u1 u2 p1 p2
          have hjl := (List.getElem?_eq_some_iff.mp hj).1
          have hidx : Ts.idxOf x = j := by
            rw [← (List.getElem?_eq_some_iff.mp hj).2]
            exact List.Nodup.idxOf_getElem hnd j hjl
          refine ⟨Nat.le_of_lt (Nat.lt_of_le_of_lt (Nat.le_add_right _ _) h1), ?_⟩
          rw [hidx, List.getD_eq_getElem?_getD, q1, List.getD_eq_getElem?_getD, q2]
          exact ⟨by show 2 ≤ sizeLine; decide, [u1, u2], .cons r1 (.cons r2 .nil), ⟨_, p3, rfl, _, rfl⟩⟩
        · rw [if_neg e2, hn] at e; cases e
    have es : ({ s1 with heap := s'.heap, toks := s'.toks } : Shared) = s' := by
      obtain ⟨a1, a2, a3, a4, a5⟩ := s'
      have g1 : a2 = s1.gens := g1
      have g2 : a3 = s1.drawn := g2
      have g3 : a5 = s1.os := g3
      subst g1 g2 g3
      rfl
    rw [es] at I2
    refine ⟨.ref (s1.heap.objs.size + 5), H2, I2, rfl, q _ Ts H2 ⟨ex12, I1.hok.fresh (Nat.le_add_right _ _), by rw [hH2, if_pos rfl], hln, fun j T x y h1 h2 h3 => ⟨I1.hok.fresh (Nat.le_of_lt (Nat.lt_of_le_of_lt (Nat.le_add_right _ _) (hT j T h1).1)), ?_⟩⟩⟩
    rw [hTat h1, List.getD_eq_getElem?_getD, h2, List.getD_eq_getElem?_getD, h3]
    rfl
theorem pe_listZipK (K : PySem.W.Frag) {X : Cx} {e e2 : Expr} {ta : TA} {p p2 pos pos2 : Pos} (hc : X.calm = true) (hgl : Gl X "list") (hml : X.mg "list" = none) (hg : Gl X "zip") (hm : X.mg "zip" = none) (ha : PA X [e, e2] ta) (h : X.K = K := by rfl)
    (hs : starEach [e, e2] X.env = (false, eval e X.env) :: starEach [e2] X.env := by rfl) (hpl : (backTo pos2 (starEach [e2] X.env)).any (·.1) = false := by rfl)
    (na : starEach [.Call (.Name "zip" p2) [e, e2] [] pos2] X.env = (false, eval (.Call (.Name "zip" p2) [e, e2] [] pos2) X.env) :: starEach [] X.env := by rfl) :
    PE X (.Call (.Name "list" p) [.Call (.Name "zip" p2) [e, e2] [] pos2] [] pos) (tLstZip K ta) := h ▸ pe_listZip hc hgl hml hg hm ha hs hpl na
end KD
set_option linter.all false
/-! ### counts of nodes -/
namespace KM
section
variable {α : Type} {s t : Sheet α} {ar : α → Nat}
/-- i is the root of a finite value with c nodes -/
inductive Cnt (s : Sheet α) : Nat → Nat → Prop
  | mk {i : Nat} {cs : List Nat} : i < s.length → cs.length = (fl s i).length → (∀ (a x c : Nat), (fl s i)[a]? = some x → cs[a]? = some c → Cnt s x c) → Cnt s i (1 + cs.sum)
theorem Cnt.lt {i c : Nat} (h : Cnt s i c) : i < s.length := by
  cases h with | mk h _ _ => exact h
theorem Cnt.same (hs : Ok ar s) (ht : Ok ar t) {i c : Nat} (h : Cnt s i c) : ∀ {j : Nat}, Same s t i j → Cnt t j c := by
  induction h with
  | @mk i cs h1 h2 h3 ih =>
    intro j hj
    have hl := hs.len ht hj.tag
    refine .mk (hj.lt h1) (by omega) fun a x c hx hc => ?_
    have ha := (List.getElem?_eq_some_iff.mp hx).1
    have hy : (fl s i)[a]? = some ((fl s i)[a]'(by omega)) := List.getElem?_eq_getElem _
    exact ih a _ c hy hc (hj.fld hy hx)
theorem Cnt.uniq {i c : Nat} (h : Cnt s i c) : ∀ {c' : Nat}, Cnt s i c' → c = c' := by
  induction h with
  | @mk i cs h1 h2 h3 ih =>
    intro c' h'
    cases h' with
    | @mk _ cs' g1 g2 g3 =>
      have : cs = cs' := by
        refine List.ext_getElem? fun a => ?_
        by_cases ha : a < (fl s i).length
        · have hx : (fl s i)[a]? = some (fl s i)[a] := List.getElem?_eq_getElem ha
          have hc : cs[a]? = some (cs[a]'(by omega)) := List.getElem?_eq_getElem _
          have hc' : cs'[a]? = some (cs'[a]'(by omega)) := List.getElem?_eq_getElem _
          rw [hc, hc', ih a _ _ hx hc (g3 a _ _ hx hc')]
        · rw [List.getElem?_eq_none (by omega), List.getElem?_eq_none (by omega)]
      rw [this]
/-- a value that writes the same has the same count, or none -/
theorem Cnt.iff (hs : Ok ar s) (ht : Ok ar t) {i j c : Nat} (h : Same s t i j) : Cnt s i c ↔ Cnt t j c := ⟨fun z => z.same hs ht h, fun z => z.same ht hs h.sym⟩
/-- rows of which none is counted and each has a field among them: nothing finite below -/
theorem Cnt.no {P : Nat → Prop} (h : ∀ i, P i → ∃ (a x : Nat), (fl s i)[a]? = some x ∧ P x) {i c : Nat} (hc : Cnt s i c) : ¬ P i := by
  induction hc with
  | @mk i cs h1 h2 h3 ih =>
    intro hp
    obtain ⟨a, x, hx, hpx⟩ := h i hp
    have ha := (List.getElem?_eq_some_iff.mp hx).1
    have hc : cs[a]? = some (cs[a]'(by omega)) := List.getElem?_eq_getElem _
    exact ih a x _ hx hc hpx
/-- a path from a row -/
inductive Way (s : Sheet α) : Nat → Nat → Prop
  | one {i x a : Nat} : (fl s i)[a]? = some x → Way s i x
  | more {i x y a : Nat} : (fl s i)[a]? = some x → Way s x y → Way s i y
theorem Way.snoc {i j y a : Nat} (h : Way s i j) (hy : (fl s j)[a]? = some y) : Way s i y := by
  induction h with
  | one hx => exact .more hx (.one hy)
  | more hx _ ih => exact .more hx (ih hy)
/-- a row that occurs below itself has no count -/
theorem Cnt.loop {i c : Nat} (h : Cnt s i c) : ¬ Way s i i := by
  intro hw
  have hstep : ∀ j, (j = i ∨ (Way s i j ∧ Way s j i)) → ∃ (a x : Nat), (fl s j)[a]? = some x ∧ (x = i ∨ (Way s i x ∧ Way s x i)) := by
    intro j hj
    have hji : Way s j i := by
      rcases hj with rfl | hj
      · exact hw
      · exact hj.2
    have hij : ∀ {a x : Nat}, (fl s j)[a]? = some x → Way s i x := fun hx => by
      rcases hj with rfl | hj
      · exact .one hx
      · exact hj.1.snoc hx
    cases hji with
    | one hx => exact ⟨_, _, hx, .inl rfl⟩
    | more hx hxi => exact ⟨_, _, hx, .inr ⟨hij hx, hxi⟩⟩
  exact Cnt.no hstep h (.inl rfl)
theorem Cnt.all {i c : Nat} (h : Cnt s i c) : ∀ {j : Nat}, Way s i j → ∃ c', Cnt s j c' := by
  induction h with
  | @mk i cs h1 h2 h3 ih =>
    intro j hw
    have at_ : ∀ {a x : Nat}, (fl s i)[a]? = some x → ∃ c, cs[a]? = some c := fun hx => by
      have ha := (List.getElem?_eq_some_iff.mp hx).1
      exact ⟨_, List.getElem?_eq_getElem (by omega)⟩
    cases hw with
    | one hx =>
      obtain ⟨c, hc⟩ := at_ hx
      exact ⟨c, h3 _ _ _ hx hc⟩
    | more hx hw =>
      obtain ⟨c, hc⟩ := at_ hx
      exact ih _ _ _ hx hc hw
end
end KM
set_option linter.all false
/-! ### counting nodes from the leaves up -/
namespace KM
section
variable {α : Type} {s : Sheet α} {ar : α → Nat}
abbrev keysK (ks : List (Nat × Nat)) : List Nat := ks.map (·.1)
def kget (ks : List (Nat × Nat)) (x : Nat) : Nat := ((ks.find? fun p => decide (p.1 = x)).map (·.2)).getD 0
theorem kget_mem {ks : List (Nat × Nat)} {x : Nat} (h : x ∈ keysK ks) : (x, kget ks x) ∈ ks := by
  unfold kget
  cases e : ks.find? fun p => decide (p.1 = x) with
  | none =>
    obtain ⟨p, hp, rfl⟩ := List.mem_map.mp h
    have := List.find?_eq_none.mp e p hp
    simp at this
  | some p =>
    have h1 := List.mem_of_find?_eq_some e
    have h2 := List.find?_some e
    have h2 : p.1 = x := by simpa using h2
    subst h2
    exact h1
/-- how many fields of a row are not done -/
def left (D : Nat → Nat → Bool) (s : Sheet α) (u : Nat) : Nat := (List.range (fl s u).length).countP fun a => !D u a
theorem count_flip {p q : Nat → Bool} {k : Nat} (h1 : p k = true) (h2 : q k = false) (h : ∀ a, a ≠ k → p a = q a) : ∀ {n : Nat}, (k < n → (List.range n).countP p = (List.range n).countP q + 1) ∧ (¬ k < n → (List.range n).countP p = (List.range n).countP q)
  | 0 => ⟨fun h => absurd h (Nat.not_lt_zero _), fun _ => rfl⟩
  | n + 1 => by
    obtain ⟨i1, i2⟩ := count_flip h1 h2 h (n := n)
    rw [List.range_succ, List.countP_append, List.countP_append, List.countP_singleton, List.countP_singleton]
    by_cases e : k = n
    · subst e
      have := i2 (Nat.lt_irrefl _)
      refine ⟨fun _ => ?_, fun z => absurd (Nat.lt_succ_self _) z⟩
      rw [this, h1, h2]; rfl
    · have e' := h n (fun z => e z.symm)
      rw [e']
      refine ⟨fun z => ?_, fun z => ?_⟩
      · rw [i1 (by omega)]; omega
      · rw [i2 (by omega)]
theorem left_zero {D : Nat → Nat → Bool} {u : Nat} : left D s u = 0 ↔ ∀ a, a < (fl s u).length → D u a = true := by
  unfold left
  rw [List.countP_eq_zero]
  constructor
  · intro h a ha
    have := h a (List.mem_range.mpr ha)
    simpa using this
  · intro h a ha
    have := h a (List.mem_range.mp ha)
    simp [this]
theorem left_all {u : Nat} : left (fun _ _ => false) s u = (fl s u).length := by
  unfold left
  have : (List.range (fl s u).length).countP (fun a => !(fun (_ _ : Nat) => false) u a) = (List.range (fl s u).length).length := List.countP_eq_length.mpr (fun _ _ => rfl)
  rw [this, List.length_range]
def dn (s : Sheet α) (K : List Nat) : Nat → Nat → Bool := fun u a => match (fl s u)[a]? with | some x => decide (x ∈ K) | none => false
def dn2 (s : Sheet α) (K : List Nat) (r k : Nat) (T : List Nat) : Nat → Nat → Bool := fun u a => match (fl s u)[a]? with | some x => decide (x ∈ K ∨ (x = r ∧ (a < k ∨ (a = k ∧ u ∈ T)))) | none => false
theorem left_congr {D D' : Nat → Nat → Bool} {u : Nat} (h : ∀ a, a < (fl s u).length → D u a = D' u a) : left D s u = left D' s u := by
  unfold left
  refine List.countP_congr fun a ha => ?_
  rw [h a (List.mem_range.mp ha)]
structure Kahn (s : Sheet α) (ks : List (Nat × Nat)) (D : Nat → Nat → Bool) (rd : List Nat) : Prop where
  c : ∀ p ∈ ks, Cnt s p.1 p.2
  nd : (keysK ks).Nodup
  z : ∀ x ∈ keysK ks, left D s x = 0
  rn : rd.Nodup
  r : ∀ u, u ∈ rd ↔ u < s.length ∧ left D s u = 0 ∧ u ∉ keysK ks
theorem Kahn.lt {ks : List (Nat × Nat)} {D : Nat → Nat → Bool} {rd : List Nat} (k : Kahn s ks D rd) {x : Nat} (h : x ∈ keysK ks) : x < s.length := by
  obtain ⟨p, hp, rfl⟩ := List.mem_map.mp h
  exact (k.c p hp).lt
theorem Kahn.congr {ks : List (Nat × Nat)} {D D' : Nat → Nat → Bool} {rd : List Nat} (k : Kahn s ks D rd) (h : ∀ u, left D' s u = left D s u) : Kahn s ks D' rd :=
  ⟨k.c, k.nd, fun x hx => by rw [h, k.z x hx], k.rn, fun u => by rw [k.r u, h]⟩
theorem Kahn.start : Kahn s [] (dn s []) ((List.range s.length).filter fun u => decide ((fl s u).length = 0)) := by
  have e : ∀ u, left (dn s []) s u = (fl s u).length := fun u => by
    rw [← left_all]
    refine left_congr fun a ha => ?_
    unfold dn
    rw [List.getElem?_eq_getElem ha]
    simp
  refine ⟨(fun p h => by cases h), List.nodup_nil, (fun x h => by cases h), List.nodup_range.filter _, fun u => ?_⟩
  rw [List.mem_filter, List.mem_range, e]
  simp
theorem Kahn.flds {ks : List (Nat × Nat)} {rd : List Nat} {r : Nat} (k : Kahn s ks (dn s (keysK ks)) rd) (h : r ∈ rd) : ∀ x ∈ fl s r, x ∈ keysK ks := fun x hx => by
  obtain ⟨_, h0, _⟩ := (k.r r).mp h
  obtain ⟨a, ha⟩ := List.mem_iff_getElem?.mp hx
  have hl := (List.getElem?_eq_some_iff.mp ha).1
  have := left_zero.mp h0 a hl
  unfold dn at this
  rw [ha] at this
  simpa using this
/-- a row is taken -/
theorem Kahn.take {ks : List (Nat × Nat)} {rd : List Nat} {r : Nat} (k : Kahn s ks (dn s (keysK ks)) (rd ++ [r])) :
    Kahn s (ks ++ [(r, 1 + ((fl s r).map (kget ks)).sum)]) (dn2 s (keysK ks) r 0 []) rd ∧ r ∉ keysK ks ∧ r < s.length := by
  have hr : r ∈ rd ++ [r] := List.mem_append_right _ List.mem_cons_self
  obtain ⟨h1, h2, h3⟩ := (k.r r).mp hr
  have hf := k.flds hr
  have e : ∀ u, left (dn2 s (keysK ks) r 0 []) s u = left (dn s (keysK ks)) s u := fun u => left_congr fun a ha => by
    unfold dn dn2
    rw [List.getElem?_eq_getElem ha]
    simp
  have hC : Cnt s r (1 + ((fl s r).map (kget ks)).sum) := by
    refine .mk h1 (by rw [List.length_map]) fun a x c hx hc => ?_
    rw [List.getElem?_map, hx] at hc
    cases hc
    exact k.c _ (kget_mem (hf x (List.mem_of_getElem? hx)))
  have hk : keysK (ks ++ [(r, 1 + ((fl s r).map (kget ks)).sum)]) = keysK ks ++ [r] := by unfold keysK; rw [List.map_append]; rfl
  have hn := List.nodup_append.mp k.rn
  refine ⟨⟨fun p hp => ?_, ?_, fun x hx => ?_, hn.1, fun u => ?_⟩, h3, h1⟩
  · rcases List.mem_append.mp hp with h | h
    · exact k.c p h
    · rw [List.mem_singleton.mp h]; exact hC
  · rw [hk]
    exact List.nodup_append.mpr ⟨k.nd, by simp, fun x hx y hy => by rw [List.mem_singleton.mp hy]; exact fun z => h3 (z ▸ hx)⟩
  · rw [hk] at hx
    rw [e]
    rcases List.mem_append.mp hx with h | h
    · exact k.z x h
    · rw [List.mem_singleton.mp h]; exact h2
  · rw [e, hk]
    constructor
    · intro hu
      obtain ⟨a, b, c⟩ := (k.r u).mp (List.mem_append_left _ hu)
      refine ⟨a, b, fun z => ?_⟩
      rcases List.mem_append.mp z with h | h
      · exact c h
      · exact hn.2.2 u hu r List.mem_cons_self (List.mem_singleton.mp h)
    · rintro ⟨a, b, c⟩
      have := (k.r u).mpr ⟨a, b, fun z => c (List.mem_append_left _ z)⟩
      rcases List.mem_append.mp this with h | h
      · exact h
      · exact absurd (List.mem_append_right _ h) c
/-- one of the rows above it -/
theorem left_step {K T : List Nat} {r k u : Nat} (hr : r ∉ K) (hu : (fl s u)[k]? = some r) (hT : u ∉ T) :
    left (dn2 s K r k T) s u = left (dn2 s K r k (T ++ [u])) s u + 1 ∧ ∀ v, v ≠ u → left (dn2 s K r k (T ++ [u])) s v = left (dn2 s K r k T) s v := by
  have hk := (List.getElem?_eq_some_iff.mp hu).1
  constructor
  · unfold left
    refine (count_flip (k := k) ?_ ?_ fun a ha => ?_).1 hk
    · unfold dn2; rw [hu]; simp [hr, hT]
    · unfold dn2; rw [hu]; simp
    · unfold dn2
      cases (fl s u)[a]? with
      | none => rfl
      | some x => simp [ha]
  · intro v hv
    refine left_congr fun a ha => ?_
    unfold dn2
    rw [List.getElem?_eq_getElem ha]
    simp [hv]
theorem Kahn.step {ks : List (Nat × Nat)} {rd K T : List Nat} {r k u : Nat} (kh : Kahn s ks (dn2 s K r k T) rd) (hr : r ∉ K) (hl : u < s.length) (hu : (fl s u)[k]? = some r) (hT : u ∉ T) :
    Kahn s ks (dn2 s K r k (T ++ [u])) (if left (dn2 s K r k (T ++ [u])) s u = 0 then rd ++ [u] else rd) := by
  obtain ⟨e1, e2⟩ := left_step hr hu hT
  have hne : ∀ x, left (dn2 s K r k T) s x = 0 → x ≠ u := fun x hx z => by rw [z, e1] at hx; omega
  refine ⟨kh.c, kh.nd, fun x hx => by rw [e2 x (hne x (kh.z x hx)), kh.z x hx], ?_, fun v => ?_⟩
  · split
    · refine List.nodup_append.mpr ⟨kh.rn, by simp, fun x hx y hy => by
        rw [List.mem_singleton.mp hy]
        exact hne x ((kh.r x).mp hx).2.1⟩
    · exact kh.rn
  · by_cases e : v = u
    · subst e
      have n1 : v ∉ rd := fun h => hne v ((kh.r v).mp h).2.1 rfl
      have n2 : v ∉ keysK ks := fun h => hne v (kh.z v h) rfl
      split
      · rename_i h0
        exact ⟨fun _ => ⟨hl, h0, n2⟩, fun _ => List.mem_append_right _ List.mem_cons_self⟩
      · rename_i h0
        exact ⟨fun h => absurd h n1, fun h => absurd h.2.1 h0⟩
    · rw [e2 v e, ← kh.r v]
      split
      · exact ⟨fun h => by
          rcases List.mem_append.mp h with h | h
          · exact h
          · exact absurd (List.mem_singleton.mp h) e, fun h => List.mem_append_left _ h⟩
      · rfl
/-- all rows above it at a place -/
theorem left_next {K T : List Nat} {r k : Nat} (h : ∀ u, u < s.length → (fl s u)[k]? = some r → u ∈ T) (u : Nat) : left (dn2 s K r (k + 1) []) s u = left (dn2 s K r k T) s u := by
  refine left_congr fun a ha => ?_
  unfold dn2
  have hu : u < s.length := by
    by_cases z : u < s.length
    · exact z
    · have : fl s u = [] := by unfold fl; rw [List.getElem?_eq_none (by omega)]; rfl
      rw [this] at ha
      cases ha
  cases e : (fl s u)[a]? with
  | none => rfl
  | some x =>
    simp only [List.not_mem_nil, and_false, or_false]
    by_cases hx : x = r
    · subst hx
      by_cases ek : a = k
      · subst ek
        simp [h u hu e]
      · have : (a < k + 1) ↔ (a < k ∨ (a = k ∧ u ∈ T)) := ⟨fun h => .inl (by omega), fun h => by rcases h with h | h <;> omega⟩
        simp only [this]
    · simp [hx]
theorem left_last {K : List Nat} {r k : Nat} (h : ∀ u, (fl s u).length ≤ k) (u : Nat) : left (dn s (K ++ [r])) s u = left (dn2 s K r k []) s u := by
  refine left_congr fun a ha => ?_
  unfold dn dn2
  rw [List.getElem?_eq_getElem ha]
  have := h u
  simp only [List.mem_append, List.mem_singleton, List.not_mem_nil, and_false, or_false]
  have e : a < k := by omega
  simp [e]
/-- nothing is ready: what is not counted has no count -/
theorem Kahn.fin {ks : List (Nat × Nat)} (hs : Ok ar s) (k : Kahn s ks (dn s (keysK ks)) []) {i c : Nat} (h : i ∉ keysK ks) : ¬ Cnt s i c := by
  intro hc
  refine Cnt.no (P := fun i => i < s.length ∧ i ∉ keysK ks) (fun i ⟨h1, h2⟩ => ?_) hc ⟨hc.lt, h⟩
  have : left (dn s (keysK ks)) s i ≠ 0 := fun z => by
    have := (k.r i).mpr ⟨h1, z, h2⟩
    cases this
  have : ∃ a, a < (fl s i).length ∧ dn s (keysK ks) i a = false := by
    refine Classical.byContradiction fun hn => this (left_zero.mpr fun a ha => ?_)
    cases e : dn s (keysK ks) i a with
    | true => rfl
    | false => exact absurd ⟨a, ha, e⟩ hn
  obtain ⟨a, ha, e⟩ := this
  refine ⟨a, (fl s i)[a], List.getElem?_eq_getElem ha, hs.fld (List.getElem_mem ha), ?_⟩
  unfold dn at e
  rw [List.getElem?_eq_getElem ha] at e
  simpa using e
end
end KM
set_option Elab.async false
set_option linter.all false
set_option maxRecDepth 100000
set_option maxHeartbeats 1000000
namespace KD
open PySem PySem.Spec PyProof.Rows L2
/-! ### xs[i] -= e; dicts of numbers by number -/
theorem get_list {X : Cx} : PGet X (rIxL X.K) := by
  rintro pins s σ H x y v u Q inv rx ry ⟨a, xs, i, z, rfl, rfl, lst, found, q⟩
  cases rx
  obtain ⟨tok, rfl⟩ := ry
  obtain ⟨its, vals, plain, _⟩ := inv.list lst
  obtain ⟨j, ej, jlt, _, low, high⟩ := atI_get found
  obtain ⟨got, eg, rg⟩ := vals.get jlt
  have cap := line63
  have many : its.toArray.size = xs.length := by rw [List.size_toArray]; exact vals.length.symm
  have here : its.toArray[j]? = some got := by simpa using eg
  have answer : EP X pins σ Q got s := ⟨z, H, inv, rg, q⟩
  rcases Int.lt_or_le i 0 with below | above
  · rw [seqIndex_neg below low, ← many] at ej
    exact wpAny_getItem_list_neg plain.isList below (by omega) (by omega) (by rw [Option.some.inj ej]; exact here) answer
  · rw [seqIndex_of above high] at ej
    exact wpAny_getItem_list plain.isList above (by omega) (by rw [Option.some.inj ej]; exact here) answer
theorem get_listK (K : PySem.W.Frag) {X : Cx} (h : X.K = K := by rfl) : PGet X (rIxL K) := h ▸ get_list
theorem cr_sumK (K : PySem.W.Frag) {X : Cx} (hc : X.calm = true) (h : X.K = K := by rfl) : CallR X (.builtin "sum") (rSum K) := h ▸ cr_sum hc
/-- a dict from numbers to numbers -/
abbrev kC (p : Nat × Nat) : Key × V := (kN p.1, vN p.2)
theorem valV_kC {k : Nat} : ∀ {ks : List (Nat × Nat)}, valV (ks.map kC) (kN k) = (ks.find? fun p => decide (p.1 = k)).map fun p => vN p.2
  | [] => rfl
  | (a, b) :: ks => by
    by_cases e : a = k
    · subst e
      rw [List.map_cons, valV_pos rfl, List.find?_cons_of_pos (by simp)]
      rfl
    · rw [List.map_cons, valV_neg (fun z => e (kN_inj z)), valV_kC, List.find?_cons_of_neg (by simpa using e)]
theorem valV_kget {k : Nat} {ks : List (Nat × Nat)} (h : k ∈ KM.keysK ks) : valV (ks.map kC) (kN k) = some (vN (KM.kget ks k)) := by
  rw [valV_kC]
  unfold KM.kget
  cases e : ks.find? fun p => decide (p.1 = k) with
  | none =>
    obtain ⟨p, hp, rfl⟩ := List.mem_map.mp h
    have := List.find?_eq_none.mp e p hp
    simp at this
  | some p => rfl
theorem valV_knone {k : Nat} {ks : List (Nat × Nat)} (h : k ∉ KM.keysK ks) : valV (ks.map kC) (kN k) = none := by
  rw [valV_kC, List.find?_eq_none.mpr]
  · rfl
  · intro p hp
    simp only [decide_eq_true_eq]
    exact fun z => h (List.mem_map.mpr ⟨p, hp, z⟩)
theorem putK_kC {k c : Nat} {ks : List (Nat × Nat)} (h : k ∉ KM.keysK ks) : putK (ks.map kC) (kN k) (vN c) = (ks ++ [(k, c)]).map kC := by
  rw [putK_new _ (valV_knone h), List.map_append]; rfl
end KD
set_option Elab.async false
set_option linter.all false
set_option maxRecDepth 100000
set_option maxHeartbeats 1000000
namespace KD
open PySem PySem.Spec PyProof.Rows L2
/-! ### dicts by tuples: a display of one pair, update, == {} -/
def tDispT1 (tk tv : TE) : TE := fun σ H Q => ∀ p, H p = none → tPairs [(tk, tv)] σ (upd H p (.dT [])) fun ps H2 => H2 p = some (.dT []) ∧ ∃ b ks v, ps = [(.ref b, v)] ∧ H2 b = some (.tup (ks.map kV)) ∧ Q (.ref p) (upd H2 p (.dT [(ks, v)]))
theorem pe_dispT1 {X : Cx} {pos : Pos} {ke ve : Expr} {tk tv : TE} (hu : X.A.units + 1 < cLine) (hk : PE X ke tk) (hv : PE X ve tv) : PE X (.Dict [some ke] [ve] pos) (tDispT1 tk tv) := by
  refine ⟨fun pins s σ H Q I q => ?_⟩
  have hn := I.hok.fresh (Nat.le_refl s.heap.objs.size)
  have I1 := I.laid (a := s.heap.objs.size) (o := .dT []) (h' := s.heap.push { cls := .type "dict", data := .dict #[] }) (t' := s.toks) (fun _ _ q => Heap.get?_push_of_some _ q) (Nat.le_refl _) (dt_empty s.heap I.big)
  have hrun : PPs X pos [some ke] [ve] [(tk, tv)] := pps_cons hk hv pps_nil
  have hlen : (pairTrees [some ke] [ve] X.env pos).length = 1 := pairTrees_length _ _ _ _ rfl rfl
  have hne : pairTrees [some ke] [ve] X.env pos ≠ [] := fun z => by rw [z] at hlen; simp at hlen
  rw [arm_eval_Dict, zip_pairTrees _ _ _ _ rfl rfl, dictDisplay_pairs _ hne (by omega)]
  refine wpAny_bind (wpAny_standAt (wpAny_bind (wpAny_subDictH (knd := tupleKind (mixKind X.prog X.w)) (Q := fun d s' => wpAny (model X.prog X.w) X.A (pure (Value.ref d)) _ X.xe s') (show X.A.units < cLine by omega) (by omega) ?_)))
  refine thn (hrun.run pins _ σ _ _ I1 (q _ hn)) fun ws s2 ⟨ps, H2, I2, rel, e, b, ks, v, ep, eb, q2⟩ => ?_
  subst ep
  cases rel with | @cons _ w1 _ _ h1 h2 => ?_
  cases h2
  obtain ⟨w1k, w1v⟩ := w1
  obtain ⟨r1, r2⟩ := h1
  cases (show w1k = Value.ref b from r1)
  obtain ⟨z, hd, xs0, rel0, dd⟩ := dt_of I2.hok e
  have hx0 : xs0 = [] := by cases rel0; rfl
  subst hx0
  refine ⟨[(ks, b, w1v)], ⟨rfl, rfl, key_of I2.hok eb, trivial⟩, dd, fun h' tk' dd' hs => wpAny_pure ⟨.ref s.heap.objs.size, _, ?_, rfl, q2⟩⟩
  obtain ⟨q, es, ep, hq, h2, h3, h4, _, h5⟩ := dd'
  refine d_write I2 (by rw [e]; exact True.intro) hs ⟨q, hq⟩ ⟨by show 1 ≤ sizeLine; decide, hd, storedAllH [] [(ks, b, w1v)], ?_, q, es, ep, hq, h2, h3, h4, h5⟩
  show KT _ [(ks, v)] [(ks, b, w1v)]
  refine .cons ⟨rfl, ?_, r2⟩ .nil
  rw [upd_ne (ne_of eb e (fun z => nomatch z))]
  exact eb
def mergeT (kvs more : List (List Key × V)) : List (List Key × V) := more.foldl (fun acc kv => putK acc kv.1 kv.2) kvs
theorem KT.merge {H : Hp} : ∀ {more : List (List Key × V)} {rs : List (List Key × Addr × Value)} {kvs : List (List Key × V)} {xs : List (List Key × Addr × Value)}, KT H more rs → KT H kvs xs → KT H (mergeT kvs more) (storedAllH xs rs) := by
  intro more rs kvs xs r
  induction r generalizing kvs xs with
  | nil => exact id
  | @cons kv row _ _ ok _ next =>
    refine fun base => next ?_
    obtain ⟨key, at_key, val⟩ := ok
    obtain ⟨rk, rest⟩ := row
    obtain rfl : kv.1 = rk := key
    exact KT.put base kv.1 at_key val
theorem length_mergeT (more kvs : List (List Key × V)) : (mergeT kvs more).length ≤ kvs.length + more.length := by
  induction more generalizing kvs with
  | nil => exact Nat.le_refl _
  | cons kv rest ih =>
    have one := length_putK kvs kv.1 kv.2
    exact Nat.le_trans (ih (putK kvs kv.1 kv.2)) (by simp only [List.length_cons]; omega)
def rUpdT : V → List V → Hp → VK → Prop := fun x vs H Q => ∃ d o kvs more, x = .ref d ∧ vs = [.ref o] ∧ d ≠ o ∧ H d = some (.dT kvs) ∧ H o = some (.dT more) ∧ kvs ≠ [] ∧ kvs.length + more.length ≤ sizeLine ∧ Q .non (upd H d (.dT (mergeT kvs more)))
theorem mt_updateT {X : Cx} (hu : X.A.units + 1 < cLine) : MtM X "dict.update" rUpdT := by
  intro pins s σ H x vs v us Q I rx rv h
  obtain ⟨d, o, kvs, more, rfl, rfl, hdo, hd, ho, hne, hsz, q⟩ := h
  cases rx
  obtain ⟨u, rfl, ru⟩ := rv.one
  cases ru
  obtain ⟨z1, n1, xs, r1, d1⟩ := dt_of I.hok hd
  obtain ⟨z2, n2, ys, r2, d2⟩ := dt_of I.hok ho
  have l1 := Paired.length r1
  have l2 := Paired.length r2
  refine call_update_dictH (knd := tupleKind (mixKind X.prog X.w)) (tupleKind_room_in1 hu) hdo n2 d1 d2 (.inl fun z => ?_) (by omega) fun h' dd' _ hs => ⟨.non, _, ?_, rfl, q⟩
  · rw [z] at l1
    exact hne (List.length_eq_zero_iff.mp l1)
  · obtain ⟨ob, es, ep, hq, h2, h3, h4, _, h5⟩ := dd'
    refine d_write I (by rw [hd]; exact True.intro) hs ⟨ob, hq⟩ ⟨by have := length_mergeT more kvs; omega, n1, _, (KT.merge r2 r1).keeps fun c ys ec => ?_, ob, es, ep, hq, h2, h3, h4, h5⟩
    rw [upd_ne (ne_of ec hd (fun z => nomatch z))]
    exact ec
/-- d == {} -/
def rEqD0 : R2 := fun x y H Q => ∃ a b kvs, x = .ref a ∧ y = .ref b ∧ H a = some (.dT kvs) ∧ H b = some (.dT []) ∧ Q (.bl kvs.isEmpty) H
section
variable {prog : Program} {w : World} {A : Around} {E : Value → Shared → Prop} {s : Shared}
theorem samePairs0 {nm : String} {a b : Addr} {oa ob : Obj} {es es' : Array DictEntry} {ep ep' : Nat} {Q : Bool → Shared → Prop} (ha : (a == sysModules) = false) (hb : (b == sysModules) = false)
    (hoa : s.heap.get? a = some oa) (hda : oa.data = .dict es ep) (hob : s.heap.get? b = some ob) (hdb : ob.data = .dict es' ep') (h0 : es'.size = 0) (h : Q (es.size == 0) s) :
    wpAny (model prog w) A (Builtin.Dict.samePairs nm a b) Q E s := by
  simp only [Builtin.Dict.samePairs, Builtin.Dict.showsAll, ha, hb, Bool.false_eq_true, if_false]
  refine wpAny_bind (wpAny_pure (wpAny_bind (wpAny_pure (wpAny_bind (wpAny_dictEntries hoa hda ?_)))))
  apply wpAny_bind
  refine wpAny_dictEntries hob hdb ?_
  by_cases hsz : es.size = 0
  · have h' : Q true s := by simpa [hsz] using h
    rw [if_neg (by rw [hsz, h0]; simp)]
    refine wpAny_bind (wpAny_dictEpoch hoa hda ?_)
    refine wpAny_bind ?_
    rw [Std.Legacy.Range.forIn_eq_forIn_range']
    simp only [Std.Legacy.Range.size, Nat.sub_zero, Nat.add_sub_cancel, Nat.div_one, hsz, List.range'_zero, List.forIn_nil]
    exact wpAny_pure (wpAny_pure h')
  · rw [if_pos (by rw [h0]; simpa using hsz)]
    have hbf : (es.size == 0) = false := by simpa using hsz
    rw [hbf] at h
    exact wpAny_bind (wpAny_rule (wpAny_pure h))
end
theorem op_eqD0 {X : Cx} (hu : X.A.units < cLine) : OpR X (compareOp .Eq) rEqD0 := by
  intro pins s σ H x y v u Q I rx ry h
  obtain ⟨a, b, kvs, rfl, rfl, hha, hhb, q⟩ := h
  cases rx; cases ry
  obtain ⟨z1, n1, xs, r1, d1⟩ := dt_of I.hok hha
  obtain ⟨z2, n2, ys, r2, d2⟩ := dt_of I.hok hhb
  have hy0 : ys = [] := by cases r2; rfl
  subst hy0
  have t1 := d1.typeIs
  have t2 := d2.typeIs
  obtain ⟨oa, es, ep, hoa, _, hda, hea, _⟩ := d1
  obtain ⟨ob, es', ep', hob, _, hdb, heb, _⟩ := d2
  have s1 : es.size = kvs.length := by rw [size_of_entries hea, Paired.length r1]
  have s2 : es'.size = 0 := by rw [size_of_entries heb]; rfl
  have both : ∀ {Q' : Value × Value → Shared → Prop} {E' : Value → Shared → Prop}, Q' (.ref a, .ref b) s → wpAny (model X.prog X.w) X.A.in1 (Builtin.Dict.dictSlotArgs "__eq__" ⟨[.ref a, .ref b], []⟩) Q' E' s := fun {_ _} q' =>
    wpAny_bind (wpAny_notOrdered_dict t1 (wpAny_pure q'))
  refine wpAny_richCompare_same_room (op := .Eq) t1 t2 PySem.F.slot_dict_eq (wpAny_call_entry PySem.F.slot_dict_eq t1 PySem.F.entry_dict_eq (wpAny_bind (both ?_)) (PySem.F.args_dict_eq_2 _ _)) hu
  refine wpAny_bind (wpAny_isInstance (T := "dict") t2 PySem.F.sub_dict_dict ?_)
  refine wp_if_neg (by decide) ?_
  refine wpAny_bind (wpAny_pure (wpAny_bind (wpAny_pure (wpAny_bind (samePairs0 n1 n2 hoa hda hob hdb s2 (wpAny_pure ⟨_, rfl, ?_, ?_⟩))))))
  · exact fun x => nomatch x
  · refine ⟨.bl kvs.isEmpty, H, I, ?_, q⟩
    show _ = Value.bool kvs.isEmpty
    rw [s1]
    cases kvs <;> rfl
end KD
set_option Elab.async false
set_option linter.all false
set_option maxRecDepth 100000
set_option maxHeartbeats 2000000
namespace KD
open PySem PySem.Spec PyProof.Rows L2
/-! ### for p in zip(t, u): each pair is kept by the name p -/
/-- a zip in any state of its own pair -/
abbrev IsZipG (h : Heap) (z TI TO : Addr) (x : Value) (f : Bool) : Prop :=
  h.get? z = some { cls := .type "zip", dict := none, data := .fields #[x, .bool f, .bool false, .ref TI, .ref TO], slots := #[] }
/-- no one holds its pair -/
def NoPair (h : Heap) (x : Value) : Prop := x = .none ∨ ∃ T : Addr, x = rawInt T ∧ h.get? T = none
section
variable {prog : Program} {w : World} {A : Around} {E : Value → Shared → Prop} {s : Shared} {z TI TO i1 i2 : Addr} {fp1 fp2 : List Addr} {n1 n2 i : Nat} {P1 P2 : Nat → Value → Prop} {St1 St2 : Nat → Heap → Prop} {a1 a2 x : Value} {f : Bool}
theorem loadNone {a : Addr} {Q : Option Obj → Shared → Prop} (h : s.heap.get? a = none) (q : Q none s) : wpAny (model prog w) A (loadIfAlive a) Q E s := fun Γ p hΓ => by
  unfold loadIfAlive
  rw [Sem.wp_loadIfAlive, h]
  exact wpAny_pure q Γ p hΓ
theorem isFree {Q : Bool → Shared → Prop} (hz : IsZipG s.heap z TI TO x f) (hx : NoPair s.heap x) (h : Q true s) : wpAny (model prog w) A (Builtin.SmallTypes.ownedTupleIsFree (.ref z)) Q E s := by
  unfold Builtin.SmallTypes.ownedTupleIsFree
  rcases hx with rfl | ⟨T, rfl, hT⟩
  · exact wpAny_bind (wpAny_field hz rfl (x := .none) rfl (wpAny_pure h))
  · refine wpAny_bind (wpAny_field hz rfl (x := rawInt T) rfl ?_)
    show wpAny _ A (loadIfAlive ((T : Int).toNat) >>= _) _ _ s
    rw [Int.toNat_natCast]
    exact wpAny_bind (loadNone hT (wpAny_pure h))
/-- its next pair, where no one holds the last -/
theorem zipG_item {Q : Option Value → Shared → Prop} (S : ZipSep2 z TI TO i1 i2 fp1 fp2) (D1 : Draws prog w A.in1 i1 fp1 n1 P1 St1) (D2 : Draws prog w A.in1 i2 fp2 n2 P2 St2)
    (hz : IsZipG s.heap z TI TO x f) (hx : NoPair s.heap x) (hTI : IsTupOf2 s.heap TI (.ref i1) (.ref i2)) (hTO : IsTupOf2 s.heap TO a1 a2) (st1 : St1 i s.heap) (st2 : St2 i s.heap) (hlt1 : i < n1) (hlt2 : i < n2)
    (hQ : ∀ x1 x2 h' tk, P1 i x1 → P2 i x2 → IsZipG h' z TI TO (rawInt s.heap.objs.size) false → IsTupOf2 h' TO x1 x2 → St1 (i + 1) h' → St2 (i + 1) h' → IsTupOf2 h' s.heap.objs.size x1 x2 →
      (∀ c o, c ≠ z → c ≠ TO → c ≠ i1 → c ≠ i2 → s.heap.get? c = some o → h'.get? c = some o) → Q (some (.ref s.heap.objs.size)) { s with heap := h', toks := tk }) :
    wpAny (model prog w) A (pyNext (.ref z)) Q E s := by
  have ty : s.TypeIs (.ref z) "zip" := ⟨_, hz, rfl⟩
  unfold pyNext
  refine wpAny_bind (wpAny_attempt (wpAny_callSpecial?_slot (name := Str.ofString "__next__") ty F.slot_zip_next (wpAny_call_entry F.slot_zip_next ty F.entry_zip_next
    (Q := fun v s' => wpAny (model prog w) A (pure (some v) : Sem (Option Value)) Q E s') ?_ (F.args_zip_next_1 _))))
  obtain ⟨m0, g, d, tk0, os⟩ := s
  show wpAny _ A.in1 (field (.ref z) 2 >>= _) _ _ _
  refine wpAny_bind (wpAny_field hz rfl (x := .bool false) rfl ?_)
  show wpAny _ A.in1 (field (.ref z) 3 >>= _) _ _ _
  refine wpAny_bind (wpAny_field hz rfl (x := .ref TI) rfl (wpAny_bind (wpAny_seqItems hTI rfl ?_)))
  show wpAny _ A.in1 (Builtin.SmallTypes.ownedTupleIsFree (.ref z) >>= _) _ _ _
  refine wpAny_bind (isFree hz hx ?_)
  simp only [if_true]
  refine wpAny_bind (wpAny_rule (wpAny_bind (wpAny_field hz rfl (x := .ref TO) rfl (wpAny_bind (wpAny_setField_rec hz (by simp) fun m1 z1 k1 => wpAny_bind ?_)))))
  replace z1 : IsZipG m1 z TI TO .ellipsis f := z1
  replace k1 : Heap.SameBut z m0 m1 := k1
  simp only [List.zipIdx_cons, List.zipIdx_nil, List.forIn_cons, List.forIn_nil]
  refine wpAny_bind (wpAny_bind (wpAny_onRaise ?_))
  show wpAny _ A.in1 (Builtin.SmallTypes.nextOf (.ref i1) >>= _) _ _ ⟨m1, g, d, tk0, os⟩
  refine wpAny_bind (D1.item i _ _ _ hlt1 (D1.over st1 k1 S.zf1) fun x1 m2 tk1 hx1 sn1 k2 => wpAny_pure ?_)
  replace k2 : Heap.SameBut i1 m1 m2 := k2
  have o2 : IsTupOf2 m2 TO a1 a2 := k2.extBut _ _ S.Ti1 (k1.extBut _ _ S.TOz hTO)
  refine wpAny_bind (wpAny_seqItems (s := ⟨m2, g, d, tk1, os⟩) o2 rfl (wpAny_bind (updateSeq_IsTupOf2 (s := ⟨m2, g, d, tk1, os⟩) o2 fun m3 o3 k3 => wpAny_bind (wpAny_letGo (wpAny_pure ?_)))))
  replace o3 : IsTupOf2 m3 TO x1 a2 := o3
  replace k3 : Heap.SameBut TO m2 m3 := k3
  refine wpAny_bind (wpAny_bind (wpAny_onRaise ?_))
  show wpAny _ A.in1 (Builtin.SmallTypes.nextOf (.ref i2) >>= _) _ _ ⟨m3, g, d, tk1, os⟩
  refine wpAny_bind (D2.item i _ _ _ hlt2 (D2.over (D2.over (D2.over st2 k1 S.zf2) k2 S.sep1_2) k3 S.Tf2) fun x2 m4 tk2 hx2 sn2 k4 => wpAny_pure ?_)
  replace k4 : Heap.SameBut i2 m3 m4 := k4
  have o4 : IsTupOf2 m4 TO x1 a2 := k4.extBut _ _ S.Ti2 o3
  refine wpAny_bind (wpAny_seqItems (s := ⟨m4, g, d, tk2, os⟩) o4 rfl (wpAny_bind (updateSeq_IsTupOf2 (s := ⟨m4, g, d, tk2, os⟩) o4 fun m5 o5 k5 => wpAny_bind (wpAny_letGo (wpAny_pure (wpAny_pure ?_))))))
  replace o5 : IsTupOf2 m5 TO x1 x2 := o5
  replace k5 : Heap.SameBut TO m4 m5 := k5
  refine wpAny_bind (wpAny_seqItems (s := ⟨m5, g, d, tk2, os⟩) o5 rfl (wpAny_bind (wpAny_newTuple ?_)))
  have sz : m5.objs.size = m0.objs.size := by rw [k5.1, k4.1, k3.1, k2.1, k1.1]
  have z5 : IsZipG m5 z TI TO .ellipsis f := k5.extBut _ _ S.TOz.symm (k4.extBut _ _ S.zi2 (k3.extBut _ _ S.TOz.symm (k2.extBut _ _ S.zi1 z1)))
  have zl : z < m5.objs.size := Heap.lt_size z5
  show wpAny _ A.in1 (Builtin.SmallTypes.ownedTupleHandOut (.ref z) (.ref m5.objs.size) >>= _) _ _ ⟨m5.push { cls := .type "tuple", data := .seq #[x1, x2] }, g, d, tk2, os⟩
  refine wpAny_bind ?_
  unfold Builtin.SmallTypes.ownedTupleHandOut
  have z6 : IsZipG (m5.push { cls := .type "tuple", data := .seq #[x1, x2] }) z TI TO .ellipsis f := Heap.get?_push_of_some _ z5
  refine wpAny_bind (wpAny_setField_rec z6 (by simp) fun m7 z7 k7 => ?_)
  replace z7 : IsZipG m7 z TI TO (rawInt m5.objs.size) f := z7
  replace k7 : Heap.SameBut z (m5.push { cls := .type "tuple", data := .seq #[x1, x2] }) m7 := k7
  refine wpAny_setField_rec z7 (by simp) fun m8 z8 k8 => ?_
  replace z8 : IsZipG m8 z TI TO (rawInt m5.objs.size) false := z8
  replace k8 : Heap.SameBut z m7 m8 := k8
  have up : ∀ c o, c ≠ z → m5.get? c = some o → m8.get? c = some o := fun c o hc e => k8.extBut _ _ hc (k7.extBut _ _ hc (Heap.get?_push_of_some _ e))
  have new : IsTupOf2 m8 m5.objs.size x1 x2 := k8.extBut _ _ (Nat.ne_of_gt zl) (k7.extBut _ _ (Nat.ne_of_gt zl) (Heap.get?_push_size _ rfl))
  rw [sz] at z8 new
  refine wpAny_pure ⟨_, rfl, wpAny_pure ?_⟩
  show Q (some (.ref m5.objs.size)) ⟨m8, g, d, tk2, os⟩
  rw [sz]
  refine hQ x1 x2 m8 tk2 hx1 hx2 z8 (up _ _ S.TOz o5) (D1.frame _ _ _ (D1.over (D1.over (D1.over sn1 k3 S.Tf1) k4 S.sep2_1) k5 S.Tf1) fun b hb o e => up b o (fun y => S.zf1 (y ▸ hb)) e)
    (D2.frame _ _ _ (D2.over sn2 k5 S.Tf2) fun b hb o e => up b o (fun y => S.zf2 (y ▸ hb)) e) new fun c o cz cT c1 c2 e => up c o cz ?_
  exact k5.extBut _ _ cT (k4.extBut _ _ c2 (k3.extBut _ _ cT (k2.extBut _ _ c1 (k1.extBut _ _ cz e))))
/-- its end, where no one holds the last -/
theorem zipG_end {Q : Option Value → Shared → Prop} (S : ZipSep2 z TI TO i1 i2 fp1 fp2) (D1 : Draws prog w A.in1 i1 fp1 n1 P1 St1)
    (hz : IsZipG s.heap z TI TO x f) (hx : NoPair s.heap x) (hTI : IsTupOf2 s.heap TI (.ref i1) (.ref i2)) (st1 : St1 n1 s.heap)
    (hQ : ∀ h' tk, (∀ c o, c ≠ z → c ≠ i1 → s.heap.get? c = some o → h'.get? c = some o) → Q none { s with heap := h', toks := tk }) : wpAny (model prog w) A (pyNext (.ref z)) Q E s := by
  have ty : s.TypeIs (.ref z) "zip" := ⟨_, hz, rfl⟩
  unfold pyNext
  refine wpAny_bind (wpAny_attempt (wpAny_callSpecial?_slot (name := Str.ofString "__next__") ty F.slot_zip_next (wpAny_call_entry F.slot_zip_next ty F.entry_zip_next
    (Q := fun v s' => wpAny (model prog w) A (pure (some v) : Sem (Option Value)) Q E s') ?_ (F.args_zip_next_1 _))))
  obtain ⟨m0, g, d, tk0, os⟩ := s
  show wpAny _ A.in1 (field (.ref z) 2 >>= _) _ _ _
  refine wpAny_bind (wpAny_field hz rfl (x := .bool false) rfl ?_)
  show wpAny _ A.in1 (field (.ref z) 3 >>= _) _ _ _
  refine wpAny_bind (wpAny_field hz rfl (x := .ref TI) rfl (wpAny_bind (wpAny_seqItems hTI rfl ?_)))
  show wpAny _ A.in1 (Builtin.SmallTypes.ownedTupleIsFree (.ref z) >>= _) _ _ _
  refine wpAny_bind (isFree hz hx ?_)
  simp only [if_true]
  refine wpAny_bind (wpAny_rule (wpAny_bind (wpAny_field hz rfl (x := .ref TO) rfl (wpAny_bind (wpAny_setField_rec hz (by simp) fun m1 z1 k1 => wpAny_bind ?_)))))
  replace z1 : IsZipG m1 z TI TO .ellipsis f := z1
  replace k1 : Heap.SameBut z m0 m1 := k1
  simp only [List.zipIdx_cons, List.zipIdx_nil, List.forIn_cons, List.forIn_nil]
  refine wpAny_bind (wpAny_bind (wpAny_onRaise ?_))
  show wpAny _ A.in1 (Builtin.SmallTypes.nextOf (.ref i1) >>= _) _ _ ⟨m1, g, d, tk0, os⟩
  refine wpAny_bind (D1.done ⟨m1, g, d, tk0, os⟩ _ _ (D1.over st1 k1 S.zf1) fun q e hq he => ?_)
  obtain ⟨oe, hoe, hce⟩ := he
  replace hq : Heap.ExtBut i1 m1 q := hq
  replace hoe : q.get? e = some oe := hoe
  have zq : IsZipG q z TI TO .ellipsis f := hq _ _ S.zi1 z1
  have ez : e ≠ z := fun y => by subst y; rw [zq] at hoe; cases hoe; simp at hce
  refine wpAny_setField_rec (s := ⟨q, g, d, tk0, os⟩) zq (by simp) fun q' _ k2 => ?_
  replace k2 : Heap.SameBut z q q' := k2
  have hoe2 : q'.get? e = some oe := k2.extBut _ _ ez hoe
  refine wpAny_bind (wpAny_isInstance (s := ⟨q', g, d, tk0, os⟩) (v := .ref e) (T := "StopIteration") (b := true) ⟨oe, hoe2, hce⟩ isSubtype_stop ?_)
  exact wpAny_pure (hQ _ _ fun c o cz c1 y => k2.extBut _ _ cz (hq _ _ c1 (k1.extBut _ _ cz y)))
end
theorem pair_of {h : Heap} {x : Value} (hx : x = .none ∨ ∃ T : Addr, x = rawInt T) (hn : ¬ NoPair h x) : ∃ T : Addr, x = rawInt T ∧ ∃ o, h.get? T = some o := by
  rcases hx with e | ⟨T, e⟩
  · exact absurd (.inl e) hn
  · cases hT : h.get? T with
    | none => exact absurd (.inr ⟨T, e, hT⟩) hn
    | some o => exact ⟨T, e, o, hT⟩
theorem iter_zipG {prog : Program} {w : World} {A : Around} {E : Value → Shared → Prop} {s : Shared} {z TI TO : Addr} {x : Value} {f : Bool} {Q : Value → Shared → Prop} (hz : IsZipG s.heap z TI TO x f) (h : Q (.ref z) s) : wpAny (model prog w) A (pyIter (.ref z)) Q E s := by
  have ty : s.TypeIs (.ref z) "zip" := ⟨_, hz, rfl⟩
  exact wpAny_pyIter_slot ty F.slot_zip_iter (wpAny_call_entry F.slot_zip_iter ty F.entry_zip_iter (show wpAny _ _ (ret (.ref z)) _ _ s from wpAny_pure ⟨_, rfl, "zip", _, ty, F.slot_zip_next.lookup, h⟩) (F.args_zip_iter_1 _))
structure Zany (z TI TO i1 i2 : Addr) (h : Heap) : Prop where
  a : ∃ x f, IsZipG h z TI TO x f ∧ (x = .none ∨ ∃ T : Addr, x = rawInt T)
  b : IsTupOf2 h TI (.ref i1) (.ref i2)
  c : ∃ a b, IsTupOf2 h TO a b
def ItzN (K : PySem.W.Frag) (a b : Addr) : It where
  go := fun i H => ∃ (xs ys : List V), SqT K H a xs ∧ SqT K H b ys ∧ xs.length = ys.length ∧ i < xs.length
  yld := fun i H v H' => ∃ T x y, v = .ref T ∧ H T = none ∧ H' = upd H T (.tup [x, y]) ∧ (∀ xs, SqT K H a xs → xs[i]? = some x) ∧ ∀ ys, SqT K H b ys → ys[i]? = some y
  stop := fun i H => ∃ (xs ys : List V), SqT K H a xs ∧ SqT K H b ys ∧ xs.length = ys.length ∧ i = xs.length
theorem turn_zipN {P : Program} {w : World} {K : PySem.W.Frag} {nm : Str} {tpos : Pos} {a b z TI TO i1 i2 : Addr} (S : ZipSep2 z TI TO i1 i2 [i1, a] [i2, b]) (ha : a ≠ i1) (hb : b ≠ i2) :
    Turn P w K (.Name nm tpos) (ItzN K a b) [z, TI, TO, i1, i2] z (fun i h => Zany z TI TO i1 i2 h ∧ h.IsTupleIter i1 a i ∧ h.IsTupleIter i2 b i) := by
  constructor
  · simp
  · rintro i h ⟨⟨⟨x, f, hz, _⟩, hTI, ⟨u, v, hTO⟩⟩, ⟨o1, e1, _, d1⟩, ⟨o2, e2, _, d2⟩⟩ c hc
    rcases mem5 hc with rfl | rfl | rfl | rfl | rfl
    · exact ⟨_, hz, fun v y => nomatch y⟩
    · exact ⟨_, hTI, fun v y => nomatch y⟩
    · exact ⟨_, hTO, fun v y => nomatch y⟩
    · exact ⟨o1, e1, fun v y => by rw [d1] at y; cases y⟩
    · exact ⟨o2, e2, fun v y => by rw [d2] at y; cases y⟩
  · rintro i h h' ⟨⟨⟨x, f, hz, hx⟩, hTI, ⟨u, v, hTO⟩⟩, h1, h2⟩ k
    exact ⟨⟨⟨x, f, k z (by simp) _ hz, hx⟩, k TI (by simp) _ hTI, ⟨u, v, k TO (by simp) _ hTO⟩⟩, h1.at fun o e => k i1 (by simp) o e, h2.at fun o e => k i2 (by simp) o e⟩
  · intro X hP hw hK hc i pins s σ H E I hf st hg
    subst hP hw hK
    obtain ⟨⟨⟨x, f, hz, hx⟩, hTI, ⟨x0, y0, hTO⟩⟩, h1, h2⟩ := st
    obtain ⟨xs, ys, qx, qy, lxy, lx⟩ := hg
    obtain ⟨its, rv, p1, _⟩ := I.tuple qx
    obtain ⟨jts, rw2, p2, _⟩ := I.tuple qy
    have l1 := rv.length
    have l2 := rw2.length
    have hh : X.A.in1.handled = none := I.ok.hd hc
    have D1 := Draws.tuple (prog := X.prog) (w := X.w) (A := X.A.in1) hh i1 a ha its.toArray
    have D2 := Draws.tuple (prog := X.prog) (w := X.w) (A := X.A.in1) hh i2 b hb jts.toArray
    have lt : ∀ {c : Addr} {o : Obj}, s.heap.get? c = some o → c < s.heap.objs.size := fun h => Heap.lt_size h
    have fin : ∀ (u1 u2 : Value) (h' : Heap) (tk : Nat), its.toArray[i]? = some u1 → jts.toArray[i]? = some u2 → Zany z TI TO i1 i2 h' → (h'.IsTupleIter i1 a (i + 1) ∧ h'.IsTuple a its.toArray) → (h'.IsTupleIter i2 b (i + 1) ∧ h'.IsTuple b jts.toArray) →
        IsTupOf2 h' s.heap.objs.size u1 u2 → (∀ c o, c ≠ z → c ≠ TO → c ≠ i1 → c ≠ i2 → s.heap.get? c = some o → h'.get? c = some o) →
        ∃ u, some (Value.ref s.heap.objs.size) = some u ∧ wpAny (model X.prog X.w) X.A (letOwnedTupleGo (.Name nm tpos) (.ref z) u) (fun _ s2 => ∃ x H', Inv X pins σ H' s2 ∧ RelV x u ∧ (ItzN X.K a b).yld i H x H' ∧
          (Zany z TI TO i1 i2 s2.heap ∧ s2.heap.IsTupleIter i1 a (i + 1) ∧ s2.heap.IsTupleIter i2 b (i + 1)) ∧ ∀ b ∈ [z, TI, TO, i1, i2], H' b = none) E { s with heap := h', toks := tk } := by
      intro u1 u2 h' tk f1 f2 hZ s1 s2 hT hk
      obtain ⟨v1, hv1, r1⟩ : ∃ v, xs[i]? = some v ∧ RelV v u1 := by
        obtain ⟨u, hu, ru⟩ := rv.get (List.getElem?_eq_getElem lx)
        have : its[i]? = some u1 := by simpa using f1
        rw [this] at hu; cases hu
        exact ⟨_, List.getElem?_eq_getElem lx, ru⟩
      obtain ⟨v2, hv2, r2⟩ : ∃ v, ys[i]? = some v ∧ RelV v u2 := by
        have ly : i < ys.length := by omega
        obtain ⟨u, hu, ru⟩ := rw2.get (List.getElem?_eq_getElem ly)
        have : jts[i]? = some u2 := by simpa using f2
        rw [this] at hu; cases hu
        exact ⟨_, List.getElem?_eq_getElem ly, ru⟩
      refine ⟨_, rfl, wpAny_pure ?_⟩
      have k2 : ∀ c o, c ∉ [z, TI, TO, i1, i2] → s.heap.get? c = some o → h'.get? c = some o := fun c o hc e => hk c o (fun y => hc (by simp [y])) (fun y => hc (by simp [y])) (fun y => hc (by simp [y])) (fun y => hc (by simp [y])) e
      have I1 : Inv X pins σ (upd H s.heap.objs.size (.tup [v1, v2])) { s with heap := h', toks := tk } :=
        I.turnedNew (t' := tk) k2 hf (Nat.le_refl _) ⟨by show 2 ≤ sizeLine; decide, [u1, u2], .cons r1 (.cons r2 .nil), ⟨_, hT, rfl, _, rfl⟩⟩
      refine ⟨.ref s.heap.objs.size, _, I1, rfl, ⟨_, v1, v2, rfl, I.hok.fresh (Nat.le_refl _), rfl, fun l hl => by rw [I.tuple_inj hl qx]; exact hv1, fun l hl => by rw [I.tuple_inj hl qy]; exact hv2⟩, ⟨hZ, s1.1, s2.1⟩, fun c hcm => ?_⟩
      have hlt : c < s.heap.objs.size := by
        rcases mem5 hcm with rfl | rfl | rfl | rfl | rfl
        · exact lt hz
        · exact lt hTI
        · exact lt hTO
        · obtain ⟨_, e, _⟩ := h1; exact lt e
        · obtain ⟨_, e, _⟩ := h2; exact lt e
      rw [upd_ne (Nat.ne_of_lt hlt)]
      exact (hf c hcm).1
    have n1 : i < its.toArray.size := by simp; omega
    have n2 : i < jts.toArray.size := by simp; omega
    by_cases hn : NoPair s.heap x
    · exact zipG_item S D1 D2 hz hn hTI hTO ⟨h1, p1⟩ ⟨h2, p2⟩ n1 n2 fun u1 u2 h' tk f1 f2 z' TO' s1 s2 hT hk => fin u1 u2 h' tk f1 f2 ⟨⟨_, _, z', .inr ⟨_, rfl⟩⟩, hk _ _ S.TIz S.TITO S.TIi1 S.TIi2 hTI, ⟨_, _, TO'⟩⟩ s1 s2 hT hk
    · obtain ⟨T, rfl, hT⟩ := pair_of hx hn
      exact zipK_item S D1 D2 hz hT hTI ⟨h1, p1⟩ ⟨h2, p2⟩ n1 n2 fun u1 u2 h' tk f1 f2 z' s1 s2 hT _ hk => fin u1 u2 h' tk f1 f2 ⟨⟨_, _, z', .inr ⟨_, rfl⟩⟩, hk _ _ S.TIz S.TIi1 S.TIi2 hTI, ⟨_, _, hk _ _ S.TOz S.Ti1 S.Ti2 hTO⟩⟩ s1 s2 hT
        fun c o c1 _ c3 c4 e => hk c o c1 c3 c4 e
  · intro X hP hw hK hc i pins s σ H E I hf st hg
    subst hP hw hK
    obtain ⟨⟨⟨x, f, hz, hx⟩, hTI, ⟨x0, y0, hTO⟩⟩, h1, h2⟩ := st
    obtain ⟨xs, ys, qx, qy, lxy, he⟩ := hg
    obtain ⟨its, rv, p1, _⟩ := I.tuple qx
    have l1 := rv.length
    have hh : X.A.in1.handled = none := I.ok.hd hc
    have D1 := Draws.tuple (prog := X.prog) (w := X.w) (A := X.A.in1) hh i1 a ha its.toArray
    have hi : i = its.toArray.size := by rw [List.size_toArray]; omega
    subst hi
    have out : ∀ {h' : Heap}, (∀ c o, c ≠ z → c ≠ i1 → s.heap.get? c = some o → h'.get? c = some o) → ∀ c o, c ∉ [z, TI, TO, i1, i2] → s.heap.get? c = some o → h'.get? c = some o :=
      fun k c o hc e => k c o (fun y => hc (by simp [y])) (fun y => hc (by simp [y])) e
    by_cases hn : NoPair s.heap x
    · exact zipG_end S D1 hz hn hTI ⟨h1, p1⟩ fun h' tk hk => ⟨rfl, I.turnedL (t' := tk) (out hk) hf⟩
    · obtain ⟨T, rfl, hT⟩ := pair_of hx hn
      exact zipK_end S D1 hz hT hTI ⟨h1, p1⟩ fun h' tk hk => ⟨rfl, I.turnedL (t' := tk) (out hk) hf⟩
  · rintro A i s Q E ⟨⟨⟨x, f, hz, _⟩, _⟩, _⟩ h
    exact iter_zipG hz h
def iZipN (K : PySem.W.Frag) (ta : TA) : TI := fun σ H R => ta σ H fun vs H1 => ∃ a b xs ys, vs = [.ref a, .ref b] ∧ SqT K H1 a xs ∧ SqT K H1 b ys ∧ R (ItzN K a b) H1
theorem pi_zipN {X : Cx} {e e2 : Expr} {ta : TA} {p pos tpos : Pos} {nm : Str} (hg : Gl X "zip") (hm : X.mg "zip" = none) (ha : PA X [e, e2] ta)
    (hs : starEach [e, e2] X.env = (false, eval e X.env) :: starEach [e2] X.env := by rfl) (hpl : (backTo pos (starEach [e2] X.env)).any (·.1) = false := by rfl) :
    PI X (.Name nm tpos) (.Call (.Name "zip" p) [e, e2] [] pos) (iZipN X.K ta) := by
  constructor
  intro pins s σ H R I h
  refine Call_ (ld_blt I hg hm PyProof.Rows.boot_zip (PyProof.Rows.callWith_type1 (thn (ha.run pos pins s σ H _ I h) ?_) hs hpl))
  rintro us s1 ⟨vs, H1, I1, r1, a, b, xs, ys, rfl, qx, qy, q⟩
  cases r1 with | cons r r1 => ?_
  cases r1 with | cons r' r1 => ?_
  cases r1; cases r; cases r'
  obtain ⟨its, rv, p1, _⟩ := I1.tuple qx
  obtain ⟨jts, rw2, p2, _⟩ := I1.tuple qy
  obtain ⟨oa, hoa, _⟩ := id p1
  obtain ⟨ob, hob, _⟩ := id p2
  have la := Heap.lt_size hoa
  have lb := Heap.lt_size hob
  refine zip_begins2 (begins_tuple a its.toArray) (begins_tuple b jts.toArray) p1 p2 fun h' hz hTI hTO e1 e2 hsz hk => wpAny_pyIter_zip hz ?_
  refine ⟨s1.heap.objs.size + 4, [s1.heap.objs.size + 4, s1.heap.objs.size + 2, s1.heap.objs.size + 3, s1.heap.objs.size, s1.heap.objs.size + 1], _, ItzN X.K a b, H1, rfl, I1.kept (t' := s1.toks) hk, turn_zipN ?_ (Nat.ne_of_lt la) (Nat.ne_of_lt (Nat.lt_succ_of_lt lb)),
    ⟨⟨⟨_, _, hz, .inl rfl⟩, hTI, ⟨_, _, hTO⟩⟩, ⟨_, e1, rfl, rfl⟩, ⟨_, e2, rfl, rfl⟩⟩, fun c hcm => ?_, q⟩
  · have hla : @LT.lt Nat instLTNat a s1.heap.objs.size := la
    have hlb : @LT.lt Nat instLTNat b s1.heap.objs.size := lb
    generalize s1.heap.objs.size = n at hla hlb
    have ne : ∀ {x y : Nat}, x ≠ y → ¬ ((x : Addr) = y) := fun h => h
    constructor <;> first
      | exact List.mem_cons_self
      | (refine ne ?_; show ¬ (_ : Nat) = _; omega)
      | (simp only [List.mem_cons, List.not_mem_nil, or_false, not_or]; refine ⟨ne ?_, ne ?_⟩ <;> (show ¬ (_ : Nat) = _; omega))
  · have hle : s1.heap.objs.size ≤ c := by
      rcases mem5 hcm with rfl | rfl | rfl | rfl | rfl <;> first | exact Nat.le_refl _ | exact Nat.le_add_right _ _
    exact I1.fpOk hle (I1.hok.fresh hle)
theorem pi_zipNK (K : PySem.W.Frag) {X : Cx} {e e2 : Expr} {ta : TA} {p pos tpos : Pos} {nm : Str} (hg : Gl X "zip") (hm : X.mg "zip" = none) (ha : PA X [e, e2] ta) (h : X.K = K := by rfl)
    (hs : starEach [e, e2] X.env = (false, eval e X.env) :: starEach [e2] X.env := by rfl) (hpl : (backTo pos (starEach [e2] X.env)).any (·.1) = false := by rfl) :
    PI X (.Name nm tpos) (.Call (.Name "zip" p) [e, e2] [] pos) (iZipN K ta) := h ▸ pi_zipN hg hm ha hs hpl
theorem walk_zipN {K : PySem.W.Frag} {a b : Addr} {xs ys : List V} (hl : xs.length = ys.length) : Walk (ItzN K a b) xs.length (fun H => SqT K H a xs ∧ SqT K H b ys) (YPair (fun i => xs[i]?) (fun i => ys[i]?)) := by
  refine ⟨fun i _ hi q => ⟨xs, ys, q.1, q.2, hl, hi⟩, fun _ q => ⟨xs, ys, q.1, q.2, hl, rfl⟩, fun i H v H' _ q y => ?_⟩
  obtain ⟨T, x, z, h1, h2, h3, h4, h5⟩ := y
  exact ⟨T, x, z, h1, h2, h3, h4 xs q.1, h5 ys q.2⟩
theorem cr_minK' (K : PySem.W.Frag) {X : Cx} (hc : X.calm = true) (h : X.K = K := by rfl) : CallR X (.builtin "min") (rMin K) := h ▸ cr_min hc
end KD
set_option linter.all false
/-! ### parting paths -/
namespace KM
section
variable {α : Type} {s t s' t' : Sheet α} {ar : α → Nat}
/-- a path along which all tags agree but perhaps the last -/
def Agr (s t : Sheet α) : List Nat → Nat → Nat → Nat → Nat → Prop
  | [], i, j, x, y => x = i ∧ y = j
  | a :: p, i, j, x, y => tg s i = tg t j ∧ ∃ u v, (fl s i)[a]? = some u ∧ (fl t j)[a]? = some v ∧ Agr s t p u v x y
theorem Agr.snoc : ∀ {p : List Nat} {a i j x y : Nat}, Agr s t (p ++ [a]) i j x y ↔ ∃ u v, Agr s t p i j u v ∧ tg s u = tg t v ∧ (fl s u)[a]? = some x ∧ (fl t v)[a]? = some y
  | [], a, i, j, x, y => by
    constructor
    · rintro ⟨h, u, v, h1, h2, rfl, rfl⟩
      exact ⟨i, j, ⟨rfl, rfl⟩, h, h1, h2⟩
    · rintro ⟨u, v, ⟨rfl, rfl⟩, h, h1, h2⟩
      exact ⟨h, x, y, h1, h2, rfl, rfl⟩
  | b :: p, a, i, j, x, y => by
    constructor
    · rintro ⟨h, u, v, h1, h2, h3⟩
      obtain ⟨u', v', q1, q2⟩ := Agr.snoc.mp h3
      exact ⟨u', v', ⟨h, u, v, h1, h2, q1⟩, q2⟩
    · rintro ⟨u', v', ⟨h, u, v, h1, h2, q1⟩, q2⟩
      exact ⟨h, u, v, h1, h2, Agr.snoc.mpr ⟨u', v', q1, q2⟩⟩
theorem Agr.det : ∀ {p : List Nat} {i j x y x' y' : Nat}, Agr s t p i j x y → Agr s t p i j x' y' → x = x' ∧ y = y'
  | [], _, _, _, _, _, _, ⟨h1, h2⟩, ⟨h3, h4⟩ => ⟨h1.trans h3.symm, h2.trans h4.symm⟩
  | a :: p, _, _, _, _, _, _, ⟨_, u, v, h1, h2, h3⟩, ⟨_, u', v', g1, g2, g3⟩ => by
    rw [h1] at g1; cases g1
    rw [h2] at g2; cases g2
    exact Agr.det h3 g3
theorem Agr.lt (hs : Ok ar s) (ht : Ok ar t) : ∀ {p : List Nat} {i j x y : Nat}, Agr s t p i j x y → i < s.length → j < t.length → x < s.length ∧ y < t.length
  | [], _, _, _, _, ⟨h1, h2⟩, hi, hj => by rw [h1, h2]; exact ⟨hi, hj⟩
  | a :: p, _, _, _, _, ⟨_, u, v, h1, h2, h3⟩, _, _ => h3.lt hs ht (hs.fld (List.mem_of_getElem? h1)) (ht.fld (List.mem_of_getElem? h2))
def Prt (s t : Sheet α) (i j : Nat) (p : List Nat) : Prop := ∃ x y, Agr s t p i j x y ∧ tg s x ≠ tg t y
theorem Prt.nil {i j : Nat} : Prt s t i j [] ↔ tg s i ≠ tg t j :=
  ⟨fun ⟨x, y, ⟨h1, h2⟩, h⟩ => by rw [h1, h2] at h; exact h, fun h => ⟨i, j, ⟨rfl, rfl⟩, h⟩⟩
theorem Prt.cons {i j a : Nat} {p : List Nat} : Prt s t i j (a :: p) ↔ tg s i = tg t j ∧ ∃ u v, (fl s i)[a]? = some u ∧ (fl t j)[a]? = some v ∧ Prt s t u v p :=
  ⟨fun ⟨x, y, ⟨h, u, v, h1, h2, h3⟩, hd⟩ => ⟨h, u, v, h1, h2, x, y, h3, hd⟩, fun ⟨h, u, v, h1, h2, x, y, h3, hd⟩ => ⟨x, y, ⟨h, u, v, h1, h2, h3⟩, hd⟩⟩
theorem Prt.app : ∀ {p r : List Nat} {i j x y : Nat}, Agr s t p i j x y → (Prt s t i j (p ++ r) ↔ Prt s t x y r)
  | [], r, i, j, x, y, ⟨h1, h2⟩ => by rw [h1, h2]; rfl
  | a :: p, r, i, j, x, y, ⟨h, u, v, h1, h2, h3⟩ => by
    rw [List.cons_append, Prt.cons, ← Prt.app h3 (r := r)]
    constructor
    · rintro ⟨_, u', v', g1, g2, g3⟩
      rw [h1] at g1; cases g1
      rw [h2] at g2; cases g2
      exact g3
    · exact fun g => ⟨h, u, v, h1, h2, g⟩
theorem Prt.sym : ∀ {p : List Nat} {i j : Nat}, Prt s t i j p → Prt t s j i p
  | [], i, j, h => Prt.nil.mpr fun e => Prt.nil.mp h e.symm
  | a :: p, i, j, h => by
    obtain ⟨h0, u, v, h1, h2, h3⟩ := Prt.cons.mp h
    exact Prt.cons.mpr ⟨h0.symm, v, u, h2, h1, h3.sym⟩
/-- the same values part at the same paths -/
theorem Prt.same (hs : Ok ar s) (ht : Ok ar t) (hs' : Ok ar s') (ht' : Ok ar t') : ∀ {p : List Nat} {i j i' j' : Nat}, Prt s t i j p → Same s s' i i' → Same t t' j j' → Prt s' t' i' j' p
  | [], i, j, i', j', h, h1, h2 => Prt.nil.mpr fun e => Prt.nil.mp h (by rw [h1.tag, h2.tag]; exact e)
  | a :: p, i, j, i', j', h, e1, e2 => by
    obtain ⟨h0, u, v, h1, h2, h3⟩ := Prt.cons.mp h
    have l1 := hs.len hs' e1.tag
    have l2 := ht.len ht' e2.tag
    have a1 := (List.getElem?_eq_some_iff.mp h1).1
    have a2 := (List.getElem?_eq_some_iff.mp h2).1
    have g1 : (fl s' i')[a]? = some ((fl s' i')[a]'(by omega)) := List.getElem?_eq_getElem _
    have g2 : (fl t' j')[a]? = some ((fl t' j')[a]'(by omega)) := List.getElem?_eq_getElem _
    exact Prt.cons.mpr ⟨by rw [← e1.tag, ← e2.tag]; exact h0, _, _, g1, g2, h3.same hs ht hs' ht' (e1.fld h1 g1) (e2.fld h2 g2)⟩
theorem Same.noPrt {i j : Nat} : ∀ {p : List Nat} {i j : Nat}, Same s t i j → ¬ Prt s t i j p
  | [], i, j, h, hp => Prt.nil.mp hp h.tag
  | a :: p, i, j, h, hp => by
    obtain ⟨_, u, v, h1, h2, h3⟩ := Prt.cons.mp hp
    exact Same.noPrt (i := i) (j := j) (h.fld h1 h2) h3
theorem same_noPrt {i j : Nat} (h : ∀ p, ¬ Prt s t i j p) : Same s t i j :=
  same_of (fun i j => ∀ p, ¬ Prt s t i j p) (fun i j h => ⟨Classical.byContradiction fun e => h [] (Prt.nil.mpr e), fun a x y hx hy p hp => by
    by_cases e : tg s i = tg t j
    · exact h (a :: p) (Prt.cons.mpr ⟨e, x, y, hx, hy, hp⟩)
    · exact h [] (Prt.nil.mpr e)⟩) h
/-! order of paths -/
def lx : List Nat → List Nat → Prop
  | a :: p, b :: q => a < b ∨ (a = b ∧ lx p q)
  | _, _ => False
theorem lx.asym : ∀ {p q : List Nat}, lx p q → ¬ lx q p
  | a :: p, b :: q, h, g => by
    rcases h with h | ⟨h, h2⟩
    · rcases g with g | ⟨g, _⟩ <;> omega
    · rcases g with g | ⟨_, g⟩
      · omega
      · exact h2.asym g
theorem lx.irr {p : List Nat} (h : lx p p) : False := h.asym h
theorem lx.tr : ∀ {p q r : List Nat}, lx p q → lx q r → lx p r
  | a :: p, b :: q, c :: r, h, g => by
    rcases h with h | ⟨rfl, h2⟩
    · rcases g with g | ⟨rfl, _⟩
      · exact .inl (by omega)
      · exact .inl h
    · rcases g with g | ⟨rfl, g⟩
      · exact .inl g
      · exact .inr ⟨rfl, h2.tr g⟩
theorem lx.app : ∀ {p q : List Nat} (u v : List Nat), lx p q → lx (p ++ u) (q ++ v)
  | a :: p, b :: q, u, v, h => by
    rcases h with h | ⟨rfl, h⟩
    · exact .inl h
    · exact .inr ⟨rfl, h.app u v⟩
theorem lx_pre {p u v : List Nat} {a b : Nat} (h : a < b) : lx (p ++ a :: u) (p ++ b :: v) := by
  induction p with
  | nil => exact .inl h
  | cons c p ih => exact .inr ⟨rfl, ih⟩
def sle (p q : List Nat) : Prop := p.length < q.length ∨ (p.length = q.length ∧ (lx p q ∨ p = q))
theorem sle.rf (p : List Nat) : sle p p := .inr ⟨rfl, .inr rfl⟩
theorem sle.tr {p q r : List Nat} (h : sle p q) (g : sle q r) : sle p r := by
  rcases h with h | ⟨h, h2⟩
  · rcases g with g | ⟨g, _⟩
    · exact .inl (by omega)
    · exact .inl (by omega)
  · rcases g with g | ⟨g, g2⟩
    · exact .inl (by omega)
    · refine .inr ⟨by omega, ?_⟩
      rcases h2 with h2 | rfl
      · rcases g2 with g2 | rfl
        · exact .inl (h2.tr g2)
        · exact .inl h2
      · exact g2
theorem sle.anti {p q : List Nat} (h : sle p q) (g : sle q p) : p = q := by
  rcases h with h | ⟨h, h2⟩
  · rcases g with g | ⟨g, _⟩ <;> omega
  · rcases g with g | ⟨g, g2⟩
    · omega
    · rcases h2 with h2 | h2
      · rcases g2 with g2 | g2
        · exact absurd g2 h2.asym
        · exact g2.symm
      · exact h2
theorem sle.snoc {p q : List Nat} {a : Nat} (h : sle p q) : sle (p ++ [a]) (q ++ [a]) := by
  rcases h with h | ⟨h, h2⟩
  · exact .inl (by rw [List.length_append, List.length_append]; simp; omega)
  · refine .inr ⟨by rw [List.length_append, List.length_append, h], ?_⟩
    rcases h2 with h2 | rfl
    · exact .inl (h2.app _ _)
    · exact .inr rfl
theorem sle.pre (p r : List Nat) : sle p (p ++ r) := by
  cases r with
  | nil => rw [List.append_nil]; exact sle.rf p
  | cons a r => exact .inl (by rw [List.length_append, List.length_cons]; omega)
structure IsPart (s t : Sheet α) (p : List Nat) : Prop where
  w : Prt s t 0 0 p
  m : ∀ q, Prt s t 0 0 q → sle p q
theorem IsPart.uniq {p q : List Nat} (h : IsPart s t p) (g : IsPart s t q) : p = q := (h.m q g.w).anti (g.m p h.w)
theorem IsPart.sym {p : List Nat} (h : IsPart s t p) : IsPart t s p := ⟨h.w.sym, fun q hq => h.m q hq.sym⟩
theorem IsPart.same {p : List Nat} (hs : Ok ar s) (ht : Ok ar t) (hs' : Ok ar s') (ht' : Ok ar t') (h : IsPart s t p) (e1 : Same s s' 0 0) (e2 : Same t t' 0 0) : IsPart s' t' p :=
  ⟨h.w.same hs ht hs' ht' e1 e2, fun q hq => h.m q (hq.same hs' ht' hs ht e1.sym e2.sym)⟩
/-- what there is to say: the parting path, or none -/
def Told (s t : Sheet α) : Option (List Nat) → Prop
  | some p => IsPart s t p
  | none => Same s t 0 0
theorem Told.uniq {o o' : Option (List Nat)} (h : Told s t o) (h' : Told s t o') : o = o' := by
  cases o with
  | none =>
    cases o' with
    | none => rfl
    | some q => exact absurd h'.w (Same.noPrt (i := 0) (j := 0) h)
  | some p =>
    cases o' with
    | none => exact absurd h.w (Same.noPrt (i := 0) (j := 0) h')
    | some q => rw [IsPart.uniq h h']
theorem Told.sym {o : Option (List Nat)} (h : Told s t o) : Told t s o := by
  cases o with
  | none => exact Same.sym h
  | some p => exact IsPart.sym h
theorem Told.same {o : Option (List Nat)} (hs : Ok ar s) (ht : Ok ar t) (hs' : Ok ar s') (ht' : Ok ar t') (h : Told s t o) (e1 : Same s s' 0 0) (e2 : Same t t' 0 0) : Told s' t' o := by
  cases o with
  | none => exact (e1.sym.tr hs' hs h).tr hs' ht e2
  | some p => exact IsPart.same hs ht hs' ht' h e1 e2
/-! ### the search, level by level -/
structure Ent where
  x : Nat
  y : Nat
  p : List Nat
def Closed (s t : Sheet α) (ps : List Ent) (e : Ent) : Prop :=
  tg s e.x = tg t e.y ∧ ∀ (a u v : Nat), (fl s e.x)[a]? = some u → (fl t e.y)[a]? = some v → ∃ e' ∈ ps, e'.x = u ∧ e'.y = v ∧ sle e'.p (e.p ++ [a])
theorem Closed.mono {ps ps' : List Ent} {e : Ent} (h : Closed s t ps e) (hm : ∀ e ∈ ps, e ∈ ps') : Closed s t ps' e :=
  ⟨h.1, fun a u v hu hv => by
    obtain ⟨e', h1, h2⟩ := h.2 a u v hu hv
    exact ⟨e', hm e' h1, h2⟩⟩
/-- every path meets an entry that is not closed, or ends where the tags agree -/
theorem reach {ps : List Ent} : ∀ (r : List Nat) (p0 : List Nat) (e : Ent), e ∈ ps → Agr s t p0 0 0 e.x e.y → sle e.p p0 → Prt s t e.x e.y r → ∃ e' ∈ ps, ¬ Closed s t ps e' ∧ sle e'.p (p0 ++ r)
  | [], p0, e, he, _, hl, hp => ⟨e, he, fun c => Prt.nil.mp hp c.1, by rw [List.append_nil]; exact hl⟩
  | a :: r, p0, e, he, ha, hl, hp => by
    by_cases c : Closed s t ps e
    · obtain ⟨h0, u, v, h1, h2, h3⟩ := Prt.cons.mp hp
      obtain ⟨e', m, rfl, rfl, h4⟩ := c.2 a u v h1 h2
      obtain ⟨e2, m2, n2, l2⟩ := reach r (p0 ++ [a]) e' m (Agr.snoc.mpr ⟨_, _, ha, h0, h1, h2⟩) (h4.tr hl.snoc) h3
      exact ⟨e2, m2, n2, by rw [List.append_assoc] at l2; exact l2⟩
    · exact ⟨e, he, c, hl.tr (sle.pre _ _)⟩
structure Bfs (s t : Sheet α) (d : Nat) (ps rem fo : List Ent) : Prop where
  root : ∃ e ∈ ps, e.x = 0 ∧ e.y = 0 ∧ e.p = []
  agr : ∀ e ∈ ps, Agr s t e.p 0 0 e.x e.y
  nd : (ps.map fun e => (e.x, e.y)).Nodup
  ll : ∀ e ∈ ps, e.p.length ≤ d ∨ e ∈ fo
  rm : ∀ e ∈ rem, e ∈ ps ∧ e.p.length = d
  fm : ∀ e ∈ fo, e ∈ ps ∧ e.p.length = d + 1
  cl : ∀ e ∈ ps, e ∈ rem ∨ e ∈ fo ∨ Closed s t ps e
  rs : rem.Pairwise fun e e' => lx e.p e'.p
  fs : fo.Pairwise fun e e' => lx e.p e'.p
  fr : ∀ e ∈ fo, ∀ e' ∈ rem, ∀ a, lx e.p (e'.p ++ [a])
theorem Bfs.start : Bfs s t 0 [⟨0, 0, []⟩] [⟨0, 0, []⟩] [] := by
  refine ⟨⟨_, List.mem_cons_self, rfl, rfl, rfl⟩, fun e he => ?_, by simp, fun e he => .inl (by rw [List.mem_singleton.mp he]; exact Nat.le_refl 0), fun e he => ⟨he, by rw [List.mem_singleton.mp he]; rfl⟩, (fun e he => by cases he), fun e he => .inl he, List.pairwise_singleton _ _, .nil, fun e he => by cases he⟩
  rw [List.mem_singleton.mp he]; exact ⟨rfl, rfl⟩
/-- a disagreement at the first that is left: the parting path -/
theorem Bfs.found {d : Nat} {ps rem fo : List Ent} {e : Ent} (B : Bfs s t d ps (e :: rem) fo) (h : tg s e.x ≠ tg t e.y) : IsPart s t e.p := by
  obtain ⟨hm, hl⟩ := B.rm e List.mem_cons_self
  refine ⟨⟨_, _, B.agr e hm, h⟩, fun q hq => ?_⟩
  obtain ⟨e0, m0, x0, y0, p0⟩ := B.root
  have hq0 : Prt s t e0.x e0.y q := by rw [x0, y0]; exact hq
  have ha0 : Agr s t [] 0 0 e0.x e0.y := by rw [x0, y0]; exact ⟨rfl, rfl⟩
  obtain ⟨e', m', n', l'⟩ := reach q [] e0 m0 ha0 (by rw [p0]; exact sle.rf _) hq0
  have : sle e.p e'.p := by
    rcases B.cl e' m' with h | h | h
    · rcases List.mem_cons.mp h with rfl | h'
      · exact sle.rf _
      · exact .inr ⟨by rw [hl, (B.rm e' h).2], .inl ((List.pairwise_cons.mp B.rs).1 e' h')⟩
    · exact .inl (by rw [hl, (B.fm e' h).2]; omega)
    · exact absurd h n'
  exact this.tr l'
/-- none is left: the values are the same -/
theorem Bfs.none {d : Nat} {ps : List Ent} (B : Bfs s t d ps [] []) : Same s t 0 0 := same_noPrt fun q hq => by
  obtain ⟨e0, m0, x0, y0, p0⟩ := B.root
  have hq0 : Prt s t e0.x e0.y q := by rw [x0, y0]; exact hq
  have ha0 : Agr s t [] 0 0 e0.x e0.y := by rw [x0, y0]; exact ⟨rfl, rfl⟩
  obtain ⟨e', m', n', _⟩ := reach q [] e0 m0 ha0 (by rw [p0]; exact sle.rf _) hq0
  rcases B.cl e' m' with h | h | h
  · cases h
  · cases h
  · exact n' h
theorem Bfs.next {d : Nat} {ps fo : List Ent} (B : Bfs s t d ps [] fo) : Bfs s t (d + 1) ps fo [] :=
  ⟨B.root, B.agr, B.nd, fun e he => .inl (by
    rcases B.ll e he with h | h
    · omega
    · rw [(B.fm e h).2]; exact Nat.le_refl _), B.fm, (fun e he => by cases he), fun e he => by
    rcases B.cl e he with h | h | h
    · cases h
    · exact .inl h
    · exact .inr (.inr h), B.fs, .nil, fun e he => by cases he⟩
/-- while the fields of one are looked at: those before a are there -/
structure Mid (s t : Sheet α) (d : Nat) (ps rem fo : List Ent) (e : Ent) (a : Nat) : Prop where
  root : ∃ e ∈ ps, e.x = 0 ∧ e.y = 0 ∧ e.p = []
  agr : ∀ e ∈ ps, Agr s t e.p 0 0 e.x e.y
  nd : (ps.map fun e => (e.x, e.y)).Nodup
  ll : ∀ e ∈ ps, e.p.length ≤ d ∨ e ∈ fo
  em : e ∈ ps ∧ e.p.length = d
  tg : tg s e.x = tg t e.y
  rm : ∀ e ∈ rem, e ∈ ps ∧ e.p.length = d
  fm : ∀ e ∈ fo, e ∈ ps ∧ e.p.length = d + 1
  cl : ∀ e' ∈ ps, e' = e ∨ e' ∈ rem ∨ e' ∈ fo ∨ Closed s t ps e'
  ec : ∀ (b u v : Nat), b < a → (fl s e.x)[b]? = some u → (fl t e.y)[b]? = some v → ∃ e' ∈ ps, e'.x = u ∧ e'.y = v ∧ sle e'.p (e.p ++ [b])
  es : ∀ e' ∈ rem, lx e.p e'.p
  rs : rem.Pairwise fun e e' => lx e.p e'.p
  fs : fo.Pairwise fun e e' => lx e.p e'.p
  fr : ∀ e ∈ fo, ∀ e' ∈ rem, ∀ a, lx e.p (e'.p ++ [a])
  fe : ∀ e' ∈ fo, ∀ b, a ≤ b → lx e'.p (e.p ++ [b])
theorem Bfs.mid {d : Nat} {ps rem fo : List Ent} {e : Ent} (B : Bfs s t d ps (e :: rem) fo) (h : KM.tg s e.x = KM.tg t e.y) : Mid s t d ps rem fo e 0 :=
  ⟨B.root, B.agr, B.nd, B.ll, B.rm e List.mem_cons_self, h, fun e' he => B.rm e' (List.mem_cons_of_mem _ he), B.fm, fun e' he => by
    rcases B.cl e' he with h | h | h
    · rcases List.mem_cons.mp h with h | h
      · exact .inl h
      · exact .inr (.inl h)
    · exact .inr (.inr (.inl h))
    · exact .inr (.inr (.inr h)), fun b u v hb => absurd hb (Nat.not_lt_zero _), (List.pairwise_cons.mp B.rs).1, (List.pairwise_cons.mp B.rs).2, B.fs,
    fun e1 h1 e2 h2 => B.fr e1 h1 e2 (List.mem_cons_of_mem _ h2), fun e' he b _ => B.fr e' he e List.mem_cons_self b⟩
theorem Mid.done {d : Nat} {ps rem fo : List Ent} {e : Ent} {a : Nat} (M : Mid s t d ps rem fo e a) (h : (fl s e.x).length ≤ a) : Bfs s t d ps rem fo :=
  ⟨M.root, M.agr, M.nd, M.ll, M.rm, M.fm, fun e' he => by
    rcases M.cl e' he with rfl | h' | h' | h'
    · exact .inr (.inr ⟨M.tg, fun b u v hu hv => M.ec b u v (by have := (List.getElem?_eq_some_iff.mp hu).1; omega) hu hv⟩)
    · exact .inl h'
    · exact .inr (.inl h')
    · exact .inr (.inr h'), M.rs, M.fs, M.fr⟩
/-- a field that is known -/
theorem Mid.skip {d : Nat} {ps rem fo : List Ent} {e : Ent} {a u v : Nat} (M : Mid s t d ps rem fo e a) (hu : (fl s e.x)[a]? = some u) (hv : (fl t e.y)[a]? = some v) (hk : ∃ e' ∈ ps, e'.x = u ∧ e'.y = v) : Mid s t d ps rem fo e (a + 1) := by
  refine ⟨M.root, M.agr, M.nd, M.ll, M.em, M.tg, M.rm, M.fm, M.cl, fun b u' v' hb hu' hv' => ?_, M.es, M.rs, M.fs, M.fr, fun e' he b hb => M.fe e' he b (by omega)⟩
  by_cases hba : b < a
  · exact M.ec b u' v' hba hu' hv'
  · have : b = a := by omega
    subst this
    rw [hu] at hu'; cases hu'
    rw [hv] at hv'; cases hv'
    obtain ⟨e', m', rfl, rfl⟩ := hk
    refine ⟨e', m', rfl, rfl, ?_⟩
    have len : (e.p ++ [b]).length = d + 1 := by rw [List.length_append, M.em.2]; rfl
    rcases M.ll e' m' with h' | h'
    · exact .inl (by rw [len]; omega)
    · exact .inr ⟨by rw [len, (M.fm e' h').2], .inl (M.fe e' h' b (Nat.le_refl _))⟩
/-- a new one -/
theorem Mid.put {d : Nat} {ps rem fo : List Ent} {e : Ent} {a u v : Nat} (M : Mid s t d ps rem fo e a) (hu : (fl s e.x)[a]? = some u) (hv : (fl t e.y)[a]? = some v) (hk : ∀ e' ∈ ps, ¬ (e'.x = u ∧ e'.y = v)) :
    Mid s t d (ps ++ [⟨u, v, e.p ++ [a]⟩]) rem (fo ++ [⟨u, v, e.p ++ [a]⟩]) e (a + 1) := by
  have len : (e.p ++ [a]).length = d + 1 := by rw [List.length_append, M.em.2]; rfl
  have sub : ∀ x ∈ ps, x ∈ ps ++ [(⟨u, v, e.p ++ [a]⟩ : Ent)] := fun x hx => List.mem_append_left _ hx
  have new : (⟨u, v, e.p ++ [a]⟩ : Ent) ∈ ps ++ [(⟨u, v, e.p ++ [a]⟩ : Ent)] := List.mem_append_right _ List.mem_cons_self
  have cs : ∀ {xs : List Ent} {x : Ent}, x ∈ xs ++ [(⟨u, v, e.p ++ [a]⟩ : Ent)] → x ∈ xs ∨ x = ⟨u, v, e.p ++ [a]⟩ := fun {xs x} h => by
    rcases List.mem_append.mp h with h | h
    · exact .inl h
    · exact .inr (List.mem_singleton.mp h)
  refine ⟨?_, fun x hx => ?_, ?_, fun x hx => ?_, ⟨sub _ M.em.1, M.em.2⟩, M.tg, fun x hx => ⟨sub _ (M.rm x hx).1, (M.rm x hx).2⟩, fun x hx => ?_, fun x hx => ?_, fun b u' v' hb hu' hv' => ?_, M.es, M.rs, ?_, fun x hx y hy c => ?_, fun x hx b hb => ?_⟩
  · obtain ⟨x, hx, r⟩ := M.root
    exact ⟨x, sub x hx, r⟩
  · rcases cs hx with h | rfl
    · exact M.agr x h
    · exact Agr.snoc.mpr ⟨_, _, M.agr e M.em.1, M.tg, hu, hv⟩
  · rw [List.map_append]
    refine List.nodup_append.mpr ⟨M.nd, by simp, fun x hx y hy => ?_⟩
    obtain ⟨e', m', rfl⟩ := List.mem_map.mp hx
    rw [List.mem_singleton.mp hy]
    intro z
    exact hk e' m' ⟨(Prod.mk.inj z).1, (Prod.mk.inj z).2⟩
  · rcases cs hx with h | rfl
    · rcases M.ll x h with h | h
      · exact .inl h
      · exact .inr (List.mem_append_left _ h)
    · exact .inr (List.mem_append_right _ List.mem_cons_self)
  · rcases cs hx with h | rfl
    · exact ⟨sub _ (M.fm x h).1, (M.fm x h).2⟩
    · exact ⟨new, len⟩
  · rcases cs hx with h | rfl
    · rcases M.cl x h with h | h | h | h
      · exact .inl h
      · exact .inr (.inl h)
      · exact .inr (.inr (.inl (List.mem_append_left _ h)))
      · exact .inr (.inr (.inr (h.mono sub)))
    · exact .inr (.inr (.inl (List.mem_append_right _ List.mem_cons_self)))
  · by_cases hba : b < a
    · obtain ⟨e', m', r⟩ := M.ec b u' v' hba hu' hv'
      exact ⟨e', sub _ m', r⟩
    · have : b = a := by omega
      subst this
      rw [hu] at hu'; cases hu'
      rw [hv] at hv'; cases hv'
      exact ⟨_, new, rfl, rfl, sle.rf _⟩
  · refine List.pairwise_append.mpr ⟨M.fs, List.pairwise_singleton _ _, fun x hx y hy => ?_⟩
    rw [List.mem_singleton.mp hy]
    exact M.fe x hx a (Nat.le_refl _)
  · rcases cs hx with h | rfl
    · exact M.fr x h y hy c
    · exact (M.es y hy).app _ _
  · rcases cs hx with h | rfl
    · exact M.fe x h b (by omega)
    · exact lx_pre (by omega)
/-- as many entries as there are pairs, at most -/
theorem pairs_le {n m : Nat} : ∀ {xs : List (Nat × Nat)}, xs.Nodup → (∀ p ∈ xs, p.1 < n ∧ p.2 < m) → xs.length ≤ n * m := fun {xs} hn hx => by
  have h := hn.length_le_of_subset (l₂ := (List.range n).flatMap fun a => (List.range m).map (Prod.mk a)) (fun p hp => by
    obtain ⟨h1, h2⟩ := hx p hp
    exact List.mem_flatMap.mpr ⟨p.1, List.mem_range.mpr h1, List.mem_map.mpr ⟨p.2, List.mem_range.mpr h2, rfl⟩⟩)
  have e : ∀ n, ((List.range n).flatMap fun a => (List.range m).map (Prod.mk a)).length = n * m := by
    intro n
    induction n with
    | zero => simp
    | succ n ih => rw [List.range_succ, List.flatMap_append, List.length_append, ih, List.flatMap_singleton, List.length_map, List.length_range, Nat.succ_mul]
  rwa [e] at h
end
end KM
set_option linter.all false
/-! ### rows that part do so within so many steps as there are rows -/
namespace KM
section
variable {α : Type} {s t u : Sheet α} {ar : α → Nat}
theorem eqv.down : ∀ {n i j : Nat}, eqv s t (n + 1) i j → eqv s t n i j
  | 0, _, _, _ => trivial
  | n + 1, _, _, h => ⟨h.1, fun a x y hx hy => (h.2 a x y hx hy).down⟩
theorem eqv.le {n : Nat} : ∀ {m i j : Nat}, eqv s t (n + m) i j → eqv s t n i j
  | 0, _, _, h => h
  | m + 1, _, _, h => eqv.le (m := m) h.down
theorem eqv.rf : ∀ {n i : Nat}, eqv s s n i i
  | 0, _ => trivial
  | n + 1, _ => ⟨rfl, fun a x y hx hy => by rw [hx] at hy; cases hy; exact eqv.rf⟩
theorem eqv.sym : ∀ {n i j : Nat}, eqv s t n i j → eqv t s n j i
  | 0, _, _, _ => trivial
  | n + 1, _, _, h => ⟨h.1.symm, fun a x y hx hy => (h.2 a y x hy hx).sym⟩
theorem eqv.tr (hs : Ok ar s) : ∀ {n i j k : Nat}, eqv s s n i j → eqv s s n j k → eqv s s n i k
  | 0, _, _, _, _, _ => trivial
  | n + 1, i, j, k, h, g => ⟨h.1.trans g.1, fun a x y hx hy => by
      have l := hs.len hs h.1
      have ha := (List.getElem?_eq_some_iff.mp hx).1
      have hz : (fl s j)[a]? = some ((fl s j)[a]'(by omega)) := List.getElem?_eq_getElem _
      exact (h.2 a x _ hx hz).tr hs (g.2 a _ y hz hy)⟩
theorem filter_lt' {β : Type} {f g : β → Bool} : ∀ {xs : List β}, (∀ x ∈ xs, f x = true → g x = true) → (xs.filter f).length ≤ (xs.filter g).length ∧ ((∃ x ∈ xs, g x = true ∧ f x = false) → (xs.filter f).length < (xs.filter g).length)
  | [], _ => ⟨Nat.le_refl _, fun ⟨_, h, _⟩ => by cases h⟩
  | x :: xs, hs => by
    obtain ⟨i1, i2⟩ := filter_lt' (f := f) (g := g) (xs := xs) fun y hy => hs y (List.mem_cons_of_mem _ hy)
    rw [List.filter_cons, List.filter_cons]
    cases ef : f x with
    | true =>
      rw [hs x List.mem_cons_self ef, if_pos rfl, if_pos rfl, List.length_cons, List.length_cons]
      refine ⟨by omega, fun ⟨y, hy, h1, h2⟩ => ?_⟩
      rcases List.mem_cons.mp hy with rfl | hy
      · rw [ef] at h2; cases h2
      · have := i2 ⟨y, hy, h1, h2⟩; omega
    | false =>
      rw [if_neg (by decide)]
      cases eg : g x with
      | true =>
        rw [if_pos rfl, List.length_cons]
        exact ⟨by omega, fun _ => by omega⟩
      | false =>
        rw [if_neg (by decide)]
        refine ⟨i1, fun ⟨y, hy, h1, h2⟩ => i2 ?_⟩
        rcases List.mem_cons.mp hy with rfl | hy
        · rw [eg] at h1; cases h1
        · exact ⟨y, hy, h1, h2⟩
noncomputable def isRep (u : Sheet α) (n i : Nat) : Bool := @decide (∀ j, j < i → ¬ eqv u u n j i) (Classical.propDecidable _)
theorem isRep_iff {n i : Nat} : isRep u n i = true ↔ ∀ j, j < i → ¬ eqv u u n j i := by
  unfold isRep
  exact @decide_eq_true_iff _ (Classical.propDecidable _)
/-- the least row of a class -/
theorem rep_of (n i : Nat) : ∃ j, j ≤ i ∧ eqv u u n j i ∧ ∀ k, k < j → ¬ eqv u u n k i := by
  have : ∀ m, ∀ j, j ≤ i → i - j ≤ i → j ≤ m → eqv u u n j i → ∃ j, j ≤ i ∧ eqv u u n j i ∧ ∀ k, k < j → ¬ eqv u u n k i := by
    intro m
    induction m with
    | zero =>
      intro j hj _ hm h
      exact ⟨j, hj, h, fun k hk => by omega⟩
    | succ m ih =>
      intro j hj hi hm h
      by_cases c : ∃ k, k < j ∧ eqv u u n k i
      · obtain ⟨k, hk, hk2⟩ := c
        exact ih k (by omega) (by omega) (by omega) hk2
      · exact ⟨j, hj, h, fun k hk e => c ⟨k, hk, e⟩⟩
  exact this i i (Nat.le_refl _) (by omega) (Nat.le_refl _) eqv.rf
noncomputable def reps (u : Sheet α) (n : Nat) : Nat := ((List.range u.length).filter (isRep u n)).length
def Stab (u : Sheet α) (n : Nat) : Prop := ∀ i j, i < u.length → j < u.length → eqv u u n i j → eqv u u (n + 1) i j
theorem reps_grow (hu : Ok ar u) {n : Nat} (h : ¬ Stab u n) : reps u n < reps u (n + 1) := by
  unfold reps
  refine (filter_lt' fun i hi hr => ?_).2 ?_
  · exact isRep_iff.mpr fun j hj e => isRep_iff.mp hr j hj e.down
  · have : ∃ i j, i < u.length ∧ j < u.length ∧ eqv u u n i j ∧ ¬ eqv u u (n + 1) i j := by
      refine Classical.byContradiction fun c => h fun i j hi hj e => Classical.byContradiction fun e' => c ⟨i, j, hi, hj, e, e'⟩
    obtain ⟨i, j, hi, hj, e, e'⟩ := this
    -- the least of their class
    obtain ⟨m, hm, hmi, hml⟩ := rep_of (u := u) n i
    have key : ∀ k, k < u.length → eqv u u n m k → ¬ eqv u u (n + 1) m k → ∃ x ∈ List.range u.length, isRep u (n + 1) x = true ∧ isRep u n x = false := by
      intro k hk hmk hn
      obtain ⟨x, hx, hxk, hxl⟩ := rep_of (u := u) (n + 1) k
      have hmx : eqv u u n m x := hmk.tr hu hxk.down.sym
      have hlt : m < x := by
        rcases Nat.lt_trichotomy m x with z | z | z
        · exact z
        · rw [z] at hn; exact absurd hxk hn
        · exact absurd (hmx.sym.tr hu hmi) (hml x z)
      refine ⟨x, List.mem_range.mpr (by omega), isRep_iff.mpr fun y hy e => hxl y hy (e.tr hu hxk), ?_⟩
      cases c : isRep u n x with
      | false => rfl
      | true => exact absurd hmx (isRep_iff.mp c m hlt)
    by_cases c : eqv u u (n + 1) m i
    · exact key j hj (hmi.tr hu e) fun z => e' (c.sym.tr hu z)
    · exact key i hi hmi c
theorem reps_le {n : Nat} : reps u n ≤ u.length := by
  unfold reps
  have := List.length_filter_le (isRep u n) (List.range u.length)
  rwa [List.length_range] at this
theorem stab_some (hu : Ok ar u) (h0 : 0 < u.length) : ∃ n, n ≤ u.length ∧ Stab u n := Classical.byContradiction fun c => by
  have h1 : ∀ n, n ≤ u.length → n + 1 ≤ reps u n := by
    intro n
    induction n with
    | zero =>
      intro _
      have : 0 ∈ (List.range u.length).filter (isRep u 0) := List.mem_filter.mpr ⟨List.mem_range.mpr h0, isRep_iff.mpr fun j hj => absurd hj (Nat.not_lt_zero _)⟩
      exact List.length_pos_of_mem this
    | succ n ih =>
      intro hn
      have h2 := ih (by omega)
      have h3 := reps_grow hu (n := n) fun st => c ⟨n, by omega, st⟩
      omega
  have h2 := h1 u.length (Nat.le_refl _)
  have h3 := reps_le (u := u) (n := u.length)
  omega
theorem Stab.all (hu : Ok ar u) {n : Nat} (h : Stab u n) : ∀ m, Stab u (n + m)
  | 0 => h
  | m + 1 => fun i j hi hj e => ⟨e.1, fun a x y hx hy => Stab.all hu h m x y (hu.fld (List.mem_of_getElem? hx)) (hu.fld (List.mem_of_getElem? hy)) (e.2 a x y hx hy)⟩
theorem eqv_bound1 (hu : Ok ar u) {i j : Nat} (hi : i < u.length) (hj : j < u.length) (h : eqv u u u.length i j) : Same u u i j := by
  obtain ⟨n, hn, st⟩ := stab_some hu (by omega)
  have all : ∀ m, eqv u u (n + m) i j := by
    intro m
    induction m with
    | zero =>
      have : n + (u.length - n) = u.length := by omega
      rw [← this] at h
      exact h.le
    | succ m ih => exact st.all hu m i j hi hj ih
  intro k
  have := all k
  rw [Nat.add_comm] at this
  exact this.le
/-! two sheets as one -/
def both (s t : Sheet α) : Sheet α := s ++ t.map fun r => (r.1, r.2.map (· + s.length))
theorem both_length : (both s t).length = s.length + t.length := by unfold both; rw [List.length_append, List.length_map]
theorem both_l {i : Nat} (h : i < s.length) : tg (both s t) i = tg s i ∧ fl (both s t) i = fl s i := by
  unfold both tg fl
  rw [List.getElem?_append_left h]; exact ⟨rfl, rfl⟩
theorem both_r {j : Nat} : tg (both s t) (s.length + j) = tg t j ∧ fl (both s t) (s.length + j) = (fl t j).map (· + s.length) := by
  unfold both tg fl
  rw [List.getElem?_append_right (by omega), Nat.add_sub_cancel_left, List.getElem?_map]
  cases t[j]? with
  | none => exact ⟨rfl, rfl⟩
  | some r => exact ⟨rfl, rfl⟩
theorem both_ok (hs : Ok ar s) (ht : Ok ar t) : Ok ar (both s t) := by
  refine ⟨fun r hr => ?_, fun r hr x hx => ?_⟩
  · rcases List.mem_append.mp hr with h | h
    · exact hs.a r h
    · obtain ⟨q, hq, rfl⟩ := List.mem_map.mp h
      show (q.2.map _).length = ar q.1
      rw [List.length_map]; exact ht.a q hq
  · rw [both_length]
    rcases List.mem_append.mp hr with h | h
    · have := hs.f r h x hx; omega
    · obtain ⟨q, hq, rfl⟩ := List.mem_map.mp h
      obtain ⟨y, hy, rfl⟩ := List.mem_map.mp hx
      have := ht.f q hq y hy
      show y + s.length < _
      omega
theorem both_eqv (hs : Ok ar s) (ht : Ok ar t) : ∀ {n i j : Nat}, i < s.length → j < t.length → (eqv s t n i j ↔ eqv (both s t) (both s t) n i (s.length + j))
  | 0, _, _, _, _ => Iff.rfl
  | n + 1, i, j, hi, hj => by
    show (tg s i = tg t j ∧ ∀ (a x y : Nat), (fl s i)[a]? = some x → (fl t j)[a]? = some y → eqv s t n x y) ↔ (tg (both s t) i = tg (both s t) (s.length + j) ∧ ∀ (a x y : Nat), (fl (both s t) i)[a]? = some x → (fl (both s t) (s.length + j))[a]? = some y → eqv (both s t) (both s t) n x y)
    rw [(both_l hi).1, (both_l hi).2, both_r.1, both_r.2]
    refine and_congr_right fun _ => ⟨fun h a x y hx hy => ?_, fun h a x y hx hy => ?_⟩
    · rw [List.getElem?_map] at hy
      obtain ⟨z, hz, rfl⟩ := Option.map_eq_some_iff.mp hy
      have := (both_eqv hs ht (hs.fld (List.mem_of_getElem? hx)) (ht.fld (List.mem_of_getElem? hz))).mp (h a x z hx hz)
      rwa [Nat.add_comm] at this
    · have := h a x (y + s.length) hx (by rw [List.getElem?_map, hy]; rfl)
      rw [Nat.add_comm] at this
      exact (both_eqv hs ht (hs.fld (List.mem_of_getElem? hx)) (ht.fld (List.mem_of_getElem? hy))).mpr this
theorem eqv_bound (hs : Ok ar s) (ht : Ok ar t) {i j : Nat} (hi : i < s.length) (hj : j < t.length) (h : eqv s t (s.length + t.length) i j) : Same s t i j := by
  have hu := both_ok hs ht
  have h1 := (both_eqv hs ht hi hj).mp h
  rw [← both_length] at h1
  have h2 := eqv_bound1 hu (by rw [both_length]; omega) (by rw [both_length]; omega) h1
  exact fun n => (both_eqv hs ht hi hj).mpr (h2 n)
/-! parting and rounds -/
theorem prt_eqv : ∀ {p : List Nat} {i j : Nat}, Prt s t i j p → ¬ eqv s t (p.length + 1) i j
  | [], i, j, h, e => Prt.nil.mp h e.1
  | a :: p, i, j, h, e => by
    obtain ⟨_, u, v, h1, h2, h3⟩ := Prt.cons.mp h
    exact prt_eqv h3 (e.2 a u v h1 h2)
end
end KM
set_option linter.all false
/-! ### there is a parting path, or the values are the same -/
namespace KM
section
variable {α : Type} {s t : Sheet α} {ar : α → Nat}
theorem eqv_prt : ∀ {n i j : Nat}, ¬ eqv s t n i j → ∃ p, p.length < n ∧ Prt s t i j p
  | 0, i, j, h => absurd trivial h
  | n + 1, i, j, h => by
    by_cases e : tg s i = tg t j
    · have : ∃ a x y, (fl s i)[a]? = some x ∧ (fl t j)[a]? = some y ∧ ¬ eqv s t n x y := Classical.byContradiction fun c => h ⟨e, fun a x y hx hy => Classical.byContradiction fun g => c ⟨a, x, y, hx, hy, g⟩⟩
      obtain ⟨a, x, y, hx, hy, g⟩ := this
      obtain ⟨p, hp, hq⟩ := eqv_prt g
      exact ⟨a :: p, by rw [List.length_cons]; omega, Prt.cons.mpr ⟨e, x, y, hx, hy, hq⟩⟩
    · exact ⟨[], Nat.succ_pos n, Prt.nil.mpr e⟩
theorem least_nat {P : Nat → Prop} : ∀ n, P n → ∃ m, P m ∧ ∀ k, k < m → ¬ P k := by
  intro n
  induction n using Nat.strongRecOn with
  | ind n ih =>
    intro h
    by_cases c : ∃ k, k < n ∧ P k
    · obtain ⟨k, hk, hp⟩ := c
      exact ih k hk hp
    · exact ⟨n, h, fun k hk hp => c ⟨k, hk, hp⟩⟩
theorem least_lx : ∀ (n : Nat) {x y : Nat}, (∃ p, Prt s t x y p ∧ p.length = n) → ∃ p, Prt s t x y p ∧ p.length = n ∧ ∀ q, Prt s t x y q → q.length = n → lx p q ∨ p = q
  | 0, x, y, ⟨p, hp, hl⟩ => ⟨p, hp, hl, fun q _ hq => .inr (by rw [List.length_eq_zero_iff.mp hl, List.length_eq_zero_iff.mp hq])⟩
  | n + 1, x, y, ⟨p, hp, hl⟩ => by
    cases p with
    | nil => cases hl
    | cons a r =>
      obtain ⟨m, ⟨r1, h1, h2⟩, hmin⟩ := least_nat (P := fun a => ∃ r, Prt s t x y (a :: r) ∧ r.length = n) a ⟨r, hp, by rw [List.length_cons] at hl; omega⟩
      obtain ⟨h0, u, v, hu, hv, hr⟩ := Prt.cons.mp h1
      obtain ⟨r2, g1, g2, g3⟩ := least_lx n (x := u) (y := v) ⟨r1, hr, h2⟩
      refine ⟨m :: r2, Prt.cons.mpr ⟨h0, u, v, hu, hv, g1⟩, by rw [List.length_cons, g2], fun q hq hql => ?_⟩
      cases q with
      | nil => cases hql
      | cons b q =>
        rw [List.length_cons] at hql
        by_cases c : b < m
        · exact absurd ⟨q, hq, by omega⟩ (hmin b c)
        by_cases e : m = b
        · subst e
          obtain ⟨_, u', v', hu', hv', hq'⟩ := Prt.cons.mp hq
          rw [hu] at hu'; cases hu'
          rw [hv] at hv'; cases hv'
          rcases g3 q hq' (by omega) with g | g
          · exact .inl (.inr ⟨rfl, g⟩)
          · exact .inr (by rw [g])
        · exact .inl (.inl (by omega))
theorem told_ex (s t : Sheet α) : ∃ o, Told s t o := by
  by_cases c : Same s t 0 0
  · exact ⟨none, c⟩
  · have : ∃ p, Prt s t 0 0 p := Classical.byContradiction fun g => c (same_noPrt fun p hp => g ⟨p, hp⟩)
    obtain ⟨p, hp⟩ := this
    obtain ⟨n, ⟨p1, h1, h2⟩, hmin⟩ := least_nat (P := fun n => ∃ p, Prt s t 0 0 p ∧ p.length = n) p.length ⟨p, hp, rfl⟩
    obtain ⟨p2, g1, g2, g3⟩ := least_lx n ⟨p1, h1, h2⟩
    refine ⟨some p2, g1, fun q hq => ?_⟩
    by_cases e : q.length = n
    · exact .inr ⟨by omega, g3 q hq e⟩
    · exact .inl (by
        by_cases l : q.length < n
        · exact absurd ⟨q, hq, rfl⟩ (hmin q.length l)
        · omega)
theorem told_len {n : Nat} {p : List Nat} (h : Told s t (some p)) (hb : eqv s t n 0 0 → Same s t 0 0) : p.length < n := by
  have hn : ¬ eqv s t n 0 0 := fun e => (hb e).noPrt (i := 0) (j := 0) h.w
  obtain ⟨q, hq, hp⟩ := eqv_prt hn
  rcases h.m q hp with l | ⟨l, _⟩ <;> omega
end
end KM
set_option Elab.async false
set_option linter.all false
set_option maxRecDepth 100000
set_option maxHeartbeats 4000000
namespace L05
open PySem PySem.Spec PyProof.Rows L2 KD
def topS (i : Nat) : Stmt :=
  PySem.Challenge.pw_roundcalls_k05_parting_paths.main.body.getD i (.Pass ⟨0, 0, 0, 0⟩)
abbrev s_Partition___init__ : Stmt := inClass (topS 1) 0
abbrev N_Partition___init__ : List Str := ["self", "rows", "tags", "tag", "_", "row", "number"]
theorem sc_Partition___init__ : FnScope N_Partition___init__ ["self", "rows"] (defScope s_Partition___init__) :=
  ⟨rfl, rfl, rfl, by decide +kernel, rfl, by decide +kernel, by decide +kernel⟩
abbrev s_Partition_by_class : Stmt := inClass (topS 1) 1
abbrev N_Partition_by_class : List Str := ["self", "rows", "found", "row"]
theorem sc_Partition_by_class : FnScope N_Partition_by_class ["self", "rows"] (defScope s_Partition_by_class) :=
  ⟨rfl, rfl, rfl, by decide +kernel, rfl, by decide +kernel, by decide +kernel⟩
abbrev s_Partition_split_off : Stmt := inClass (topS 1) 2
abbrev N_Partition_split_off : List Str := ["self", "old", "hit", "moved", "number", "row"]
theorem sc_Partition_split_off : FnScope N_Partition_split_off ["self", "old", "hit"] (defScope s_Partition_split_off) :=
  ⟨rfl, rfl, rfl, by decide +kernel, rfl, by decide +kernel, by decide +kernel⟩
abbrev s_row_classes : Stmt := topS 2
abbrev N_row_classes : List Str := ["rows", "partition", "above", "waiting", "chosen", "uppers", "hits", "old", "hit", "row", "upper"]
theorem sc_row_classes : FnScope N_row_classes ["rows"] (defScope s_row_classes) :=
  ⟨rfl, rfl, rfl, by decide +kernel, rfl, by decide +kernel, by decide +kernel⟩
abbrev s_rows_above : Stmt := topS 3
abbrev N_rows_above : List Str := ["rows", "most", "above", "upper", "_", "fields", "at", "field"]
theorem sc_rows_above : FnScope N_rows_above ["rows"] (defScope s_rows_above) :=
  ⟨rfl, rfl, rfl, by decide +kernel, rfl, by decide +kernel, by decide +kernel⟩
abbrev s_least_sheet : Stmt := topS 5
abbrev N_least_sheet : List Str := ["sheet"]
theorem sc_least_sheet : FnScope N_least_sheet ["sheet"] (defScope s_least_sheet) :=
  ⟨rfl, rfl, rfl, by decide +kernel, rfl, by decide +kernel, by decide +kernel⟩
abbrev s_least_from : Stmt := topS 6
abbrev N_least_from : List Str := ["rows", "root", "merged", "classes"]
theorem sc_least_from : FnScope N_least_from ["rows", "root"] (defScope s_least_from) :=
  ⟨rfl, rfl, rfl, by decide +kernel, rfl, by decide +kernel, by decide +kernel⟩
abbrev s_merged_rows : Stmt := topS 7
abbrev N_merged_rows : List Str := ["rows", "classes", "merged", "number", "tag", "fields", "field"]
theorem sc_merged_rows : FnScope N_merged_rows ["rows"] (defScope s_merged_rows) :=
  ⟨rfl, rfl, rfl, by decide +kernel, rfl, by decide +kernel, by decide +kernel⟩
abbrev s_rooted : Stmt := topS 8
abbrev N_rooted : List Str := ["rows", "root", "numbers", "waiting", "row"]
theorem sc_rooted : FnScope N_rooted ["rows", "root"] (defScope s_rooted) :=
  ⟨rfl, rfl, rfl, by decide +kernel, rfl, by decide +kernel, by decide +kernel⟩
abbrev s_renumbered : Stmt := topS 9
abbrev N_renumbered : List Str := ["row", "numbers", "tag", "fields", "field"]
theorem sc_renumbered : FnScope N_renumbered ["row", "numbers"] (defScope s_renumbered) :=
  ⟨rfl, rfl, rfl, by decide +kernel, rfl, by decide +kernel, by decide +kernel⟩
abbrev s_are_same : Stmt := topS 11
abbrev N_are_same : List Str := ["sheet", "other"]
theorem sc_are_same : FnScope N_are_same ["sheet", "other"] (defScope s_are_same) :=
  ⟨rfl, rfl, rfl, by decide +kernel, rfl, by decide +kernel, by decide +kernel⟩
abbrev s_parting_path : Stmt := topS 12
abbrev N_parting_path : List Str := ["sheet", "other", "first", "second", "paths", "level", "following", "pair", "at", "below"]
theorem sc_parting_path : FnScope N_parting_path ["sheet", "other"] (defScope s_parting_path) :=
  ⟨rfl, rfl, rfl, by decide +kernel, rfl, by decide +kernel, by decide +kernel⟩
abbrev s_tags_agree : Stmt := topS 13
abbrev N_tags_agree : List Str := ["sheet", "other", "pair", "row", "match"]
theorem sc_tags_agree : FnScope N_tags_agree ["sheet", "other", "pair"] (defScope s_tags_agree) :=
  ⟨rfl, rfl, rfl, by decide +kernel, rfl, by decide +kernel, by decide +kernel⟩
abbrev s_field_pairs : Stmt := topS 14
abbrev N_field_pairs : List Str := ["sheet", "other", "pair", "row", "match"]
theorem sc_field_pairs : FnScope N_field_pairs ["sheet", "other", "pair"] (defScope s_field_pairs) :=
  ⟨rfl, rfl, rfl, by decide +kernel, rfl, by decide +kernel, by decide +kernel⟩
abbrev s__law_deck : Stmt := topS 16
abbrev N__law_deck : List Str := ["_law_script", "_law_cells", "_law_total", "_law_cell"]
theorem sc__law_deck : FnScope N__law_deck ["_law_script"] (defScope s__law_deck) :=
  ⟨rfl, rfl, rfl, by decide +kernel, rfl, by decide +kernel, by decide +kernel⟩
abbrev s__law_draw : Stmt := topS 17
abbrev N__law_draw : List Str := ["_law_deck_here", "_law_limit", "_law_cell", "_law_number"]
theorem sc__law_draw : FnScope N__law_draw ["_law_deck_here", "_law_limit"] (defScope s__law_draw) :=
  ⟨rfl, rfl, rfl, by decide +kernel, rfl, by decide +kernel, by decide +kernel⟩
abbrev s__law_pick : Stmt := topS 18
abbrev N__law_pick : List Str := ["_law_deck_here", "_law_items"]
theorem sc__law_pick : FnScope N__law_pick ["_law_deck_here", "_law_items"] (defScope s__law_pick) :=
  ⟨rfl, rfl, rfl, by decide +kernel, rfl, by decide +kernel, by decide +kernel⟩
abbrev s__law_names : Stmt := topS 19
abbrev N__law_names : List Str := ["_law_deck_here", "_law_many", "_law_letters", "_law_way", "_law_first", "_law_words", "_law_found", "_law_k", "_law_letter"]
theorem sc__law_names : FnScope N__law_names ["_law_deck_here", "_law_many"] (defScope s__law_names) :=
  ⟨rfl, rfl, rfl, by decide +kernel, rfl, by decide +kernel, by decide +kernel⟩
abbrev s__law_tags : Stmt := topS 20
abbrev N__law_tags : List Str := ["_law_deck_here", "_law_names_here", "_law_name"]
theorem sc__law_tags : FnScope N__law_tags ["_law_deck_here"] (defScope s__law_tags) :=
  ⟨rfl, rfl, rfl, by decide +kernel, rfl, by decide +kernel, by decide +kernel⟩
abbrev s__law_rows : Stmt := topS 21
abbrev N__law_rows : List Str := ["_law_deck_here", "_law_tags_here", "_law_some", "_law_way", "_law_found", "_law_wide", "_law_name", "_law_many", "_law_count", "_law_k", "_law_pair", "_law_j"]
theorem sc__law_rows : FnScope N__law_rows ["_law_deck_here", "_law_tags_here"] (defScope s__law_rows) :=
  ⟨rfl, rfl, rfl, by decide +kernel, rfl, by decide +kernel, by decide +kernel⟩
abbrev s__law_copies : Stmt := topS 22
abbrev N__law_copies : List Str := ["_law_deck_here", "_law_rows_here", "_law_spots", "_law_left", "_law_k", "_law_found", "_law_fields", "_law_field", "_law_spot"]
theorem sc__law_copies : FnScope N__law_copies ["_law_deck_here", "_law_rows_here"] (defScope s__law_copies) :=
  ⟨rfl, rfl, rfl, by decide +kernel, rfl, by decide +kernel, by decide +kernel⟩
abbrev s__law_distances : Stmt := topS 23
abbrev N__law_distances : List Str := ["_law_rows_here", "_law_far", "_law_found", "_law_k", "_law_j", "_law_more", "_law_near", "_law_pair"]
theorem sc__law_distances : FnScope N__law_distances ["_law_rows_here", "_law_far"] (defScope s__law_distances) :=
  ⟨rfl, rfl, rfl, by decide +kernel, rfl, by decide +kernel, by decide +kernel⟩
abbrev s__law_parting : Stmt := topS 24
abbrev N__law_parting : List Str := ["_law_rows_here", "_law_far", "_law_lengths", "_law_pair", "_law_found", "_law_inner", "_law_field", "_law_k"]
theorem sc__law_parting : FnScope N__law_parting ["_law_rows_here", "_law_far"] (defScope s__law_parting) :=
  ⟨rfl, rfl, rfl, by decide +kernel, rfl, by decide +kernel, by decide +kernel⟩
abbrev s__law_changed : Stmt := topS 25
abbrev N__law_changed : List Str := ["_law_deck_here", "_law_tags_here", "_law_rows_here", "_law_at", "_law_name", "_law_many", "_law_row", "_law_k"]
theorem sc__law_changed : FnScope N__law_changed ["_law_deck_here", "_law_tags_here", "_law_rows_here"] (defScope s__law_changed) :=
  ⟨rfl, rfl, rfl, by decide +kernel, rfl, by decide +kernel, by decide +kernel⟩
abbrev s__law_right : Stmt := topS 26
abbrev N__law_right : List Str := ["_law_rows_here", "_law_far", "_law_kept", "_law_due", "_law_told"]
theorem sc__law_right : FnScope N__law_right ["_law_rows_here", "_law_far"] (defScope s__law_right) :=
  ⟨rfl, rfl, rfl, by decide +kernel, rfl, by decide +kernel, by decide +kernel⟩
abbrev s_law : Stmt := topS 27
abbrev N_law : List Str := ["_law_script", "_law_deck_here", "_law_turn", "_law_tags_here", "_law_rows_here", "_law_some", "_law_count", "_law_many", "_law_one", "_law_two", "_law_far", "_law_k"]
theorem sc_law : FnScope N_law ["_law_script"] (defScope s_law) :=
  ⟨rfl, rfl, rfl, by decide +kernel, rfl, by decide +kernel, by decide +kernel⟩
/-! what the top has left -/
structure Txt (K : PySem.W.Frag) (mg : Str → Option Value) where
  a_Partition___init__ : Addr
  d_Partition___init__ : FuncData
  F_Partition___init__ : Fun K "__init__" "Partition.__init__" s_Partition___init__ a_Partition___init__ d_Partition___init__
  a_Partition_by_class : Addr
  d_Partition_by_class : FuncData
  F_Partition_by_class : Fun K "by_class" "Partition.by_class" s_Partition_by_class a_Partition_by_class d_Partition_by_class
  a_Partition_split_off : Addr
  d_Partition_split_off : FuncData
  F_Partition_split_off : Fun K "split_off" "Partition.split_off" s_Partition_split_off a_Partition_split_off d_Partition_split_off
  a_row_classes : Addr
  d_row_classes : FuncData
  F_row_classes : Fun K "row_classes" "row_classes" s_row_classes a_row_classes d_row_classes
  g_row_classes : mg "row_classes" = some (.ref a_row_classes)
  a_rows_above : Addr
  d_rows_above : FuncData
  F_rows_above : Fun K "rows_above" "rows_above" s_rows_above a_rows_above d_rows_above
  g_rows_above : mg "rows_above" = some (.ref a_rows_above)
  a_least_sheet : Addr
  d_least_sheet : FuncData
  F_least_sheet : Fun K "least_sheet" "least_sheet" s_least_sheet a_least_sheet d_least_sheet
  g_least_sheet : mg "least_sheet" = some (.ref a_least_sheet)
  a_least_from : Addr
  d_least_from : FuncData
  F_least_from : Fun K "least_from" "least_from" s_least_from a_least_from d_least_from
  g_least_from : mg "least_from" = some (.ref a_least_from)
  a_merged_rows : Addr
  d_merged_rows : FuncData
  F_merged_rows : Fun K "merged_rows" "merged_rows" s_merged_rows a_merged_rows d_merged_rows
  g_merged_rows : mg "merged_rows" = some (.ref a_merged_rows)
  a_rooted : Addr
  d_rooted : FuncData
  F_rooted : Fun K "rooted" "rooted" s_rooted a_rooted d_rooted
  g_rooted : mg "rooted" = some (.ref a_rooted)
  a_renumbered : Addr
  d_renumbered : FuncData
  F_renumbered : Fun K "renumbered" "renumbered" s_renumbered a_renumbered d_renumbered
  g_renumbered : mg "renumbered" = some (.ref a_renumbered)
  a_are_same : Addr
  d_are_same : FuncData
  F_are_same : Fun K "are_same" "are_same" s_are_same a_are_same d_are_same
  g_are_same : mg "are_same" = some (.ref a_are_same)
  a_parting_path : Addr
  d_parting_path : FuncData
  F_parting_path : Fun K "parting_path" "parting_path" s_parting_path a_parting_path d_parting_path
  g_parting_path : mg "parting_path" = some (.ref a_parting_path)
  a_tags_agree : Addr
  d_tags_agree : FuncData
  F_tags_agree : Fun K "tags_agree" "tags_agree" s_tags_agree a_tags_agree d_tags_agree
  g_tags_agree : mg "tags_agree" = some (.ref a_tags_agree)
  a_field_pairs : Addr
  d_field_pairs : FuncData
  F_field_pairs : Fun K "field_pairs" "field_pairs" s_field_pairs a_field_pairs d_field_pairs
  g_field_pairs : mg "field_pairs" = some (.ref a_field_pairs)
  a__law_deck : Addr
  d__law_deck : FuncData
  F__law_deck : Fun K "_law_deck" "_law_deck" s__law_deck a__law_deck d__law_deck
  g__law_deck : mg "_law_deck" = some (.ref a__law_deck)
  a__law_draw : Addr
  d__law_draw : FuncData
  F__law_draw : Fun K "_law_draw" "_law_draw" s__law_draw a__law_draw d__law_draw
  g__law_draw : mg "_law_draw" = some (.ref a__law_draw)
  a__law_pick : Addr
  d__law_pick : FuncData
  F__law_pick : Fun K "_law_pick" "_law_pick" s__law_pick a__law_pick d__law_pick
  g__law_pick : mg "_law_pick" = some (.ref a__law_pick)
  a__law_names : Addr
  d__law_names : FuncData
  F__law_names : Fun K "_law_names" "_law_names" s__law_names a__law_names d__law_names
  g__law_names : mg "_law_names" = some (.ref a__law_names)
  a__law_tags : Addr
  d__law_tags : FuncData
  F__law_tags : Fun K "_law_tags" "_law_tags" s__law_tags a__law_tags d__law_tags
  g__law_tags : mg "_law_tags" = some (.ref a__law_tags)
  a__law_rows : Addr
  d__law_rows : FuncData
  F__law_rows : Fun K "_law_rows" "_law_rows" s__law_rows a__law_rows d__law_rows
  g__law_rows : mg "_law_rows" = some (.ref a__law_rows)
  a__law_copies : Addr
  d__law_copies : FuncData
  F__law_copies : Fun K "_law_copies" "_law_copies" s__law_copies a__law_copies d__law_copies
  g__law_copies : mg "_law_copies" = some (.ref a__law_copies)
  a__law_distances : Addr
  d__law_distances : FuncData
  F__law_distances : Fun K "_law_distances" "_law_distances" s__law_distances a__law_distances d__law_distances
  g__law_distances : mg "_law_distances" = some (.ref a__law_distances)
  a__law_parting : Addr
  d__law_parting : FuncData
  F__law_parting : Fun K "_law_parting" "_law_parting" s__law_parting a__law_parting d__law_parting
  g__law_parting : mg "_law_parting" = some (.ref a__law_parting)
  a__law_changed : Addr
  d__law_changed : FuncData
  F__law_changed : Fun K "_law_changed" "_law_changed" s__law_changed a__law_changed d__law_changed
  g__law_changed : mg "_law_changed" = some (.ref a__law_changed)
  a__law_right : Addr
  d__law_right : FuncData
  F__law_right : Fun K "_law_right" "_law_right" s__law_right a__law_right d__law_right
  g__law_right : mg "_law_right" = some (.ref a__law_right)
  a_law : Addr
  d_law : FuncData
  F_law : Fun K "law" "law" s_law a_law d_law
  g_law : mg "law" = some (.ref a_law)
  C_Partition : Addr
  cl_Partition : Cls K C_Partition
  mg_Partition : mg "Partition" = some (.ref C_Partition)
  mk_Partition : Mk K C_Partition a_Partition___init__
  mt_Partition_by_class : Meth K C_Partition "by_class" a_Partition_by_class
  mt_Partition_split_off : Meth K C_Partition "split_off" a_Partition_split_off
  na_Partition_class_of : NoAttr K C_Partition "class_of"
  na_Partition_members : NoAttr K C_Partition "members"
  m_isinstance : mg "isinstance" = none
  m_len : mg "len" = none
  m_all : mg "all" = none
  m_range : mg "range" = none
  m_repr : mg "repr" = none
  m_sorted : mg "sorted" = none
  m_tuple : mg "tuple" = none
  m_list : mg "list" = none
  m_dict : mg "dict" = none
  m_str : mg "str" = none
  m_int : mg "int" = none
  m_bool : mg "bool" = none
  m_enumerate : mg "enumerate" = none
  m_zip : mg "zip" = none
  m_max : mg "max" = none
  m_min : mg "min" = none
section
variable {K : PySem.W.Frag} {mg : Str → Option Value} (T : Txt K mg)
include T
theorem Txt.b_Partition___init__ : Binds K T.d_Partition___init__ ["self", "rows"] [] :=
  T.F_Partition___init__.binds fun _ _ _ _ _ _ us hl => match us, hl with | [_, _], _ => rfl
theorem Txt.b_Partition_by_class : Binds K T.d_Partition_by_class ["self", "rows"] [] :=
  T.F_Partition_by_class.binds fun _ _ _ _ _ _ us hl => match us, hl with | [_, _], _ => rfl
theorem Txt.b_Partition_split_off : Binds K T.d_Partition_split_off ["self", "old", "hit"] [] :=
  T.F_Partition_split_off.binds fun _ _ _ _ _ _ us hl => match us, hl with | [_, _, _], _ => rfl
theorem Txt.b_row_classes : Binds K T.d_row_classes ["rows"] [] :=
  T.F_row_classes.binds fun _ _ _ _ _ _ us hl => match us, hl with | [_], _ => rfl
theorem Txt.b_rows_above : Binds K T.d_rows_above ["rows"] [] :=
  T.F_rows_above.binds fun _ _ _ _ _ _ us hl => match us, hl with | [_], _ => rfl
theorem Txt.b_least_sheet : Binds K T.d_least_sheet ["sheet"] [] :=
  T.F_least_sheet.binds fun _ _ _ _ _ _ us hl => match us, hl with | [_], _ => rfl
theorem Txt.b_least_from : Binds K T.d_least_from ["rows", "root"] [] :=
  T.F_least_from.binds fun _ _ _ _ _ _ us hl => match us, hl with | [_, _], _ => rfl
theorem Txt.b_merged_rows : Binds K T.d_merged_rows ["rows"] [] :=
  T.F_merged_rows.binds fun _ _ _ _ _ _ us hl => match us, hl with | [_], _ => rfl
theorem Txt.b_rooted : Binds K T.d_rooted ["rows", "root"] [] :=
  T.F_rooted.binds fun _ _ _ _ _ _ us hl => match us, hl with | [_, _], _ => rfl
theorem Txt.b_renumbered : Binds K T.d_renumbered ["row", "numbers"] [] :=
  T.F_renumbered.binds fun _ _ _ _ _ _ us hl => match us, hl with | [_, _], _ => rfl
theorem Txt.b_are_same : Binds K T.d_are_same ["sheet", "other"] [] :=
  T.F_are_same.binds fun _ _ _ _ _ _ us hl => match us, hl with | [_, _], _ => rfl
theorem Txt.kb_are_same : KBinds K T.d_are_same ["sheet", "other"] ["sheet", "other"] kwG kwG := by
  obtain ⟨oc, od, kV, doc, pm, an, cdv, ct, osl, e, _, _⟩ := T.F_are_same.ex
  rw [e]
  exact kb_all fun us hl => match us, hl with | [_, _], _ => rfl
theorem Txt.b_parting_path : Binds K T.d_parting_path ["sheet", "other"] [] :=
  T.F_parting_path.binds fun _ _ _ _ _ _ us hl => match us, hl with | [_, _], _ => rfl
theorem Txt.kb_parting_path : KBinds K T.d_parting_path ["sheet", "other"] ["sheet", "other"] kwG kwG := by
  obtain ⟨oc, od, kV, doc, pm, an, cdv, ct, osl, e, _, _⟩ := T.F_parting_path.ex
  rw [e]
  exact kb_all fun us hl => match us, hl with | [_, _], _ => rfl
theorem Txt.b_tags_agree : Binds K T.d_tags_agree ["sheet", "other", "pair"] [] :=
  T.F_tags_agree.binds fun _ _ _ _ _ _ us hl => match us, hl with | [_, _, _], _ => rfl
theorem Txt.b_field_pairs : Binds K T.d_field_pairs ["sheet", "other", "pair"] [] :=
  T.F_field_pairs.binds fun _ _ _ _ _ _ us hl => match us, hl with | [_, _, _], _ => rfl
theorem Txt.b__law_deck : Binds K T.d__law_deck ["_law_script"] [] :=
  T.F__law_deck.binds fun _ _ _ _ _ _ us hl => match us, hl with | [_], _ => rfl
theorem Txt.b__law_draw : Binds K T.d__law_draw ["_law_deck_here", "_law_limit"] [] :=
  T.F__law_draw.binds fun _ _ _ _ _ _ us hl => match us, hl with | [_, _], _ => rfl
theorem Txt.b__law_pick : Binds K T.d__law_pick ["_law_deck_here", "_law_items"] [] :=
  T.F__law_pick.binds fun _ _ _ _ _ _ us hl => match us, hl with | [_, _], _ => rfl
theorem Txt.b__law_names : Binds K T.d__law_names ["_law_deck_here", "_law_many"] [] :=
  T.F__law_names.binds fun _ _ _ _ _ _ us hl => match us, hl with | [_, _], _ => rfl
theorem Txt.b__law_tags : Binds K T.d__law_tags ["_law_deck_here"] [] :=
  T.F__law_tags.binds fun _ _ _ _ _ _ us hl => match us, hl with | [_], _ => rfl
theorem Txt.b__law_rows : Binds K T.d__law_rows ["_law_deck_here", "_law_tags_here"] [] :=
  T.F__law_rows.binds fun _ _ _ _ _ _ us hl => match us, hl with | [_, _], _ => rfl
theorem Txt.b__law_copies : Binds K T.d__law_copies ["_law_deck_here", "_law_rows_here"] [] :=
  T.F__law_copies.binds fun _ _ _ _ _ _ us hl => match us, hl with | [_, _], _ => rfl
theorem Txt.b__law_distances : Binds K T.d__law_distances ["_law_rows_here", "_law_far"] [] :=
  T.F__law_distances.binds fun _ _ _ _ _ _ us hl => match us, hl with | [_, _], _ => rfl
theorem Txt.b__law_parting : Binds K T.d__law_parting ["_law_rows_here", "_law_far"] [] :=
  T.F__law_parting.binds fun _ _ _ _ _ _ us hl => match us, hl with | [_, _], _ => rfl
theorem Txt.b__law_changed : Binds K T.d__law_changed ["_law_deck_here", "_law_tags_here", "_law_rows_here"] [] :=
  T.F__law_changed.binds fun _ _ _ _ _ _ us hl => match us, hl with | [_, _, _], _ => rfl
theorem Txt.b__law_right : Binds K T.d__law_right ["_law_rows_here", "_law_far"] [] :=
  T.F__law_right.binds fun _ _ _ _ _ _ us hl => match us, hl with | [_, _], _ => rfl
theorem Txt.b_law : Binds K T.d_law ["_law_script"] [] :=
  T.F_law.binds fun _ _ _ _ _ _ us hl => match us, hl with | [_], _ => rfl
end
end L05
set_option Elab.async false
set_option linter.all false
set_option maxRecDepth 100000
set_option maxHeartbeats 1000000
namespace L05
open PySem PySem.Spec PyProof.Rows L2 KD
section
variable {P : Program} {w : World} {K : PySem.W.Frag} {mg : Str → Option Value} {base : Heap}
/-! ### classes of rows: the object -/
def tagsS (s : KM.Sheet Str) : List Str := tagsIn [] (s.map (·.1))
theorem daAll_dicts {G : Hp} : ∀ {acc : List Str} {k : Nat}, DaKv K G ((acc.zipIdx k).map fun p => ((.inr p.1 : Key), vN p.2)) ((acc.zipIdx k).map fun p => (PyData.str p.1, nD p.2))
  | [], _ => .nil
  | x :: r, k => by
    rw [List.zipIdx_cons, List.map_cons, List.map_cons]
    exact .cons (.int _) daAll_dicts
theorem getKv_tags {t : Str} : ∀ {acc : List Str} {k : Nat}, t ∈ acc → getKv ((acc.zipIdx k).map fun p => (PyData.str p.1, nD p.2)) t = some (nD (k + acc.idxOf t))
  | x :: r, k, h => by
    rw [List.zipIdx_cons, List.map_cons]
    by_cases e : x = t
    · subst e
      rw [List.idxOf_cons_self]
      simp [getKv]
    · rcases List.mem_cons.mp h with h | h
      · exact absurd h.symm e
      · rw [List.idxOf_cons, beq_false_of_ne e]
        simp only [getKv, if_neg e, cond_false]
        rw [getKv_tags h]
        congr 2
        omega
/-- the rows of a class, in order -/
def classRows (cl : List Nat) (n c : Nat) : List Nat := (List.range n).filter fun i => decide (cl[i]? = some c)
theorem classRows_succ {cl : List Nat} {n c : Nat} : classRows cl (n + 1) c = if cl[n]? = some c then classRows cl n c ++ [n] else classRows cl n c := by
  unfold classRows
  rw [List.range_succ, List.filter_append, List.filter_cons, List.filter_nil]
  by_cases h : cl[n]? = some c
  · simp [h]
  · simp [h]
theorem classRows_not {cl : List Nat} {n c : Nat} : n ∉ classRows cl n c := fun h => by
  have := List.mem_range.mp (List.mem_filter.mp h).1
  omega
theorem part_start {s : KM.Sheet Str} : KM.Part s (s.map fun r => (tagsS s).idxOf r.1) ((List.range (tagsS s).length).map (classRows (s.map fun r => (tagsS s).idxOf r.1) s.length)) := by
  obtain ⟨_, k2, k3, k4⟩ := tagsIn_keep (ts := s.map (·.1)) (acc := [])
  have hnd : (tagsS s).Nodup := k4 .nil
  have hin : ∀ r ∈ s, r.1 ∈ tagsS s := fun r hr => k2 _ (List.mem_map_of_mem hr)
  have at_ : ∀ {i c : Nat}, (s.map fun r => (tagsS s).idxOf r.1)[i]? = some c → ∃ r, s[i]? = some r ∧ r ∈ s ∧ (tagsS s).idxOf r.1 = c := fun {i c} h => by
    rw [List.getElem?_map] at h
    obtain ⟨r, hr, e⟩ := Option.map_eq_some_iff.mp h
    exact ⟨r, hr, List.mem_of_getElem? hr, e⟩
  refine ⟨by rw [List.length_map], fun c xs h => ?_, fun i c h => ?_, fun i j c hi hj => ?_, fun i j c hij hi => ?_⟩
  · rw [List.getElem?_map] at h
    obtain ⟨c', hc', rfl⟩ := Option.map_eq_some_iff.mp h
    have hcl := (List.getElem?_eq_some_iff.mp hc').1
    rw [List.length_range] at hcl
    rw [List.getElem?_range hcl] at hc'
    cases hc'
    have hmem : ∀ i, i ∈ classRows (s.map fun r => (tagsS s).idxOf r.1) s.length c ↔ (s.map fun r => (tagsS s).idxOf r.1)[i]? = some c := fun i => by
      unfold classRows
      rw [List.mem_filter, List.mem_range, decide_eq_true_eq]
      refine ⟨fun h => h.2, fun h => ⟨?_, h⟩⟩
      have := (List.getElem?_eq_some_iff.mp h).1
      rw [List.length_map] at this
      exact this
    refine ⟨List.Nodup.sublist List.filter_sublist List.nodup_range, ?_, hmem⟩
    -- the tag at c is the tag of a row
    have ht : (tagsS s)[c] ∈ tagsS s := List.getElem_mem hcl
    rcases k3 _ ht with h | h
    · cases h
    · obtain ⟨r, hr, e⟩ := List.mem_map.mp h
      obtain ⟨i, hi⟩ := List.mem_iff_getElem?.mp hr
      intro z
      have : i ∈ classRows (s.map fun r => (tagsS s).idxOf r.1) s.length c := (hmem i).mpr (by
        rw [List.getElem?_map, hi]
        show some ((tagsS s).idxOf r.1) = some c
        rw [e, List.Nodup.idxOf_getElem hnd])
      rw [z] at this; cases this
  · obtain ⟨r, _, hr, rfl⟩ := at_ h
    rw [List.length_map, List.length_range]
    exact List.idxOf_lt_length_iff.mpr (hin r hr)
  · obtain ⟨r, h1, hr, e1⟩ := at_ hi
    obtain ⟨q, h2, hq, e2⟩ := at_ hj
    rw [KM.tg_at h1, KM.tg_at h2]
    have a1 := List.getElem_idxOf (List.idxOf_lt_length_iff.mpr (hin r hr))
    have a2 := List.getElem_idxOf (List.idxOf_lt_length_iff.mpr (hin q hq))
    rw [← a1, ← a2]
    congr 1
    congr 1
    rw [e1, e2]
  · obtain ⟨r, h1, hr, e1⟩ := at_ hi
    have ht := hij.tag
    rw [KM.tg_at h1] at ht
    have hjl : j < s.length := hij.lt (List.getElem?_eq_some_iff.mp h1).1
    obtain ⟨q, h2, hq⟩ := KM.at_lt hjl
    rw [KM.tg_at h2] at ht
    rw [List.getElem?_map, h2, ← e1, Option.some.inj ht]
    rfl
/-- what a sheet must be to be worked on -/
structure SzOk (s : KM.Sheet Str) : Prop where
  p : 0 < s.length
  l : s.length ≤ 1000
  f : ∀ r ∈ s, r.2.length ≤ 3
  ok : ∃ ar, KM.Ok ar s
def spInit (K : PySem.W.Frag) (C : Addr) : Sp := fun vs H Q _ => ∃ (p dx ra : Addr) (s : KM.Sheet Str) (G : Hp), vs = [.ref p, .ref ra] ∧ Ex G H ∧ H p = some (.ins C dx []) ∧ G p = none ∧ Da K G (.ref ra) (sheetD s) ∧ SzOk s ∧
  ∀ (H' : Hp) (a b : Addr) (ds : List Addr) (cl : List Nat) (ms : List (List Nat)), PtAt C H' p a b ds cl ms → KM.Part s cl ms → Fr [p] H H' → (∀ x ∈ foot p a b ds, x = p ∨ H x = none) → Q .non H'
theorem ok_Partition___init__ (T : Txt K mg) : FnOk P w K mg base CX0 1 T.a_Partition___init__ T.d_Partition___init__ ["self", "rows"] (spInit K T.C_Partition) := by
  refine T.F_Partition___init__.ok sc_Partition___init__ (fun vs H Q E h => ?_) (fun cdv A outer s0 H vs Q E hr h => ?_)
  · obtain ⟨p, dx, ra, s, G, rfl, _⟩ := h
    rfl
  obtain ⟨p, dx, ra, s, G, rfl, eg, hp, gp, x1, hs, q⟩ := h
  have hu := hu_of hr
  have hu1 := hu
  obtain ⟨rvs, hra, hrv⟩ : ∃ rvs, G ra = some (.tup rvs) ∧ DaAll K G rvs (s.map rowD) := by
    cases x1 with | tup h1 h2 => exact ⟨_, h1, h2⟩
  have hlen := hrv.length
  rw [List.length_map] at hlen
  have hsl := hs.l
  refine ⟨_, (pss_cons (ps_set (i := 2) sc_Partition___init__.nd rfl (.inr rfl) pe_dnewK)
    (pss_cons (ps_for PassesOwn.never rfl (pi_tupK K (pv 1)) (pg_tupK K rfl (pgs_cons (pg_name (i := 3) sc_Partition___init__.nd rfl (.inl rfl)) (pgs_cons (pg_name (i := 4) sc_Partition___init__.nd rfl (.inl rfl)) pgs_nil)))
    (pss_one (ps_expr (pe_dsetd (pv 2) (pv 3) (pe_callB call_lenD (by rfl) T.m_len PySem.boot_len (pa_cons (pv 2) pa_nil)) ⟨rfl, rfl, rfl, rfl⟩))))
    (pss_cons (ps_fld (pv 0) (pe_lc (own := [("tag", 3), ("_", 4)]) (g := gTup _ 2 (gCons (gName 3) (gCons (gName 4) gNil))) (tt := tYes) rfl sc_Partition___init__.nd  (pi_tupK K (pv 1)) (blkOk_by (N := N_Partition___init__) (sc := defScope s_Partition___init__) (by decide +kernel)) (fun _ _ _ _ _ => (pg_tupK K rfl (pgs_cons (pg_name (i := 3) sc_Partition___init__.nd rfl (.inl rfl)) (pgs_cons (pg_name (i := 4) sc_Partition___init__.nd rfl (.inl rfl)) pgs_nil)))) (fun _ _ _ _ _ => pts_nil) (fun _ _ _ _ _ => (pe_dget hu1 (pv 2) (pv 3) (fun _ _ => rfl)))) rfl)
    (pss_cons (ps_fld (pv 0) (pe_lc (own := [("_", 4)]) (g := gName 4) (tt := tYes) rfl sc_Partition___init__.nd  (pi_range1 (by rfl) T.m_range (pa_cons (pe_callB call_lenD (by rfl) T.m_len PySem.boot_len (pa_cons (pv 2) pa_nil)) pa_nil)) (blkOk_by (N := N_Partition___init__) (sc := defScope s_Partition___init__) (by decide +kernel)) (fun _ _ _ _ _ => (pg_name (i := 4) sc_Partition___init__.nd rfl (.inl rfl))) (fun _ _ _ _ _ => pts_nil) (fun _ _ _ _ _ => pe_dnewK)) rfl)
    (pss_one (ps_for PassesOwn.never rfl (pi_enumK K (by rfl) T.m_enumerate (pa_cons (pe_fld (pv 0) rfl) pa_nil)) (pg_tupK K rfl (pgs_cons (pg_name (i := 5) sc_Partition___init__.nd rfl (.inl rfl)) (pgs_cons (pg_name (i := 6) sc_Partition___init__.nd rfl (.inl rfl)) pgs_nil)))
    (pss_one (ps_dput hu1 (pe_ix (ix_listK K) (pe_fld (pv 0) rfl) (pv 6) (fun _ _ => rfl)) (pv 5) pe_bl rfl)))))))), ?_⟩
  intro td htd
  have ntp : td ≠ p := fun z => by rw [z, hp] at htd; cases htd
  have gtd : G td = none := eg.fresh htd
  show tSeq _ _ _ [some (.ref p), some (.ref ra), some (.ref td), none, none, none, none] (upd H td (.dK []))
  refine ⟨.ref ra, rfl, ra, rfl, ⟨rvs, SqT.of (by rw [upd_ne (ne_of_none (eg _ _ hra) htd)]; exact eg _ _ hra)⟩, ?_⟩
  refine for_tup (K := K) (a := ra) (xs := rvs) (fun i σ H' => ∃ (o3 o4 : Option V), σ = [some (.ref p), some (.ref ra), some (.ref td), o3, o4, none, none] ∧ H' = upd H td (.dK (kvTg (tagsIn [] ((s.map (·.1)).take i)))))
    ⟨none, none, rfl, rfl⟩ ?_ (fun i x σ H' hx hP => ?_) (fun σ H' hP => ?_)
  · rintro i σ H' _ ⟨_, _, _, rfl⟩
    exact SqT.of (by rw [upd_ne (ne_of_none (eg _ _ hra) htd)]; exact eg _ _ hra)
  · obtain ⟨o3, o4, rfl, rfl⟩ := hP
    obtain ⟨d, hd, dd⟩ := hrv.get hx
    rw [List.getElem?_map] at hd
    obtain ⟨r, hr1, rfl⟩ := Option.map_eq_some_iff.mp hd
    obtain ⟨t, fs⟩ := r
    cases dd with | tup h1 h2 => ?_
    cases h2 with | cons a1 h2 => ?_
    cases h2 with | cons a2 h2 => ?_
    cases h2; cases a1
    have hne := ne_of_none (eg _ _ h1) htd
    refine ⟨_, _, rfl, SqT.of (by rw [upd_ne hne]; exact eg _ _ h1), rfl, _, _, rfl, _, _, rfl, rfl, ?_⟩
    generalize hacc : tagsIn [] ((s.map (·.1)).take i) = acc
    have hal : acc.length ≤ 1000 := by
      have hk := (tagsIn_keep (ts := (s.map (·.1)).take i) (acc := []))
      have hnd := hk.2.2.2 .nil
      rw [hacc] at hnd hk
      have hsub : acc ⊆ (s.map (·.1)).take i := fun x hx => by
        rcases hk.2.2.1 x hx with h | h
        · cases h
        · exact h
      have h1 := hnd.length_le_of_subset hsub
      rw [List.length_take, List.length_map] at h1
      omega
    refine ⟨.ref td, rfl, td, rfl, .inl ⟨_, .inl upd_same⟩, .str t, rfl, .ref td, rfl, td, _, rfl, upd_same, kvTg acc, .inr t, upd_same, rfl, Nat.lt_of_le_of_lt (by rw [kvTg_length]; exact hal) (by decide), fun v hv => ?_, fun hv => ?_⟩
    all_goals
      have tk : (s.map (·.1)).take (i + 1) = (s.map (·.1)).take i ++ [t] := by
        rw [List.take_add_one, List.getElem?_map, hr1]; rfl
    · rw [valV_kvTg] at hv
      have hm : t ∈ acc := Classical.byContradiction fun z => by rw [if_neg z] at hv; cases hv
      refine ⟨_, _, rfl, ?_⟩
      rw [tk, tagsIn_snoc, hacc, if_pos hm]
    · rw [valV_kvTg] at hv
      have hm : t ∉ acc := fun z => by rw [if_pos z] at hv; cases hv
      refine ⟨_, _, rfl, ?_⟩
      rw [tk, tagsIn_snoc, hacc, if_neg hm, upd_upd, kvTg_snoc, putK_new _ (by rw [valV_kvTg, if_neg hm]), kvTg_length]
  · obtain ⟨o3, o4, rfl, rfl⟩ := hP
    have htk : (s.map (·.1)).take rvs.length = s.map (·.1) := List.take_of_length_le (by rw [List.length_map]; omega)
    rw [htk]
    obtain ⟨_, k2, k3, k4⟩ := tagsIn_keep (ts := s.map (·.1)) (acc := [])
    have hin : ∀ r ∈ s, r.1 ∈ tagsS s := fun r hr => k2 _ (List.mem_map_of_mem hr)
    have htl : (tagsS s).length ≤ 1000 := by
      have hsub : tagsS s ⊆ s.map (·.1) := fun x hx => by
        rcases k3 x hx with h | h
        · cases h
        · exact h
      have := (k4 .nil).length_le_of_subset hsub
      rw [List.length_map] at this
      exact Nat.le_trans this hsl
    have e1 : Ex (upd G td (.dK (kvTg (tagsS s)))) (upd H td (.dK (kvTg (tagsS s)))) := eg.both td _
    have xra := x1.mono (Ex.up (o := .dK (kvTg (tagsS s))) gtd)
    have xtd : Da K (upd G td (.dK (kvTg (tagsS s)))) (.ref td) (.dict ((tagsS s).zipIdx.map fun p => (PyData.str p.1, nD p.2))) := .dic upd_same daAll_dicts
    refine st_fld (K := K) (lc_own (K := K) (σ := [some (.ref p), some (.ref ra), some (.ref td), o3, o4, none, none]) (p := fun _ => true) (f := fun d => match d with | .tuple (.str t :: _) => nD ((tagsS s).idxOf t) | _ => .none) (i_tup (e_var (i := 1) rfl xra)) (by rw [List.length_map]; omega) (fun d hd => ?_) (Ex.rf _) e1 fun a acc G2 H2 u2 ha ga h2 da => ?_)
    · obtain ⟨r, hr', rfl⟩ := List.mem_map.mp hd
      refine ⟨_, g_tup2, fun F' σ' ef hP => ?_⟩
      obtain ⟨v, w', dv, dw, rfl⟩ := hP
      exact ⟨rfl, t_yes, fun _ => e_dget (e_var (i := 2) rfl (xtd.mono ef)) (e_var (i := 3) rfl dv) (by have := getKv_tags (k := 0) (hin r hr'); rw [Nat.zero_add] at this; exact this)⟩
    have ef : ((s.map rowD).filter (fun _ => true)).map (fun d => match d with | .tuple (.str t :: _) => nD ((tagsS s).idxOf t) | _ => .none) = (s.map fun r => (tagsS s).idxOf r.1).map nD := by
      rw [List.filter_eq_self.mpr (fun _ _ => rfl), List.map_map, List.map_map]; rfl
    rw [ef] at da
    have hacc := daAll_nats da
    subst hacc
    have hp2 : H2 p = some (.ins T.C_Partition dx []) := u2.m _ _ (by rw [upd_ne ntp.symm]; exact hp)
    refine ⟨.ref p, rfl, p, T.C_Partition, dx, [], rfl, hp2, T.cl_Partition, T.na_Partition_class_of, (by show 0 < 1000; decide), ?_⟩
    have npa : p ≠ a := fun z => by rw [← z, upd_ne ntp.symm, hp] at ha; cases ha
    generalize hH3 : upd H2 p (.ins T.C_Partition dx (putF "class_of" (.ref a) [])) = H3
    have h3p : H3 p = some (.ins T.C_Partition dx (putF "class_of" (.ref a) [])) := by rw [← hH3]; exact upd_same
    have h3td : H3 td = some (.dK (kvTg (tagsS s))) := by rw [← hH3, upd_ne ntp]; exact u2.m _ _ upd_same
    have h3a : H3 a = some (.lst ((s.map fun r => (tagsS s).idxOf r.1).map vN)) := by rw [← hH3, upd_ne npa.symm]; exact h2
    refine ⟨.ref td, rfl, td, _, rfl, h3td, _, rfl, by rw [kvTg_length]; omega, by rw [kvTg_length]; omega, fun b hb => ?_⟩
    have hHb : ∀ {x : Addr}, H3 x = none → H x = none := fun {x} hx => by
      cases z : H x with
      | none => rfl
      | some o =>
        have n1 : x ≠ p := fun y => by rw [y, h3p] at hx; cases hx
        have n2 : x ≠ td := fun y => by rw [y, h3td] at hx; cases hx
        rw [← hH3, upd_ne n1, u2.m x o (by rw [upd_ne n2]; exact z)] at hx
        cases hx
    refine lc_range (lo := 0) (n := ((kvTg (tagsS s)).length : Int).toNat) (fun k H' => ∃ xs : List Addr, Ex H3 H' ∧ H' b = some (.lst (xs.map V.ref)) ∧ xs.length = k ∧ xs.Nodup ∧ b ∉ xs ∧ ∀ x ∈ xs, H3 x = none ∧ H' x = some (.dK []))
      ⟨[], Ex.up hb, upd_same, rfl, .nil, by simp, fun _ h => by cases h⟩ (fun k H' hk hP => ?_) (fun H' hP => ?_)
    · obtain ⟨xs, e', hL, hl, hn, hbx, hx⟩ := hP
      rw [kvTg_length] at hk
      refine ⟨rfl, ?_⟩
      unfold tYes
      dsimp only
      rw [if_pos rfl]
      intro d hd
      have ndb : d ≠ b := fun z => by rw [z, hL] at hd; cases hd
      have ndx : d ∉ xs := fun z => by rw [(hx d z).2] at hd; cases hd
      have h3d : H3 d = none := e'.fresh hd
      refine ⟨xs.map V.ref, by rw [upd_ne ndb.symm]; exact hL, Nat.lt_of_le_of_lt (by rw [List.length_map]; omega : _ ≤ 1000) (by decide), xs ++ [d], fun x o e => ?_, by rw [upd_same, List.map_append]; rfl, by rw [List.length_append, hl]; rfl, ?_, ?_, fun x hxm => ?_⟩
      · rw [upd_ne (fun z => by rw [z, hb] at e; cases e), upd_ne (fun z => by rw [z, h3d] at e; cases e)]
        exact e' x o e
      · exact List.nodup_append.mpr ⟨hn, by simp, fun x hx y hy => by
          rcases List.mem_cons.mp hy with rfl | hy
          · exact fun z => ndx (z ▸ hx)
          · cases hy⟩
      · simp only [List.mem_append, List.mem_singleton, not_or]
        exact ⟨hbx, ndb.symm⟩
      · rcases List.mem_append.mp hxm with h | h
        · refine ⟨(hx x h).1, ?_⟩
          rw [upd_ne (fun z : x = b => hbx (by rw [← z]; exact h)), upd_ne (fun z : x = d => ndx (by rw [← z]; exact h))]
          exact (hx x h).2
        · rcases List.mem_cons.mp h with rfl | h
          · exact ⟨h3d, by rw [upd_ne ndb, upd_same]⟩
          · cases h
    obtain ⟨ds, e4, hL, hl, hn, hbx, hx⟩ := hP
    rw [kvTg_length] at hl
    have hl : ds.length = (tagsS s).length := by omega
    have h4p : H' p = some (.ins T.C_Partition dx (putF "class_of" (.ref a) [])) := e4 _ _ h3p
    refine ⟨.ref p, rfl, p, T.C_Partition, dx, _, rfl, h4p, T.cl_Partition, T.na_Partition_members, (by show 1 < 1000; decide), ?_⟩
    have npb : p ≠ b := fun z => by rw [← z, h3p] at hb; cases hb
    have nab : a ≠ b := fun z => by rw [← z, h3a] at hb; cases hb
    have nx : ∀ x ∈ ds, x ≠ p ∧ x ≠ a ∧ x ≠ b := by
      intro x h
      have h1 := (hx x h).1
      refine ⟨fun z => ?_, fun z => ?_, fun z => hbx (by rw [← z]; exact h)⟩
      · rw [z, h3p] at h1; cases h1
      · rw [z, h3a] at h1; cases h1
    generalize hfs : putF "members" (.ref b) (putF "class_of" (.ref a) []) = fs
    have f1 : fs.lookup ("class_of" : Str) = some (.ref a) := by rw [← hfs, lookup_putF, if_neg (by decide +kernel), lookup_putF, if_pos rfl]
    have f2 : fs.lookup ("members" : Str) = some (.ref b) := by rw [← hfs, lookup_putF, if_pos rfl]
    have f3 : fs.lookup ("by_class" : Str) = none := by rw [← hfs, lookup_putF, if_neg (by decide +kernel), lookup_putF, if_neg (by decide +kernel)]; rfl
    have f4 : fs.lookup ("split_off" : Str) = none := by rw [← hfs, lookup_putF, if_neg (by decide +kernel), lookup_putF, if_neg (by decide +kernel)]; rfl
    generalize hcl : (s.map fun r => (tagsS s).idxOf r.1) = cl at h3a
    have hcll : cl.length = s.length := by rw [← hcl, List.length_map]
    have hclt : ∀ {i c : Nat}, cl[i]? = some c → c < ds.length := fun {i c} h => by
      rw [← hcl, List.getElem?_map] at h
      obtain ⟨r, hr', e⟩ := Option.map_eq_some_iff.mp h
      rw [hl, ← e]
      exact List.idxOf_lt_length_iff.mpr (hin r (List.mem_of_getElem? hr'))
    have P0 : PtAt T.C_Partition (upd H' p (.ins T.C_Partition dx fs)) p a b ds cl ((List.range ds.length).map (classRows cl 0)) := by
      refine ⟨⟨dx, fs, upd_same, f1, f2, f3, f4⟩, by rw [upd_ne npa.symm]; exact e4 _ _ h3a, by rw [upd_ne npb.symm]; exact hL, nab, hn, by rw [List.length_map, List.length_range], fun c d xs hc hxs => ?_⟩
      rw [List.getElem?_map] at hxs
      obtain ⟨c', _, rfl⟩ := Option.map_eq_some_iff.mp hxs
      have hm := List.mem_of_getElem? hc
      rw [upd_ne (nx d hm).1]
      exact (hx d hm).2
    have F0 : Fr [p] H (upd H' p (.ins T.C_Partition dx fs)) := by
      refine Fr.upd (fun x o hxp e => ?_) (.inl List.mem_cons_self)
      have n1 : x ≠ p := fun z => hxp (by simp [z])
      have n2 : x ≠ td := fun z => by rw [z, htd] at e; cases e
      refine e4 x o ?_
      rw [← hH3, upd_ne n1]
      exact u2.m x o (by rw [upd_ne n2]; exact e)
    have fresh : ∀ x ∈ foot p a b ds, x = p ∨ H x = none := fun x hxm => by
      rcases List.mem_cons.mp hxm with rfl | h
      · exact .inl rfl
      refine .inr ?_
      rcases List.mem_cons.mp h with rfl | h
      · have n2 : x ≠ td := fun z => by rw [z, upd_same] at ha; cases ha
        rw [upd_ne n2] at ha
        exact ha
      rcases List.mem_cons.mp h with rfl | h
      · exact hHb hb
      · exact hHb (hx x h).1
    generalize upd H' p (.ins T.C_Partition dx fs) = H5 at P0 F0
    obtain ⟨dx5, fs5, h5p, g1, g2, _⟩ := id P0.hp
    refine ⟨.ref p, rfl, p, _, dx5, fs5, .ref a, rfl, h5p, T.cl_Partition, T.na_Partition_class_of, g1, a, _, rfl, SqL.of P0.ha, ?_⟩
    refine for_it (walk_enum (K := K) (a := a) (xs := cl.map vN)) (fun i σ H' => ∃ (o5 o6 : Option V), σ = [some (.ref p), some (.ref ra), some (.ref td), o3, o4, o5, o6] ∧ Fr [p] H H' ∧ PtAt T.C_Partition H' p a b ds cl ((List.range ds.length).map (classRows cl i)))
      ⟨none, none, rfl, F0, P0⟩ (fun i σ H' _ ⟨_, _, _, _, P⟩ => SqL.of P.ha) (fun i x σ H' H6 hi hP hY => ?_) (fun σ H' hP => ?_)
    · obtain ⟨o5, o6, rfl, F, P⟩ := hP
      obtain ⟨Tt, y, z, rfl, hT, rfl, hy, hz⟩ := hY
      cases hy
      rw [List.length_map] at hi
      have hz : (cl.map vN)[i]? = some z := hz
      rw [List.getElem?_map, List.getElem?_eq_getElem hi] at hz
      cases hz
      have hclt' := hclt (List.getElem?_eq_getElem hi)
      have P1 := P.ex (Ex.up (o := .tup [.int (i : Nat), vN cl[i]]) hT)
      refine ⟨Tt, _, rfl, SqT.of upd_same, rfl, _, _, rfl, _, _, rfl, rfl, ?_⟩
      show sDPut _ _ _ _ [some (.ref p), some (.ref ra), some (.ref td), o3, o4, some (.int (i : Nat)), some (vN cl[i])] _
      obtain ⟨dx6, fs6, h6p, _, g6, _⟩ := id P1.hp
      have hd : ds[cl[i]]? = some ds[cl[i]] := List.getElem?_eq_getElem hclt'
      have hm : ((List.range ds.length).map (classRows cl i))[cl[i]]? = some (classRows cl i cl[i]) := by rw [List.getElem?_map, List.getElem?_range hclt']; rfl
      have hdk := P1.m _ _ _ hd hm
      have hcr : (classRows cl i cl[i]).length ≤ 1000 := by
        unfold classRows
        refine Nat.le_trans (List.length_filter_le _ _) ?_
        rw [List.length_range]; omega
      refine ⟨.ref p, rfl, p, _, dx6, fs6, .ref b, rfl, h6p, T.cl_Partition, T.na_Partition_members, g6, vN cl[i], rfl, b, _, _, .ref ds[cl[i]], rfl, rfl, SqL.of P1.hb, atI_nat (by rw [List.getElem?_map, hd]; rfl), _, rfl, ds[cl[i]], _, rfl,
        DPut.k (k := kN i) hdk (Nat.lt_of_le_of_lt (by rw [List.length_map]; exact hcr) (by decide)), _, _, rfl, ?_, ?_⟩
      · exact Fr.upd (F.tr (Fr.of (Ex.up hT))) (by
          rcases fresh ds[cl[i]] (by simp [List.getElem_mem]) with h | h
          · exact .inl (by simp [h])
          · exact .inr h)
      · rw [putK_kT classRows_not]
        have hmem : ds[cl[i]] ∈ ds := List.getElem_mem hclt'
        obtain ⟨nn1, nn2, nn3⟩ := nx _ hmem
        refine ⟨⟨dx6, fs6, by rw [upd_ne nn1.symm]; exact h6p, ?_⟩, by rw [upd_ne nn2.symm]; exact P1.ha, by rw [upd_ne nn3.symm]; exact P1.hb, P1.ne, P1.nd, by rw [List.length_map, List.length_range], fun c d xs hc hxs => ?_⟩
        · obtain ⟨dx7, fs7, h7p, r⟩ := P1.hp
          rw [h6p] at h7p
          cases h7p
          exact r
        · rw [List.getElem?_map] at hxs
          obtain ⟨c', hc', rfl⟩ := Option.map_eq_some_iff.mp hxs
          have hcl2 := (List.getElem?_eq_some_iff.mp hc).1
          rw [List.getElem?_range hcl2] at hc'
          cases hc'
          rw [classRows_succ, List.getElem?_eq_getElem hi]
          by_cases e : cl[i] = c
          · subst e
            rw [hd] at hc
            cases hc
            rw [upd_same, if_pos rfl]
          · rw [if_neg (fun z => e (Option.some.inj z))]
            have hne : d ≠ ds[cl[i]] := fun z => by
              have h1 : ds[c] = d := Option.some.inj ((List.getElem?_eq_getElem hcl2).symm.trans hc)
              exact e ((List.getElem_inj P1.nd).mp (z.symm.trans h1.symm))
            rw [upd_ne hne]
            exact P1.m c d _ hc (by rw [List.getElem?_map, List.getElem?_range hcl2]; rfl)
    · obtain ⟨o5, o6, rfl, F, P⟩ := hP
      rw [List.length_map, hcll] at P
      rw [hl] at P
      subst hcl
      exact q H' a b ds _ _ P part_start F fresh
end
end L05
set_option Elab.async false
set_option linter.all false
set_option maxRecDepth 100000
set_option maxHeartbeats 1000000
namespace L05
open PySem PySem.Spec PyProof.Rows L2 KD
section
variable {P : Program} {w : World} {K : PySem.W.Frag} {mg : Str → Option Value} {base : Heap}
/-! ### rows by their classes -/
theorem valV_some {k : Key} {v : V} : ∀ {kvs : List (Key × V)}, valV kvs k = some v → (k, v) ∈ kvs
  | [], h => by cases h
  | x :: r, h => by
    by_cases e : x.1 = k
    · rw [valV_pos e] at h
      cases h
      rw [← e]; exact List.mem_cons_self
    · rw [valV_neg e] at h
      exact List.mem_cons_of_mem _ (valV_some h)
theorem valV_no {k : Key} : ∀ {kvs : List (Key × V)}, valV kvs k = none → ∀ kv ∈ kvs, kv.1 ≠ k
  | [], _, _, h => by cases h
  | x :: r, h, kv, hm => by
    by_cases e : x.1 = k
    · rw [valV_pos e] at h; cases h
    · rw [valV_neg e] at h
      rcases List.mem_cons.mp hm with rfl | hm
      · exact e
      · exact valV_no h kv hm
structure HitsOf (cl us : List Nat) (hs : List (Nat × List Nat)) : Prop where
  k : (hs.map (·.1)).Nodup
  m : ∀ (c : Nat) (h : List Nat), (c, h) ∈ hs → h.Nodup ∧ h ≠ [] ∧ ∀ u : Nat, u ∈ h ↔ u ∈ us ∧ cl[u]? = some c
  o : ∀ u ∈ us, ∀ c : Nat, cl[u]? = some c → ∃ h, (c, h) ∈ hs
/-- the dict f of dicts -/
structure HitAt (H0 H : Hp) (f : Addr) (hs : List (Nat × Addr × List Nat)) : Prop where
  hf : H f = some (.dK (hs.map fun x => (kN x.1, V.ref x.2.1)))
  m : ∀ x ∈ hs, H0 x.2.1 = none ∧ H x.2.1 = some (.dK (x.2.2.map kT))
  n : (hs.map (·.2.1)).Nodup
  fn : f ∉ hs.map (·.2.1)
  f0 : H0 f = none
def spBy (K : PySem.W.Frag) (C : Addr) : Sp := fun vs H Q _ => ∃ (p l a b : Addr) (ds : List Addr) (cl : List Nat) (ms : List (List Nat)) (us : List Nat), vs = [.ref p, .ref l] ∧ PtAt C H p a b ds cl ms ∧ SqL K H l (us.map vN) ∧ us.length ≤ 2000000 ∧ (∀ u ∈ us, u < cl.length) ∧
  cl.length ≤ 1000 ∧ ms.length ≤ 1000 ∧ (∀ (i c : Nat), cl[i]? = some c → c < ms.length) ∧
  ∀ (f : Addr) (hs : List (Nat × Addr × List Nat)) (H' : Hp), Ex H H' → HitAt H H' f hs → HitsOf cl us (hs.map fun x => (x.1, x.2.2)) → Q (.ref f) H'
theorem nodup_small {xs : List Nat} {n : Nat} (h : xs.Nodup) (hx : ∀ x ∈ xs, x < n) : xs.length ≤ n := by
  have := h.length_le_of_subset (l₂ := List.range n) (fun x hm => List.mem_range.mpr (hx x hm))
  rwa [List.length_range] at this
theorem ok_Partition_by_class (T : Txt K mg) : FnOk P w K mg base CX0 1 T.a_Partition_by_class T.d_Partition_by_class ["self", "rows"] (spBy K T.C_Partition) := by
  refine T.F_Partition_by_class.ok sc_Partition_by_class (fun vs H Q E h => ?_) (fun cdv A outer s0 H vs Q E hr h => ?_)
  · obtain ⟨p, l, a, b, ds, cl, ms, us, rfl, _⟩ := h
    rfl
  obtain ⟨p, l, a, b, ds, cl, ms, us, rfl, Pt, hS, hul, hu', hcl, hml, hcm, q⟩ := h
  have hu := hu_of hr
  have hu1 := hu
  refine ⟨_, (pss_cons (ps_set (i := 2) sc_Partition_by_class.nd rfl (.inl rfl) pe_dnewK)
    (pss_cons (ps_for PassesOwn.never rfl (pi_listK K (pv 1)) (pg_name (i := 3) sc_Partition_by_class.nd rfl (.inl rfl))
    (pss_one (ps_dput hu1 (pe_dsetd (pv 2) (pe_ix (ix_listK K) (pe_fld (pv 0) rfl) (pv 3) (fun _ _ => rfl)) pe_dnewK ⟨rfl, rfl, rfl, rfl⟩) (pv 3) pe_bl rfl)))
    (pss_one (ps_ret (pv 2))))), ?_⟩
  intro f hf
  have eF : Ex H (upd H f (.dK [])) := Ex.up hf
  have SqM : ∀ {H1 H2 : Hp} {l : Addr} {xs : List V}, Ex H1 H2 → SqL K H1 l xs → SqL K H2 l xs := fun e h => h.elim (fun r => .inl (r.elim (fun x => .inl (e _ _ x)) fun ⟨o, x⟩ => .inr ⟨o, e _ _ x⟩)) .inr
  refine ⟨.ref l, rfl, l, rfl, ⟨_, SqM eF hS⟩, ?_⟩
  refine for_list (K := K) (a := l) (xs := us.map vN) (fun i σ H' => ∃ (o3 : Option V) (hs : List (Nat × Addr × List Nat)), σ = [some (.ref p), some (.ref l), some (.ref f), o3] ∧ Ex H H' ∧ HitAt H H' f hs ∧ HitsOf cl (us.take i) (hs.map fun x => (x.1, x.2.2)))
    ⟨none, [], rfl, eF, ⟨upd_same, (fun _ h => by cases h), .nil, by simp, hf⟩, ⟨.nil, (fun _ _ h => by cases h), fun _ h => by cases h⟩⟩ ?_ (fun i x σ H' hx hP => ?_) (fun σ H' hP => ?_)
  · rintro i σ H' _ ⟨_, _, _, e, _⟩
    exact SqM e hS
  · obtain ⟨o3, hs, rfl, e', A1, A2⟩ := hP
    rw [List.getElem?_map] at hx
    obtain ⟨u, hu2, rfl⟩ := Option.map_eq_some_iff.mp hx
    have hum := List.mem_of_getElem? hu2
    have hul2 := hu' u hum
    have tk : us.take (i + 1) = us.take i ++ [u] := by rw [List.take_add_one, hu2]; rfl
    have hc : cl[u]? = some cl[u] := List.getElem?_eq_getElem hul2
    have P1 := Pt.ex e'
    obtain ⟨dx, fs, h1p, g1, _⟩ := id P1.hp
    have hslen : hs.length ≤ 1000 := by
      have h1 := nodup_small (n := ms.length) A2.k (fun x hx => by
        obtain ⟨y, hy, rfl⟩ := List.mem_map.mp hx
        obtain ⟨_, h2, h3⟩ := A2.m y.1 y.2 hy
        obtain ⟨v, hv⟩ := List.exists_mem_of_ne_nil _ h2
        exact hcm v _ ((h3 v).mp hv).2)
      rw [List.length_map, List.length_map] at h1
      omega
    have hhl : ∀ x ∈ hs, x.2.2.length ≤ 1000 := fun x hx => by
      obtain ⟨h1, _, h3⟩ := A2.m x.1 x.2.2 (List.mem_map_of_mem (f := fun x : Nat × Addr × List Nat => (x.1, x.2.2)) hx)
      exact Nat.le_trans (nodup_small h1 fun v hv => (List.getElem?_eq_some_iff.mp ((h3 v).mp hv).2).1) hcl
    refine ⟨.ref f, rfl, f, rfl, .inl ⟨_, .inl A1.hf⟩, .ref p, rfl, p, _, dx, fs, .ref a, rfl, h1p, T.cl_Partition, T.na_Partition_class_of, g1, vN u, rfl, a, _, _, vN cl[u], rfl, rfl, SqL.of P1.ha, atI_nat (by rw [List.getElem?_map, hc]; rfl), fun d hd => ?_⟩
    have ndf : d ≠ f := fun z => by rw [z, A1.hf] at hd; cases hd
    have hd0 : H d = none := e'.fresh hd
    have nfx : ∀ x ∈ hs, x.2.1 ≠ d := fun x hx z => by
      have := (A1.m x hx).2
      rw [z, hd] at this; cases this
    refine ⟨_, kN cl[u], by rw [upd_ne ndf.symm]; exact A1.hf, rfl, Nat.lt_of_le_of_lt (by rw [List.length_map]; exact hslen) (by decide), fun v hv => ?_, fun hv => ?_⟩
    · -- the class is there
      obtain ⟨⟨c, da, h⟩, hxm, hxe⟩ := List.mem_map.mp (valV_some hv)
      obtain ⟨he1, rfl⟩ := Prod.mk.inj hxe
      have hcc : c = cl[u] := kN_inj he1
      subst hcc
      have hda := (A1.m _ hxm).2
      have hda0 := (A1.m _ hxm).1
      have nda : da ≠ d := nfx _ hxm
      have ndaf : da ≠ f := fun z => A1.fn (z ▸ List.mem_map_of_mem (f := fun x : Nat × Addr × List Nat => x.2.1) hxm)
      obtain ⟨g1', g2', g3'⟩ := A2.m cl[u] h (List.mem_map_of_mem (f := fun x : Nat × Addr × List Nat => (x.1, x.2.2)) hxm)
      refine ⟨vN u, rfl, da, _, rfl, DPut.k (k := kN u) (by rw [upd_ne nda]; exact hda) (Nat.lt_of_le_of_lt (by rw [List.length_map]; exact hhl _ hxm) (by decide)), ?_⟩
      have huq : ∀ x ∈ hs, x.1 = cl[u] → x = (cl[u], da, h) := fun x hx e => by
        obtain ⟨j, hj⟩ := List.mem_iff_getElem?.mp hx
        obtain ⟨j', hj'⟩ := List.mem_iff_getElem?.mp hxm
        have hk := A2.k
        rw [List.map_map] at hk
        have h1 := (List.getElem?_eq_some_iff.mp hj).1
        have h2 := (List.getElem?_eq_some_iff.mp hj').1
        have h3 : (hs.map ((·.1) ∘ fun x : Nat × Addr × List Nat => (x.1, x.2.2)))[j]'(by rw [List.length_map]; exact h1) = (hs.map ((·.1) ∘ fun x : Nat × Addr × List Nat => (x.1, x.2.2)))[j']'(by rw [List.length_map]; exact h2) := by
          rw [List.getElem_map, List.getElem_map]
          show hs[j].1 = hs[j'].1
          rw [Option.some.inj ((List.getElem?_eq_getElem h1).symm.trans hj), Option.some.inj ((List.getElem?_eq_getElem h2).symm.trans hj'), e]
        have h4 := (List.getElem_inj hk).mp h3
        subst h4
        rw [hj] at hj'
        exact Option.some.inj hj'
      generalize hh' : (if u ∈ h then h else h ++ [u]) = h'
      have hput : putK (h.map kT) (kN u) (.bl true) = h'.map kT := by
        rw [← hh']
        by_cases z : u ∈ h
        · rw [if_pos z, putK_kT1 z]
        · rw [if_neg z, putK_kT z]
      rw [hput]
      have hmem' : ∀ v : Nat, v ∈ h' ↔ v ∈ h ∨ v = u := fun v => by
        rw [← hh']
        by_cases z : u ∈ h
        · rw [if_pos z]
          exact ⟨.inl, fun y => y.elim id fun y => y ▸ z⟩
        · rw [if_neg z]
          simp
      have hnd' : h'.Nodup := by
        rw [← hh']
        by_cases z : u ∈ h
        · rw [if_pos z]; exact g1'
        · rw [if_neg z]
          exact List.nodup_append.mpr ⟨g1', by simp, fun x' hx' y hy => by
            have ey : y = u := List.mem_singleton.mp hy
            exact fun e => z (by rw [← ey, ← e]; exact hx')⟩
      -- the new triples
      let up : Nat × Addr × List Nat → Nat × Addr × List Nat := fun x => if x.1 = cl[u] then (x.1, x.2.1, h') else x
      have up1 : ∀ x, (up x).1 = x.1 := fun x => by show (if _ then _ else _ : Nat × Addr × List Nat).1 = _; split <;> rfl
      have up2 : ∀ x, (up x).2.1 = x.2.1 := fun x => by show (if _ then _ else _ : Nat × Addr × List Nat).2.1 = _; split <;> rfl
      have upm : ∀ x ∈ hs, (x.1 = cl[u] ∧ x = (cl[u], da, h) ∧ up x = (cl[u], da, h')) ∨ (x.1 ≠ cl[u] ∧ up x = x) := fun x hx => by
        by_cases e : x.1 = cl[u]
        · have := huq x hx e
          exact .inl ⟨e, this, by show (if _ then _ else _) = _; rw [if_pos e, this]⟩
        · exact .inr ⟨e, by show (if _ then _ else _) = _; rw [if_neg e]⟩
      refine ⟨_, hs.map up, rfl, fun x o e => ?_, ⟨?_, fun x hx => ?_, ?_, ?_, A1.f0⟩, ⟨?_, fun c g hg => ?_, fun v hv c hc' => ?_⟩⟩
      · rw [upd_ne (fun z => by rw [z, hda0] at e; cases e), upd_ne (fun z => by rw [z, hd0] at e; cases e)]
        exact e' x o e
      · rw [upd_ne ndaf.symm, upd_ne ndf.symm, A1.hf, List.map_map]
        congr 2
        refine List.map_congr_left fun x hx => ?_
        show (kN x.1, V.ref x.2.1) = (kN (up x).1, V.ref (up x).2.1)
        rw [up1, up2]
      · obtain ⟨y, hy, rfl⟩ := List.mem_map.mp hx
        rw [up2]
        refine ⟨(A1.m y hy).1, ?_⟩
        rcases upm y hy with ⟨_, e1, e2⟩ | ⟨e1, e2⟩
        · rw [e2, e1]; exact upd_same
        · rw [e2]
          have hne : y.2.1 ≠ da := fun z => by
            obtain ⟨j, hj⟩ := List.mem_iff_getElem?.mp hy
            obtain ⟨j', hj'⟩ := List.mem_iff_getElem?.mp hxm
            have h1 := (List.getElem?_eq_some_iff.mp hj).1
            have h2 := (List.getElem?_eq_some_iff.mp hj').1
            have h3 : (hs.map (·.2.1))[j]'(by rw [List.length_map]; exact h1) = (hs.map (·.2.1))[j']'(by rw [List.length_map]; exact h2) := by
              rw [List.getElem_map, List.getElem_map, Option.some.inj ((List.getElem?_eq_getElem h1).symm.trans hj), Option.some.inj ((List.getElem?_eq_getElem h2).symm.trans hj'), z]
            have h4 := (List.getElem_inj A1.n).mp h3
            subst h4
            rw [hj] at hj'
            exact e1 (by rw [Option.some.inj hj'])
          rw [upd_ne hne, upd_ne (nfx y hy)]
          exact (A1.m y hy).2
      · rw [List.map_map]
        have : (hs.map ((·.2.1) ∘ up)) = hs.map (·.2.1) := List.map_congr_left fun x _ => up2 x
        rw [this]; exact A1.n
      · rw [List.map_map]
        have : (hs.map ((·.2.1) ∘ up)) = hs.map (·.2.1) := List.map_congr_left fun x _ => up2 x
        rw [this]; exact A1.fn
      · have hk := A2.k
        rw [List.map_map] at hk ⊢
        rw [List.map_map]
        have : hs.map (((·.1) ∘ fun x : Nat × Addr × List Nat => (x.1, x.2.2)) ∘ up) = hs.map ((·.1) ∘ fun x : Nat × Addr × List Nat => (x.1, x.2.2)) := List.map_congr_left fun x _ => up1 x
        rw [this]; exact hk
      · rw [List.map_map] at hg
        obtain ⟨y, hy, hye⟩ := List.mem_map.mp hg
        have hye : ((up y).1, (up y).2.2) = (c, g) := hye
        rw [tk]
        rcases upm y hy with ⟨_, e1, e2⟩ | ⟨e1, e2⟩
        · rw [e2] at hye
          cases hye
          have hne' : h' ≠ [] := fun z => by
            have := (hmem' u).mpr (.inr rfl)
            rw [z] at this; cases this
          refine ⟨hnd', hne', fun v => ?_⟩
          rw [hmem', g3', List.mem_append, List.mem_singleton]
          refine ⟨fun y => y.elim (fun y => ⟨.inl y.1, y.2⟩) fun y => ⟨.inr y, by rw [y]; exact hc⟩, fun y => y.1.elim (fun z => .inl ⟨z, y.2⟩) .inr⟩
        · rw [e2] at hye
          cases hye
          obtain ⟨k1, k2, k3⟩ := A2.m y.1 y.2.2 (List.mem_map_of_mem (f := fun x : Nat × Addr × List Nat => (x.1, x.2.2)) hy)
          refine ⟨k1, k2, fun v => ?_⟩
          rw [k3, List.mem_append, List.mem_singleton]
          refine ⟨fun y => ⟨.inl y.1, y.2⟩, fun z => z.1.elim (fun x => ⟨x, z.2⟩) fun x => ?_⟩
          rw [x, hc] at z
          exact absurd (Option.some.inj z.2).symm e1
      · rw [tk] at hv
        have : ∃ g, (c, g) ∈ hs.map fun x => (x.1, x.2.2) := by
          rcases List.mem_append.mp hv with hv | hv
          · exact A2.o v hv c hc'
          · rcases List.mem_cons.mp hv with rfl | hv
            · rw [hc] at hc'
              cases hc'
              exact ⟨h, List.mem_map_of_mem (f := fun x : Nat × Addr × List Nat => (x.1, x.2.2)) hxm⟩
            · cases hv
        obtain ⟨g, hg⟩ := this
        obtain ⟨y, hy, hye⟩ := List.mem_map.mp hg
        refine ⟨(up y).2.2, ?_⟩
        rw [List.map_map]
        refine List.mem_map.mpr ⟨y, hy, ?_⟩
        show ((up y).1, (up y).2.2) = _
        rw [up1, (Prod.mk.inj hye).1]
    · -- a new class
      have hno := valV_no hv
      have hnc : ∀ x ∈ hs, x.1 ≠ cl[u] := fun x hx z => hno _ (List.mem_map_of_mem (f := fun x : Nat × Addr × List Nat => (kN x.1, V.ref x.2.1)) hx) (by rw [z])
      refine ⟨vN u, rfl, d, _, rfl, DPut.k (k := kN u) (kvs := []) (by rw [upd_ne ndf, upd_same]) (by decide), ?_⟩
      rw [putK_new _ hv]
      have e0 : putK ([] : List (Key × V)) (kN u) (.bl true) = [u].map kT := rfl
      rw [e0]
      refine ⟨_, hs ++ [(cl[u], d, [u])], rfl, fun x o e => ?_, ⟨?_, fun x hx => ?_, ?_, ?_, A1.f0⟩, ⟨?_, fun c g hg => ?_, fun v hv' c hc' => ?_⟩⟩
      · rw [upd_ne (fun z => by rw [z, hd0] at e; cases e), upd_ne (fun z => by rw [z, A1.f0] at e; cases e), upd_ne (fun z => by rw [z, hd0] at e; cases e)]
        exact e' x o e
      · rw [upd_ne ndf.symm, upd_same, List.map_append]; rfl
      · rcases List.mem_append.mp hx with hx | hx
        · refine ⟨(A1.m x hx).1, ?_⟩
          rw [upd_ne (nfx x hx), upd_ne (fun z => A1.fn (by rw [← z]; exact List.mem_map_of_mem (f := fun x : Nat × Addr × List Nat => x.2.1) hx)), upd_ne (nfx x hx)]
          exact (A1.m x hx).2
        · rcases List.mem_cons.mp hx with rfl | hx
          · exact ⟨hd0, upd_same⟩
          · cases hx
      · rw [List.map_append]
        exact List.nodup_append.mpr ⟨A1.n, by simp, fun x hx y hy => by
          obtain ⟨z, hz, rfl⟩ := List.mem_map.mp hx
          rcases List.mem_cons.mp hy with rfl | hy
          · exact nfx z hz
          · cases hy⟩
      · rw [List.map_append, List.mem_append, not_or]
        exact ⟨A1.fn, by simp [ndf.symm]⟩
      · rw [List.map_append, List.map_append]
        refine List.nodup_append.mpr ⟨A2.k, by simp, fun x hx y hy => ?_⟩
        obtain ⟨z, hz, rfl⟩ := List.mem_map.mp hx
        obtain ⟨z', hz', rfl⟩ := List.mem_map.mp hz
        simp at hy
        subst hy
        exact hnc z' hz'
      · rw [List.map_append] at hg
        rw [tk]
        rcases List.mem_append.mp hg with hg | hg
        · obtain ⟨k1, k2, k3⟩ := A2.m c g hg
          obtain ⟨y, hy, hye⟩ := List.mem_map.mp hg
          have hcne : c ≠ cl[u] := by rw [← (Prod.mk.inj hye).1]; exact hnc y hy
          refine ⟨k1, k2, fun v => ?_⟩
          rw [k3, List.mem_append, List.mem_singleton]
          refine ⟨fun y => ⟨.inl y.1, y.2⟩, fun z => z.1.elim (fun x => ⟨x, z.2⟩) fun x => ?_⟩
          rw [x, hc] at z
          exact absurd (Option.some.inj z.2).symm hcne
        · simp at hg
          obtain ⟨rfl, rfl⟩ := hg
          refine ⟨by simp, by simp, fun v => ?_⟩
          rw [List.mem_append, List.mem_singleton]
          refine ⟨fun y => ⟨.inr y, by rw [y]; exact hc⟩, fun y => y.1.elim (fun z => ?_) id⟩
          obtain ⟨g, hg⟩ := A2.o v z _ y.2
          obtain ⟨y', hy', hye⟩ := List.mem_map.mp hg
          exact absurd (Prod.mk.inj hye).1 (hnc y' hy')
      · rw [tk] at hv'
        rw [List.map_append]
        rcases List.mem_append.mp hv' with h | h
        · obtain ⟨g, hg⟩ := A2.o v h c hc'
          exact ⟨g, List.mem_append_left _ hg⟩
        · rcases List.mem_cons.mp h with rfl | h
          · rw [hc] at hc'
            cases hc'
            exact ⟨[v], List.mem_append_right _ List.mem_cons_self⟩
          · cases h
  · obtain ⟨o3, hs, rfl, e', A1, A2⟩ := hP
    rw [List.length_map, List.take_length] at A2
    exact ⟨.ref f, rfl, q f hs H' e' A1 A2⟩
end
end L05
set_option Elab.async false
set_option linter.all false
set_option maxRecDepth 100000
set_option maxHeartbeats 1000000
namespace L05
open PySem PySem.Spec PyProof.Rows L2 KD
section
variable {P : Program} {w : World} {K : PySem.W.Frag} {mg : Str → Option Value} {base : Heap}
/-! ### a class is split -/
def spSplit (K : PySem.W.Frag) (C : Addr) : Sp := fun vs H Q _ => ∃ (p a b hd : Addr) (ds : List Addr) (cl : List Nat) (ms : List (List Nat)) (old : Nat) (hs xs : List Nat) (s : KM.Sheet Str),
  vs = [.ref p, vN old, .ref hd] ∧ PtAt C H p a b ds cl ms ∧ KM.Part s cl ms ∧ s.length ≤ 1000 ∧ ms[old]? = some xs ∧ H hd = some (.dK (hs.map kT)) ∧ hd ∉ foot p a b ds ∧ hs.Nodup ∧ hs ≠ [] ∧ (∀ u ∈ hs, u ∈ xs) ∧ hs.length < xs.length ∧
  ∀ (mv cl' xs' : List Nat) (ms' : List (List Nat)) (d' : Addr) (H' : Hp), KM.Cut cl ms old xs mv cl' xs' ms' → ((∀ i, i ∈ mv ↔ i ∈ hs) ∨ ∀ i, i ∈ mv ↔ i ∈ xs ∧ i ∉ hs) →
    PtAt C H' p a b (ds ++ [d']) cl' ms' → Fr (foot p a b ds) H H' → (d' = hd ∨ H d' = none) → Q (vN ms.length) H'
theorem set_eq_self {α : Type} {ms : List α} {i : Nat} {x : α} (h : ms[i]? = some x) : ms.set i x = ms := by
  refine List.ext_getElem? fun j => ?_
  by_cases e : i = j
  · subst e
    rw [List.getElem?_set_self (List.getElem?_eq_some_iff.mp h).1, h]
  · rw [List.getElem?_set_ne e]
theorem map_kT_get {mv : List Nat} {i : Nat} {k : Key} {v : V} (h : (mv.map kT)[i]? = some (k, v)) : ∃ j, mv[i]? = some j ∧ k = kN j ∧ v = .bl true := by
  rw [List.getElem?_map] at h
  obtain ⟨j, hj, e⟩ := Option.map_eq_some_iff.mp h
  obtain ⟨e1, e2⟩ := Prod.mk.inj e
  exact ⟨j, hj, e1.symm, e2.symm⟩
theorem ok_Partition_split_off (T : Txt K mg) : FnOk P w K mg base CX0 1 T.a_Partition_split_off T.d_Partition_split_off ["self", "old", "hit"] (spSplit K T.C_Partition) := by
  refine T.F_Partition_split_off.ok sc_Partition_split_off (fun vs H Q E h => ?_) (fun cdv A outer s0 H vs Q E hr h => ?_)
  · obtain ⟨p, a, b, hd, ds, cl, ms, old, hs, xs, s, rfl, _⟩ := h
    rfl
  obtain ⟨p, a, b, hd, ds, cl, ms, old, hs, xs, s, rfl, Pt, Pa, hsl, hx, hhd, hnf, hnd, hne, hsub, hlt, q⟩ := h
  have hu := hu_of hr
  have hu1 := hu
  have hclr : cl.length = s.length := Pa.l
  have hmsr := Pa.small
  obtain ⟨x1, x2, x3⟩ := Pa.m old xs hx
  have hxlt : ∀ i ∈ xs, i < s.length := fun i hi => by rw [← hclr]; exact (List.getElem?_eq_some_iff.mp ((x3 i).mp hi)).1
  have hxl : xs.length ≤ 1000 := by
    have := nodup_small x1 hxlt
    omega
  have hol := (List.getElem?_eq_some_iff.mp hx).1
  have hd0 : ds[old]? = some (ds[old]'(by rw [Pt.l]; exact hol)) := List.getElem?_eq_getElem _
  generalize ds[old]'(by rw [Pt.l]; exact hol) = d0 at hd0
  have hd0m := List.mem_of_getElem? hd0
  have hdk := Pt.m old d0 xs hd0 hx
  obtain ⟨dx, fs, h1p, g1, g2, _⟩ := id Pt.hp
  refine ⟨_, (pss_cons (ps_set (i := 3) sc_Partition_split_off.nd rfl (.inl rfl) (pv 2))
    (pss_cons (ps_if (pt_cmpR op_gt (pe_op op_mul pe_int (pe_callB call_lenD (by rfl) T.m_len PySem.boot_len (pa_cons (pv 2) pa_nil))) (pe_callB call_lenD (by rfl) T.m_len PySem.boot_len (pa_cons (pe_ix (ix_listK K) (pe_fld (pv 0) rfl) (pv 1) (fun _ _ => rfl)) pa_nil)) (nomark _))
    (pss_one (ps_lock (ps_setDc (i := 3) (own := [("row", 5)]) (g := gName 5) rfl sc_Partition_split_off.nd rfl rfl (sw_trueD rfl rfl rfl (by decide +kernel)) (pi_keys (pe_ix (ix_listK K) (pe_fld (pv 0) rfl) (pv 1) (fun _ _ => rfl))) (blkOk_by (N := N_Partition_split_off) (sc := defScope s_Partition_split_off) (by decide +kernel)) (fun _ _ _ _ _ => (pg_name (i := 5) sc_Partition_split_off.nd rfl (.inl rfl))) (fun _ _ _ _ _ => pts_one (pt_cmp (pc_dnotin hu1 (pv 5) (pv 2)) rfl)) (fun _ _ _ _ _ => (pv 5)) (fun _ _ _ _ _ => pe_bl))))
    pss_nil)
    (pss_cons (ps_set (i := 4) sc_Partition_split_off.nd rfl (.inl rfl) (pe_callB (call_lenK K) (by rfl) T.m_len PySem.boot_len (pa_cons (pe_fld (pv 0) rfl) pa_nil)))
    (pss_cons (ps_lock (ps_for PassesOwn.never rfl (pi_keys (pv 3)) (pg_name (i := 5) sc_Partition_split_off.nd rfl (.inl rfl))
    (pss_cons (ps_ddel (pe_ix (ix_listK K) (pe_fld (pv 0) rfl) (pv 1) (fun _ _ => rfl)) (pv 5))
    (pss_one (ps_asg (pv 4) (pg_sub (pe_fld (pv 0) rfl) (pv 5) set_list))))))
    (pss_cons (ps_expr (pe_bm PySem.F.plainAttrs_list PySem.F.slot_list_append PySem.F.type_list_append mt_append (pe_fld (pv 0) rfl) (pa_cons (pv 3) pa_nil)))
    (pss_one (ps_ret (pv 4)))))))), ?_⟩
  refine ⟨.ref hd, rfl, ?_⟩
  dsimp only
  refine seq_with (fun σ H1 => ∃ (mvd : Addr) (mv : List Nat) (o5 : Option V), σ = [some (.ref p), some (vN old), some (.ref hd), some (.ref mvd), none, o5] ∧ Ex H H1 ∧ (mvd = hd ∨ H mvd = none) ∧ mvd ∉ foot p a b ds ∧ H1 mvd = some (.dK (mv.map kT)) ∧ mv.Nodup ∧ (∀ i ∈ mv, i ∈ xs) ∧ mv ≠ [] ∧ (∃ i, i ∈ xs ∧ i ∉ mv) ∧ ((∀ i, i ∈ mv ↔ i ∈ hs) ∨ ∀ i, i ∈ mv ↔ i ∈ xs ∧ i ∉ hs))
    (fun σ H1 ⟨mvd, mv, o5, es, eH, hor, mnf, hmv, mnd, msub, mne, mex, mor⟩ => ?_) (fun U hU => ?_)
  · subst es
    have P1 := Pt.ex eH
    have hb1 := P1.hb
    have hmnf : H1 mvd = some (.dK (mv.map kT)) := hmv
    refine ⟨.ref p, rfl, p, _, dx, fs, .ref b, rfl, eH _ _ h1p, T.cl_Partition, T.na_Partition_members, g2, b, _, rfl, .inl (SqL.of hb1), ?_⟩
    dsimp only
    refine ⟨mvd, _, hmv, trivial, fun od => ?_⟩
    refine ⟨.ref mvd, rfl, mvd, od, rfl, .inl ⟨_, upd_same, ?_⟩⟩
    have ndm : ∀ {x : Addr}, x ∈ foot p a b ds → x ≠ mvd := fun {x} hx z => mnf (by rw [← z]; exact hx)
    refine for_it (walk_keys (d := mvd) (o := od) (kvs := mv.map kT)) (fun i σ H' => ∃ (o5 : Option V) (cl' xs' : List Nat), σ = [some (.ref p), some (vN old), some (.ref hd), some (.ref mvd), some (.int ((ds.map V.ref).length : Nat)), o5] ∧ H' mvd = some (.frz od (.dK (mv.map kT))) ∧ Fr (foot p a b ds) (upd H1 mvd (.frz od (.dK (mv.map kT)))) H' ∧
        PtAt T.C_Partition H' p a b ds cl' (ms.set old xs') ∧ cl'.length = cl.length ∧ (∀ j : Nat, cl'[j]? = if j ∈ mv.take i then some ms.length else cl[j]?) ∧ xs'.Nodup ∧ ∀ j, j ∈ xs' ↔ j ∈ xs ∧ j ∉ mv.take i)
      ⟨o5, cl, xs, rfl, upd_same, Fr.rf, ?_, rfl, fun j => by simp, x1, fun j => by simp⟩ (fun i σ H' _ ⟨_, _, _, _, h, _⟩ => h) (fun i x σ H' H6 hi hP hY => ?_) (fun σ H' hP => ?_)
    · rw [set_eq_self hx]
      exact P1.other mnf
    · obtain ⟨o5', cl', xs', rfl, hfz, hfr, P', hcl, hca, hxn, hxm⟩ := hP
      obtain ⟨rfl, k, v, hkv, rfl⟩ := hY
      obtain ⟨j, hj, rfl, rfl⟩ := map_kT_get hkv
      rw [List.length_map] at hi
      have hjm := List.mem_of_getElem? hj
      have tk : mv.take (i + 1) = mv.take i ++ [j] := by rw [List.take_add_one, hj]; rfl
      have hjn : j ∉ mv.take i := fun z => by
        obtain ⟨q, hq⟩ := List.mem_iff_getElem?.mp z
        have hq1 := (List.getElem?_eq_some_iff.mp hq).1
        rw [List.length_take] at hq1
        rw [List.getElem?_take_of_lt (by omega)] at hq
        have h1 := (List.getElem?_eq_some_iff.mp hq)
        have h2 := (List.getElem?_eq_some_iff.mp hj)
        have := (List.getElem_inj mnd).mp (h1.2.trans h2.2.symm)
        omega
      have hjx := msub j hjm
      have hjx' : j ∈ xs' := (hxm j).mpr ⟨hjx, hjn⟩
      obtain ⟨dx', fs', h1', g1', g2', _⟩ := id P'.hp
      have hmo : (ms.set old xs')[old]? = some xs' := List.getElem?_set_self hol
      have hdk' := P'.m old d0 xs' hd0 hmo
      have hcl'l : cl'.length = s.length := hcl.trans hclr
      have hatD : atI (ds.map V.ref) (old : Int) = some (.ref d0) := atI_nat (by rw [List.getElem?_map, hd0]; rfl)
      refine ⟨.ref p, rfl, p, _, dx', fs', .ref b, rfl, h1', T.cl_Partition, T.na_Partition_members, g2', vN old, rfl, b, _, _, .ref d0, rfl, rfl, SqL.of P'.hb, hatD, vN j, rfl, d0, _, kN j, rfl, hdk', rfl, by rw [valV_kT, if_pos hjx']; rfl, ?_⟩
      rw [dropK_kT]
      have P7 := P'.setD (xs' := xs'.filter fun x => decide (x ≠ j)) hd0
      rw [List.set_set] at P7
      have hd0n : d0 ≠ mvd := ndm (by simp [hd0m])
      have han : a ≠ mvd := ndm (by simp)
      have F7 : Fr (foot p a b ds) (upd H1 mvd (.frz od (.dK (mv.map kT)))) (upd H6 d0 (.dK ((xs'.filter fun x => decide (x ≠ j)).map kT))) := Fr.upd hfr (.inl (by simp [hd0m]))
      have hz7 : upd H6 d0 (.dK ((xs'.filter fun x => decide (x ≠ j)).map kT)) mvd = some (.frz od (.dK (mv.map kT))) := by rw [upd_ne hd0n.symm]; exact hfz
      generalize upd H6 d0 (.dK ((xs'.filter fun x => decide (x ≠ j)).map kT)) = H7 at P7 F7 hz7
      obtain ⟨dx7, fs7, h7p, g7, _, _⟩ := id P7.hp
      refine ⟨.int ((ds.map V.ref).length : Nat), rfl, .ref p, rfl, p, _, dx7, fs7, .ref a, rfl, h7p, T.cl_Partition, T.na_Partition_class_of, g7, vN j, rfl, a, _, (j : Int), j, rfl, rfl, P7.ha, Evl.ixN_nat (by rw [List.length_map, hcl'l]; exact hxlt j hjx), ?_⟩
      have en : ((ds.map V.ref).length : Nat) = ms.length := by rw [List.length_map, Pt.l]
      rw [en]
      have em : (cl'.map vN).set j (.int (ms.length : Nat)) = (cl'.set j ms.length).map vN := by rw [List.map_set]
      refine ⟨_, cl'.set j ms.length, xs'.filter fun x => decide (x ≠ j), rfl, by rw [upd_ne han.symm]; exact hz7, Fr.upd F7 (.inl (by simp)), ?_, by rw [List.length_set]; exact hcl, fun i' => ?_, hxn.filter _, fun i' => ?_⟩
      · rw [em]; exact P7.setC
      · rw [tk, List.getElem?_set]
        by_cases e : j = i'
        · subst e
          rw [if_pos rfl, if_pos (by rw [hcl'l]; exact hxlt j hjx), if_pos (by simp)]
        · rw [if_neg e, hca]
          have : i' ∈ mv.take i ++ [j] ↔ i' ∈ mv.take i := by simp [Ne.symm e]
          simp only [this]
      · rw [tk, List.mem_filter, hxm, decide_eq_true_eq, List.mem_append, List.mem_singleton, not_or]
        exact ⟨fun h => ⟨h.1.1, h.1.2, h.2⟩, fun h => ⟨⟨h.1, h.2.1⟩, h.2.2⟩⟩
    · obtain ⟨o5', cl', xs', rfl, hfz, hfr, P', hcl, hca, hxn, hxm⟩ := hP
      rw [List.length_map] at hca hxm
      rw [List.take_length] at hca hxm
      refine ⟨hfz, ?_⟩
      dsimp only
      have P8 := P'.other (o := .dK (mv.map kT)) mnf
      have h8m : upd H' mvd (.dK (mv.map kT)) mvd = some (.dK (mv.map kT)) := upd_same
      have F8 : Fr (foot p a b ds) H (upd H' mvd (.dK (mv.map kT))) := fun x o hx e => by
        by_cases z : x = mvd
        · subst z
          rw [upd_same]
          have := eH _ _ e
          rw [hmv] at this
          exact this
        · rw [upd_ne z]
          refine hfr x o hx ?_
          rw [upd_ne z]
          exact eH _ _ e
      generalize upd H' mvd (.dK (mv.map kT)) = H8 at P8 h8m F8
      obtain ⟨dx8, fs8, h8p, _, g8, _⟩ := id P8.hp
      refine ⟨.ref p, rfl, p, _, dx8, fs8, .ref b, rfl, h8p, T.cl_Partition, T.na_Partition_members, g8, .inl ⟨rfl, _, SqL.of P8.hb⟩, .ref mvd, rfl, b, _, _, rfl, rfl, P8.hb, Nat.lt_of_le_of_lt (by rw [List.length_map, Pt.l]; omega : _ ≤ 1000) (by decide), _, rfl, ?_⟩
      dsimp only
      have hlm : (List.map V.ref ds).length = ms.length := by rw [List.length_map, Pt.l]
      rw [hlm]
      refine q mv cl' xs' (ms.set old xs' ++ [mv]) mvd _ ⟨hx, mnd, msub, mne, mex, hcl, hca, hxn, hxm, rfl⟩ mor (P8.app h8m mnf) (Fr.upd F8 (.inl (by simp))) hor
  · have hatD : atI (ds.map V.ref) (old : Int) = some (.ref d0) := atI_nat (by rw [List.getElem?_map, hd0]; rfl)
    refine ⟨.ref hd, rfl, hd, _, rfl, hhd, _, _, rfl, rfl, .inl ⟨by decide, by decide⟩, .ref p, rfl, p, _, dx, fs, .ref b, rfl, h1p, T.cl_Partition, T.na_Partition_members, g2, vN old, rfl, b, _, _, .ref d0, rfl, rfl, SqL.of Pt.hb, hatD, d0, _, rfl, hdk, _, _, rfl, rfl, _, rfl, ?_⟩
    dsimp only
    have hnat : ∀ {x y : Nat}, decide (((x : Nat) : Int) < 2 * ((y : Nat) : Int)) = decide (x < 2 * y) := fun {x y} => by
      rw [decide_eq_decide]; omega
    rw [hnat, List.length_map, List.length_map]
    by_cases hgt : xs.length < 2 * hs.length
    · rw [if_pos (by simpa using hgt)]
      refine ⟨d0, _, hdk, trivial, fun od => ?_⟩
      have n1 : p ≠ d0 := (Pt.dp hd0m).symm
      have n2 : b ≠ d0 := (Pt.db hd0m).symm
      have n3 : hd ≠ d0 := fun z => hnf (by simp [z, hd0m])
      refine ⟨.ref p, rfl, p, _, dx, fs, .ref b, rfl, by rw [upd_ne n1]; exact h1p, T.cl_Partition, T.na_Partition_members, g2, vN old, rfl, b, _, _, .ref d0, rfl, rfl, SqL.of (by rw [upd_ne n2]; exact Pt.hb), hatD, d0, od, rfl, .inl ⟨_, upd_same, fun D hD => ?_⟩⟩
      obtain ⟨nD, hD0⟩ := upd_ne_none hD
      have nDh : hd ≠ D := fun z => by rw [← z, hhd] at hD0; cases hD0
      refine dc_it (walk_keys (d := d0) (o := od) (kvs := xs.map kT)) (fun i H' => H' = upd (upd H d0 (.frz od (.dK (xs.map kT)))) D (.dK (((xs.take i).filter fun x => decide (x ∉ hs)).map kT))) rfl (fun i H' _ e => by rw [e, upd_ne nD.symm]; exact upd_same) (fun i x H' H6 hi hP hY => ?_) (fun H' hP => ?_)
      · subst hP
        obtain ⟨rfl, k, v, hkv, rfl⟩ := hY
        obtain ⟨j, hj, rfl, rfl⟩ := map_kT_get hkv
        have tk : xs.take (i + 1) = xs.take i ++ [j] := by rw [List.take_add_one, hj]; rfl
        refine ⟨rfl, vN j, rfl, .ref hd, rfl, hd, _, rfl, DGet.k (k := kN j) (by rw [upd_ne nDh, upd_ne n3]; exact hhd), _, rfl, ?_⟩
        rw [valV_kT]
        by_cases hjh : j ∈ hs
        · rw [if_pos hjh]
          show upd _ _ _ = _
          rw [tk, List.filter_append, List.filter_cons, if_neg (by simpa using hjh), List.filter_nil, List.append_nil]
        · rw [if_neg hjh]
          refine ⟨vN j, rfl, _, kN j, rfl, upd_same, ?_, ?_⟩
          · refine Nat.lt_of_le_of_lt ?_ (by decide : 1000 < sizeLine)
            rw [List.length_map]
            refine Nat.le_trans (List.length_filter_le _ _) ?_
            rw [List.length_take]
            omega
          · rw [upd_upd, putK_kT, tk, List.filter_append, List.filter_cons, if_pos (by simpa using hjh), List.filter_nil]
            intro z
            have hz := (List.mem_filter.mp z).1
            obtain ⟨q, hq⟩ := List.mem_iff_getElem?.mp hz
            have hq1 := (List.getElem?_eq_some_iff.mp hq).1
            rw [List.length_take] at hq1
            rw [List.getElem?_take_of_lt (by omega)] at hq
            have h1 := (List.getElem?_eq_some_iff.mp hq)
            have h2 := (List.getElem?_eq_some_iff.mp hj)
            have := (List.getElem_inj x1).mp (h1.2.trans h2.2.symm)
            omega
      · subst hP
        rw [List.length_map, List.take_length]
        refine ⟨by rw [upd_ne nD.symm]; exact upd_same, hU _ _ ⟨D, xs.filter fun x => decide (x ∉ hs), none, rfl, fun x o e => ?_, .inr hD0, fun z => ?_, by rw [upd_ne nD, upd_same], x1.filter _, fun i hi => (List.mem_filter.mp hi).1, ?_, ?_, .inr fun i => by rw [List.mem_filter, decide_eq_true_eq]⟩⟩
        · by_cases z : x = d0
          · subst z
            rw [upd_same]
            rw [hdk] at e
            exact e
          · rw [upd_ne z, upd_ne (fun y => by rw [y, hD0] at e; cases e), upd_ne z]
            exact e
        · rcases List.mem_cons.mp z with e | z
          · rw [e, h1p] at hD0; cases hD0
          rcases List.mem_cons.mp z with e | z
          · rw [e, Pt.ha] at hD0; cases hD0
          rcases List.mem_cons.mp z with e | z
          · rw [e, Pt.hb] at hD0; cases hD0
          · obtain ⟨_, h2⟩ := Pt.dk z
            rw [hD0] at h2; cases h2
        · intro z
          have hall : ∀ x ∈ xs, x ∈ hs := fun x hx => Classical.byContradiction fun y => by
            have : x ∈ xs.filter fun x => decide (x ∉ hs) := List.mem_filter.mpr ⟨hx, by simpa using y⟩
            rw [z] at this; cases this
          have := x1.length_le_of_subset hall
          omega
        · obtain ⟨v, hv⟩ := List.exists_mem_of_ne_nil _ hne
          exact ⟨v, hsub v hv, fun z => by simpa [hv] using (List.mem_filter.mp z).2⟩
    · rw [if_neg (by simpa using hgt)]
      refine hU _ _ ⟨hd, hs, none, rfl, Ex.rf _, .inl rfl, hnf, hhd, hnd, hsub, hne, ?_, .inl fun _ => Iff.rfl⟩
      refine Classical.byContradiction fun z => ?_
      have hall : ∀ x ∈ xs, x ∈ hs := fun x hx => Classical.byContradiction fun y => z ⟨x, hx, y⟩
      have := x1.length_le_of_subset hall
      omega
end
end L05
set_option Elab.async false
set_option linter.all false
set_option maxRecDepth 100000
set_option maxHeartbeats 1000000
namespace L05
open PySem PySem.Spec PyProof.Rows L2 KD
section
variable {P : Program} {w : World} {K : PySem.W.Frag} {mg : Str → Option Value} {base : Heap}
/-! ### the rows above -/
/-- lists of lists, made since H0; c is what stands in them -/
structure Ab (H0 H : Hp) (L : Addr) (as : List (Addr × List Addr)) (n : Nat) (c : Nat → Nat → List Nat) : Prop where
  hL : H L = some (.lst (as.map fun x => V.ref x.1))
  nL : H0 L = none
  r : ∀ (k : Nat) (x : Addr × List Addr), as[k]? = some x → H x.1 = some (.lst (x.2.map V.ref)) ∧ x.2.length = n ∧ H0 x.1 = none ∧ x.1 ≠ L
  y : ∀ (k : Nat) (x : Addr × List Addr) (f : Nat) (y : Addr), as[k]? = some x → x.2[f]? = some y → H y = some (.lst ((c k f).map vN)) ∧ H0 y = none ∧ y ≠ L ∧ ∀ x' ∈ as, y ≠ x'.1
  i : ∀ (k : Nat) (x : Addr × List Addr) (f : Nat) (y : Addr) (k' : Nat) (x' : Addr × List Addr) (f' : Nat), as[k]? = some x → x.2[f]? = some y → as[k']? = some x' → x'.2[f']? = some y → k = k' ∧ f = f'
section
variable {H0 H H' : Hp} {L : Addr} {as : List (Addr × List Addr)} {n : Nat} {c c' : Nat → Nat → List Nat}
theorem Ab.mono (A : Ab H0 H L as n c) (e : Ex H H') : Ab H0 H' L as n c :=
  ⟨e _ _ A.hL, A.nL, fun k x hx => ⟨e _ _ (A.r k x hx).1, (A.r k x hx).2⟩, fun k x f y hx hy => ⟨e _ _ (A.y k x f y hx hy).1, (A.y k x f y hx hy).2⟩, A.i⟩
theorem Ab.put {k f u : Nat} {x : Addr × List Addr} {y : Addr} (A : Ab H0 H L as n c) (hx : as[k]? = some x) (hy : x.2[f]? = some y) (hc : ∀ k' f', c' k' f' = if k' = k ∧ f' = f then c k f ++ [u] else c k' f') :
    Ab H0 (upd H y (.lst (((c k f).map vN) ++ [vN u]))) L as n c' := by
  obtain ⟨y1, y2, y3, y4⟩ := A.y k x f y hx hy
  refine ⟨by rw [upd_ne y3.symm]; exact A.hL, A.nL, fun k' x' hx' => ?_, fun k' x' f' y' hx' hy' => ?_, A.i⟩
  · obtain ⟨a1, a2⟩ := A.r k' x' hx'
    exact ⟨by rw [upd_ne (y4 x' (List.mem_of_getElem? hx')).symm]; exact a1, a2⟩
  · obtain ⟨a1, a2⟩ := A.y k' x' f' y' hx' hy'
    refine ⟨?_, a2⟩
    by_cases e : y' = y
    · subst e
      obtain ⟨rfl, rfl⟩ := A.i _ _ _ _ _ _ _ hx' hy' hx hy
      rw [upd_same, hc, if_pos ⟨rfl, rfl⟩, List.map_append]; rfl
    · rw [upd_ne e, hc, if_neg]
      · exact a1
      · rintro ⟨rfl, rfl⟩
        rw [hx] at hx'; cases hx'
        rw [hy] at hy'; cases hy'
        exact e rfl
theorem Ab.snoc {D2 : Addr} {ys : List Addr} (A : Ab H0 H L as n fun _ _ => []) (e : ∀ x o, H x = some o → H' x = some o) (hD : H D2 = none) (hD' : H' D2 = some (.lst (ys.map V.ref))) (hl : ys.length = n) (hn : ys.Nodup) (hDy : D2 ∉ ys) (hy : ∀ y ∈ ys, H y = none ∧ H' y = some (.lst []))
    (h0 : ∀ x, H x = none → H0 x = none) : Ab H0 (upd H' L (.lst (as.map (fun x => V.ref x.1) ++ [V.ref D2]))) L (as ++ [(D2, ys)]) n fun _ _ => [] := by
  have nDL : D2 ≠ L := fun z => by rw [z, A.hL] at hD; cases hD
  have nyL : ∀ y ∈ ys, y ≠ L := fun y h z => by have := (hy y h).1; rw [z, A.hL] at this; cases this
  have at_ : ∀ {k : Nat} {x : Addr × List Addr}, (as ++ [(D2, ys)])[k]? = some x → as[k]? = some x ∨ (k = as.length ∧ x = (D2, ys)) := fun {k x} h => by
    by_cases hk : k < as.length
    · rw [List.getElem?_append_left hk] at h; exact .inl h
    · rw [List.getElem?_append_right (by omega)] at h
      have := (List.getElem?_eq_some_iff.mp h).1
      rw [List.length_singleton] at this
      have hz : k - as.length = 0 := by omega
      rw [hz] at h
      cases h
      exact .inr ⟨by omega, rfl⟩
  have oldx : ∀ x ∈ as, H x.1 ≠ none := fun x hx z => by
    obtain ⟨k, hk⟩ := List.mem_iff_getElem?.mp hx
    rw [(A.r k x hk).1] at z; cases z
  have oldy : ∀ {k : Nat} {x : Addr × List Addr} {f : Nat} {y : Addr}, as[k]? = some x → x.2[f]? = some y → H y ≠ none := fun hx hy z => by
    rw [(A.y _ _ _ _ hx hy).1] at z; cases z
  refine ⟨by rw [upd_same, List.map_append]; rfl, A.nL, fun k x hx => ?_, fun k x f y hx hf => ?_, fun k x f y k' x' f' hx hf hx' hf' => ?_⟩
  · rcases at_ hx with hx | ⟨rfl, rfl⟩
    · obtain ⟨a1, a2, a3, a4⟩ := A.r k x hx
      exact ⟨by rw [upd_ne a4]; exact e _ _ a1, a2, a3, a4⟩
    · exact ⟨by rw [upd_ne nDL]; exact hD', hl, h0 _ hD, nDL⟩
  · rcases at_ hx with hx | ⟨rfl, rfl⟩
    · obtain ⟨a1, a2, a3, a4⟩ := A.y k x f y hx hf
      refine ⟨by rw [upd_ne a3]; exact e _ _ a1, a2, a3, fun x' hx' => ?_⟩
      rcases List.mem_append.mp hx' with h | h
      · exact a4 x' h
      · rw [List.mem_singleton.mp h]
        exact fun z => oldy hx hf (by rw [z]; exact hD)
    · have hm := List.mem_of_getElem? hf
      obtain ⟨b1, b2⟩ := hy y hm
      refine ⟨by rw [upd_ne (nyL y hm)]; exact b2, h0 _ b1, nyL y hm, fun x' hx' => ?_⟩
      rcases List.mem_append.mp hx' with h | h
      · exact fun z => oldx x' h (by rw [← z]; exact b1)
      · rw [List.mem_singleton.mp h]
        exact fun z => hDy (by rw [← show y = D2 from z]; exact hm)
  · rcases at_ hx with hx | ⟨rfl, rfl⟩
    · rcases at_ hx' with hx' | ⟨rfl, rfl⟩
      · exact A.i k x f y k' x' f' hx hf hx' hf'
      · exact absurd (hy y (List.mem_of_getElem? hf')).1 (oldy hx hf)
    · rcases at_ hx' with hx' | ⟨rfl, rfl⟩
      · exact absurd (hy y (List.mem_of_getElem? hf)).1 (oldy hx' hf')
      · refine ⟨rfl, ?_⟩
        have h1 := List.getElem?_eq_some_iff.mp hf
        have h2 := List.getElem?_eq_some_iff.mp hf'
        exact (List.getElem_inj hn).mp (h1.2.trans h2.2.symm)
end
/-- the rows whose k-th field is f, of the first i rows -/
def abRows (s : KM.Sheet Str) (i k f : Nat) : List Nat := (List.range i).filter fun u => decide ((KM.fl s u)[k]? = some f)
/-- .. and of the row i, of its first j fields -/
def abRows2 (s : KM.Sheet Str) (i j k f : Nat) : List Nat := if k < j ∧ (KM.fl s i)[k]? = some f then abRows s i k f ++ [i] else abRows s i k f
theorem abRows_succ {s : KM.Sheet Str} {i k f : Nat} : abRows s (i + 1) k f = if (KM.fl s i)[k]? = some f then abRows s i k f ++ [i] else abRows s i k f := by
  unfold abRows
  rw [List.range_succ, List.filter_append, List.filter_cons, List.filter_nil]
  by_cases h : (KM.fl s i)[k]? = some f
  · simp [h]
  · simp [h]
theorem abRows_mem {s : KM.Sheet Str} {i k f u : Nat} : u ∈ abRows s i k f ↔ u < i ∧ (KM.fl s u)[k]? = some f := by
  unfold abRows
  rw [List.mem_filter, List.mem_range, decide_eq_true_eq]
def spAbove (K : PySem.W.Frag) : Sp := fun vs H Q _ => ∃ (ra : Addr) (s : KM.Sheet Str) (G : Hp), vs = [.ref ra] ∧ Ex G H ∧ Da K G (.ref ra) (sheetD s) ∧ SzOk s ∧
  ∀ (H' : Hp) (L : Addr) (as : List (Addr × List Addr)), Ex H H' → Ab H H' L as s.length (abRows s s.length) → as.length ≤ 3 → (∀ u, (KM.fl s u).length ≤ as.length) → Q (.ref L) H'
theorem ok_rows_above (T : Txt K mg) : FnOk P w K mg base CX0 1 T.a_rows_above T.d_rows_above ["rows"] (spAbove K) := by
  refine T.F_rows_above.ok sc_rows_above (fun vs H Q E h => ?_) (fun cdv A outer s0 H vs Q E hr h => ?_)
  · obtain ⟨ra, s, G, rfl, _⟩ := h
    rfl
  obtain ⟨ra, s, G, rfl, eg, x1, hs, q⟩ := h
  have hu := hu_of hr
  have hu1 := hu
  obtain ⟨rvs, hra, hrv⟩ : ∃ rvs, G ra = some (.tup rvs) ∧ DaAll K G rvs (s.map rowD) := by
    cases x1 with | tup h1 h2 => exact ⟨_, h1, h2⟩
  have hlen := hrv.length
  rw [List.length_map] at hlen
  have hsl := hs.l
  refine ⟨_, (pss_cons (ps_set (i := 1) sc_rows_above.nd rfl (.inl rfl) (pe_callB (cr_maxK K rfl) (by rfl) T.m_max (by decide +kernel) (pa_cons (pe_lc (own := [("_", 4), ("fields", 5)]) (g := gTup _ 2 (gCons (gName 4) (gCons (gName 5) gNil))) (tt := tYes) rfl sc_rows_above.nd  (pi_tupK K (pv 0)) (blkOk_by (N := N_rows_above) (sc := defScope s_rows_above) (by decide +kernel)) (fun _ _ _ _ _ => (pg_tupK K rfl (pgs_cons (pg_name (i := 4) sc_rows_above.nd rfl (.inl rfl)) (pgs_cons (pg_name (i := 5) sc_rows_above.nd rfl (.inl rfl)) pgs_nil)))) (fun _ _ _ _ _ => pts_nil) (fun _ _ _ _ _ => (pe_callB (call_lenK K) (by rfl) T.m_len PySem.boot_len (pa_cons (pv 5) pa_nil)))) pa_nil)))
    (pss_cons (ps_setLc (i := 2) (own := [("_", 4)]) (g := gName 4) (tt := tYes) rfl sc_rows_above.nd rfl rfl (sw_true rfl rfl rfl (by decide +kernel)) (pi_range1 (by rfl) T.m_range (pa_cons (pv 1) pa_nil)) (blkOk_by (N := N_rows_above) (sc := defScope s_rows_above) (by decide +kernel)) (fun _ _ _ _ _ => (pg_name (i := 4) sc_rows_above.nd rfl (.inl rfl))) (fun _ _ _ _ _ => pts_nil) (fun _ _ _ _ _ => (pe_lc (own := [("_", 4)]) (g := gName 4) (tt := tYes) rfl sc_rows_above.nd  (pi_range1 (by rfl) T.m_range (pa_cons (pe_callB (call_lenK K) (by rfl) T.m_len PySem.boot_len (pa_cons (pv 0) pa_nil)) pa_nil)) (blkOk_by (N := N_rows_above) (sc := (⟨.function, [(".0", .local), ("_", .local), ("range", .globalImplicit), ("len", .globalImplicit), ("rows", .cell)], false, false, []⟩ : Scope)) (by decide +kernel)) (fun _ _ _ _ _ => (pg_name (i := 4) sc_rows_above.nd rfl (.inl rfl))) (fun _ _ _ _ _ => pts_nil) (fun _ _ _ _ _ => (pe_lst pa_nil)))))
    (pss_cons (ps_for PassesOwn.never rfl (pi_enumKT K (by rfl) T.m_enumerate (pa_cons (pv 0) pa_nil)) (pg_tupK K rfl (pgs_cons (pg_name (i := 3) sc_rows_above.nd rfl (.inl rfl)) (pgs_cons (pg_tupK K rfl (pgs_cons (pg_name (i := 4) sc_rows_above.nd rfl (.inl rfl)) (pgs_cons (pg_name (i := 5) sc_rows_above.nd rfl (.inl rfl)) pgs_nil))) pgs_nil)))
    (pss_one (ps_for PassesOwn.never rfl (pi_enumKT K (by rfl) T.m_enumerate (pa_cons (pv 5) pa_nil)) (pg_tupK K rfl (pgs_cons (pg_name (i := 6) sc_rows_above.nd rfl (.inl rfl)) (pgs_cons (pg_name (i := 7) sc_rows_above.nd rfl (.inl rfl)) pgs_nil)))
    (pss_one (ps_expr (pe_bm PySem.F.plainAttrs_list PySem.F.slot_list_append PySem.F.type_list_append mt_append (pe_ix (ix_listK K) (pe_ix (ix_listK K) (pv 2) (pv 6) (fun _ _ => rfl)) (pv 7) (fun _ _ => rfl)) (pa_cons (pv 3) pa_nil)))))))
    (pss_one (ps_ret (pv 2)))))), ?_⟩
  have hlz : ∀ r ∈ s, r.2.length ≤ 3 := hs.f
  refine st_cb1 (e_lc (K := K) (σ := [some (.ref ra), none, none, none, none, none, none, none]) (p := fun _ => true) (f := fun d => match d with | .tuple (_ :: .tuple fs :: _) => nD fs.length | _ => .none) (i_tup (e_var (i := 0) rfl x1)) (by rw [List.length_map]; omega) (fun d hd => ?_) G H (Ex.rf _) eg _ fun v G1 H1 u1 d1 => ?_)
  · obtain ⟨r, hr', rfl⟩ := List.mem_map.mp hd
    refine ⟨_, g_tup2, fun F' σ' ef hP => ?_⟩
    obtain ⟨v, w', dv, dw, rfl⟩ := hP
    exact ⟨rfl, t_yes, fun _ => e_cb (a_cons (e_var (i := 5) rfl dw) a_nil) q_lenT⟩
  have ef : ((s.map rowD).filter (fun _ => true)).map (fun d => match d with | .tuple (_ :: .tuple fs :: _) => nD fs.length | _ => .none) = (s.map fun r => r.2.length).map nD := by
    rw [List.filter_eq_self.mpr (fun _ _ => rfl), List.map_map, List.map_map]
    refine List.map_congr_left fun r hr => ?_
    show nD (r.2.map nD).length = nD r.2.length
    rw [List.length_map]
  rw [ef] at d1
  have e01 : Ex H H1 := u1.m
  obtain ⟨la, hla, rfl⟩ : ∃ la, H1 la = some (.lst ((s.map fun r => r.2.length).map vN)) ∧ v = .ref la := by
    cases d1 with | lst k1 a1 => exact ⟨_, by rw [u1.h _ _ k1, daAll_nats a1], rfl⟩
  clear d1
  have em : (s.map fun r => r.2.length).map vN = (s.map fun r => (r.2.length : Int)).map V.int := by
    rw [List.map_map, List.map_map]; rfl
  rw [em] at hla
  refine ⟨la, _, rfl, SqL.of hla, by rw [List.length_map]; exact hs.p, fun m hm hmx => ?_⟩
  obtain ⟨r0, hr0, rfl⟩ := List.mem_map.mp hm
  have h03 := hlz r0 hr0
  have hfm : ∀ u, (KM.fl s u).length ≤ r0.2.length := fun u => by
    by_cases hu : u < s.length
    · obtain ⟨r, h1, h2⟩ := KM.at_lt hu
      rw [KM.fl_at h1]
      have := hmx (r.2.length : Int) (List.mem_map_of_mem (f := fun r : Str × List Nat => (r.2.length : Int)) h2)
      omega
    · unfold KM.fl
      rw [List.getElem?_eq_none (by omega)]
      exact Nat.zero_le _
  generalize r0.2.length = mm at h03 hfm
  have hra1 : H1 ra = some (.tup rvs) := u1.h _ _ (u1.g _ _ hra)
  refine st_e ?_
  refine ⟨.int (mm : Int), rfl, (mm : Int), rfl, by omega, by omega, fun L hL => ?_⟩
  refine lc_range (lo := 0) (n := ((mm : Int)).toNat) (fun k H' => ∃ as : List (Addr × List Addr), Ex H1 H' ∧ Ab H1 H' L as s.length (fun _ _ => []) ∧ as.length = k)
    ⟨[], Ex.up hL, ⟨upd_same, hL, (fun k x h => by simp at h), (fun k x f y h => by simp at h), fun k x f y k' x' f' h => by simp at h⟩, rfl⟩ (fun k H' hk hP => ?_) (fun H' hP => ?_)
  · obtain ⟨as, e', hA, hlk⟩ := hP
    refine ⟨rfl, yes_if ?_⟩
    refine ⟨.ref ra, rfl, ra, rvs, rfl, .inr (SqT.of (e' _ _ hra1)), ((rvs.length : Nat) : Int), rfl, by omega, by omega, fun D2 hD2 => ?_⟩
    refine lc_range (lo := 0) (n := (((rvs.length : Nat) : Int)).toNat) (fun j H'' => ∃ ys : List Addr, Ex H' H'' ∧ H'' D2 = some (.lst (ys.map V.ref)) ∧ ys.length = j ∧ ys.Nodup ∧ D2 ∉ ys ∧ ∀ y ∈ ys, H' y = none ∧ H'' y = some (.lst []))
      ⟨[], Ex.up hD2, upd_same, rfl, .nil, by simp, fun _ h => by cases h⟩ (fun j H'' hj hP => ?_) (fun H'' hP => ?_)
    · obtain ⟨ys, e2, hL2, hl2, hn2, hD2y, hy2⟩ := hP
      refine ⟨rfl, yes_if ?_⟩
      refine ⟨Nat.zero_le _, fun d hd => ?_⟩
      have ndb : d ≠ D2 := fun z => by rw [z, hL2] at hd; cases hd
      have ndx : d ∉ ys := fun z => by rw [(hy2 d z).2] at hd; cases hd
      have h3d : H' d = none := e2.fresh hd
      refine ⟨ys.map V.ref, by rw [upd_ne ndb.symm]; exact hL2, Nat.lt_of_le_of_lt (by rw [List.length_map]; omega : _ ≤ 1000) (by decide), ys ++ [d], fun x o e => ?_, by rw [upd_same, List.map_append]; rfl, by rw [List.length_append, hl2]; rfl, ?_, ?_, fun x hxm => ?_⟩
      · rw [upd_ne (fun z => by rw [z, hD2] at e; cases e), upd_ne (fun z => by rw [z, h3d] at e; cases e)]
        exact e2 x o e
      · exact List.nodup_append.mpr ⟨hn2, by simp, fun x hx y hy => by
          have ey : y = d := List.mem_singleton.mp hy
          exact fun z => ndx (by rw [← ey, ← z]; exact hx)⟩
      · simp only [List.mem_append, List.mem_singleton, not_or]
        exact ⟨hD2y, ndb.symm⟩
      · rcases List.mem_append.mp hxm with h | h
        · refine ⟨(hy2 x h).1, ?_⟩
          rw [upd_ne (fun z : x = D2 => hD2y (by rw [← z]; exact h)), upd_ne (fun z : x = d => ndx (by rw [← z]; exact h))]
          exact (hy2 x h).2
        · have ex : x = d := List.mem_singleton.mp h
          subst ex
          exact ⟨h3d, by rw [upd_ne ndb, upd_same]⟩
    · obtain ⟨ys, e2, hL2, hl2, hn2, hD2y, hy2⟩ := hP
      have hl3 : ys.length = s.length := by omega
      refine ⟨_, e2 _ _ hA.hL, Nat.lt_of_le_of_lt (by rw [List.length_map]; omega : _ ≤ 1000) (by decide), as ++ [(D2, ys)], fun x o e => ?_, hA.snoc e2 hD2 hL2 hl3 hn2 hD2y hy2 (fun x hx => e'.fresh hx), by rw [List.length_append, hlk]; rfl⟩
      rw [upd_ne (fun z => by rw [z, hL] at e; cases e)]
      exact e2 _ _ (e' x o e)
  obtain ⟨as, e2, hA, hal⟩ := hP
  have hal : as.length = mm := by omega
  have hra2 := e2 _ _ hra1
  have hA0 : Ab H1 H' L as s.length (abRows s 0) := hA
  refine ⟨.ref ra, rfl, ra, rvs, rfl, SqT.of hra2, ?_⟩
  refine for_it (walk_enumT (K := K) (a := ra) (xs := rvs)) (fun i σ H' => ∃ (o3 o4 o5 o6 o7 : Option V), σ = [some (.ref ra), some (.int (mm : Int)), some (.ref L), o3, o4, o5, o6, o7] ∧ Ex H1 H' ∧ Ab H1 H' L as s.length (abRows s i))
    ⟨none, none, none, none, none, rfl, e2, hA0⟩ (fun i σ H' _ ⟨_, _, _, _, _, _, e, _⟩ => SqT.of (e _ _ hra1)) (fun i x σ H' H6 hi hP hY => ?_) (fun σ H' hP => ?_)
  · obtain ⟨o3, o4, o5, o6, o7, rfl, e', hA⟩ := hP
    obtain ⟨Tt, y, z, rfl, hT, rfl, hy, hz⟩ := hY
    cases hy
    obtain ⟨d, hd, dd⟩ := hrv.get hz
    rw [List.getElem?_map] at hd
    obtain ⟨r, hr1, rfl⟩ := Option.map_eq_some_iff.mp hd
    have hrm := List.mem_of_getElem? hr1
    have hfli := KM.fl_at hr1
    obtain ⟨ar, har⟩ := hs.ok
    have hfs := har.f r hrm
    have hfz := hlz r hrm
    have hrl := hfm i
    rw [hfli] at hrl
    obtain ⟨t, fs⟩ := r
    cases dd with | @tup rr xs1 _ h1 h2 => ?_
    cases h2 with | cons a1 h2 => ?_
    cases h2 with | cons a2 h2 => ?_
    cases h2; cases a1
    cases a2 with | @tup fa xs2 _ b1 b2 => ?_
    have hnats := daAll_nats b2
    subst hnats
    have hTn : ∀ {x o}, H1 x = some o → x ≠ Tt := fun {x o} h z => by rw [z] at h; rw [e' _ _ h] at hT; cases hT
    have g1 : ∀ {x o}, G x = some o → H1 x = some o := fun h => u1.h _ _ (u1.g _ _ h)
    refine ⟨Tt, _, rfl, SqT.of upd_same, rfl, _, _, rfl, _, _, rfl, ⟨_, _, rfl, SqT.of (by rw [upd_ne (hTn (g1 h1))]; exact e' _ _ (g1 h1)), rfl, _, _, rfl, _, _, rfl, rfl, rfl, ?_⟩⟩
    have e6 : Ex H1 (upd H' Tt (.tup [.int (i : Nat), .ref rr])) := e'.tr (Ex.up hT)
    have A6 := hA.mono (Ex.up (o := .tup [.int (i : Nat), .ref rr]) hT)
    generalize upd H' Tt (.tup [.int (i : Nat), .ref rr]) = H6 at e6 A6
    have A7 : Ab H1 H6 L as s.length (abRows2 s i 0) := by
      have : abRows2 s i 0 = abRows s i := funext fun k => funext fun f => by unfold abRows2; rw [if_neg (by omega)]
      rw [this]; exact A6
    refine ⟨.ref fa, rfl, fa, _, rfl, SqT.of (e6 _ _ (g1 b1)), ?_⟩
    refine for_it (walk_enumT (K := K) (a := fa) (xs := fs.map vN)) (fun j σ H' => ∃ (o6 o7 : Option V), σ = [some (.ref ra), some (.int (mm : Int)), some (.ref L), some (.int (i : Nat)), some (.str t), some (.ref fa), o6, o7] ∧ Ex H1 H' ∧ Ab H1 H' L as s.length (abRows2 s i j))
      ⟨o6, o7, rfl, e6, A7⟩ (fun j σ H' _ ⟨_, _, _, e, _⟩ => SqT.of (e _ _ (g1 b1))) (fun j x σ H' H8 hj hP hY => ?_) (fun σ H' hP => ?_)
    · obtain ⟨o6, o7, rfl, e7, A8⟩ := hP
      obtain ⟨T2, y, z, rfl, hT2, rfl, hy, hz2⟩ := hY
      cases hy
      rw [List.length_map] at hj
      have hz2 : (fs.map vN)[j]? = some z := hz2
      rw [List.getElem?_map, List.getElem?_eq_getElem hj] at hz2
      cases hz2
      have hfl : fs[j] < s.length := hfs fs[j] (List.getElem_mem hj)
      have A9 := A8.mono (Ex.up (o := .tup [.int (j : Nat), vN fs[j]]) hT2)
      have e9 : Ex H1 (upd H' T2 (.tup [.int (j : Nat), vN fs[j]])) := e7.tr (Ex.up hT2)
      have hT2s : SqT K (upd H' T2 (.tup [.int (j : Nat), vN fs[j]])) T2 [.int (j : Nat), vN fs[j]] := SqT.of upd_same
      refine ⟨T2, _, rfl, hT2s, rfl, _, _, rfl, _, _, rfl, rfl, ?_⟩
      generalize upd H' T2 (.tup [.int (j : Nat), vN fs[j]]) = H9 at A9 e9
      have hrl' : fs.length ≤ mm := hrl
      have hx : as[j]? = some (as[j]'(by omega)) := List.getElem?_eq_getElem _
      generalize as[j]'(by omega) = x at hx
      obtain ⟨c1, c2, c3, c4⟩ := A9.r j x hx
      have hyy : x.2[fs[j]]? = some (x.2[fs[j]]'(by omega)) := List.getElem?_eq_getElem _
      generalize x.2[fs[j]]'(by omega) = yy at hyy
      obtain ⟨d1, d2, d3, d4⟩ := A9.y j x fs[j] yy hx hyy
      have hcl : (abRows2 s i j j fs[j]).length ≤ 1000 := by
        unfold abRows2
        rw [if_neg (by omega)]
        unfold abRows
        refine Nat.le_trans (List.length_filter_le _ _) ?_
        rw [List.length_range]
        omega
      refine ⟨.ref L, rfl, .int (j : Nat), rfl, L, _, _, .ref x.1, rfl, rfl, SqL.of A9.hL, atI_nat (by rw [List.getElem?_map, hx]; rfl), vN fs[j], rfl, x.1, _, _, .ref yy, rfl, rfl, SqL.of c1, atI_nat (by rw [List.getElem?_map, hyy]; rfl), .inl ⟨rfl, _, SqL.of d1⟩, .int (i : Nat), rfl, yy, _, _, rfl, rfl, d1, Nat.lt_of_le_of_lt (by rw [List.length_map]; exact hcl) (by decide), ?_⟩
      refine ⟨_, _, rfl, e9.at d2, A9.put hx hyy fun k' f' => ?_⟩
      unfold abRows2
      rw [hfli]
      by_cases e : k' = j ∧ f' = fs[j]
      · obtain ⟨rfl, rfl⟩ := e
        rw [if_pos ⟨by omega, List.getElem?_eq_getElem hj⟩, if_pos ⟨rfl, rfl⟩, if_neg (fun h => absurd h.1 (by omega))]
      · rw [if_neg e]
        have : (k' < j + 1 ∧ fs[k']? = some f') ↔ (k' < j ∧ fs[k']? = some f') := by
          refine ⟨fun h => ⟨?_, h.2⟩, fun h => ⟨by omega, h.2⟩⟩
          by_cases ek : k' = j
          · subst ek
            have := h.2
            rw [List.getElem?_eq_getElem hj] at this
            exact absurd ⟨rfl, (Option.some.inj this).symm⟩ e
          · omega
        simp only [this]
    · obtain ⟨o6, o7, rfl, e7, A8⟩ := hP
      refine ⟨_, _, _, _, _, rfl, e7, ?_⟩
      have : abRows2 s i (fs.map vN).length = abRows s (i + 1) := funext fun k => funext fun f => by
        rw [abRows_succ]
        unfold abRows2
        rw [hfli, List.length_map]
        have : (k < fs.length ∧ fs[k]? = some f) ↔ fs[k]? = some f := ⟨fun h => h.2, fun h => ⟨(List.getElem?_eq_some_iff.mp h).1, h⟩⟩
        simp only [this]
      rw [this] at A8
      exact A8
  · obtain ⟨o3, o4, o5, o6, o7, rfl, e', hA⟩ := hP
    rw [hlen] at hA
    refine ⟨.ref L, rfl, q _ _ as (e01.tr e') ?_ (by omega) (by rw [hal]; exact hfm)⟩
    exact ⟨hA.hL, e01.fresh hA.nL, fun k x hx => ⟨(hA.r k x hx).1, (hA.r k x hx).2.1, e01.fresh (hA.r k x hx).2.2.1, (hA.r k x hx).2.2.2⟩, fun k x f y hx hy => ⟨(hA.y k x f y hx hy).1, e01.fresh (hA.y k x f y hx hy).2.1, (hA.y k x f y hx hy).2.2⟩, hA.i⟩
end
end L05
set_option Elab.async false
set_option linter.all false
set_option maxRecDepth 100000
set_option maxHeartbeats 1000000
namespace L05
open PySem PySem.Spec PyProof.Rows L2 KD
section
variable {P : Program} {w : World} {K : PySem.W.Frag} {mg : Str → Option Value} {base : Heap}
/-! ### the classes of rows -/
structure CS (C : Addr) (s : KM.Sheet Str) (p a b wl : Addr) (G H : Hp) (ds : List Addr) (cl : List Nat) (ms : List (List Nat)) (W : List Nat) : Prop where
  ex : Ex G H
  nf : ∀ x ∈ foot p a b ds, G x = none
  nw : G wl = none
  pt : PtAt C H p a b ds cl ms
  pa : KM.Part s cl ms
  hw : H wl = some (.lst (W.map vN))
  wf : wl ∉ foot p a b ds
  wm : ∀ c ∈ W, c < ms.length
section
variable {C p a b wl q : Addr} {s : KM.Sheet Str} {G H H' : Hp} {ds : List Addr} {cl : List Nat} {ms : List (List Nat)} {W : List Nat} {o : HO}
theorem CS.mono (c : CS C s p a b wl G H ds cl ms W) (e : Ex H H') : CS C s p a b wl G H' ds cl ms W := ⟨c.ex.tr e, c.nf, c.nw, c.pt.ex e, c.pa, e _ _ c.hw, c.wf, c.wm⟩
theorem CS.other (c : CS C s p a b wl G H ds cl ms W) (h1 : q ∉ foot p a b ds) (h2 : q ≠ wl) (h3 : G q = none) : CS C s p a b wl G (upd H q o) ds cl ms W :=
  ⟨c.ex.at h3, c.nf, c.nw, c.pt.other h1, c.pa, by rw [upd_ne h2.symm]; exact c.hw, c.wf, c.wm⟩
theorem CS.fresh (c : CS C s p a b wl G H ds cl ms W) (h : H q = none) : q ∉ foot p a b ds ∧ q ≠ wl ∧ G q = none := by
  refine ⟨fun z => ?_, fun z => ?_, c.ex.fresh h⟩
  · obtain ⟨dx, fs, h1, _⟩ := c.pt.hp
    rcases List.mem_cons.mp z with e | z
    · rw [e, h1] at h; cases h
    rcases List.mem_cons.mp z with e | z
    · rw [e, c.pt.ha] at h; cases h
    rcases List.mem_cons.mp z with e | z
    · rw [e, c.pt.hb] at h; cases h
    · obtain ⟨_, h2⟩ := c.pt.dk z
      rw [h] at h2; cases h2
  · rw [z, c.hw] at h; cases h
theorem CS.froze (c : CS C s p a b wl G H ds cl ms W) (h : H q = some o) (h1 : q ∉ foot p a b ds) (h2 : q ≠ wl) : CS C s p a b wl (upd G q o) H ds cl ms W := by
  refine ⟨fun x u e => ?_, fun x hx => ?_, ?_, c.pt, c.pa, c.hw, c.wf, c.wm⟩
  · by_cases z : x = q
    · subst z; rw [upd_same] at e; cases e; exact h
    · rw [upd_ne z] at e; exact c.ex x u e
  · rw [upd_ne (fun z : x = q => h1 (by rw [← z]; exact hx))]; exact c.nf x hx
  · rw [upd_ne h2.symm]; exact c.nw
theorem CS.thaw (c : CS C s p a b wl (upd G q o) H ds cl ms W) (h : G q = none) : CS C s p a b wl G H ds cl ms W := by
  refine ⟨fun x u e => c.ex x u (by rw [upd_ne (ne_of_none e h)]; exact e), fun x hx => ?_, ?_, c.pt, c.pa, c.hw, c.wf, c.wm⟩
  · have := c.nf x hx
    exact (upd_ne_none this).2
  · exact (upd_ne_none c.nw).2
theorem CS.small (c : CS C s p a b wl G H ds cl ms W) : ms.length ≤ s.length := c.pa.small
end
theorem CS.pop {C p a b wl : Addr} {s : KM.Sheet Str} {G H : Hp} {ds : List Addr} {cl : List Nat} {ms : List (List Nat)} {W : List Nat} {d : Nat} (c : CS C s p a b wl G H ds cl ms (W ++ [d])) : CS C s p a b wl G (upd H wl (.lst (W.map vN))) ds cl ms W :=
  ⟨c.ex.at c.nw, c.nf, c.nw, c.pt.other c.wf, c.pa, upd_same, c.wf, fun x hx => c.wm x (List.mem_append_left _ hx)⟩
theorem rgV_nats {n : Nat} : rgV 0 ((n : Nat) : Int) = (List.range n).map vN := by
  unfold rgV
  have : ((n : Int) - 0).toNat = n := by omega
  rw [this]
  refine List.map_congr_left fun i _ => ?_
  show V.int (0 + (i : Int)) = V.int (i : Int)
  rw [Int.zero_add]
theorem flat_le {g : Nat → List Nat} (hg : ∀ x, (g x).length ≤ 1000) : ∀ {xs : List Nat}, (xs.flatMap g).length ≤ xs.length * 1000
  | [] => Nat.zero_le _
  | x :: xs => by
    rw [List.flatMap_cons, List.length_append, List.length_cons]
    have := flat_le hg (xs := xs)
    have := hg x
    omega
theorem abRows_len {s : KM.Sheet Str} {i k f : Nat} (h : i ≤ 1000) : (abRows s i k f).length ≤ 1000 := by
  unfold abRows
  refine Nat.le_trans (List.length_filter_le _ _) ?_
  rw [List.length_range]
  exact h
def spClasses (K : PySem.W.Frag) : Sp := fun vs H Q _ => ∃ (ra : Addr) (s : KM.Sheet Str) (G : Hp), vs = [.ref ra] ∧ Ex G H ∧ Da K G (.ref ra) (sheetD s) ∧ SzOk s ∧
  ∀ (H' : Hp) (a : Addr) (cl : List Nat), Ex H H' → H a = none → H' a = some (.lst (cl.map vN)) → cl.length = s.length → (∀ c ∈ cl, c < s.length) → (∀ i j, i < s.length → j < s.length → (cl[i]? = cl[j]? ↔ KM.Same s s i j)) → Q (.ref a) H'
theorem ok_row_classes (T : Txt K mg) : FnG P w K mg base CX0 3 T.a_row_classes T.d_row_classes ["rows"] (spClasses K) := by
  have G_Partition___init__ := ok_Partition___init__ (P := P) (w := w) (base := base) T
  have G_Partition_by_class := ok_Partition_by_class (P := P) (w := w) (base := base) T
  have G_Partition_split_off := ok_Partition_split_off (P := P) (w := w) (base := base) T
  have G_rows_above := FnG.of ((ok_rows_above (P := P) (w := w) (base := base) T).mono (show 1 ≤ 2 by decide))
  refine okG T.F_row_classes sc_row_classes (fun vs H Q E h => ?_) fun cdv A outer s0 H vs Q E hr hq h => ?_
  · obtain ⟨ra, s, G, rfl, _⟩ := h
    rfl
  obtain ⟨ra, s, G, rfl, eg, x1, hs, q⟩ := h
  have hr1 := hr.mono (show 1 ≤ 2 by decide)
  have hu := hu_of hr
  have hu1 := hu
  have hsl := hs.l
  obtain ⟨ar, har⟩ := hs.ok
  refine ⟨_, (pss_cons (ps_set (i := 1) sc_row_classes.nd rfl (.inl rfl) (pe_make T.mk_Partition G_Partition___init__ hr rfl T.mg_Partition T.b_Partition___init__ .nil pass0 (pa_cons (pv 0) pa_nil)))
    (pss_cons (ps_set (i := 2) sc_row_classes.nd rfl (.inl rfl) (pe_g G_rows_above hr hq (by rfl) T.g_rows_above T.F_rows_above.kp T.b_rows_above .nil pass0 (pa_cons (pv 0) pa_nil)))
    (pss_cons (ps_set (i := 3) sc_row_classes.nd rfl (.inl rfl) (pe_listRg rfl (by rfl) T.m_list (prg_1 (by rfl) T.m_range (pe_callB (call_lenK K) (by rfl) T.m_len PySem.boot_len (pa_cons (pe_fld (pv 1) rfl) pa_nil)))))
    (pss_cons (ps_while PassesOwn.never (pt_truthK K (pv 3) (by intro _; rfl))
    (pss_cons (ps_set (i := 4) sc_row_classes.nd rfl (.inl rfl) (pe_callTy (call_listD rfl) (by rfl) T.m_list (by decide +kernel) (pa_cons (pe_ix (ix_listK K) (pe_fld (pv 1) rfl) (pe_bm0 PySem.F.plainAttrs_list PySem.F.slot_list_pop PySem.F.type_list_pop mt_pop (pv 3)) (fun _ _ => rfl)) pa_nil)))
    (pss_one (ps_for PassesOwn.never rfl (pi_listK K (pv 2)) (pg_name (i := 5) sc_row_classes.nd rfl (.inr rfl))
    (pss_cons (ps_set (i := 6) sc_row_classes.nd rfl (.inl rfl) (pe_meth (pv 1) T.cl_Partition T.mt_Partition_by_class G_Partition_by_class hr1 T.b_Partition_by_class .nil pass0 (pa_cons (pe_lc2 (own := [("row", 9), ("upper", 10)]) (vs1 := [10]) (g := gName 9) (g1 := gName 10) (tt := tYes) (tt1 := tYes) rfl sc_row_classes.nd (pi_listK K (pv 4)) (blkOk_by (N := N_row_classes) (sc := defScope s_row_classes) (by decide +kernel)) (by decide) (fun _ _ _ _ _ => (pg_name (i := 9) sc_row_classes.nd rfl (.inl rfl))) (fun _ _ _ _ _ => pts_nil) (fun _ _ _ _ _ => (pi_listK K (pe_ix (ix_listK K) (pv 5) (pv 9) (fun _ _ => rfl)))) (fun _ _ _ _ _ => (pg_name (i := 10) sc_row_classes.nd rfl (.inl rfl))) (fun _ _ _ _ _ => pts_nil) (fun _ _ _ _ _ => (pv 10))) pa_nil)))
    (pss_one (ps_lock (ps_for PassesOwn.never rfl (pi_items (pv 6)) (pg_tupK K rfl (pgs_cons (pg_name (i := 7) sc_row_classes.nd rfl (.inl rfl)) (pgs_cons (pg_name (i := 8) sc_row_classes.nd rfl (.inl rfl)) pgs_nil)))
    (pss_one (ps_if (pt_cmpR op_lt (pe_callB call_lenD (by rfl) T.m_len PySem.boot_len (pa_cons (pv 8) pa_nil)) (pe_callB call_lenD (by rfl) T.m_len PySem.boot_len (pa_cons (pe_ix (ix_listK K) (pe_fld (pv 1) rfl) (pv 7) (fun _ _ => rfl)) pa_nil)) (nomark _))
    (pss_one (ps_expr (pe_bm PySem.F.plainAttrs_list PySem.F.slot_list_append PySem.F.type_list_append mt_append (pv 3) (pa_cons (pe_meth (pv 1) T.cl_Partition T.mt_Partition_split_off G_Partition_split_off hr1 T.b_Partition_split_off .nil pass0 (pa_cons (pv 7) (pa_cons (pv 8) pa_nil))) pa_nil))))
    pss_nil))))))))))
    (pss_one (ps_ret (pe_fld (pv 1) rfl))))))), ?_⟩
  refine ⟨.ref ra, rfl, fun p dx hp hdx hne => ?_⟩
  refine ⟨p, dx, ra, s, G, rfl, fun x o e => ?_, upd_same, eg.fresh hp, x1, hs, fun H1 a b ds cl ms Pt Pa F hfr => ⟨rfl, ?_⟩⟩
  · have hx := eg x o e
    rw [upd_ne (ne_of_none hx hp), upd_ne (ne_of_none hx hdx)]; exact hx
  have hfr0 : ∀ x ∈ foot p a b ds, H x = none := fun x hx => by
    rcases hfr x hx with h | h
    · rw [h]; exact hp
    · exact (upd_ne_none (upd_ne_none h).2).2
  have e1 : Ex H H1 := fun x o e => F x o (fun z => by rw [List.mem_singleton.mp z, hp] at e; cases e) (by rw [upd_ne (ne_of_none e hp), upd_ne (ne_of_none e hdx)]; exact e)
  have hf1 : ∀ x ∈ foot p a b ds, H1 x ≠ none := fun x hx z => by
    obtain ⟨dx, fs, h1, _⟩ := id Pt.hp
    rcases List.mem_cons.mp hx with e | hx
    · rw [e, h1] at z; cases z
    rcases List.mem_cons.mp hx with e | hx
    · rw [e, Pt.ha] at z; cases z
    rcases List.mem_cons.mp hx with e | hx
    · rw [e, Pt.hb] at z; cases z
    · obtain ⟨_, h2⟩ := Pt.dk hx
      rw [z] at h2; cases h2
  refine ⟨.ref ra, rfl, ra, s, G, rfl, eg.tr e1, x1, hs, fun H2 L as e2 hA hal3 hfl => ?_⟩
  have P2 := Pt.ex e2
  have hmsr := Pa.small
  obtain ⟨dx2, fs2, h2p, g2c, g2m, g2b, g2s⟩ := id P2.hp
  have hdl : (ds.map V.ref).length = ms.length := by rw [List.length_map, Pt.l]
  refine ⟨.ref p, rfl, p, _, dx2, fs2, .ref b, rfl, h2p, T.cl_Partition, T.na_Partition_members, g2m, b, _, rfl, .inl (SqL.of P2.hb), _, rfl, RgOk.of_le (by omega) (by omega) (by omega) (by omega), fun wl hwl => ?_⟩
  rw [hdl, rgV_nats]
  generalize hH3 : upd H2 wl (.lst ((List.range ms.length).map vN)) = H3
  have e3 : Ex H2 H3 := by rw [← hH3]; exact Ex.up hwl
  have hwf : wl ∉ foot p a b ds := fun z => by
    cases y : H1 wl with
    | none => exact hf1 wl z y
    | some o => rw [e2 _ _ y] at hwl; cases hwl
  -- the frozen part
  obtain ⟨G1, hG1⟩ : ∃ G1 : Hp, ∀ x, G1 x = if x ∈ wl :: foot p a b ds then none else H3 x := ⟨fun x => if x ∈ wl :: foot p a b ds then none else H3 x, fun _ => rfl⟩
  have exG : Ex G1 H3 := fun x o e => by
    rw [hG1] at e
    by_cases z : x ∈ wl :: foot p a b ds
    · rw [if_pos z] at e; cases e
    · rw [if_neg z] at e; exact e
  have gNew : ∀ (z : Addr) (o : HO), H2 z = some o → H1 z = none → G1 z = some o := fun z o h h1 => by
    rw [hG1, if_neg]
    · exact e3 _ _ h
    · rw [List.mem_cons, not_or]
      exact ⟨fun y => (by rw [y, hwl] at h; cases h), fun y => hf1 z y h1⟩
  have exH : Ex H G1 := fun z o h => by
    rw [hG1, if_neg]
    · exact e3 _ _ (e2 _ _ (e1 _ _ h))
    · rw [List.mem_cons, not_or]
      exact ⟨fun y => (by rw [y] at h; rw [e2 _ _ (e1 _ _ h)] at hwl; cases hwl), fun y => (by rw [hfr0 z y] at h; cases h)⟩
  have A1 : Ab H1 G1 L as s.length (abRows s s.length) :=
    ⟨gNew _ _ hA.hL hA.nL, hA.nL, fun k x hx => ⟨gNew _ _ (hA.r k x hx).1 (hA.r k x hx).2.2.1, (hA.r k x hx).2⟩, fun k x f y hx hy => ⟨gNew _ _ (hA.y k x f y hx hy).1 (hA.y k x f y hx hy).2.1, (hA.y k x f y hx hy).2⟩, hA.i⟩
  have C0 : CS T.C_Partition s p a b wl G1 H3 ds cl ms (List.range ms.length) := by
    refine ⟨exG, fun x hx => by rw [hG1, if_pos (List.mem_cons_of_mem _ hx)], by rw [hG1, if_pos List.mem_cons_self], P2.ex e3, Pa, by rw [← hH3]; exact upd_same, hwf, fun c hc => List.mem_range.mp hc⟩
  have J0 := KM.Jn.start Pa har
  dsimp only
  obtain ⟨Wf, hWf⟩ : ∃ Wf : Nat → L2.St → Hp → Prop, Wf = fun m σ H' => ∃ (o4 o5 o6 o7 o8 o9 o10 : Option V) (ds : List Addr) (cl : List Nat) (ms : List (List Nat)) (Wl : List Nat), σ = [some (.ref ra), some (.ref p), some (.ref L), some (.ref wl), o4, o5, o6, o7, o8, o9, o10] ∧ CS T.C_Partition s p a b wl G1 H' ds cl ms Wl ∧ KM.Jn s cl Wl [] ∧ m = Wl.length + 2 * (s.length - ms.length) ∧ m ≤ 3000 := ⟨_, rfl⟩
  refine ⟨Wf, ⟨_, by rw [hWf]; exact ⟨none, none, none, none, none, none, none, ds, cl, ms, _, rfl, C0, J0, rfl, by rw [List.length_range]; omega⟩⟩, fun m σ H' w => ?_⟩
  have w' := w
  rw [hWf] at w'
  clear w J0 C0 hfr0
  clear hf1 hfr F Pt Pa P2 h2p g2c g2m g2b g2s hmsr hdl hwf hH3 hG1 gNew exG
  obtain ⟨o4, o5, o6, o7, o8, o9, o10, ds, cl, ms, Wl, rfl, c, J, rfl, hm3⟩ := w'
  refine ⟨.ref wl, rfl, _, .inl ⟨_, SqL.of c.hw, rfl⟩, ?_⟩
  dsimp only
  obtain ⟨dx', fs', hp', gc', gm', gb', gs'⟩ := id c.pt.hp
  by_cases hW : Wl = []
  · subst hW
    rw [if_neg (by simp)]
    refine ⟨.ref p, rfl, p, _, dx', fs', .ref a, rfl, hp', T.cl_Partition, T.na_Partition_class_of, gc', ?_⟩
    refine q H' a cl (exH.tr c.ex) ?_ c.pt.ha c.pa.l (fun x hx => ?_) fun i j hi hj => c.pa.final har J hi hj
    · cases z : H a with
      | none => rfl
      | some o =>
        have := exH _ _ z
        rw [c.nf a (by simp)] at this
        cases this
    · obtain ⟨i, hi⟩ := List.mem_iff_getElem?.mp hx
      exact Nat.lt_of_lt_of_le (c.pa.c i x hi) c.pa.small
  obtain ⟨W', d, rfl⟩ : ∃ W' d, Wl = W' ++ [d] := ⟨_, _, (List.dropLast_concat_getLast hW).symm⟩
  rw [if_pos (by simp)]
  refine ⟨fun σ' H'' => ∃ m', m' < (W' ++ [d]).length + 2 * (s.length - ms.length) ∧ Wf m' σ' H'', fun _ _ h => h, ?_⟩
  have hdm := c.wm d (by simp)
  have hxs : ms[d]? = some ms[d] := List.getElem?_eq_getElem hdm
  generalize ms[d] = xs at hxs
  have hd0 : ds[d]? = some (ds[d]'(by rw [c.pt.l]; exact hdm)) := List.getElem?_eq_getElem _
  generalize ds[d]'(by rw [c.pt.l]; exact hdm) = d0 at hd0
  have c5 := c.pop
  have edl : ((W' ++ [d]).map vN).dropLast = W'.map vN := by rw [List.map_append, List.map_singleton, List.dropLast_concat]
  refine ⟨.ref p, rfl, p, _, dx', fs', .ref b, rfl, hp', T.cl_Partition, T.na_Partition_members, gm', .ref wl, rfl, .inl ⟨rfl, _, SqL.of c.hw⟩, wl, _, vN d, rfl, rfl, c.hw, by rw [List.map_append, List.map_singleton]; simp, ?_⟩
  rw [edl]
  refine ⟨b, _, _, .ref d0, rfl, rfl, SqL.of c5.pt.hb, atI_nat (by rw [List.getElem?_map, hd0]; rfl), d0, _, rfl, .inl (c5.pt.m d d0 xs hd0 hxs), fun cq hcq => ?_⟩
  have ekv : (xs.map kT).map (fun kv => kV kv.1) = xs.map vN := by rw [List.map_map]; rfl
  rw [ekv]
  have J5 := J.pop c.pa hxs
  obtain ⟨xn, xe, xm⟩ := c.pa.m d xs hxs
  have hclo : ∀ x y, x ∈ xs → KM.Same s s x y → y ∈ xs := fun x y hx hxy => (xm y).mpr (c.pa.b x y d hxy ((xm x).mp hx))
  have hxlt : ∀ f ∈ xs, f < s.length := fun f hf => by rw [← c.pa.l]; exact (List.getElem?_eq_some_iff.mp ((xm f).mp hf)).1
  have hxl : xs.length ≤ 1000 := Nat.le_trans (nodup_small xn hxlt) hsl
  obtain ⟨f1, f2, f3⟩ := c5.fresh hcq
  have c6 := (c5.mono (Ex.up (o := .lst (xs.map vN)) hcq)).froze upd_same f1 f2
  generalize upd (upd H' wl (.lst (W'.map vN))) cq (.lst (xs.map vN)) = H6 at c6
  have A2 := A1.mono (Ex.up (o := .lst (xs.map vN)) f3)
  have gq : (upd G1 cq (.lst (xs.map vN))) cq = some (.lst (xs.map vN)) := upd_same
  generalize hG2 : upd G1 cq (.lst (xs.map vN)) = G2 at c6 A2 gq
  have hms5 := c.small
  have hmeas : W'.length + 2 * (s.length - ms.length) < (W' ++ [d]).length + 2 * (s.length - ms.length) := by rw [List.length_append, List.length_singleton]; omega
  generalize (W' ++ [d]).length + 2 * (s.length - ms.length) = m at hmeas hm3
  dsimp only
  refine ⟨.ref L, rfl, L, rfl, ⟨_, SqL.of (c6.ex _ _ A2.hL)⟩, ?_⟩
  refine for_list (K := K) (a := L) (xs := as.map fun x => V.ref x.1) (fun k σ H' => ∃ (o5 o6 o7 o8 o9 o10 : Option V) (ds : List Addr) (cl : List Nat) (ms : List (List Nat)) (W : List Nat), σ = [some (.ref ra), some (.ref p), some (.ref L), some (.ref wl), some (.ref cq), o5, o6, o7, o8, o9, o10] ∧ CS T.C_Partition s p a b wl G2 H' ds cl ms W ∧ KM.Jn s cl W xs ∧ (∀ k', k' < k → KM.St s cl xs k') ∧ W.length + 2 * (s.length - ms.length) < m)
    ⟨o5, o6, o7, o8, o9, o10, ds, cl, ms, W', rfl, c6, J5, fun _ h => absurd h (Nat.not_lt_zero _), hmeas⟩ ?_ (fun k x σ H' hx hP => ?_) (fun σ H' hP => ?_)
  · rintro k σ H' _ ⟨_, _, _, _, _, _, _, _, _, _, _, c, _⟩
    exact SqL.of (c.ex _ _ A2.hL)
  · obtain ⟨o5, o6, o7, o8, o9, o10, ds, cl, ms, W, rfl, c, J, hS, hm⟩ := hP
    rw [List.getElem?_map] at hx
    obtain ⟨x, hxa, rfl⟩ := Option.map_eq_some_iff.mp hx
    obtain ⟨dx', fs', hp', gc', gm', gb', gs'⟩ := id c.pt.hp
    obtain ⟨r1, r2, r3, r4⟩ := A2.r k x hxa
    refine ⟨.ref p, rfl, p, dx', fs', rfl, hp', gb', ?_⟩
    refine ⟨.ref cq, rfl, cq, rfl, ⟨_, SqL.of (c.ex _ _ gq)⟩, fun D hD => ?_⟩
    have exD : ∀ {o : HO}, Ex H' (upd H' D o) := Ex.up hD
    refine lc2_it (walk_list (K := K) (a := cq) (xs := xs.map vN)) (fun i H'' => H'' = upd H' D (.lst (((xs.take i).flatMap (abRows s s.length k)).map vN))) rfl (fun i H'' _ e => by rw [e]; exact SqL.of (exD _ _ (c.ex _ _ gq))) (fun i y H'' H8 hi hP hY Nx hNx => ?_) (fun H'' hP => ?_)
    · subst hP
      obtain ⟨rfl, hy⟩ := hY
      rw [List.getElem?_map] at hy
      obtain ⟨f, hf, rfl⟩ := Option.map_eq_some_iff.mp hy
      have hfl2 : f < x.2.length := by rw [r2]; exact hxlt f (List.mem_of_getElem? hf)
      have hyy : x.2[f]? = some x.2[f] := List.getElem?_eq_getElem hfl2
      generalize x.2[f] = yy at hyy
      obtain ⟨y1, y2, y3, y4⟩ := A2.y k x f yy hxa hyy
      have tk : xs.take (i + 1) = xs.take i ++ [f] := by rw [List.take_add_one, hf]; rfl
      refine ⟨rfl, yes_if ?_⟩
      refine ⟨.ref x.1, rfl, vN f, rfl, x.1, _, _, .ref yy, rfl, rfl, SqL.of (exD _ _ (c.ex _ _ r1)), atI_nat (by rw [List.getElem?_map, hyy]; rfl), yy, rfl, ⟨_, SqL.of (exD _ _ (c.ex _ _ y1))⟩, ?_⟩
      refine in_it (walk_list (K := K) (a := yy) (xs := (abRows s s.length k f).map vN)) (fun j H'' => H'' = upd H' D (.lst (((xs.take i).flatMap (abRows s s.length k) ++ (abRows s s.length k f).take j).map vN))) (by rw [List.take_zero, List.append_nil]) (fun j H'' _ e => by rw [e]; exact SqL.of (exD _ _ (c.ex _ _ y1))) (fun j z H'' H9 hj hP hY => ?_) (fun H'' hP => hNx _ ?_)
      · subst hP
        obtain ⟨rfl, hz⟩ := hY
        rw [List.getElem?_map] at hz
        obtain ⟨u, hu3, rfl⟩ := Option.map_eq_some_iff.mp hz
        refine ⟨rfl, yes_if ?_⟩
        refine ⟨vN u, rfl, _, upd_same, ?_, ?_⟩
        · refine Nat.lt_of_le_of_lt ?_ (by decide : 1001000 < sizeLine)
          rw [List.length_map, List.length_append, List.length_take]
          have h1 := flat_le (g := abRows s s.length k) (fun x => abRows_len hsl) (xs := xs.take i)
          have h2 := abRows_len (s := s) (k := k) (f := f) hsl
          rw [List.length_take] at h1
          omega
        · rw [upd_upd]
          congr 2
          rw [List.take_add_one, hu3]
          simp
      · subst hP
        rw [tk, List.flatMap_append, List.flatMap_singleton, List.length_map, List.take_length]
    · subst hP
      rw [List.length_map, List.take_length]
      generalize hus : xs.flatMap (abRows s s.length k) = us
      have husm : ∀ u, u ∈ us ↔ u < s.length ∧ KM.HitP s xs k u := fun u => by
        rw [← hus, List.mem_flatMap]
        refine ⟨fun ⟨f, h1, h2⟩ => ⟨(abRows_mem.mp h2).1, f, (abRows_mem.mp h2).2, h1⟩, fun ⟨h1, f, h2, h3⟩ => ⟨f, h3, abRows_mem.mpr ⟨h1, h2⟩⟩⟩
      have cD := c.mono (exD (o := .lst (us.map vN)))
      have hcll := c.pa.l
      have hmsl := c.small
      refine ⟨p, D, a, b, ds, cl, ms, us, rfl, cD.pt, SqL.of upd_same, ?_, fun u hu => ?_, by omega, by omega, c.pa.c, fun f hs' H9 e9 hH hO => ?_⟩
      · rw [← hus]
        have h1 := flat_le (g := abRows s s.length k) (fun x => abRows_len hsl) (xs := xs)
        omega
      · rw [hcll]; exact ((husm u).mp hu).1
      have R0 : KM.Rest s cl xs k (hs'.map fun x => (x.1, x.2.2)) := by
        refine ⟨hO.k, fun c0 h hh => ?_, fun c0 hc0 i j hi hj => ?_⟩
        · obtain ⟨h1, h2, h3⟩ := hO.m c0 h hh
          refine ⟨h1, h2, fun u => ?_⟩
          rw [h3, husm]
          exact ⟨fun z => ⟨z.2, z.1.2⟩, fun z => ⟨⟨by rw [← hcll]; exact (List.getElem?_eq_some_iff.mp z.1).1, z.2⟩, z.1⟩⟩
        · have no : ∀ {i : Nat}, cl[i]? = some c0 → ¬ KM.HitP s xs k i := fun {i} hi z => by
            obtain ⟨h, hh⟩ := hO.o i ((husm i).mpr ⟨by rw [← hcll]; exact (List.getElem?_eq_some_iff.mp hi).1, z⟩) c0 hi
            exact hc0 (List.mem_map_of_mem (f := fun x : Nat × List Nat => x.1) hh)
          exact ⟨fun z => absurd z (no hi), fun z => absurd z (no hj)⟩
      obtain ⟨t1, t2, t3⟩ := cD.fresh hH.f0
      have c9 := (cD.mono e9)
      have hhf : ∀ x ∈ hs', H9 x.2.1 = some (.dK (x.2.2.map kT)) ∧ x.2.1 ∉ foot p a b ds ∧ x.2.1 ≠ wl ∧ G2 x.2.1 = none ∧ x.2.1 ≠ f := fun x hx => by
        obtain ⟨h1, h2⟩ := hH.m x hx
        obtain ⟨h3, h4, h5⟩ := cD.fresh h1
        exact ⟨h2, h3, h4, h5, fun z => hH.fn (by rw [← z]; exact List.mem_map_of_mem (f := fun x : Nat × Addr × List Nat => x.2.1) hx)⟩
      dsimp only
      refine ⟨f, _, hH.hf, trivial, fun od => ?_⟩
      refine ⟨.ref f, rfl, f, od, _, rfl, upd_same, ?_⟩
      refine for_it (walk_items (d := f) (o := od) (kvs := hs'.map fun x => (kN x.1, V.ref x.2.1))) (fun i σ H' => ∃ (o7 o8 o9 o10 : Option V) (ds : List Addr) (cl : List Nat) (ms : List (List Nat)) (W : List Nat), σ = [some (.ref ra), some (.ref p), some (.ref L), some (.ref wl), some (.ref cq), some (.ref x.1), some (.ref f), o7, o8, o9, o10] ∧
          H' f = some (.frz od (.dK (hs'.map fun x => (kN x.1, V.ref x.2.1)))) ∧ CS T.C_Partition s p a b wl G2 H' ds cl ms W ∧ f ∉ foot p a b ds ∧ (∀ x ∈ hs'.drop i, H' x.2.1 = some (.dK (x.2.2.map kT)) ∧ x.2.1 ∉ foot p a b ds) ∧
          KM.Rest s cl xs k ((hs'.drop i).map fun x => (x.1, x.2.2)) ∧ KM.Jn s cl W xs ∧ (∀ k', k' < k → KM.St s cl xs k') ∧ W.length + 2 * (s.length - ms.length) < m)
        ⟨o7, o8, o9, o10, ds, cl, ms, W, rfl, upd_same, c9.other t1 t2 t3, t1, fun x hx => ?_, R0, J, hS, hm⟩ (fun i σ H' _ ⟨_, _, _, _, _, _, _, _, _, h, _⟩ => h) (fun i y σ H' H10 hi hP hY => ?_) (fun σ H' hP => ?_)
      · obtain ⟨h1, h2, _, _, h5⟩ := hhf x hx
        exact ⟨by rw [upd_ne h5]; exact h1, h2⟩
      · obtain ⟨o7, o8, o9, o10, ds, cl, ms, W, rfl, hfz, c, hff, hhs, R, J, hS, hm⟩ := hP
        obtain ⟨Tt, y1, y2, rfl, hT, rfl, hy1, hy2⟩ := hY
        rw [List.length_map] at hi
        have hat : hs'[i]? = some hs'[i] := List.getElem?_eq_getElem hi
        have hdr : hs'.drop i = hs'[i] :: hs'.drop (i + 1) := List.drop_eq_getElem_cons hi
        generalize hs'[i] = x0 at hat hdr
        obtain ⟨c0, hd, h⟩ := x0
        have hy1 : (((hs'.map fun x => (kN x.1, V.ref x.2.1)))[i]?.map fun kv => kV kv.1) = some y1 := hy1
        have hy2 : (((hs'.map fun x => (kN x.1, V.ref x.2.1)))[i]?.map Prod.snd) = some y2 := hy2
        rw [List.getElem?_map, hat] at hy1 hy2
        cases hy1
        cases hy2
        have hhm : (c0, hd, h) ∈ hs'.drop i := by rw [hdr]; exact List.mem_cons_self
        obtain ⟨hh1, hh2⟩ := hhs _ hhm
        obtain ⟨_, _, hh3, hh4, hh5⟩ := hhf (c0, hd, h) (List.mem_of_getElem? hat)
        rw [hdr, List.map_cons] at R
        have exT : ∀ {o : HO}, Ex H' (upd H' Tt o) := Ex.up hT
        have c7 := c.mono (exT (o := .tup [vN c0, .ref hd]))
        have h7f := exT (o := .tup [vN c0, .ref hd]) _ _ hfz
        have h7h := exT (o := .tup [vN c0, .ref hd]) _ _ hh1
        have hhs7 : ∀ x ∈ hs'.drop i, (upd H' Tt (.tup [vN c0, .ref hd])) x.2.1 = some (.dK (x.2.2.map kT)) ∧ x.2.1 ∉ foot p a b ds := fun x hx => ⟨exT _ _ (hhs x hx).1, (hhs x hx).2⟩
        refine ⟨Tt, [vN c0, .ref hd], rfl, SqT.of upd_same, rfl, _, _, rfl, _, _, rfl, rfl, ?_⟩
        have e7 : upd H' Tt (.tup [kV (kN c0), V.ref hd]) = upd H' Tt (.tup [vN c0, .ref hd]) := rfl
        show tIfS _ _ _ _ _ (upd H' Tt (.tup [vN c0, .ref hd]))
        generalize upd H' Tt (.tup [vN c0, .ref hd]) = H7 at c7 h7f h7h hhs7
        obtain ⟨xs', hms', hsub, hle⟩ := R.at c7.pa
        obtain ⟨hn1, hn2, hn3⟩ := R.m c0 h List.mem_cons_self
        have hcl := (List.getElem?_eq_some_iff.mp hms').1
        have hd0 : ds[c0]? = some (ds[c0]'(by rw [c7.pt.l]; exact hcl)) := List.getElem?_eq_getElem _
        generalize ds[c0]'(by rw [c7.pt.l]; exact hcl) = d0 at hd0
        obtain ⟨dx7, fs7, h7p, g7c, g7m, g7b, g7s⟩ := id c7.pt.hp
        refine ⟨.ref hd, rfl, hd, _, rfl, h7h, .ref p, rfl, p, _, dx7, fs7, .ref b, rfl, h7p, T.cl_Partition, T.na_Partition_members, g7m, vN c0, rfl, b, _, _, .ref d0, rfl, rfl, SqL.of c7.pt.hb, atI_nat (by rw [List.getElem?_map, hd0]; rfl), d0, _, rfl, c7.pt.m c0 d0 xs' hd0 hms', _, _, rfl, rfl, _, rfl, ?_⟩
        dsimp only
        have hnat : ∀ {x y : Nat}, decide (((x : Nat) : Int) < ((y : Nat) : Int)) = decide (x < y) := fun {x y} => by
          rw [decide_eq_decide]; omega
        rw [hnat, List.length_map, List.length_map]
        by_cases hl : h.length < xs'.length
        · rw [if_pos (by simpa using hl)]
          refine ⟨.ref wl, rfl, .inl ⟨rfl, _, SqL.of c7.hw⟩, .ref p, rfl, p, dx7, fs7, rfl, h7p, g7s, vN c0, rfl, .ref hd, rfl, p, a, b, hd, ds, cl, ms, c0, h, xs', s, rfl, c7.pt, c7.pa, hsl, hms', h7h, hh2, hn1, hn2, hsub, hl, fun mv cl' xs'' ms' d' H8 Cu hor P' F' hd' => ?_⟩
          have hw8 : H8 wl = some (.lst (W.map vN)) := F' _ _ c7.wf c7.hw
          have hgd : G2 d' = none ∧ d' ≠ wl ∧ d' ≠ f ∧ ∀ x ∈ hs'.drop (i + 1), x.2.1 ≠ d' := by
            have hsub2 : ∀ x ∈ hs'.drop (i + 1), x ∈ hs'.drop i := fun x hx => by rw [hdr]; exact List.mem_cons_of_mem _ hx
            rcases hd' with e | e
            · rw [e]
              refine ⟨hh4, hh3, hh5, fun x hx z => ?_⟩
              have hn := hH.n
              have h1 : (hs'.drop i).map (fun x => x.2.1) = (hs'.map (·.2.1)).drop i := List.map_drop
              have h2 : ((hs'.drop i).map fun x => x.2.1).Nodup := by rw [h1]; exact hn.sublist (List.drop_sublist _ _)
              rw [hdr, List.map_cons] at h2
              exact (List.nodup_cons.mp h2).1 (by
                show hd ∈ _
                rw [← z]
                exact List.mem_map_of_mem (f := fun x : Nat × Addr × List Nat => x.2.1) hx)
            · refine ⟨c7.ex.fresh e, fun z => ?_, fun z => ?_, fun x hx z => ?_⟩
              · rw [z, c7.hw] at e; cases e
              · rw [z, h7f] at e; cases e
              · have := (hhs7 x (hsub2 x hx)).1
                rw [z, e] at this; cases this
          obtain ⟨q1, q2, q3, q4⟩ := hgd
          obtain ⟨pa', R'⟩ := R.cut c7.pa har hclo Cu hor
          have wf' : wl ∉ foot p a b (ds ++ [d']) := fun z => by
            rcases Fr.foot_app.mp z with z | z
            · exact c7.wf z
            · exact q2 z.symm
          refine ⟨wl, _, _, rfl, rfl, hw8, ?_, ?_⟩
          · rw [List.length_map]
            exact Nat.lt_of_le_of_lt (by omega : W.length ≤ 3000) (by decide)
          have hlen' := Cu.len
          have hsm' := pa'.small
          refine ⟨_, _, o9, o10, ds ++ [d'], cl', ms', W ++ [ms.length], rfl, ?_, ⟨?_, fun x hx => ?_, ?_, P'.other wf', pa', ?_, wf', fun x hx => ?_⟩, fun z => ?_, fun x hx => ?_, R', Cu.jn c7.pa J, fun k' hk' => Cu.st c7.pa (hS k' hk'), ?_⟩
          · have nfw : f ≠ wl := t2
            rw [upd_ne nfw]
            exact F' _ _ hff h7f
          · exact (Fr.ex F' c7.ex c7.nf).at c7.nw
          · rcases Fr.foot_app.mp hx with z | z
            · exact c7.nf x z
            · rw [z]; exact q1
          · exact c7.nw
          · rw [upd_same, List.map_append]; rfl
          · rw [hlen']
            rcases List.mem_append.mp hx with z | z
            · have := c7.wm x z; omega
            · rw [List.mem_singleton.mp z]; omega
          · rcases Fr.foot_app.mp z with z | z
            · exact hff z
            · exact q3 z.symm
          · have hx' : x ∈ hs'.drop i := by rw [hdr]; exact List.mem_cons_of_mem _ hx
            obtain ⟨a1, a2⟩ := hhs7 x hx'
            have hxw : x.2.1 ≠ wl := (hhf x (List.mem_of_mem_drop hx')).2.2.1
            refine ⟨by rw [upd_ne hxw]; exact F' _ _ a2 a1, fun z => ?_⟩
            rcases Fr.foot_app.mp z with z | z
            · exact a2 z
            · exact q4 x hx z
          · rw [List.length_append, List.length_singleton]
            omega
        · rw [if_neg (by simpa using hl)]
          refine ⟨_, _, o9, o10, ds, cl, ms, W, rfl, h7f, c7, hff, fun x hx => hhs7 x (by rw [hdr]; exact List.mem_cons_of_mem _ hx), R.all c7.pa hms' hl, J, hS, hm⟩
      · obtain ⟨o7, o8, o9, o10, ds, cl, ms, W, rfl, hfz, c, hff, hhs, R, J, hS, hm⟩ := hP
        refine ⟨hfz, _, _, o7, o8, o9, o10, ds, cl, ms, W, rfl, c.other hff t2 t3, J, fun k' hk' => ?_, hm⟩
        by_cases e : k' = k
        · subst e
          rw [List.length_map, List.drop_length] at R
          exact R.st har
        · exact hS k' (by omega)
  · obtain ⟨o5, o6, o7, o8, o9, o10, ds, cl, ms, W, rfl, c, J, hS, hm⟩ := hP
    refine ⟨_, hm, ?_⟩
    rw [hWf]
    refine ⟨_, o5, o6, o7, o8, o9, o10, ds, cl, ms, W, rfl, ?_, J.done fun k' => ?_, rfl, by omega⟩
    · rw [← hG2] at c
      exact c.thaw f3
    · by_cases hk : k' < as.length
      · exact hS k' (by rw [List.length_map]; exact hk)
      · intro i j c0 x y h1 h2 h3 h4
        have := (List.getElem?_eq_some_iff.mp h3).1
        have := hfl i
        omega
end
end L05
set_option Elab.async false
set_option linter.all false
set_option maxRecDepth 100000
set_option maxHeartbeats 1000000
namespace L05
open PySem PySem.Spec PyProof.Rows L2 KD
section
variable {P : Program} {w : World} {K : PySem.W.Frag} {mg : Str → Option Value} {base : Heap}
/-! ### rows of classes -/
def numOf (cl : List Nat) (i : Nat) : Nat := (cl[i]?).getD 0
def tagOf (s : KM.Sheet Str) (cl : List Nat) (c : Nat) : Str := (KM.tg s (cl.idxOf c)).getD ""
def fldOf (s : KM.Sheet Str) (cl : List Nat) (c : Nat) : List Nat := (KM.fl s (cl.idxOf c)).map (numOf cl)
/-- rows by number, in a dict -/
structure RowAt (H : Hp) (kvs : List (Key × V)) (c : Nat) (t : Str) (fs : List Nat) : Prop where
  ex : ∃ ra fa, valV kvs (kN c) = some (.ref ra) ∧ H ra = some (.tup [.str t, .ref fa]) ∧ H fa = some (.tup (fs.map vN))
theorem RowAt.mono {H H' : Hp} {kvs : List (Key × V)} {c : Nat} {t : Str} {fs : List Nat} (r : RowAt H kvs c t fs) (e : Ex H H') : RowAt H' kvs c t fs := by
  obtain ⟨ra, fa, h1, h2, h3⟩ := r.ex
  exact ⟨ra, fa, h1, e _ _ h2, e _ _ h3⟩
theorem RowAt.mono' {H H' : Hp} {kvs kvs' : List (Key × V)} {c : Nat} {t : Str} {fs : List Nat} (r : RowAt H kvs c t fs) (e : ∀ x xs, H x = some (.tup xs) → H' x = some (.tup xs)) (h : valV kvs' (kN c) = valV kvs (kN c)) : RowAt H' kvs' c t fs := by
  obtain ⟨ra, fa, h1, h2, h3⟩ := r.ex
  exact ⟨ra, fa, h.trans h1, e _ _ h2, e _ _ h3⟩
def Nw (H H' : Hp) : Hp := fun x => if H x = none then H' x else none
theorem Nw.at {H H' : Hp} {x : Addr} {o : HO} (h : H x = none) (h' : H' x = some o) : Nw H H' x = some o := by unfold Nw; rw [if_pos h]; exact h'
theorem Nw.of {H H' : Hp} {x : Addr} {o : HO} (h : Nw H H' x = some o) : H x = none ∧ H' x = some o := by
  unfold Nw at h
  by_cases z : H x = none
  · rw [if_pos z] at h; exact ⟨z, h⟩
  · rw [if_neg z] at h; cases h
structure Classes (s : KM.Sheet Str) (cl : List Nat) : Prop where
  l : cl.length = s.length
  b : ∀ c ∈ cl, c < s.length
  n : ∀ i j, i < s.length → j < s.length → (cl[i]? = cl[j]? ↔ KM.Same s s i j)
theorem numOf_at {cl : List Nat} {i c : Nat} (h : cl[i]? = some c) : numOf cl i = c := by unfold numOf; rw [h]; rfl
theorem Classes.first {s : KM.Sheet Str} {cl : List Nat} (C : Classes s cl) {i c : Nat} (h : cl[i]? = some c) : cl.idxOf c < s.length ∧ KM.Same s s (cl.idxOf c) i := by
  have hm := List.mem_of_getElem? h
  have hlt := List.idxOf_lt_length_iff.mpr hm
  have hi := (List.getElem?_eq_some_iff.mp h).1
  refine ⟨by rw [← C.l]; exact hlt, (C.n _ _ (by rw [← C.l]; exact hlt) (by rw [← C.l]; exact hi)).mp ?_⟩
  rw [h, List.getElem?_eq_getElem hlt, List.getElem_idxOf hlt]
theorem Classes.tag {s : KM.Sheet Str} {cl : List Nat} (C : Classes s cl) {i c : Nat} {r : Str × List Nat} (h : cl[i]? = some c) (hr : s[i]? = some r) : tagOf s cl c = r.1 := by
  obtain ⟨_, h2⟩ := C.first h
  unfold tagOf
  rw [h2.tag, KM.tg_at hr]; rfl
theorem Classes.fld {s : KM.Sheet Str} {cl : List Nat} {ar : Str → Nat} (C : Classes s cl) (hs : KM.Ok ar s) {i c : Nat} {r : Str × List Nat} (h : cl[i]? = some c) (hr : s[i]? = some r) : fldOf s cl c = r.2.map (numOf cl) := by
  obtain ⟨h1, h2⟩ := C.first h
  unfold fldOf
  have hl := hs.len hs h2.tag
  rw [KM.fl_at hr] at hl
  refine List.ext_getElem? fun k => ?_
  rw [List.getElem?_map, List.getElem?_map]
  by_cases hk : k < r.2.length
  · have hx : (KM.fl s (cl.idxOf c))[k]? = some ((KM.fl s (cl.idxOf c))[k]'(by omega)) := List.getElem?_eq_getElem _
    have hy : (KM.fl s i)[k]? = some r.2[k] := by rw [KM.fl_at hr]; exact List.getElem?_eq_getElem hk
    have hsm := h2.fld hx hy
    rw [hx, List.getElem?_eq_getElem hk]
    show some (numOf cl _) = some (numOf cl _)
    have e := (C.n _ _ (hs.fld (List.mem_of_getElem? hx)) (hs.fld (List.mem_of_getElem? hy))).mpr hsm
    unfold numOf
    rw [e]
  · rw [List.getElem?_eq_none (by omega), List.getElem?_eq_none (by omega)]
theorem Classes.least {s : KM.Sheet Str} {cl : List Nat} {ar : Str → Nat} (C : Classes s cl) (hs : KM.Ok ar s) {root : Nat} (hr : root < s.length) {met : List Nat} (d : KM.Dfs (fldOf s cl) [numOf cl root] [] met) :
    KM.IsLeast s root (KM.rooted (tagOf s cl) (fldOf s cl) met) := by
  have at_ : ∀ {i : Nat}, i < s.length → ∃ c r, cl[i]? = some c ∧ s[i]? = some r ∧ numOf cl i = c := fun {i} hi => by
    obtain ⟨r, h1, _⟩ := KM.at_lt hi
    have h2 : cl[i]? = some (cl[i]'(by rw [C.l]; exact hi)) := List.getElem?_eq_getElem _
    exact ⟨_, r, h2, h1, numOf_at h2⟩
  refine ⟨numOf cl, tagOf s cl, fldOf s cl, met, ⟨fun i j hi hj => ?_, fun i hi => ?_, fun i hi => ?_, d, rfl⟩⟩
  · obtain ⟨c, r, h1, _, h3⟩ := at_ hi
    obtain ⟨c', r', h1', _, h3'⟩ := at_ hj
    rw [h3, h3', ← C.n i j hi hj, h1, h1']
    exact ⟨fun e => by rw [e], fun e => Option.some.inj e⟩
  · obtain ⟨c, r, h1, h2, h3⟩ := at_ hi
    rw [h3, C.tag h1 h2, KM.tg_at h2]
  · obtain ⟨c, r, h1, h2, h3⟩ := at_ hi
    rw [h3, C.fld hs h1 h2, KM.fl_at h2]
def spMerged (K : PySem.W.Frag) : Sp := fun vs H Q _ => ∃ (ra : Addr) (s : KM.Sheet Str) (G : Hp), vs = [.ref ra] ∧ Ex G H ∧ Da K G (.ref ra) (sheetD s) ∧ SzOk s ∧
  ∀ (H' : Hp) (t md a : Addr) (kvs : List (Key × V)) (cl : List Nat), Ex H H' → H' t = some (.tup [.ref md, .ref a]) → H' md = some (.dK kvs) → H md = none → H a = none → H' a = some (.lst (cl.map vN)) → Classes s cl →
    (∀ (i c : Nat), cl[i]? = some c → RowAt (Nw H H') kvs c (tagOf s cl c) (fldOf s cl c)) → Q (.ref t) H'
theorem ok_merged_rows (T : Txt K mg) : FnG P w K mg base CX0 4 T.a_merged_rows T.d_merged_rows ["rows"] (spMerged K) := by
  have G_row_classes := ok_row_classes (P := P) (w := w) (base := base) T
  refine okG T.F_merged_rows sc_merged_rows (fun vs H Q E h => ?_) fun cdv A outer s0 H vs Q E hr hq h => ?_
  · obtain ⟨ra, s, G, rfl, _⟩ := h
    rfl
  obtain ⟨ra, s, G, rfl, eg, x1, hs, q⟩ := h
  have hu := hu_of hr
  have hu1 := hu
  have hsl := hs.l
  obtain ⟨ar, har⟩ := hs.ok
  obtain ⟨rvs, hra, hrv⟩ : ∃ rvs, G ra = some (.tup rvs) ∧ DaAll K G rvs (s.map rowD) := by
    cases x1 with | tup h1 h2 => exact ⟨_, h1, h2⟩
  have hlen := hrv.length
  rw [List.length_map] at hlen
  refine ⟨_, (pss_cons (ps_set (i := 1) sc_merged_rows.nd rfl (.inr rfl) (pe_g G_row_classes hr hq (by rfl) T.g_row_classes T.F_row_classes.kp T.b_row_classes .nil pass0 (pa_cons (pv 0) pa_nil)))
    (pss_cons (ps_set (i := 2) sc_merged_rows.nd rfl (.inl rfl) pe_dnewK)
    (pss_cons (ps_for PassesOwn.never rfl (pi_zipMK K (by rfl) T.m_zip (pa_cons (pv 1) (pa_cons (pv 0) pa_nil))) (pg_tupK K rfl (pgs_cons (pg_name (i := 3) sc_merged_rows.nd rfl (.inl rfl)) (pgs_cons (pg_tupK K rfl (pgs_cons (pg_name (i := 4) sc_merged_rows.nd rfl (.inl rfl)) (pgs_cons (pg_name (i := 5) sc_merged_rows.nd rfl (.inl rfl)) pgs_nil))) pgs_nil)))
    (pss_one (ps_dput hu1 (pv 2) (pv 3) (pe_tup (pa_cons (pv 4) (pa_cons (pe_callTy (call_tupK K) (by rfl) T.m_tuple (by decide +kernel) (pa_cons (pe_lc (own := [("field", 6)]) (g := gName 6) (tt := tYes) rfl sc_merged_rows.nd  (pi_tupK K (pv 5)) (blkOk_by (N := N_merged_rows) (sc := defScope s_merged_rows) (by decide +kernel)) (fun _ _ _ _ _ => (pg_name (i := 6) sc_merged_rows.nd rfl (.inl rfl))) (fun _ _ _ _ _ => pts_nil) (fun _ _ _ _ _ => (pe_ix (ix_listK K) (pv 1) (pv 6) (fun _ _ => rfl)))) pa_nil)) pa_nil))) rfl)))
    (pss_one (ps_ret (pe_tup (pa_cons (pv 2) (pa_cons (pv 1) pa_nil)))))))), ?_⟩
  refine ⟨.ref ra, rfl, ra, s, G, rfl, eg, x1, hs, fun H1 a cl e1 ha0 ha hcl hcb hcn => ?_⟩
  have C : Classes s cl := ⟨hcl, hcb, hcn⟩
  dsimp only
  intro md hmd
  have e2 : Ex H1 (upd H1 md (.dK [])) := Ex.up hmd
  have hra2 := e2 _ _ (e1 _ _ (eg _ _ hra))
  have hzl : (cl.map vN).length = rvs.length := by rw [List.length_map, hcl, hlen]
  refine ⟨.ref a, rfl, .ref ra, rfl, a, ra, _, _, rfl, SqL.of (e2 _ _ ha), SqT.of hra2, ?_⟩
  refine for_it (walk_zipM (K := K) (a := a) (b := ra) (xs := cl.map vN) (ys := rvs) hzl) (fun i σ H' => ∃ (o3 o4 o5 o6 : Option V) (kvs : List (Key × V)), σ = [some (.ref ra), some (.ref a), some (.ref md), o3, o4, o5, o6] ∧ Ex H1 H' ∧ H' md = some (.dK kvs) ∧ kvs.length ≤ i ∧
      (∀ (j c : Nat), j < i → cl[j]? = some c → RowAt (Nw H1 H') kvs c (tagOf s cl c) (fldOf s cl c)))
    ⟨none, none, none, none, [], rfl, e2, upd_same, Nat.le_refl _, fun _ _ h => absurd h (Nat.not_lt_zero _)⟩ (fun i σ H' _ ⟨_, _, _, _, _, _, e, _⟩ => ⟨SqL.of (e _ _ ha), SqT.of (e _ _ (e1 _ _ (eg _ _ hra)))⟩) (fun i x σ H' H6 hi hP hY => ?_) (fun σ H' hP => ?_)
  · obtain ⟨o3, o4, o5, o6, kvs, rfl, e', hk, hkl, hrow⟩ := hP
    obtain ⟨Tt, y, z, rfl, hT, rfl, hy, hz⟩ := hY
    rw [List.length_map, hcl] at hi
    have hci : cl[i]? = some (cl[i]'(by omega)) := List.getElem?_eq_getElem _
    generalize cl[i]'(by omega) = c at hci
    have hy : (cl.map vN)[i]? = some y := hy
    rw [List.getElem?_map, hci] at hy
    cases hy
    obtain ⟨d, hd, dd⟩ := hrv.get hz
    rw [List.getElem?_map] at hd
    obtain ⟨r, hr1, rfl⟩ := Option.map_eq_some_iff.mp hd
    have hrm := List.mem_of_getElem? hr1
    have htg := C.tag hci hr1
    have hfd := C.fld har hci hr1
    have hfs := har.f r hrm
    have hfz := hs.f r hrm
    obtain ⟨t, fs⟩ := r
    cases dd with | @tup rr xs1 _ h1 h2 => ?_
    cases h2 with | cons a1 h2 => ?_
    cases h2 with | cons a2 h2 => ?_
    cases h2; cases a1
    cases a2 with | @tup fa xs2 _ b1 b2 => ?_
    have hnats := daAll_nats b2
    subst hnats
    have g1 : ∀ {x o}, G x = some o → H' x = some o := fun h => e' _ _ (e1 _ _ (eg _ _ h))
    have exT : ∀ {o : HO}, Ex H' (upd H' Tt o) := Ex.up hT
    refine ⟨Tt, [vN c, .ref rr], rfl, SqT.of upd_same, rfl, _, _, rfl, _, _, rfl, ⟨rr, _, rfl, SqT.of (exT _ _ (g1 h1)), rfl, _, _, rfl, _, _, rfl, rfl, rfl, ?_⟩⟩
    have e7 : Ex H' (upd H' Tt (.tup [vN c, .ref rr])) := exT
    generalize upd H' Tt (.tup [vN c, .ref rr]) = H7 at e7
    refine ⟨.str t, rfl, .ref fa, rfl, fa, rfl, ⟨_, SqT.of (e7 _ _ (g1 b1))⟩, fun D hD => ?_⟩
    have exD : ∀ {o : HO}, Ex H7 (upd H7 D o) := Ex.up hD
    refine lc_it (walk_tup (K := K) (a := fa) (xs := fs.map vN)) (fun j H'' => H'' = upd H7 D (.lst (((fs.take j).map (numOf cl)).map vN))) rfl (fun j H'' _ e => by rw [e]; exact SqT.of (exD _ _ (e7 _ _ (g1 b1)))) (fun j x H'' H9 hj hP hY => ?_) (fun H'' hP => ?_)
    · subst hP
      obtain ⟨rfl, hx⟩ := hY
      rw [List.getElem?_map] at hx
      obtain ⟨f, hf, rfl⟩ := Option.map_eq_some_iff.mp hx
      have hfl : f < cl.length := by rw [hcl]; exact hfs f (List.mem_of_getElem? hf)
      have hcf : cl[f]? = some cl[f] := List.getElem?_eq_getElem hfl
      have hnf := numOf_at hcf
      refine ⟨rfl, yes_if ?_⟩
      refine ⟨.ref a, rfl, vN f, rfl, a, _, _, vN (numOf cl f), rfl, rfl, SqL.of (exD _ _ (e7 _ _ (e' _ _ ha))), atI_nat (by rw [List.getElem?_map, hcf, hnf]; rfl), _, upd_same, ?_, ?_⟩
      · refine Nat.lt_of_le_of_lt ?_ (by decide : 3 < sizeLine)
        rw [List.length_map, List.length_map, List.length_take]
        have : fs.length ≤ 3 := hfz
        omega
      · rw [upd_upd, List.take_add_one, hf, List.map_append, List.map_append]; rfl
    · subst hP
      rw [List.length_map, List.take_length]
      have e8 : Ex H' (upd H7 D (.lst ((fs.map (numOf cl)).map vN))) := e7.tr exD
      refine ⟨D, _, rfl, .inl ⟨SqL.of upd_same, fun l hl => ?_⟩⟩
      generalize upd H7 D (.lst ((fs.map (numOf cl)).map vN)) = H8 at e8 hl
      have hl0 : H1 l = none := e'.fresh (e8.fresh hl)
      have e9 : Ex H' (upd H8 l (.tup ((fs.map (numOf cl)).map vN))) := e8.tr (Ex.up hl)
      have hl9 : upd H8 l (.tup ((fs.map (numOf cl)).map vN)) l = some (.tup ((fs.map (numOf cl)).map vN)) := upd_same
      generalize upd H8 l (.tup ((fs.map (numOf cl)).map vN)) = H9 at e9 hl9
      refine ⟨(by show 2 ≤ sizeLine; decide), fun pr hpr => ?_⟩
      have e10 : Ex H9 (upd H9 pr (.tup [.str t, .ref l])) := Ex.up hpr
      have hp10 : upd H9 pr (.tup [.str t, .ref l]) pr = some (.tup [.str t, .ref l]) := upd_same
      have hpr0 : H1 pr = none := e'.fresh (e9.fresh hpr)
      generalize upd H9 pr (.tup [.str t, .ref l]) = H10 at e10 hp10
      have hk10 := e10 _ _ (e9 _ _ hk)
      have tupne : ∀ {x xs}, H10 x = some (.tup xs) → x ≠ md := fun h z => by rw [z, hk10] at h; cases h
      refine ⟨.ref md, rfl, vN c, rfl, md, _, rfl, DPut.k (k := kN c) hk10 (Nat.lt_of_le_of_lt (by omega : kvs.length ≤ 1000) (by decide)), _, _, _, _, _, rfl, fun x o h => ?_, upd_same, Nat.le_trans (length_putK _ _ _) (by omega), fun j c' hj hc' => ?_⟩
      · rw [upd_ne (fun z => by rw [z, hmd] at h; cases h)]
        exact e10 _ _ (e9 _ _ (e' _ _ h))
      · by_cases ec : c' = c
        · subst ec
          refine ⟨pr, l, by rw [valV_put, if_pos rfl], ?_, ?_⟩
          · refine Nw.at hpr0 ?_
            rw [upd_ne (tupne hp10), htg]; exact hp10
          · refine Nw.at hl0 ?_
            rw [upd_ne (tupne (e10 _ _ hl9)), hfd]; exact e10 _ _ hl9
        · have hjl : j < i := by
            rcases Nat.lt_or_ge j i with h | h
            · exact h
            · have : j = i := by omega
              rw [this, hci] at hc'
              exact absurd (Option.some.inj hc').symm ec
          refine (hrow j c' hjl hc').mono' (fun x xs h => ?_) (by rw [valV_put, if_neg (fun z => ec (kN_inj z))])
          obtain ⟨h11, h12⟩ := Nw.of h
          have h10 := e10 _ _ (e9 _ _ h12)
          refine Nw.at h11 ?_
          rw [upd_ne (tupne h10)]; exact h10
  · obtain ⟨o3, o4, o5, o6, kvs, rfl, e', hk, hkl, hrow⟩ := hP
    rw [List.length_map, hcl] at hrow
    refine ⟨.ref md, rfl, .ref a, rfl, (by show 2 ≤ sizeLine; decide), fun t ht => ?_⟩
    have et : Ex H' (upd H' t (.tup [.ref md, .ref a])) := Ex.up ht
    refine q _ t md a kvs cl ((e1.tr e').tr et) upd_same (et _ _ hk) (e1.fresh hmd) ha0 (et _ _ (e' _ _ ha)) C fun i c hi => (hrow i c (by rw [← hcl]; exact (List.getElem?_eq_some_iff.mp hi).1) hi).mono' (fun x xs h => ?_) rfl
    obtain ⟨h1, h2⟩ := Nw.of h
    exact Nw.at (e1.fresh h1) (et _ _ h2)
end
end L05
set_option Elab.async false
set_option linter.all false
set_option maxRecDepth 100000
set_option maxHeartbeats 1000000
namespace L05
open PySem PySem.Spec PyProof.Rows L2 KD
section
variable {P : Program} {w : World} {K : PySem.W.Frag} {mg : Str → Option Value} {base : Heap}
/-! ### a sheet from a root -/
def spRenum (K : PySem.W.Frag) : Sp := fun vs H Q _ => ∃ (ra nd fa : Addr) (t : Str) (fs : List Nat) (kvs : List (Key × V)) (idx : Nat → Nat) (G : Hp), vs = [.ref ra, .ref nd] ∧ Ex G H ∧ G ra = some (.tup [.str t, .ref fa]) ∧ G fa = some (.tup (fs.map vN)) ∧
  Rd H nd (.dK kvs) ∧ (∀ f ∈ fs, valV kvs (kN f) = some (vN (idx f))) ∧ fs.length ≤ 3 ∧
  ∀ (v : V) (G' H' : Hp), Up G H G' H' → Da K G' v (rowD (t, fs.map idx)) → Q v H'
theorem Rd.ex {H H' : Hp} {a : Addr} {u : HO} (r : Rd H a u) (e : Ex H H') : Rd H' a u := r.elim (fun h => .inl (e _ _ h)) fun ⟨o, h⟩ => .inr ⟨o, e _ _ h⟩
theorem DGet.r {H : Hp} {a : Addr} {kvs : List (Key × V)} {k : Key} (e : Rd H a (.dK kvs)) : DGet H a (kV k) (valV kvs k) := .inl ⟨kvs, k, e, rfl, rfl⟩
theorem ok_renumbered (T : Txt K mg) : FnG P w K mg base CX0 1 T.a_renumbered T.d_renumbered ["row", "numbers"] (spRenum K) := by
  refine okG T.F_renumbered sc_renumbered (fun vs H Q E h => ?_) fun cdv A outer s0 H vs Q E hr hq h => ?_
  · obtain ⟨ra, nd, fa, t, fs, kvs, idx, G, rfl, _⟩ := h
    rfl
  obtain ⟨ra, nd, fa, t, fs, kvs, idx, G, rfl, eg, h1, h2, hd, hv, hl, q⟩ := h
  have hu := hu_of hr
  have hu1 := hu
  refine ⟨_, (pss_cons (ps_asg (pv 0) (pg_tupK K rfl (pgs_cons (pg_name (i := 2) sc_renumbered.nd rfl (.inl rfl)) (pgs_cons (pg_name (i := 3) sc_renumbered.nd rfl (.inl rfl)) pgs_nil))))
    (pss_one (ps_ret (pe_tup (pa_cons (pv 2) (pa_cons (pe_callTy (call_tupK K) (by rfl) T.m_tuple (by decide +kernel) (pa_cons (pe_lc (own := [("field", 4)]) (g := gName 4) (tt := tYes) rfl sc_renumbered.nd  (pi_tupK K (pv 3)) (blkOk_by (N := N_renumbered) (sc := defScope s_renumbered) (by decide +kernel)) (fun _ _ _ _ _ => (pg_name (i := 4) sc_renumbered.nd rfl (.inl rfl))) (fun _ _ _ _ _ => pts_nil) (fun _ _ _ _ _ => (pe_dget hu1 (pv 1) (pv 4) (fun _ _ => rfl)))) pa_nil)) pa_nil)))))), ?_⟩
  refine ⟨.ref ra, rfl, ra, _, rfl, SqT.of (eg _ _ h1), rfl, _, _, rfl, _, _, rfl, rfl, ?_⟩
  refine ⟨.str t, rfl, .ref fa, rfl, fa, rfl, ⟨_, SqT.of (eg _ _ h2)⟩, fun D hD => ?_⟩
  have exD : ∀ {o : HO}, Ex H (upd H D o) := Ex.up hD
  refine lc_it (walk_tup (K := K) (a := fa) (xs := fs.map vN)) (fun j H'' => H'' = upd H D (.lst (((fs.take j).map idx).map vN))) rfl (fun j H'' _ e => by rw [e]; exact SqT.of (exD _ _ (eg _ _ h2))) (fun j x H'' H9 hj hP hY => ?_) (fun H'' hP => ?_)
  · subst hP
    obtain ⟨rfl, hx⟩ := hY
    rw [List.getElem?_map] at hx
    obtain ⟨f, hf, rfl⟩ := Option.map_eq_some_iff.mp hx
    refine ⟨rfl, yes_if ?_⟩
    refine ⟨.ref nd, rfl, vN f, rfl, nd, vN (idx f), rfl, ?_, _, upd_same, ?_, ?_⟩
    · have := DGet.r (k := kN f) (Rd.ex hd (exD (o := .lst (((fs.take j).map idx).map vN))))
      rw [hv f (List.mem_of_getElem? hf)] at this
      exact this
    · refine Nat.lt_of_le_of_lt ?_ (by decide : 3 < sizeLine)
      rw [List.length_map, List.length_map, List.length_take]
      omega
    · rw [upd_upd, List.take_add_one, hf, List.map_append, List.map_append]; rfl
  · subst hP
    rw [List.length_map, List.take_length]
    refine ⟨D, _, rfl, .inl ⟨SqL.of upd_same, fun l hl => ?_⟩⟩
    have hlH : H l = none := (upd_ne_none hl).2
    have nlD : l ≠ D := (upd_ne_none hl).1
    refine ⟨(by show 2 ≤ sizeLine; decide), fun pr hpr => ?_⟩
    obtain ⟨npl, hpr1⟩ := upd_ne_none hpr
    obtain ⟨npD, hprH⟩ := upd_ne_none hpr1
    have gl := eg.fresh hlH
    have gp := eg.fresh hprH
    refine q _ (upd (upd G l (.tup ((fs.map idx).map vN))) pr (.tup [.str t, .ref l])) _ ⟨?_, ?_, ?_, fun b h3 h4 => ?_⟩ ?_
    · exact (Ex.up gl).tr (Ex.up (by rw [upd_ne npl]; exact gp))
    · intro x o e
      by_cases z : x = pr
      · subst z; rw [upd_same] at e ⊢; exact e
      · rw [upd_ne z] at e ⊢
        by_cases y : x = l
        · subst y; rw [upd_same] at e ⊢; exact e
        · rw [upd_ne y] at e ⊢
          exact exD _ _ (eg _ _ e)
    · exact (exD.tr (Ex.up hl)).tr (Ex.up hpr)
    · rw [upd_ne (fun z => h3 (by rw [z]; exact hprH)), upd_ne (fun z => h3 (by rw [z]; exact hlH))]
      exact h4
    · refine .tup upd_same (.cons (.str _) (.cons (.tup (by rw [upd_ne npl.symm]; exact upd_same) daAll_ofNats) .nil))
def kvNum (met : List Nat) : List (Key × V) := met.zipIdx.map fun p => (kN p.1, vN p.2)
theorem kvNum_snoc {acc : List Nat} {t : Nat} : kvNum (acc ++ [t]) = kvNum acc ++ [(kN t, vN acc.length)] := by
  unfold kvNum
  rw [List.zipIdx_append, List.map_append]
  simp
theorem kvNum_length {acc : List Nat} : (kvNum acc).length = acc.length := by unfold kvNum; rw [List.length_map, List.length_zipIdx]
theorem kvNum_from {t : Nat} : ∀ {acc : List Nat} {k : Nat}, valV ((acc.zipIdx k).map fun p => (kN p.1, vN p.2)) (kN t) = if t ∈ acc then some (vN (k + acc.idxOf t)) else none
  | [], k => rfl
  | x :: r, k => by
    rw [List.zipIdx_cons, List.map_cons]
    by_cases e : x = t
    · subst e
      rw [valV_pos rfl, if_pos List.mem_cons_self, List.idxOf_cons_self]
      rfl
    · rw [valV_neg (fun z => e (kN_inj z)), kvNum_from]
      rw [List.idxOf_cons, beq_false_of_ne e]
      by_cases h : t ∈ r
      · rw [if_pos h, if_pos (List.mem_cons_of_mem _ h)]
        show some (vN _) = some (vN _)
        congr 2
        show k + 1 + List.idxOf t r = k + (List.idxOf t r + 1)
        omega
      · rw [if_neg h, if_neg (by simp [h, Ne.symm e])]
theorem valV_kvNum {acc : List Nat} {t : Nat} : valV (kvNum acc) (kN t) = if t ∈ acc then some (vN (acc.idxOf t)) else none := by
  unfold kvNum
  rw [kvNum_from]
  simp
theorem kvNum_get {acc : List Nat} {i : Nat} {k : Key} {v : V} (h : (kvNum acc)[i]? = some (k, v)) : ∃ c, acc[i]? = some c ∧ k = kN c := by
  unfold kvNum at h
  rw [List.getElem?_map, List.getElem?_zipIdx] at h
  obtain ⟨p, hp, e⟩ := Option.map_eq_some_iff.mp h
  obtain ⟨x, hx, rfl⟩ := Option.map_eq_some_iff.mp hp
  exact ⟨x, hx, (Prod.mk.inj e).1.symm⟩
def spRooted (K : PySem.W.Frag) : Sp := fun vs H Q _ => ∃ (md : Addr) (root : Nat) (Tg : Nat → Str) (Fl : Nat → List Nat) (Pn : Nat → Prop) (kvs : List (Key × V)) (G : Hp), vs = [.ref md, vN root] ∧ Ex G H ∧ G md = some (.dK kvs) ∧
  (∀ c, Pn c → c < 1000 ∧ RowAt G kvs c (Tg c) (Fl c) ∧ (Fl c).length ≤ 3 ∧ ∀ y ∈ Fl c, Pn y) ∧ Pn root ∧
  ∀ (met : List Nat) (v : V) (G' H' : Hp), KM.Dfs Fl [root] [] met → Up G H G' H' → Da K G' v (sheetD (KM.rooted Tg Fl met)) → Q v H'
theorem ok_rooted (T : Txt K mg) : FnG P w K mg base CX0 2 T.a_rooted T.d_rooted ["rows", "root"] (spRooted K) := by
  have G_renumbered := ok_renumbered (P := P) (w := w) (base := base) T
  refine okG T.F_rooted sc_rooted (fun vs H Q E h => ?_) fun cdv A outer s0 H vs Q E hr hq h => ?_
  · obtain ⟨md, root, Tg, Fl, Pn, kvs, G, rfl, _⟩ := h
    rfl
  obtain ⟨md, root, Tg, Fl, Pn, kvs, G, rfl, eg, hmd, hP, hroot, q⟩ := h
  have hu := hu_of hr
  have hu1 := hu
  refine ⟨_, (pss_cons (ps_set (i := 2) sc_rooted.nd rfl (.inr rfl) pe_dnewK)
    (pss_cons (ps_set (i := 3) sc_rooted.nd rfl (.inl rfl) (pe_lst (pa_cons (pv 1) pa_nil)))
    (pss_cons (ps_while PassesOwn.never (pt_truthK K (pv 3) (by intro _; rfl))
    (pss_cons (ps_set (i := 4) sc_rooted.nd rfl (.inl rfl) (pe_bm0 PySem.F.plainAttrs_list PySem.F.slot_list_pop PySem.F.type_list_pop mt_pop (pv 3)))
    (pss_one (ps_if (pt_cmp (pc_dnotin hu1 (pv 4) (pv 2)) rfl)
    (pss_cons (ps_dput hu1 (pv 2) (pv 4) (pe_callB call_lenD (by rfl) T.m_len PySem.boot_len (pa_cons (pv 2) pa_nil)) rfl)
    (pss_one (ps_expr (pe_bm PySem.F.plainAttrs_list PySem.F.slot_list_extend PySem.F.type_list_extend (mt_extendT K) (pv 3) (pa_cons (pe_revTK K (pe_ix (ix_tupK K) (pe_dget hu1 (pv 0) (pv 4) (fun _ _ => rfl)) pe_int (fun _ _ => rfl))) pa_nil)))))
    pss_nil))))
    (pss_one (ps_ret (pe_callTy (call_tupK K) (by rfl) T.m_tuple (by decide +kernel) (pa_cons (pe_lock (pe_lc (own := [("row", 4)]) (g := gName 4) (tt := tYes) rfl sc_rooted.nd  (pi_keys (pv 2)) (blkOk_by (N := N_rooted) (sc := defScope s_rooted) (by decide +kernel)) (fun _ _ _ _ _ => (pg_name (i := 4) sc_rooted.nd rfl (.inl rfl))) (fun _ _ _ _ _ => pts_nil) (fun _ _ _ _ _ => (pe_g G_renumbered hr hq (by rfl) T.g_renumbered T.F_renumbered.kp T.b_renumbered .nil pass0 (pa_cons (pe_dget hu1 (pv 0) (pv 4) (fun _ _ => rfl)) (pa_cons (pv 2) pa_nil)))))) pa_nil))))))), ?_⟩
  intro nd hnd
  refine ⟨vN root, rfl, (by show 1 ≤ sizeLine; decide), fun wl hwl => ?_⟩
  obtain ⟨nwn, hwl0⟩ := upd_ne_none hwl
  have gnd := eg.fresh hnd
  have gwl := eg.fresh hwl0
  have e2 : Ex H (upd (upd H nd (.dK [])) wl (.lst [vN root])) := (Ex.up hnd).tr (Ex.up hwl)
  dsimp only
  refine ⟨fun m σ H' => ∃ (o4 : Option V) (st met : List Nat), σ = [some (.ref md), some (vN root), some (.ref nd), some (.ref wl), o4] ∧ Ex H H' ∧ H' nd = some (.dK (kvNum met)) ∧ H' wl = some (.lst (st.reverse.map vN)) ∧ met.Nodup ∧ (∀ x ∈ met, Pn x) ∧ (∀ x ∈ st, Pn x) ∧
      (∀ r, KM.Dfs Fl st met r → KM.Dfs Fl [root] [] r) ∧ m = st.length + 4 * (1000 - met.length) ∧ m ≤ 5000,
    ⟨_, none, [root], [], rfl, e2, by rw [upd_ne nwn.symm]; exact upd_same, upd_same, .nil, (fun _ h => by cases h), (fun x hx => by rw [List.mem_singleton.mp hx]; exact hroot), fun _ h => h, rfl, (by show 1 + 4 * (1000 - 0) ≤ 5000; decide)⟩, fun m σ H' w => ?_⟩
  obtain ⟨o4, st, met, rfl, eH, hnd', hwl', hmn, hmP, hsP, hdf, hm, hm5⟩ := w
  have hml : met.length ≤ 1000 := nodup_small hmn fun x hx => (hP x (hmP x hx)).1
  refine ⟨.ref wl, rfl, _, .inl ⟨_, SqL.of hwl', rfl⟩, ?_⟩
  dsimp only
  cases st with
  | nil =>
    rw [if_neg (by simp)]
    have hD := hdf met .nil
    have hcl := hD.closed (by intro _ h; cases h)
    refine ⟨nd, _, hnd', trivial, fun od => ?_⟩
    refine ⟨.ref nd, rfl, nd, od, rfl, .inl ⟨_, upd_same, fun D hDn => ?_⟩⟩
    obtain ⟨nDn, hDn1⟩ := upd_ne_none hDn
    have hD0 : H D = none := eH.fresh hDn1
    refine lc_it (walk_keys (d := nd) (o := od) (kvs := kvNum met)) (fun i H'' => ∃ (Gi : Hp) (acc : List V), Up G H Gi H'' ∧ H'' nd = some (.frz od (.dK (kvNum met))) ∧ Gi nd = none ∧ Gi D = none ∧ H'' D = some (.lst acc) ∧ DaAll K Gi acc ((met.take i).map fun c => rowD (Tg c, (Fl c).map met.idxOf)))
      ⟨G, [], ⟨Ex.rf _, fun x o e => ?_, fun x o e => ?_, fun _ _ h => h⟩, by rw [upd_ne nDn.symm]; exact upd_same, gnd, eg.fresh hD0, upd_same, .nil⟩ (fun i H'' _ ⟨_, _, _, h, _⟩ => h) (fun i x H'' H9 hi hPv hY => ?_) (fun H'' hPv => ?_)
    · have := eg x o e
      rw [upd_ne (ne_of_none this hD0), upd_ne (ne_of_none this hnd)]
      exact eH _ _ this
    · rw [upd_ne (ne_of_none e hD0), upd_ne (ne_of_none e hnd)]
      exact eH _ _ e
    · obtain ⟨Gi, acc, u, hfz, gn, gd, hacc, da⟩ := hPv
      obtain ⟨rfl, k, v, hkv, rfl⟩ := hY
      obtain ⟨c, hc, rfl⟩ := kvNum_get hkv
      have hcm := List.mem_of_getElem? hc
      obtain ⟨hc1, hrow, hl3, hcF⟩ := hP c (hmP c hcm)
      obtain ⟨ra, fa, r1, r2, r3⟩ := hrow.ex
      have tk : met.take (i + 1) = met.take i ++ [c] := by rw [List.take_add_one, hc]; rfl
      refine ⟨rfl, yes_if ?_⟩
      refine ⟨.ref md, rfl, vN c, rfl, md, .ref ra, rfl, ?_, .ref nd, rfl, ra, nd, fa, Tg c, Fl c, kvNum met, fun f => met.idxOf f, Gi, rfl, u.h, u.g _ _ r2, u.g _ _ r3, .inr ⟨od, hfz⟩, fun f hf => by rw [valV_kvNum, if_pos (hcl c hcm f hf)], hl3, fun v G' H' u2 dv => ?_⟩
      · have := DGet.r (k := kN c) (.inl (u.h _ _ (u.g _ _ hmd)))
        rw [r1] at this
        exact this
      · have hDne : H9 D ≠ none := by rw [hacc]; simp
        have hnne : H9 nd ≠ none := by rw [hfz]; simp
        have gd' := u2.n D hDne gd
        refine ⟨acc, u2.m _ _ hacc, ?_, G', acc ++ [v], ⟨u.g.tr u2.g, u2.h.at gd', (u.m.tr u2.m).at hD0, fun b h3 h4 => u2.n b ?_ (u.n b h3 h4)⟩, by rw [upd_ne nDn.symm]; exact u2.m _ _ hfz, u2.n nd hnne gn, gd', upd_same, ?_⟩
        · have := da.length
          rw [List.length_map, List.length_take] at this
          exact Nat.lt_of_le_of_lt (by omega : acc.length ≤ 1000) (by decide)
        · intro z
          cases e : H b with
          | none => exact h3 e
          | some o => rw [u.m _ _ e] at z; cases z
        · rw [tk, List.map_append]
          exact (da.mono u2.g).append (.cons dv .nil)
    · obtain ⟨Gi, acc, u, hfz, gn, gd, hacc, da⟩ := hPv
      rw [kvNum_length, List.take_length] at da
      refine ⟨hfz, D, acc, rfl, .inl ⟨SqL.of (by rw [upd_ne nDn]; exact hacc), fun l hl => ?_⟩⟩
      obtain ⟨nln, hl2⟩ := upd_ne_none hl
      have gl := u.h.fresh hl2
      have hl0 := u.m.fresh hl2
      refine q met _ (upd Gi l (.tup acc)) _ hD ⟨u.g.tr (Ex.up gl), fun x o e => ?_, fun x o e => ?_, fun b h3 h4 => ?_⟩ (.tup upd_same ?_)
      · by_cases z : x = l
        · subst z; rw [upd_same] at e ⊢; exact e
        · rw [upd_ne z] at e ⊢
          rw [upd_ne (ne_of_none e gn)]
          exact u.h _ _ e
      · rw [upd_ne (ne_of_none e hl0), upd_ne (ne_of_none e hnd)]
        exact u.m _ _ e
      · rw [upd_ne (fun z => h3 (by rw [z]; exact hl0))]
        exact u.n b h3 h4
      · have : (KM.rooted Tg Fl met).map rowD = met.map fun c => rowD (Tg c, (Fl c).map met.idxOf) := by
          unfold KM.rooted
          rw [List.map_map]; rfl
        rw [this]
        exact da.mono (Ex.up gl)
  | cons x st =>
    rw [if_pos (by simp)]
    refine ⟨fun σ' H'' => ∃ m', m' < m ∧ _, fun _ _ h => h, ?_⟩
    have hxP := hsP x List.mem_cons_self
    obtain ⟨hx1, hrow, hl3, hcF⟩ := hP x hxP
    obtain ⟨ra, fa, r1, r2, r3⟩ := hrow.ex
    have erev : (x :: st).reverse.map vN = st.reverse.map vN ++ [vN x] := by rw [List.reverse_cons, List.map_append]; rfl
    rw [erev] at hwl'
    have gH' : ∀ {x o}, G x = some o → H' x = some o := fun h => eH _ _ (eg _ _ h)
    have nw : ∀ {x o}, G x = some o → x ≠ wl := fun h => ne_of_none h gwl
    have nn : ∀ {x o}, G x = some o → x ≠ nd := fun h => ne_of_none h gnd
    refine ⟨.ref wl, rfl, .inl ⟨rfl, _, SqL.of hwl'⟩, wl, _, vN x, rfl, rfl, hwl', by simp, ?_⟩
    rw [List.dropLast_concat]
    have hn5 : upd H' wl (.lst (st.reverse.map vN)) nd = some (.dK (kvNum met)) := by rw [upd_ne nwn.symm]; exact hnd'
    refine ⟨vN x, rfl, .ref nd, rfl, nd, _, rfl, DGet.k (k := kN x) hn5, _, rfl, ?_⟩
    rw [valV_kvNum]
    have hlc : (x :: st).length = st.length + 1 := rfl
    by_cases hxm : x ∈ met
    · rw [if_pos hxm]
      exact ⟨_, by omega, some (vN x), st, met, rfl, eH.at hwl0, hn5, upd_same, hmn, hmP, fun y hy => hsP y (List.mem_cons_of_mem _ hy), fun r hr => hdf r (.skip hxm hr), rfl, by omega⟩
    · rw [if_neg hxm]
      have hml2 : (met ++ [x]).length ≤ 1000 := nodup_small (n := 1000) (List.nodup_append.mpr ⟨hmn, by simp, fun a ha b hb => by
          rw [List.mem_singleton.mp hb]; exact fun e => hxm (e ▸ ha)⟩) fun y hy => by
        rcases List.mem_append.mp hy with h | h
        · exact (hP y (hmP y h)).1
        · rw [List.mem_singleton.mp h]; exact hx1
      rw [List.length_append, List.length_singleton] at hml2
      refine ⟨.ref nd, rfl, nd, _, rfl, hn5, .ref nd, rfl, vN x, rfl, nd, _, rfl, DPut.k (k := kN x) hn5 (Nat.lt_of_le_of_lt (by rw [kvNum_length]; exact hml) (by decide)), ?_⟩
      rw [putK_new _ (by rw [valV_kvNum, if_neg hxm]), kvNum_length]
      have ek : kvNum met ++ [(kN x, V.int (met.length : Nat))] = kvNum (met ++ [x]) := kvNum_snoc.symm
      rw [ek]
      have g7 : ∀ {x o}, G x = some o → upd (upd H' wl (.lst (st.reverse.map vN))) nd (.dK (kvNum (met ++ [x]))) x = some o := fun {y o} h => by
        rw [upd_ne (nn h), upd_ne (nw h)]; exact gH' h
      have g7 : ∀ {y o}, G y = some o → upd (upd H' wl (.lst (st.reverse.map vN))) nd (.dK (kvNum (met ++ [x]))) y = some o := fun {y o} h => by
        rw [upd_ne (nn h), upd_ne (nw h)]; exact gH' h
      have w7 : upd (upd H' wl (.lst (st.reverse.map vN))) nd (.dK (kvNum (met ++ [x]))) wl = some (.lst (st.reverse.map vN)) := by rw [upd_ne nwn]; exact upd_same
      have n7 : upd (upd H' wl (.lst (st.reverse.map vN))) nd (.dK (kvNum (met ++ [x]))) nd = some (.dK (kvNum (met ++ [x]))) := upd_same
      have e7 : Ex H (upd (upd H' wl (.lst (st.reverse.map vN))) nd (.dK (kvNum (met ++ [x])))) := (eH.at hwl0).at hnd
      dsimp only
      generalize upd (upd H' wl (.lst (st.reverse.map vN))) nd (.dK (kvNum (met ++ [x]))) = H7 at g7 w7 n7 e7
      refine ⟨.ref wl, rfl, .inl ⟨rfl, _, SqL.of w7⟩, .ref md, rfl, vN x, rfl, md, .ref ra, rfl, ?_, ra, _, _, .ref fa, rfl, rfl, SqT.of (g7 r2), rfl, fa, _, rfl, SqT.of (g7 r3), fun rv hrv => ?_⟩
      · have := DGet.r (k := kN x) (.inl (g7 hmd))
        rw [r1] at this
        exact this
      · have nrw : rv ≠ wl := fun z => by rw [z, w7] at hrv; cases hrv
        have nrn : rv ≠ nd := fun z => by rw [z, n7] at hrv; cases hrv
        have eL : st.reverse.map vN ++ ((Fl x).map vN).reverse = (Fl x ++ st).reverse.map vN := by
          rw [List.reverse_append, List.map_append, List.map_reverse, List.map_reverse]
        refine ⟨wl, rv, _, _, rfl, rfl, by rw [upd_ne nrw.symm]; exact w7, SqT.of upd_same, ?_, ?_⟩
        · rw [List.length_map, List.length_reverse, List.length_reverse, List.length_map]
          exact Nat.le_trans (by omega : _ ≤ 5003) (by decide)
        · rw [eL]
          refine ⟨_, ?_, some (vN x), Fl x ++ st, met ++ [x], rfl, (e7.tr (Ex.up hrv)).at hwl0, by rw [upd_ne nwn.symm, upd_ne nrn.symm]; exact n7, upd_same, ?_, ?_, ?_, fun r hr => hdf r (.push hxm hr), rfl, ?_⟩
          · rw [List.length_append, List.length_append, List.length_singleton]; omega
          · exact List.nodup_append.mpr ⟨hmn, by simp, fun a ha b hb => by
              rw [List.mem_singleton.mp hb]; exact fun e => hxm (e ▸ ha)⟩
          · intro y hy
            rcases List.mem_append.mp hy with h | h
            · exact hmP y h
            · rw [List.mem_singleton.mp h]; exact hxP
          · intro y hy
            rcases List.mem_append.mp hy with h | h
            · exact hcF y h
            · exact hsP y (List.mem_cons_of_mem _ h)
          · rw [List.length_append, List.length_append, List.length_singleton]; omega
end
end L05
set_option Elab.async false
set_option linter.all false
set_option maxRecDepth 100000
set_option maxHeartbeats 1000000
namespace L05
open PySem PySem.Spec PyProof.Rows L2 KD
section
variable {P : Program} {w : World} {K : PySem.W.Frag} {mg : Str → Option Value} {base : Heap}
/-! ### the least sheet -/
def spLeastFrom (K : PySem.W.Frag) : Sp := fun vs H Q _ => ∃ (ra : Addr) (root : Nat) (s : KM.Sheet Str) (G : Hp), vs = [.ref ra, vN root] ∧ Ex G H ∧ Da K G (.ref ra) (sheetD s) ∧ SzOk s ∧ root < s.length ∧
  ∀ (v : V) (G' H' : Hp) (r : KM.Sheet Str), Up G H G' H' → KM.IsLeast s root r → Da K G' v (sheetD r) → Q v H'
theorem ok_least_from (T : Txt K mg) : FnG P w K mg base CX0 5 T.a_least_from T.d_least_from ["rows", "root"] (spLeastFrom K) := by
  have G_merged_rows := ok_merged_rows (P := P) (w := w) (base := base) T
  have G_rooted := (ok_rooted (P := P) (w := w) (base := base) T).mono (show 2 ≤ 4 by decide)
  refine okG T.F_least_from sc_least_from (fun vs H Q E h => ?_) fun cdv A outer s0 H vs Q E hr hq h => ?_
  · obtain ⟨ra, root, s, G, rfl, _⟩ := h
    rfl
  obtain ⟨ra, root, s, G, rfl, eg, x1, hs, hrt, q⟩ := h
  have hu := hu_of hr
  have hu1 := hu
  have hsl := hs.l
  obtain ⟨ar, har⟩ := hs.ok
  refine ⟨_, (pss_cons (ps_asg (pe_g G_merged_rows hr hq (by rfl) T.g_merged_rows T.F_merged_rows.kp T.b_merged_rows .nil pass0 (pa_cons (pv 0) pa_nil)) (pg_tupK K rfl (pgs_cons (pg_name (i := 2) sc_least_from.nd rfl (.inl rfl)) (pgs_cons (pg_name (i := 3) sc_least_from.nd rfl (.inl rfl)) pgs_nil))))
    (pss_one (ps_ret (pe_g G_rooted hr hq (by rfl) T.g_rooted T.F_rooted.kp T.b_rooted .nil pass0 (pa_cons (pv 2) (pa_cons (pe_ix (ix_listK K) (pv 3) (pv 1) (fun _ _ => rfl)) pa_nil)))))), ?_⟩
  refine ⟨.ref ra, rfl, ra, s, G, rfl, eg, x1, hs, fun H1 t md a kvs cl e1 ht hmd hmd0 ha0 ha C hrow => ?_⟩
  refine ⟨t, _, rfl, SqT.of ht, rfl, _, _, rfl, _, _, rfl, rfl, ?_⟩
  have hc : cl[root]? = some (cl[root]'(by rw [C.l]; exact hrt)) := List.getElem?_eq_getElem _
  generalize cl[root]'(by rw [C.l]; exact hrt) = c at hc
  obtain ⟨G1, hG1⟩ : ∃ G1 : Hp, ∀ x, G1 x = if H x = none then H1 x else G x := ⟨fun x => if H x = none then H1 x else G x, fun _ => rfl⟩
  have u1 : Up G H G1 H1 := by
    refine ⟨fun x o e => ?_, fun x o e => ?_, e1, fun b h1 h2 => ?_⟩
    · rw [hG1, if_neg (by rw [eg _ _ e]; simp)]; exact e
    · rw [hG1] at e
      by_cases z : H x = none
      · rw [if_pos z] at e; exact e
      · rw [if_neg z] at e; exact e1 _ _ (eg _ _ e)
    · rw [hG1, if_neg h1]; exact h2
  have eN : Ex (Nw H H1) G1 := fun x o e => by
    obtain ⟨h1, h2⟩ := Nw.of e
    rw [hG1, if_pos h1]; exact h2
  have at_ : ∀ {i c : Nat}, cl[i]? = some c → i < s.length := fun {i c} h => by rw [← C.l]; exact (List.getElem?_eq_some_iff.mp h).1
  refine ⟨.ref md, rfl, .ref a, rfl, vN root, rfl, a, _, _, vN c, rfl, rfl, SqL.of ha, atI_nat (by rw [List.getElem?_map, hc]; rfl), md, c, tagOf s cl, fldOf s cl, fun c => c ∈ cl, kvs, G1, rfl, u1.h, by rw [hG1, if_pos hmd0]; exact hmd, fun c hcm => ?_, List.mem_of_getElem? hc, fun met v G' H' hd u2 dv => ?_⟩
  · obtain ⟨i, hi⟩ := List.mem_iff_getElem?.mp hcm
    obtain ⟨r, hr1, hr2⟩ := KM.at_lt (at_ hi)
    have hf := C.fld har hi hr1
    refine ⟨Nat.lt_of_lt_of_le (C.b c hcm) hsl, (hrow i c hi).mono eN, by rw [hf, List.length_map]; exact hs.f r hr2, fun y hy => ?_⟩
    rw [hf] at hy
    obtain ⟨f, hf1, rfl⟩ := List.mem_map.mp hy
    have hfl : f < cl.length := by rw [C.l]; exact har.f r hr2 f hf1
    rw [numOf_at (List.getElem?_eq_getElem hfl)]
    exact List.getElem_mem hfl
  · refine q v G' H' _ (u1.tr u2) (C.least har hrt ?_) dv
    rw [numOf_at hc]; exact hd
def spLeast (K : PySem.W.Frag) : Sp := fun vs H Q _ => ∃ (ra : Addr) (s : KM.Sheet Str) (G : Hp), vs = [.ref ra] ∧ Ex G H ∧ Da K G (.ref ra) (sheetD s) ∧ SzOk s ∧
  ∀ (v : V) (G' H' : Hp) (r : KM.Sheet Str), Up G H G' H' → KM.IsLeast s 0 r → Da K G' v (sheetD r) → Q v H'
theorem ok_least_sheet (T : Txt K mg) : FnG P w K mg base CX0 6 T.a_least_sheet T.d_least_sheet ["sheet"] (spLeast K) := by
  have G_least_from := ok_least_from (P := P) (w := w) (base := base) T
  refine okG T.F_least_sheet sc_least_sheet (fun vs H Q E h => ?_) fun cdv A outer s0 H vs Q E hr hq h => ?_
  · obtain ⟨ra, s, G, rfl, _⟩ := h
    rfl
  obtain ⟨ra, s, G, rfl, eg, x1, hs, q⟩ := h
  have hu := hu_of hr
  have hu1 := hu
  refine ⟨_, (pss_one (ps_ret (pe_g G_least_from hr hq (by rfl) T.g_least_from T.F_least_from.kp T.b_least_from .nil pass0 (pa_cons (pv 0) (pa_cons pe_int pa_nil))))), ?_⟩
  exact ⟨.ref ra, rfl, ra, 0, s, G, rfl, eg, x1, hs, hs.p, q⟩
end
end L05
set_option Elab.async false
set_option linter.all false
set_option maxRecDepth 100000
set_option maxHeartbeats 1000000
namespace L05
open PySem PySem.Spec PyProof.Rows L2 KD
section
variable {P : Program} {w : World} {K : PySem.W.Frag} {mg : Str → Option Value} {base : Heap}
/-! ### the draws -/
theorem ok__law_deck (T : Txt K mg) : FnG P w K mg base CX0 1 T.a__law_deck T.d__law_deck ["_law_script"] (spDeck K) := by
  refine okG T.F__law_deck sc__law_deck (fun vs H Q E h => h.1) fun cdv A out s H vs Q E hr hq h => ?_
  obtain ⟨hl, a, ns, G, rfl, _⟩ := id h
  refine ⟨_, (pss_cons (ps_par (i := 1) (j := 2) (by rfl) sc__law_deck.nd rfl rfl (by decide) rfl rfl (pa_cons (pe_callTy (call_listK K) (by rfl) T.m_list (by decide +kernel) (pa_cons (pe_slice (sl_listK K) (pv 0) po_none (po_some pe_int)) pa_nil)) (pa_cons pe_int pa_nil)) (by rfl))
    (pss_cons (ps_for PassesOwn.never rfl (pi_listK K (pv 1)) (pg_name (i := 3) sc__law_deck.nd rfl (.inl rfl))
    (pss_one (ps_set (i := 2) sc__law_deck.nd rfl (.inl rfl) (pe_op op_mod (pe_op op_add (pe_op op_add (pe_op op_mul (pv 2) pe_int) (pe_op op_mod (pv 3) pe_int)) pe_int) pe_int))))
    (pss_one (ps_ret (pe_lst (pa_cons (pe_revLK K (pv 1)) (pa_cons (pv 2) (pa_cons pe_int pa_nil)))))))), ?_⟩
  exact deck_read (E0 := E) (by decide) (by decide) (by decide) (by decide) h
theorem ok__law_draw (T : Txt K mg) : FnG P w K mg base CX0 1 T.a__law_draw T.d__law_draw ["_law_deck_here", "_law_limit"] spDraw := by
  refine okG T.F__law_draw sc__law_draw (fun vs H Q E h => h.1) fun cdv A out s H vs Q E hr hq h => ?_
  obtain ⟨hl, dk, cl, lim, G, m, rfl, _⟩ := id h
  have hu := hr.units
  refine ⟨_, (pss_cons (ps_asg (pe_op op_add (pe_ix (ix_listK K) (pv 0) pe_int (fun _ _ => rfl)) pe_int) (pg_sub (pv 0) pe_int set_list))
    (pss_cons (ps_set (i := 2) sc__law_draw.nd rfl (.inl rfl) (pe_ix (ix_listK K) (pv 0) pe_int (fun _ _ => rfl)))
    (pss_cons (ps_if (pt_cmpR (op_neDaK K hu) (pe_ix (ix_listK K) (pv 0) pe_int (fun _ _ => rfl)) (pe_lst pa_nil) (nomark _))
    (pss_cons (ps_set (i := 2) sc__law_draw.nd rfl (.inl rfl) (pe_bm0 PySem.F.plainAttrs_list PySem.F.slot_list_pop PySem.F.type_list_pop mt_pop (pe_ix (ix_listK K) (pv 0) pe_int (fun _ _ => rfl))))
    (pss_cons (ps_if (pt_cmpR op_ge (pv 2) (pe_op op_pow pe_int pe_int) (nomark _))
    (pss_cons (ps_expr (pe_bm PySem.F.plainAttrs_list PySem.F.slot_list_append PySem.F.type_list_append mt_append (pe_ix (ix_listK K) (pv 0) pe_int (fun _ _ => rfl)) (pa_cons (pe_op op_fdiv (pv 2) (pv 1)) pa_nil)))
    (pss_one (ps_ret (pe_op op_mod (pv 2) (pv 1)))))
    pss_nil)
    (pss_one (ps_set (i := 2) sc__law_draw.nd rfl (.inl rfl) (pe_op op_add (pv 2) (pe_ix (ix_listK K) (pv 0) pe_int (fun _ _ => rfl)))))))
    pss_nil)
    (pss_cons (ps_set (i := 3) sc__law_draw.nd rfl (.inl rfl) (pe_op op_mod (pe_op op_mul (pe_op op_add (pe_op op_add (pe_op op_mod (pv 2) pe_int) (pe_op op_mul (pe_op op_mul pe_int (pe_ix (ix_listK K) (pv 0) pe_int (fun _ _ => rfl))) (pe_ix (ix_listK K) (pv 0) pe_int (fun _ _ => rfl)))) pe_int) pe_int) pe_int))
    (pss_cons (ps_set (i := 3) sc__law_draw.nd rfl (.inl rfl) (pe_op op_mod (pe_op op_add (pe_op op_add (pe_op op_mul (pv 3) (pv 3)) (pe_op op_mul pe_int (pe_ix (ix_listK K) (pv 0) pe_int (fun _ _ => rfl)))) pe_int) pe_int))
    (pss_one (ps_ret (pe_op op_mod (pe_op op_fdiv (pe_op op_mod (pe_op op_add (pe_op op_mul (pv 3) (pv 3)) (pe_op op_mul pe_int (pv 3))) pe_int) pe_int) (pv 1))))))))), ?_⟩
  exact draw_read (E0 := E) (last1 (by decide) (by decide) (by decide) (by decide) (by decide) (by decide) (by decide) (by decide) (by decide)) h
theorem ok__law_pick (T : Txt K mg) : FnG P w K mg base CX0 2 T.a__law_pick T.d__law_pick ["_law_deck_here", "_law_items"] (spPickS K) := by
  have G__law_draw := ok__law_draw (P := P) (w := w) (base := base) T
  refine okG T.F__law_pick sc__law_pick (fun vs H Q E h => h.1) fun cdv A out s H vs Q E hr hq h => ?_
  obtain ⟨hl, dk, cl, a, d0, ds, G, m, rfl, _⟩ := id h
  refine ⟨_, (pss_one (ps_ret (pe_ix (ix_s2K K) (pv 1) (pe_g G__law_draw hr hq (by rfl) T.g__law_draw T.F__law_draw.kp T.b__law_draw .nil pass0 (pa_cons (pv 0) (pa_cons (pe_callB (call_lenK K) (by rfl) T.m_len PySem.boot_len (pa_cons (pv 1) pa_nil)) pa_nil))) (fun _ _ => rfl)))), ?_⟩
  exact pickS_read (E0 := E) h
end
end L05
set_option Elab.async false
set_option linter.all false
set_option maxRecDepth 100000
set_option maxHeartbeats 1000000
namespace L05
open PySem PySem.Spec PyProof.Rows L2 KD
section
variable {P : Program} {w : World} {K : PySem.W.Frag} {mg : Str → Option Value} {base : Heap}
/-! ### drawn names: distinct ones, none of them void -/
def ltr (f k : Int) : Nat := (atI letters.cps.toList ((f + 5 * (0 + k)) % 26)).getD 97
def wordsL : List Str := ["case", "part", "tag", "call", "ask", "same", "is", "not", "both", "either", "yes", "no", "and", "or", "none", "one", "root", "union", "take", "never", "number", "plus", "least", "most", "make", "test", "gather", "else", "rank", "tags", "voids"]
theorem words_eq : words = wordsL := by decide +kernel
def nm (way f k : Int) : Str :=
  if way = 0 then ⟨#[ltr f k]⟩ else if way = 1 then (atI wordsL ((f + 3 * (0 + k)) % 31)).getD "" else if way = 2 then cutS "zyxwvuts" none (some (1 + (0 + k) % 8)) else "abcdefg" ++ ⟨#[ltr f k]⟩
theorem atI_str {xs : List Str} {i : Int} {s : Str} (h : atI xs i = some s) : atI (xs.map PyData.str) i = some (.str s) := by
  unfold atI at h ⊢
  rw [List.length_map]
  cases e : ixN xs.length i with
  | none => rw [e] at h; cases h
  | some j =>
    rw [e] at h
    show (xs.map PyData.str)[j]? = _
    rw [List.getElem?_map, show xs[j]? = some s from h]
    rfl
theorem ltr_at (f : Int) (k : Nat) : atI letters.cps.toList ((f + 5 * (0 + (k : Int))) % 26) = some (ltr f k) := by
  obtain ⟨c, hc, _⟩ := at_some (xs := letters.cps.toList) (i := (f + 5 * (0 + (k : Int))) % 26) (Int.emod_nonneg _ (by decide)) (by
    rw [show letters.cps.toList.length = 26 by decide +kernel]; exact Int.emod_lt_of_pos _ (by decide))
  unfold ltr
  rw [hc]; rfl
theorem wrd_at (f : Int) (k : Nat) : atI (words.map PyData.str) ((f + 3 * (0 + (k : Int))) % 31) = some (.str ((atI wordsL ((f + 3 * (0 + (k : Int))) % 31)).getD "")) := by
  rw [words_eq]
  obtain ⟨c, hc, _⟩ := at_some (xs := wordsL) (i := (f + 3 * (0 + (k : Int))) % 31) (Int.emod_nonneg _ (by decide)) (by
    rw [show wordsL.length = 31 by decide +kernel]; exact Int.emod_lt_of_pos _ (by decide))
  rw [hc]
  exact atI_str hc
theorem nm_at (way f : Int) (k : Nat) (w0 : 0 ≤ way) (w1 : way < 4) :
    atI [.str ⟨#[ltr f k]⟩, .str ((atI wordsL ((f + 3 * (0 + (k : Int))) % 31)).getD ""), .str (cutS "zyxwvuts" none (some (1 + (0 + (k : Int)) % 8))), .str ("abcdefg" ++ ⟨#[ltr f k]⟩)] way = some (PyData.str (nm way f k)) := by
  have : way = 0 ∨ way = 1 ∨ way = 2 ∨ way = 3 := by omega
  rcases this with rfl | rfl | rfl | rfl <;> rfl
def chk (way f : Nat) : Bool :=
  let l := (List.range 6).map fun i => nm way f (i : Nat)
  (l.all (snB 9) && l.all fun s => decide (s ≠ "void")) && decide l.Nodup
theorem chk_ok : ∀ way, way < 4 → ∀ f, f < 26 → chk way f = true := by decide +kernel
theorem names_ok (way f : Int) (n : Nat) (w0 : 0 ≤ way) (w1 : way < 4) (f0 : 0 ≤ f) (f1 : f < 26) (hn : n ≤ 6) :
    (∀ s ∈ (List.range n).map fun i => nm way f (i : Nat), SN 9 s ∧ s ≠ "void") ∧ ((List.range n).map fun i => nm way f (i : Nat)).Nodup := by
  obtain ⟨a, rfl⟩ := Int.eq_ofNat_of_zero_le w0
  obtain ⟨b, rfl⟩ := Int.eq_ofNat_of_zero_le f0
  have h := chk_ok a (by omega) b (by omega)
  unfold chk at h
  have h' := Bool.and_eq_true_iff.mp h
  have h2 := Bool.and_eq_true_iff.mp h'.1
  have sub : ((List.range n).map fun i => nm a b (i : Nat)).Sublist ((List.range 6).map fun i => nm a b (i : Nat)) := by
    have e : (List.range 6).take n = List.range n := by rw [List.take_range, Nat.min_eq_left hn]
    rw [← e]
    exact (List.take_sublist _ _).map _
  exact ⟨fun s hs => ⟨SN.of (List.all_eq_true.mp h2.1 s (sub.subset hs)), of_decide_eq_true (List.all_eq_true.mp h2.2 s (sub.subset hs))⟩, (of_decide_eq_true h'.2 : List.Nodup _).sublist sub⟩
def spNamesV (K : PySem.W.Frag) : Sp := fun vs H Q _ => vs.length = 2 ∧ ∃ (dk cl : Addr) (many : Int) (G : Hp) (m : Nat), vs = [.ref dk, .int many] ∧ Ex G H ∧ Deck G H dk cl m ∧ m ≤ 999999000 ∧ 0 ≤ many ∧ many ≤ 6 ∧
  ∀ (v : V) (ss : List Str) (G' H' : Hp), UpM dk cl G H G' H' → Deck G' H' dk cl (m + 2) → ss.length = many.toNat → (∀ s ∈ ss, SN 9 s ∧ s ≠ "void") → ss.Nodup → Da K G' v (.list (ss.map .str)) → Q v H'
theorem ok__law_names (T : Txt K mg) : FnG P w K mg base CX0 2 T.a__law_names T.d__law_names ["_law_deck_here", "_law_many"] (spNamesV K) := by
  have G__law_draw := ok__law_draw (P := P) (w := w) (base := base) T
  refine okG T.F__law_names sc__law_names (fun vs H Q E h => h.1) fun cdv A out s H vs Q E hr hq h => ?_
  obtain ⟨_, dk, cl, many, G, m, rfl, eg, hD, hm, m0, m1, q⟩ := h
  refine ⟨_, (pss_cons (ps_par3 (i := 2) (j := 3) (l := 4) (by rfl) sc__law_names.nd rfl rfl rfl (by decide) (by decide) (by decide) rfl rfl rfl (pa_cons pe_str (pa_cons (pe_g G__law_draw hr hq (by rfl) T.g__law_draw T.F__law_draw.kp T.b__law_draw .nil pass0 (pa_cons (pv 0) (pa_cons pe_int pa_nil))) (pa_cons (pe_g G__law_draw hr hq (by rfl) T.g__law_draw T.F__law_draw.kp T.b__law_draw .nil pass0 (pa_cons (pv 0) (pa_cons pe_int pa_nil))) pa_nil))) (by rfl))
    (pss_cons (ps_set (i := 5) sc__law_names.nd rfl (.inl rfl) (pe_split pe_str pe_str))
    (pss_cons (ps_set (i := 5) sc__law_names.nd rfl (.inl rfl) (pe_op op_cat (pv 5) (pe_split pe_str pe_str)))
    (pss_cons (ps_set (i := 6) sc__law_names.nd rfl (.inl rfl) (pe_lst pa_nil))
    (pss_cons (ps_for PassesOwn.never rfl (pi_range1 (by rfl) T.m_range (pa_cons (pv 1) pa_nil)) (pg_name (i := 7) sc__law_names.nd rfl (.inl rfl))
    (pss_cons (ps_set (i := 8) sc__law_names.nd rfl (.inl rfl) (pe_ix ix_str (pv 2) (pe_op op_mod (pe_op op_add (pv 4) (pe_op op_mul pe_int (pv 7))) pe_int) (fun _ _ => rfl)))
    (pss_one (ps_expr (pe_bm PySem.F.plainAttrs_list PySem.F.slot_list_append PySem.F.type_list_append mt_append (pv 6) (pa_cons (pe_ix (ix_listK K) (pe_lst (pa_cons (pv 8) (pa_cons (pe_ix (ix_listK K) (pv 5) (pe_op op_mod (pe_op op_add (pv 4) (pe_op op_mul pe_int (pv 7))) pe_int) (fun _ _ => rfl)) (pa_cons (pe_ifExp (pt_cmpR op_lt (pv 7) pe_int (nomark _)) (pe_slice sl_str pe_str po_none (po_some (pe_op op_add pe_int (pe_op op_mod (pv 7) pe_int)))) (pe_op op_add_str (pv 8) (pe_slice sl_str pe_str po_none (po_some pe_int)))) (pa_cons (pe_op op_add_str pe_str (pv 8)) pa_nil))))) (pv 3) (fun _ _ => rfl)) pa_nil))))))
    (pss_one (ps_ret (pe_callB (cr_sortedSK K) (by rfl) T.m_sorted (by decide +kernel) (pa_cons (pv 6) pa_nil))))))))), ?_⟩
  -- letters, way, first
  refine tpar3_of (K := K) (an_cons (P1 := fun d => d = .str letters) (n_pure e_str) fun _ _ => an_cons (n_draw (i0 := 0) (lim := 4) rfl e_int (by decide) (by decide) (by omega)) fun _ _ =>
    an_cons (n_draw (i0 := 0) (lim := 26) rfl e_int (by decide) (by decide) (by omega)) fun _ _ => an_nil) (Ex.rf _) eg hD fun u v w ds G1 H1 u1 hD1 hp hd => ?_
  obtain ⟨_, _, rfl, ⟨_, _, ⟨way, rfl, w0, w1⟩, ⟨_, _, ⟨fst, rfl, f0, f1⟩, rfl, rfl⟩, rfl⟩, rfl⟩ := hp
  cases hd with | cons a1 hd => ?_
  cases hd with | cons a2 hd => ?_
  cases hd with | cons a3 hd => ?_
  cases hd; cases a1; cases a2; cases a3
  show tSeq _ _ _ [some (.ref dk), some (.int many), some (.str letters), some (.int way), some (.int fst), none, none, none, none] H1
  -- words
  refine ev_go (K := K) (e_split e_str e_str (by decide +kernel) (by decide +kernel)) u1.h fun v5 G2 H2 u2 x5 => ?_
  refine ev_go (K := K) (e_op (e_var (i := 5) (v := v5) rfl x5) (e_split e_str e_str (by decide +kernel) (by decide +kernel)) (o_cat (by decide +kernel))) u2.h fun v5' G3 H3 u3 x5' => ?_
  rw [← List.map_append] at x5'
  -- found = []
  refine ⟨Nat.zero_le _, fun L hL => ?_⟩
  have up3 : UpM dk cl G H G3 H3 := u1.tr (u2.tr u3).toM
  have hD3 := hD1.up (u2.tr u3)
  have hLH : H L = none := by
    cases z : H L with
    | none => rfl
    | some o => exact absurd hL (up3.t L (by rw [z]; simp))
  have lk : L ≠ dk := fun z => hD3.dn (by rw [← z]; exact hL)
  have lc : L ≠ cl := fun z => hD3.cn (by rw [← z]; exact hL)
  have x5d : Da K G3 v5' (.list (words.map PyData.str)) := x5'
  show tSeq _ _ _ [some (.ref dk), some (.int many), some (.str letters), some (.int way), some (.int fst), some v5', some (.ref L), none, none] (upd H3 L (.lst []))
  refine ⟨.int many, rfl, many, rfl, by omega, by omega, ?_⟩
  refine for_range (lo := 0) (n := many.toNat) (fun k σ H' => ∃ v7 v8 G' ss, σ = [some (.ref dk), some (.int many), some (.str letters), some (.int way), some (.int fst), some v5', some (.ref L), v7, v8] ∧
      UpM dk cl G H G' H' ∧ Ex G3 G' ∧ Deck G' H' dk cl (m + 2) ∧ ListAt K L (ss.map .str) G' H' ∧ ss = (List.range k).map fun i => nm way fst (i : Nat))
    ⟨none, none, G3, [], rfl, ?_, Ex.rf _, ?_, ⟨up3.h.fresh hL, [], upd_same, .nil⟩, rfl⟩ (fun k σ H' hk hP => ?_) (fun σ H' hP => ?_)
  · exact ⟨up3.g, up3.h.tr (Ex.up hL), fun b o h1 h2 e => by rw [upd_ne (fun z => by rw [z] at e; rw [up3.m L o lk lc e] at hL; cases hL)]; exact up3.m b o h1 h2 e, up3.n, fun b hb => by
      by_cases z : b = L
      · rw [z, upd_same]; simp
      · rw [upd_ne z]; exact up3.t b hb⟩
  · obtain ⟨cs, t, n, a1, a2, a3⟩ := hD3.ex
    exact ⟨hD3.ne, hD3.gd, hD3.gc, cs, t, n, by rw [upd_ne lk.symm]; exact a1, by rw [upd_ne lc.symm]; exact a2, a3⟩
  · obtain ⟨v7, v8, G', ss, rfl, u', e3, hD', hL', hss⟩ := hP
    show tSeq _ _ _ [some (.ref dk), some (.int many), some (.str letters), some (.int way), some (.int fst), some v5', some (.ref L), some (.int (0 + (k : Int))), v8] H'
    have evk : ∀ (v8 : Option V), EvE K [some (.ref dk), some (.int many), some (.str letters), some (.int way), some (.int fst), some v5', some (.ref L), some (.int (0 + (k : Int))), v8] G' (tVar 7) (.int (0 + (k : Int))) :=
      fun v8 => e_var rfl (.int _)
    have evf : ∀ (v8 : Option V), EvE K [some (.ref dk), some (.int many), some (.str letters), some (.int way), some (.int fst), some v5', some (.ref L), some (.int (0 + (k : Int))), v8] G' (tVar 4) (.int fst) :=
      fun v8 => e_var rfl (.int _)
    refine ev_go (K := K) (e_op (e_var rfl (.str _)) (e_op (e_op (evf v8) (e_op e_int (evk v8) (o_I (.inl ⟨by decide, by decide⟩) (fun _ => .int _))) (o_I0 (fun _ => .int _))) e_int (o_I (by decide) (fun _ => .int _)))
      (o_ixS (by decide +kernel) (ltr_at fst k))) u'.h fun v8' G4 H4 u4 x8 => ?_
    cases x8
    refine ⟨_, rfl, ?_, ?_⟩
    · have hL4 := hL'.up u4
      obtain ⟨acc, ea, da⟩ := hL4.ex
      exact .inl ⟨rfl, _, SqL.of ea⟩
    have evk : EvE K [some (.ref dk), some (.int many), some (.str letters), some (.int way), some (.int fst), some v5', some (.ref L), some (.int (0 + (k : Int))), some (.str ⟨#[ltr fst k]⟩)] G4 (tVar 7) (.int (0 + (k : Int))) := e_var rfl (.int _)
    have h8 : decide (0 + (k : Int) < 8) = true := decide_eq_true (by omega)
    refine ev_go (K := K) (d := .str (nm way fst k)) (e_op (e_lst (a_cons (e_var rfl (.str _)) (a_cons (e_op (e_var rfl (x5d.mono (e3.tr u4.g))) (e_op (e_op (e_var rfl (.int _)) (e_op e_int evk (o_I (.inl ⟨by decide, by decide⟩) (fun _ => .int _))) (o_I0 (fun _ => .int _))) e_int (o_I (by decide) (fun _ => .int _))) (o_ixL (wrd_at fst k)))
      (a_cons ((e_if (y := .none) (b := true) ((t_test (e_op evk e_int (o_I0 (fun _ => .bl _)))).is h8) (fun _ => e_slS e_str oo_none (oo_some (K := K) (e_op e_int (e_op evk e_int (o_I (by decide) (fun _ => .int _))) (o_I0 (fun _ => .int _)))) (by decide +kernel)) (fun z => by cases z)).is rfl)
      (a_cons (e_op e_str (e_var rfl (.str _)) (o_addS (small2 (a := 7) (b := 1) (by decide +kernel) (by exact Nat.le_refl 1)))) a_nil)))) (show 4 ≤ 100000 by decide)) (e_var rfl (.int _)) (o_ixL (nm_at way fst k w0 w1))) u4.h fun y G5 H5 u5 dy => ?_
    cases dy
    have hL5 := hL'.up (u4.tr u5)
    have hD5 := hD'.up (u4.tr u5)
    obtain ⟨acc, ea, da⟩ := hL5.ex
    refine ⟨L, acc, _, rfl, rfl, ea, ?_, ?_⟩
    · rw [da.length, List.length_map, hss, List.length_map, List.length_range]
      exact Nat.lt_of_lt_of_le (by omega : k < 100) (by decide)
    refine ⟨_, _, G5, ss ++ [nm way fst k], rfl, (u'.tr (u4.tr u5).toM).put hLH hL5.gl, e3.tr (u4.g.tr u5.g), hD5.put lk lc, ?_, by rw [hss, List.range_succ, List.map_append]; rfl⟩
    rw [List.map_append]
    exact hL5.put ea da (.str _)
  · obtain ⟨v7, v8, G', ss, rfl, u', e3, hD', hL', hss⟩ := hP
    obtain ⟨acc, ea, da⟩ := hL'.ex
    have ea' := strs_of da
    subst ea'
    refine ⟨.ref L, rfl, L, ss, rfl, SqL.of ea, by rw [hss, List.length_map, List.length_range]; omega, fun ys p hperm _ hp => ?_⟩
    have un := Up.new u'.h hp (.lst (ys.map V.str))
    have hmany : many.toNat ≤ 6 := by omega
    obtain ⟨o1, o2⟩ := names_ok way fst many.toNat w0 w1 f0 f1 hmany
    rw [← hss] at o1 o2
    refine q _ ys _ _ (u'.tr un.toM) (hD'.up un) (by rw [hperm.length_eq, hss, List.length_map, List.length_range]) (fun s hs => o1 s (hperm.mem_iff.mp hs)) (hperm.nodup_iff.mpr o2) (.lst upd_same ?_)
    exact daAll_strs ys
end
end L05
set_option Elab.async false
set_option linter.all false
set_option maxRecDepth 100000
set_option maxHeartbeats 1000000
namespace L05
open PySem PySem.Spec PyProof.Rows L2 KD
section
variable {P : Program} {w : World} {K : PySem.W.Frag} {mg : Str → Option Value} {base : Heap}
/-! ### what the draws need -/
def NoVoid (d : PyData) : Prop := ∀ s c, d = .tuple [.str s, .int c] → s ≠ "void"
abbrev voidP : PyData := .tuple [.str "void", .int 0]
theorem voidP_ok : TagD voidP := ⟨_, 0, rfl, SN.of (by decide +kernel), by decide, by decide⟩
theorem all_void {xs : List PyData} (ht : ∀ d ∈ xs, TagD d) : ∀ d ∈ xs ++ [voidP], TagD d := fun d hd => by
  rcases List.mem_append.mp hd with h | h
  · exact ht d h
  · rcases List.mem_cons.mp h with rfl | h
    · exact voidP_ok
    · cases h
end
end L05
set_option Elab.async false
set_option linter.all false
set_option maxRecDepth 100000
set_option maxHeartbeats 1000000
namespace L05
open PySem PySem.Spec PyProof.Rows L2 KD
section
variable {P : Program} {w : World} {K : PySem.W.Frag} {mg : Str → Option Value} {base : Heap}
/-! ### drawn signatures -/
def nameD : PyData → Str
  | .tuple [.str s, _] => s
  | _ => ""
structure TagsV (ds : List PyData) : Prop where
  t : TagsD ds
  v : ∀ d ∈ ds, NoVoid d
  p : 0 < ds.length
  d : (ds.map nameD).Nodup
def spTagsV (K : PySem.W.Frag) : Sp := fun vs H Q _ => vs.length = 1 ∧ ∃ (dk cl : Addr) (G : Hp) (m : Nat), vs = [.ref dk] ∧ Ex G H ∧ Deck G H dk cl m ∧ m ≤ 999990000 ∧
  ∀ (v : V) (ds : List PyData) (G' H' : Hp), UpM dk cl G H G' H' → Deck G' H' dk cl (m + 9) → TagsV ds → Da K G' v (.tuple ds) → Q v H'
theorem ok__law_tags (T : Txt K mg) : FnG P w K mg base CX0 3 T.a__law_tags T.d__law_tags ["_law_deck_here"] (spTagsV K) := by
  have G__law_draw := (ok__law_draw (P := P) (w := w) (base := base) T).mono (show 1 ≤ 2 by decide)
  have G__law_pick := ok__law_pick (P := P) (w := w) (base := base) T
  have G__law_names := ok__law_names (P := P) (w := w) (base := base) T
  refine okG T.F__law_tags sc__law_tags (fun vs H Q E h => h.1) fun cdv A out s H vs Q E hr hq h => ?_
  obtain ⟨_, dk, cl, G, m, rfl, eg, hD, hm, q⟩ := h
  refine ⟨_, (pss_cons (ps_set (i := 1) sc__law_tags.nd rfl (.inl rfl) (pe_g G__law_names hr hq (by rfl) T.g__law_names T.F__law_names.kp T.b__law_names .nil pass0 (pa_cons (pv 0) (pa_cons (pe_op op_add pe_int (pe_g G__law_draw hr hq (by rfl) T.g__law_draw T.F__law_draw.kp T.b__law_draw .nil pass0 (pa_cons (pv 0) (pa_cons pe_int pa_nil)))) pa_nil))))
    (pss_one (ps_ret (pe_callTy (call_tupK K) (by rfl) T.m_tuple (by decide +kernel) (pa_cons (pe_lc (own := [("_law_name", 2)]) (g := gName 2) (tt := tYes) rfl sc__law_tags.nd  (pi_listK K (pv 1)) (blkOk_by (N := N__law_tags) (sc := defScope s__law_tags) (by decide +kernel)) (fun _ _ _ _ _ => (pg_name (i := 2) sc__law_tags.nd rfl (.inl rfl))) (fun _ _ _ _ _ => pts_nil) (fun _ _ _ _ _ => (pe_tup (pa_cons (pv 2) (pa_cons (pe_g G__law_pick hr hq (by rfl) T.g__law_pick T.F__law_pick.kp T.b__law_pick .nil pass0 (pa_cons (pv 0) (pa_cons (pe_lst (pa_cons pe_int (pa_cons pe_int (pa_cons pe_int (pa_cons pe_int (pa_cons pe_int (pa_cons pe_int pa_nil))))))) pa_nil))) pa_nil))))) pa_nil))))), ?_⟩
  refine ⟨.ref dk, rfl, ?_⟩
  refine (n_op (K := K) (σ := [some (V.ref dk), none, none]) (f := addD) (P1 := fun d => d = .int 1) (n_pure e_int) (fun _ _ => n_draw (i0 := 0) (lim := 6) rfl e_int (by decide) (by decide) (by omega)) ?_) G H (Ex.rf _) eg hD _ fun v d G1 H1 u1 hD1 hp hd => ?_
  · rintro _ _ rfl ⟨i, rfl, _, _⟩
    exact o_I0 fun _ => .int _
  obtain ⟨_, _, rfl, ⟨i, rfl, i0, i1⟩, rfl⟩ := hp
  cases hd
  refine ⟨rfl, dk, cl, 1 + i, G1, m + 1, rfl, u1.h, hD1, by omega, by omega, by omega, fun v1 ss G2 H2 u2 hD2 hl hss hnd x1 => ?_⟩
  have hle : ss.length ≤ 6 := by omega
  refine (n_cb (K := K) (σ := [some (V.ref dk), some v1, none]) (f := tupD) (an_cons (n_lc1 (c := 1) (P := fun d r => ∃ c, r = .tuple [d, .int c] ∧ 0 ≤ c ∧ c ≤ 3) (i_list (e_var (v := v1) rfl x1)) (by rw [List.length_map]; omega)
    (fun k d hk F' v e1 xv => ?_)) fun _ _ => an_nil) ?_) G2 H2 (Ex.rf _) u2.h hD2 _ fun v d G3 H3 u3 hD3 hp hd => ?_
  · have hk' := (List.getElem?_eq_some_iff.mp hk).1
    rw [List.length_map] at hk'
    refine (n_tup (an_cons (n_pure (e_var (v := v) rfl xv)) fun _ _ => an_cons (n_pickS (i0 := 0) rfl (e_lst (a_cons e_int (a_cons e_int (a_cons e_int (a_cons e_int (a_cons e_int (a_cons e_int a_nil)))))) (by decide)) (.inl rfl) (by decide) (by decide) (by omega)) fun _ _ => an_nil) ?_).imp ?_
    · rintro _ ⟨_, _, rfl, ⟨_, _, _, rfl, rfl⟩, rfl⟩; exact show 2 ≤ 100000 by decide
    · rintro _ ⟨_, ⟨_, _, rfl, ⟨x, _, hx, rfl, rfl⟩, rfl⟩, rfl⟩
      simp at hx
      rcases hx with rfl | rfl | rfl | rfl <;> exact ⟨_, rfl, by decide, by decide⟩
  · rintro _ ⟨_, _, ⟨rs, rfl, _, _⟩, rfl, rfl⟩
    exact c_tupL
  obtain ⟨_, ⟨_, _, ⟨rs, rfl, hrl, hrs⟩, rfl, rfl⟩, rfl⟩ := hp
  rw [List.length_map] at hrl
  have row : ∀ (j : Nat) (r : PyData), rs[j]? = some r → ∃ (s : Str) (c : Int), ss[j]? = some s ∧ r = .tuple [.str s, .int c] ∧ 0 ≤ c ∧ c ≤ 3 := by
    intro j r hj
    have hjl := (List.getElem?_eq_some_iff.mp hj).1
    have hj2 : j < ss.length := by omega
    obtain ⟨c, hc, c0, c1⟩ := hrs j (.str ss[j]) r (by rw [List.getElem?_map, List.getElem?_eq_getElem hj2]; rfl) hj
    exact ⟨ss[j], c, List.getElem?_eq_getElem hj2, hc, c0, c1⟩
  have names : rs.map nameD = ss := by
    apply List.ext_getElem?
    intro j
    rw [List.getElem?_map]
    cases hj : rs[j]? with
    | none =>
      have := List.getElem?_eq_none_iff.mp hj
      exact (List.getElem?_eq_none (by omega)).symm
    | some r =>
      obtain ⟨s, c, h1, rfl, _⟩ := row j r hj
      rw [h1]; rfl
  refine q v rs G3 H3 ((u1.tr u2).tr u3) (hD3.mono (by rw [List.length_map]; omega)) ⟨⟨by omega, fun r hr => ?_⟩, fun r hr => ?_, by omega, by rw [names]; exact hnd⟩ hd
  · obtain ⟨j, hj⟩ := List.mem_iff_getElem?.mp hr
    obtain ⟨s, c, h1, rfl, c0, c1⟩ := row j r hj
    exact ⟨s, c, rfl, (hss _ (List.mem_of_getElem? h1)).1, c0, c1⟩
  · obtain ⟨j, hj⟩ := List.mem_iff_getElem?.mp hr
    obtain ⟨s, c, h1, rfl, c0, c1⟩ := row j r hj
    intro s' c' e
    cases e
    exact (hss _ (List.mem_of_getElem? h1)).2
end
end L05
set_option Elab.async false
set_option linter.all false
set_option maxRecDepth 100000
set_option maxHeartbeats 1000000
namespace L05
open PySem PySem.Spec PyProof.Rows L2 KD
section
variable {P : Program} {w : World} {K : PySem.W.Frag} {mg : Str → Option Value} {base : Heap}
/-! ### drawn sheets -/
def RowV (tags : List PyData) (n : Int) (r : PyData) : Prop := ∃ (s : Str) (c : Int) (fs : List PyData), r = .tuple [.str s, .tuple fs] ∧ .tuple [.str s, .int c] ∈ tags ++ [voidP] ∧ (fs.length : Int) = c ∧
  ∀ f ∈ fs, ∃ i : Int, f = .int i ∧ 0 ≤ i ∧ i < n
structure RowsV (tags rs : List PyData) : Prop where
  p : 0 < rs.length
  l : rs.length ≤ 25
  a : ∀ r ∈ rs, RowV tags rs.length r
def spRows (K : PySem.W.Frag) : Sp := fun vs H Q _ => vs.length = 2 ∧ ∃ (dk cl : Addr) (tv : V) (tags : List PyData) (G : Hp) (m : Nat), vs = [.ref dk, tv] ∧ Ex G H ∧ Deck G H dk cl m ∧ m ≤ 999990000 ∧ Da K G tv (.tuple tags) ∧ TagsV tags ∧
  ∀ (v : V) (rs : List PyData) (G' H' : Hp), UpM dk cl G H G' H' → Deck G' H' dk cl (m + 100) → RowsV tags rs → Da K G' v (.tuple rs) → Q v H'
def wideP : PyData → Bool
  | .tuple [_, .int c] => decide (c > 0)
  | _ => false
def PairIn (xs : List PyData) (d : PyData) : Prop := d ∈ xs ∧ TagD d
theorem PairIn.pair {xs : List PyData} {d : PyData} (h : PairIn xs d) : ∃ d1 d2, d = .tuple [d1, d2] := by
  obtain ⟨s, c, rfl, _⟩ := h.2
  exact ⟨_, _, rfl⟩
def repTD (k : Int) : PyData → PyData → PyData
  | .tuple a, _ => .tuple (List.replicate k.toNat a).flatten
  | _, _ => .none
theorem rowV_rep {tags : List PyData} {s : Str} {c x n : Int} (hmem : (.tuple [.str s, .int c] : PyData) ∈ tags) (c0 : 0 < c) (x0 : 0 ≤ x) (x1 : x < n) : RowV tags n (.tuple [.str s, .tuple (List.replicate c.toNat [.int x]).flatten]) := by
  refine ⟨s, c, _, rfl, List.mem_append_left _ hmem, ?_, fun f hf => ?_⟩
  · rw [List.flatten_replicate_singleton, List.length_replicate]; omega
  · rw [List.flatten_replicate_singleton] at hf
    exact ⟨x, (List.mem_replicate.mp hf).2, x0, x1⟩
theorem n_last {dk cl : Addr} {σ : L2.St} {F : Hp} {m : Nat} {E : XK} {tags : List PyData} {s : Str} {c i : Int} (h0 : σ[0]? = some (some (.ref dk))) (h6 : σ[6]? = some (some (.str s))) (h7 : σ[7]? = some (some (.int c)))
    (h8 : σ[8]? = some (some (.int (1 + i)))) (hmem : (.tuple [.str s, .int c] : PyData) ∈ tags) (c0 : 0 < c) (c3 : c ≤ 3) (i0 : 0 ≤ i) (hm : m ≤ 1000000000) :
    EvN K dk cl σ F m (tTup (tCons (tVar 6) (tCons (tOp (rRepQ K) (tTup (tCons (tCall (spPickS K) [] E (tCons (tVar 0) (tCons (tLst (tCons (tC (.int 0)) (tCons (tVar 8) (tCons (tVar 8) tNil)))) tNil))) tNil)) (tVar 7)) tNil))) (m + 1)
      (RowV tags (2 + i)) := by
  have hX : EvN K dk cl σ F m (tCall (spPickS K) [] E (tCons (tVar 0) (tCons (tLst (tCons (tC (.int 0)) (tCons (tVar 8) (tCons (tVar 8) tNil)))) tNil))) (m + 1) (fun d => ∃ x : Int, d = .int x ∧ 0 ≤ x ∧ x < 2 + i) :=
    (n_pickS (ds := [.int 0, .int (1 + i), .int (1 + i)]) h0 (e_lst (a_cons e_int (a_cons (e_var h8 (.int _)) (a_cons (e_var h8 (.int _)) a_nil))) (show 3 ≤ 100000 by decide)) (.inl rfl) (show 0 < 3 by decide) (show 3 < 100000 by decide) hm).imp fun d hd => by
      rcases List.mem_cons.mp hd with rfl | hd
      · exact ⟨0, rfl, by omega, by omega⟩
      rcases List.mem_cons.mp hd with rfl | hd
      · exact ⟨_, rfl, by omega, by omega⟩
      rcases List.mem_cons.mp hd with rfl | hd
      · exact ⟨_, rfl, by omega, by omega⟩
      cases hd
  have hR := (n_op (f := repTD c) (n_tup (an_cons hX fun _ _ => an_nil) (by rintro _ ⟨_, _, _, rfl, rfl⟩; exact (show 1 ≤ 100000 by decide))) (fun _ _ => n_pure (e_var h7 (.int c)))
    (r := rRepQ K) (by rintro _ _ ⟨_, ⟨_, _, ⟨x, rfl, _⟩, rfl, rfl⟩, rfl⟩ rfl; exact o_repT (by simp) (by omega) (by omega) (by simp)))
  refine (n_tup (an_cons (n_pure (e_var h6 (.str s))) fun _ _ => an_cons hR fun _ _ => an_nil) (by rintro _ ⟨_, _, rfl, ⟨_, _, _, rfl, rfl⟩, rfl⟩; exact (show 2 ≤ 100000 by decide))).imp ?_
  rintro _ ⟨_, ⟨_, _, rfl, ⟨_, _, ⟨_, _, ⟨_, ⟨_, _, ⟨x, rfl, x0, x1⟩, rfl, rfl⟩, rfl⟩, rfl, rfl⟩, rfl, rfl⟩, rfl⟩, rfl⟩
  exact rowV_rep hmem c0 x0 x1
theorem ok__law_rows (T : Txt K mg) : FnG P w K mg base CX0 3 T.a__law_rows T.d__law_rows ["_law_deck_here", "_law_tags_here"] (spRows K) := by
  have G__law_draw := (ok__law_draw (P := P) (w := w) (base := base) T).mono (show 1 ≤ 2 by decide)
  have G__law_pick := ok__law_pick (P := P) (w := w) (base := base) T
  refine okG T.F__law_rows sc__law_rows (fun vs H Q E h => h.1) fun cdv A out s H vs Q E hr hq h => ?_
  obtain ⟨_, dk, cl, tv, tags, G, m, rfl, eg, hD, hm, x1, hT, q⟩ := h
  have hu := hr.units
  have hTl := hT.t.l
  have hTp := hT.p
  refine ⟨_, (pss_cons (ps_par3 (i := 2) (j := 3) (l := 4) (by rfl) sc__law_rows.nd rfl rfl rfl (by decide) (by decide) (by decide) rfl rfl rfl (pa_cons (pe_op op_cat (pe_callTy (call_listK K) (by rfl) T.m_list (by decide +kernel) (pa_cons (pv 1) pa_nil)) (pe_lst (pa_cons (pe_tup (pa_cons pe_str (pa_cons pe_int pa_nil))) pa_nil))) (pa_cons (pe_g G__law_draw hr hq (by rfl) T.g__law_draw T.F__law_draw.kp T.b__law_draw .nil pass0 (pa_cons (pv 0) (pa_cons pe_int pa_nil))) (pa_cons (pe_lst pa_nil) pa_nil))) (by rfl))
    (pss_cons (ps_setLc (i := 5) (own := [("_law_pair", 10)]) (g := gName 10) rfl sc__law_rows.nd rfl rfl (sw_true rfl rfl rfl (by decide +kernel)) (pi_tupK K (pv 1)) (blkOk_by (N := N__law_rows) (sc := defScope s__law_rows) (by decide +kernel)) (fun _ _ _ _ _ => (pg_name (i := 10) sc__law_rows.nd rfl (.inl rfl))) (fun _ _ _ _ _ => pts_one (pt_cmpR op_gt (pe_ix (ix_tupK K) (pv 10) pe_int (fun _ _ => rfl)) pe_int (nomark _))) (fun _ _ _ _ _ => (pv 10)))
    (pss_cons (ps_if (PW.pt (pw_and (pt_cmpR op_eq (pv 3) pe_int (nomark _)) (pw_and1 (pt_cmpR (op_neDaK K hu) (pv 5) (pe_lst pa_nil) (nomark _)))))
    (pss_cons (ps_asg (pe_g G__law_pick hr hq (by rfl) T.g__law_pick T.F__law_pick.kp T.b__law_pick .nil pass0 (pa_cons (pv 0) (pa_cons (pv 5) pa_nil))) (pg_tupK K rfl (pgs_cons (pg_name (i := 6) sc__law_rows.nd rfl (.inr rfl)) (pgs_cons (pg_name (i := 7) sc__law_rows.nd rfl (.inr rfl)) pgs_nil))))
    (pss_cons (ps_set (i := 8) sc__law_rows.nd rfl (.inr rfl) (pe_op op_add pe_int (pe_g G__law_draw hr hq (by rfl) T.g__law_draw T.F__law_draw.kp T.b__law_draw .nil pass0 (pa_cons (pv 0) (pa_cons pe_int pa_nil)))))
    (pss_cons (ps_setLc (i := 4) (own := [("_law_k", 9)]) (g := gName 9) (tt := tYes) rfl sc__law_rows.nd rfl rfl (sw_true rfl rfl rfl (by decide +kernel)) (pi_range1 (by rfl) T.m_range (pa_cons (pe_op op_sub (pv 8) pe_int) pa_nil)) (blkOk_by (N := N__law_rows) (sc := defScope s__law_rows) (by decide +kernel)) (fun _ _ _ _ _ => (pg_name (i := 9) sc__law_rows.nd rfl (.inl rfl))) (fun _ _ _ _ _ => pts_nil) (fun _ _ _ _ _ => (pe_tup (pa_cons (pv 6) (pa_cons (pe_op (op_repQ K) (pe_tup (pa_cons (pe_op op_add (pv 9) pe_int) pa_nil)) (pv 7)) pa_nil)))))
    (pss_one (ps_ret (pe_callTy (call_tupK K) (by rfl) T.m_tuple (by decide +kernel) (pa_cons (pe_op op_cat (pv 4) (pe_lst (pa_cons (pe_tup (pa_cons (pv 6) (pa_cons (pe_op (op_repQ K) (pe_tup (pa_cons (pe_g G__law_pick hr hq (by rfl) T.g__law_pick T.F__law_pick.kp T.b__law_pick .nil pass0 (pa_cons (pv 0) (pa_cons (pe_lst (pa_cons pe_int (pa_cons (pv 8) (pa_cons (pv 8) pa_nil)))) pa_nil))) pa_nil)) (pv 7)) pa_nil))) (pa_cons (pe_tup (pa_cons pe_str (pa_cons (pe_tup pa_nil) pa_nil))) pa_nil)))) pa_nil)))))))
    pss_nil)
    (pss_cons (ps_set (i := 8) sc__law_rows.nd rfl (.inr rfl) (pe_op op_add pe_int (pe_g G__law_draw hr hq (by rfl) T.g__law_draw T.F__law_draw.kp T.b__law_draw .nil pass0 (pa_cons (pv 0) (pa_cons pe_int pa_nil)))))
    (pss_cons (ps_for PassesOwn.never rfl (pi_range1 (by rfl) T.m_range (pa_cons (pv 8) pa_nil)) (pg_name (i := 9) sc__law_rows.nd rfl (.inl rfl))
    (pss_cons (ps_asg (pe_g G__law_pick hr hq (by rfl) T.g__law_pick T.F__law_pick.kp T.b__law_pick .nil pass0 (pa_cons (pv 0) (pa_cons (pe_ifExp (pt_cmpR op_eq (pe_g G__law_draw hr hq (by rfl) T.g__law_draw T.F__law_draw.kp T.b__law_draw .nil pass0 (pa_cons (pv 0) (pa_cons pe_int pa_nil))) pe_int (nomark _)) (pv 2) (pv 1)) pa_nil))) (pg_tupK K rfl (pgs_cons (pg_name (i := 6) sc__law_rows.nd rfl (.inr rfl)) (pgs_cons (pg_name (i := 7) sc__law_rows.nd rfl (.inr rfl)) pgs_nil))))
    (pss_one (ps_expr (pe_bm PySem.F.plainAttrs_list PySem.F.slot_list_append PySem.F.type_list_append mt_append (pv 4) (pa_cons (pe_tup (pa_cons (pv 6) (pa_cons (pe_callTy (call_tupK K) (by rfl) T.m_tuple (by decide +kernel) (pa_cons (pe_lc (own := [("_law_j", 11)]) (g := gName 11) (tt := tYes) rfl sc__law_rows.nd  (pi_range1 (by rfl) T.m_range (pa_cons (pv 7) pa_nil)) (blkOk_by (N := N__law_rows) (sc := defScope s__law_rows) (by decide +kernel)) (fun _ _ _ _ _ => (pg_name (i := 11) sc__law_rows.nd rfl (.inl rfl))) (fun _ _ _ _ _ => pts_nil) (fun _ _ _ _ _ => (pe_g G__law_draw hr hq (by rfl) T.g__law_draw T.F__law_draw.kp T.b__law_draw .nil pass0 (pa_cons (pv 0) (pa_cons (pv 8) pa_nil))))) pa_nil)) pa_nil))) pa_nil))))))
    (pss_one (ps_ret (pe_callTy (call_tupK K) (by rfl) T.m_tuple (by decide +kernel) (pa_cons (pv 4) pa_nil))))))))), ?_⟩
  refine tpar3L (K := K) (R := fun _ => True) (P1 := fun d => d = .list (tags ++ [voidP])) (n_pure (e_op (e_cb (a_cons (e_var (i := 1) (v := tv) rfl x1) a_nil) c_listT) (e_lst (a_cons (e_tup (a_cons e_str (a_cons e_int a_nil)) (show 2 ≤ 100000 by decide)) a_nil) (show 1 ≤ 100000 by decide)) (o_cat (show tags.length + 1 ≤ 100000 by omega))))
    (fun G' e' => n_draw (i0 := 0) (lim := 6) rfl e_int (by decide) (by decide) (by omega)) eg hD fun v2 y L d1 d2 G1 H1 u1 hLH I1 p1 p2 x2 x3 => ?_
  subst p1
  obtain ⟨way, rfl, w0, w1⟩ := p2
  cases x3
  show tSeq _ _ _ [some (V.ref dk), some tv, some v2, some (.int way), some (.ref L), none, none, none, none, none, none, none] H1
  have x11 := x1.mono u1.g
  refine st_set (K := K) (n_pure (e_lc1f (p := wideP) (f := fun d => d) (i_tup (e_var (i := 1) rfl x11)) (by omega) fun d hd F' v e dv => ?_)) u1.h I1.d fun v5 d5 G2 H2 u2 hD2 p5 x5 => ?_
  · obtain ⟨s, c, rfl, _⟩ := hT.t.a d hd
    exact ⟨t_test (e_op (e_op (e_var (v := v) rfl dv) (e_int (i := 1)) (o_ixT rfl)) e_int (o_I0 fun _ => .bl _)), fun _ => e_var rfl dv⟩
  subst p5
  rw [List.map_id'] at x5
  have I2 := I1.up u2 hD2
  have u12 := u1.tr u2
  show tSeq _ _ _ [some (V.ref dk), some tv, some v2, some (.int way), some (.ref L), some v5, none, none, none, none, none, none] H2
  refine st_if (b := eqD (.int way) (.int 0) && !(tags.filter wideP).isEmpty) (t_and (t_test (e_op (e_var (K := K) (i := 3) rfl (.int _)) e_int (o_eq rfl))) fun _ => (t_test (e_op (e_var (i := 5) rfl x5) (e_lst a_nil (show 0 ≤ 100000 by decide)) (o_neDa cmpOk_nil))).is (by rw [eqv_nil])) I2.e
    (fun hb G3 H3 u3 => ?_) fun hb G3 H3 u3 => ?_
  · -- a chain
    have hb' := Bool.and_eq_true_iff.mp hb
    have hne : (tags.filter wideP).isEmpty = false := by simpa using hb'.2
    have hlen : 0 < (tags.filter wideP).length := by
      cases e : tags.filter wideP with
      | nil => rw [e] at hne; cases hne
      | cons a b => simp
    have hle : (tags.filter wideP).length ≤ 6 := Nat.le_trans (List.length_filter_le _ _) hTl
    have I3 := I2.upP u3
    refine st_pair (K := K) (P := fun d => ∃ (s : Str) (c : Int), d = .tuple [.str s, .int c] ∧ d ∈ tags ∧ SN 9 s ∧ 0 < c ∧ c ≤ 3) ((n_pickS (i0 := 0) rfl (e_var (i := 5) rfl (x5.mono u3.g)) (.inl rfl) hlen (by omega) (by omega)).imp fun d hd => ?_) u3.h I3.d
      (by rintro _ ⟨s, c, rfl, _⟩; exact ⟨_, _, rfl⟩) fun v6 v7 d6 d7 G4 H4 u4 hD4 p4 x6 x7 => ?_
    · obtain ⟨h1, h2⟩ := List.mem_filter.mp hd
      obtain ⟨s, c, rfl, s9, c0, c3⟩ := hT.t.a d h1
      exact ⟨s, c, rfl, h1, s9, of_decide_eq_true h2, c3⟩
    obtain ⟨s, c, e, hmem, s9, c0, c3⟩ := p4
    cases e
    cases x6; cases x7
    refine st_set (K := K) (n_op (f := addD) (P1 := fun d => d = .int 1) (n_pure e_int) (fun _ _ => n_draw (i0 := 0) (lim := 23) rfl e_int (by decide) (by decide) (by omega)) (by rintro _ _ rfl ⟨i, rfl, _, _⟩; exact o_I0 fun _ => .int _)) u4.h hD4 fun v8 d8 G5 H5 u5 hD5 p8 x8 => ?_
    obtain ⟨_, _, rfl, ⟨i, rfl, i0, i1⟩, rfl⟩ := p8
    cases x8
    refine st_set (K := K) (n_pure (e_lc1 (f := fun d => .tuple [.str s, .tuple (List.replicate c.toNat [match d with | .int k => .int (k + 1) | _ => .none]).flatten]) (i_range1 (j := 1 + i - 1) (a_cons (e_op (e_var (i := 8) rfl (.int _)) e_int (o_I0 fun _ => .int _)) a_nil) (by omega) (by omega)) ?_ fun d hd F' v e dv => ?_)) u5.h hD5 fun v4 d4 G6 H6 u6 hD6 p4 x4 => ?_
    · unfold nums
      rw [List.length_map, List.length_range]; omega
    · obtain ⟨j, hj⟩ := List.mem_iff_getElem?.mp hd
      obtain ⟨_, rfl⟩ := nums_get hj
      exact e_tup (a_cons (e_var (i := 6) rfl (.str _)) (a_cons (e_op (e_tup (a_cons (e_op (e_var (i := 9) rfl dv) e_int (o_I0 fun _ => .int _)) a_nil) (show 1 ≤ 100000 by decide)) (e_var (i := 7) rfl (.int _)) (o_repT (by simp) (by omega) (by omega) (show 1 ≤ 1000 by decide))) a_nil)) (show 2 ≤ 100000 by decide)
    subst p4
    refine st_ret (K := K) (P := fun d => ∃ rs, d = .tuple rs ∧ AllR (RowV tags (2 + i)) (i.toNat + 2) rs) ((n_cb (f := tupD) (an_cons (l_cat (R := RowV tags (2 + i)) (a := i.toNat) (b := 2) ((n_pure (e_var (i := 4) rfl x4)).imp fun _ e => e ▸ ⟨_, rfl, ?_⟩)
      (l_of (ak_cons (n_last rfl rfl rfl rfl hmem c0 c3 i0 (by omega)) (ak_cons ((n_pure (e_tup (a_cons e_str (a_cons (e_tup a_nil (show 0 ≤ 100000 by decide)) a_nil)) (show 2 ≤ 100000 by decide))).imp fun _ e => e ▸ ?_) ak_nil))) (by omega)) fun _ _ => an_nil)
        (by rintro _ ⟨_, _, ⟨xs, rfl, _⟩, rfl, rfl⟩; exact c_tupL)).imp ?_) u6.h hD6 fun v d G7 H7 u7 hD7 p7 x7 => ?_
    · refine ⟨by unfold nums; rw [List.length_map, List.length_map, List.length_range]; omega, fun d hd => ?_⟩
      obtain ⟨e, he, rfl⟩ := List.mem_map.mp hd
      obtain ⟨j, hj⟩ := List.mem_iff_getElem?.mp he
      obtain ⟨hj2, rfl⟩ := nums_get hj
      exact rowV_rep hmem c0 (by omega) (by omega)
    · exact ⟨_, 0, [], rfl, List.mem_append_right _ List.mem_cons_self, rfl, fun _ h => by cases h⟩
    · rintro _ ⟨_, ⟨_, _, ⟨xs, rfl, ha⟩, rfl, rfl⟩, rfl⟩
      exact ⟨xs, rfl, ha⟩
    obtain ⟨rs, rfl, ha⟩ := p7
    have hal := ha.l
    refine q v rs G7 H7 (u12.tr (u3.toM.tr (u4.tr (u5.tr (u6.tr u7))))) (hD7.mono (by omega)) ⟨by omega, by omega, fun r hr => ?_⟩ x7
    have hn : (rs.length : Int) = 2 + i := by omega
    rw [hn]
    exact ha.a r hr
  · -- any rows
    have I3 := I2.upP u3
    have u13 := u12.tr u3.toM
    refine st_set (K := K) (n_op (f := addD) (P1 := fun d => d = .int 1) (n_pure e_int) (fun _ _ => n_draw (i0 := 0) (lim := 12) rfl e_int (by decide) (by decide) (by omega)) (by rintro _ _ rfl ⟨i, rfl, _, _⟩; exact o_I0 fun _ => .int _)) u3.h I3.d fun v8 d8 G4 H4 u4 hD4 p8 x8 => ?_
    obtain ⟨_, _, rfl, ⟨i, rfl, i0, i1⟩, rfl⟩ := p8
    cases x8
    have I4 : Lp K dk cl L (RowV tags (1 + i)) 0 [] G4 H4 _ := (I3.up u4 hD4).emp
    have u14 := u13.tr u4
    have x24 : Da K G4 v2 (.list (tags ++ [voidP])) := x2.mono (u2.g.tr (u3.g.tr u4.g))
    have x14 : Da K G4 tv (.tuple tags) := x11.mono (u2.g.tr (u3.g.tr u4.g))
    show tSeq _ _ _ [some (V.ref dk), some tv, some v2, some (.int way), some (.ref L), some v5, none, none, some (.int (1 + i)), none, none, none] H4
    refine ⟨.int (1 + i), rfl, 1 + i, rfl, by omega, by omega, ?_⟩
    refine for_range (lo := 0) (n := (1 + i).toNat) (fun k σ H' => ∃ (o6 o7 o9 : Option V) (G' : Hp) (ds : List PyData), σ = [some (V.ref dk), some tv, some v2, some (.int way), some (.ref L), some v5, o6, o7, some (.int (1 + i)), o9, none, none] ∧
        UpM dk cl G H G' H' ∧ Ex G4 G' ∧ Lp K dk cl L (RowV tags (1 + i)) k ds G' H' (m + 2 + 8 * k))
      ⟨none, none, none, G4, [], rfl, u14, Ex.rf _, I4.cast rfl (by omega)⟩ (fun k σ H' hk hP => ?_) (fun σ H' hP => ?_)
    · obtain ⟨o6, o7, o9, G', ds, rfl, u', e', I'⟩ := hP
      show tSeq _ _ _ [some (V.ref dk), some tv, some v2, some (.int way), some (.ref L), some v5, o6, o7, some (.int (1 + i)), some (.int (0 + (k : Int))), none, none] H'
      have allP : ∀ d ∈ tags ++ [voidP], PairIn (tags ++ [voidP]) d := fun d hd => ⟨hd, all_void hT.t.a d hd⟩
      refine st_pair (K := K) (P := PairIn (tags ++ [voidP])) (n_pickN (i0 := 0) rfl (by omega) (n_ifD ((n_op (f := fun x y => .bool (eqD x y)) (n_draw (i0 := 0) (lim := 3) rfl e_int (by decide) (by decide) (by omega)) (fun _ _ => n_pure (d := .int 0) e_int)
          (by rintro _ _ ⟨j, rfl, _⟩ rfl; exact o_eq rfl)).imp (by rintro _ ⟨_, _, _, _, rfl⟩; exact ⟨_, rfl⟩))
        ((n_pure (e_var (i := 2) rfl (x24.mono e'))).imp fun _ e => ⟨_, .inl e, by simp, by rw [List.length_append]; exact Nat.lt_of_le_of_lt (Nat.add_le_add hTl (Nat.le_refl 1)) (by decide), allP⟩)
        ((n_pure (e_var (i := 1) rfl (x14.mono e'))).imp fun _ e => ⟨_, .inr e, hTp, by omega, fun d hd => allP d (List.mem_append_left _ hd)⟩))) I'.e I'.d (fun d hd => hd.pair) fun v6 v7 d6 d7 G5 H5 u5 hD5 p5 x6 x7 => ?_
      obtain ⟨hmem, s, c, e, s9, c0, c3⟩ := p5
      cases e
      cases x6; cases x7
      have I5 := I'.up u5 hD5
      have hnl : (nums 0 c.toNat).length = c.toNat := by unfold nums; rw [List.length_map, List.length_range]
      refine do_appendM (K := K) (i := 4) rfl I5 ((n_tup (an_cons (n_pure (e_var (i := 6) rfl (.str _))) fun _ _ => an_cons (n_cb (f := tupD) (an_cons (n_lc1 (c := 1) (P := fun _ r => ∃ j : Int, r = .int j ∧ 0 ≤ j ∧ j < 1 + i) (i_range1 (j := c) (a_cons (e_var (i := 7) rfl (.int _)) a_nil) (by omega) (by omega)) (by rw [hnl]; omega)
          fun j d hj F' v e dv => n_draw (i0 := 0) rfl (e_var (i := 8) rfl (.int _)) (by omega) (by omega) ?_) fun _ _ => an_nil) ?_) fun _ _ => an_nil) ?_).imp ?_) (by omega) fun ds' G6 H6 o u6 gl I6 => ?_
      · have := (List.getElem?_eq_some_iff.mp hj).1
        rw [hnl] at this
        omega
      · rintro _ ⟨_, _, ⟨rs, rfl, _, _⟩, rfl, rfl⟩
        exact c_tupL
      · rintro _ ⟨_, _, rfl, ⟨_, _, _, rfl, rfl⟩, rfl⟩
        exact (show 2 ≤ 100000 by decide)
      · rintro _ ⟨_, ⟨_, _, rfl, ⟨_, _, ⟨_, ⟨_, _, ⟨rs, rfl, hl, hP⟩, rfl, rfl⟩, rfl⟩, rfl, rfl⟩, rfl⟩, rfl⟩
        refine ⟨s, c, rs, rfl, hmem, by rw [hl, hnl]; omega, fun f hf => ?_⟩
        obtain ⟨j, hj⟩ := List.mem_iff_getElem?.mp hf
        have hjl := (List.getElem?_eq_some_iff.mp hj).1
        exact hP j _ f (List.getElem?_eq_getElem (by omega)) hj
      · exact ⟨_, _, _, G6, ds', rfl, (u'.tr (u5.tr u6)).put hLH gl, e'.tr (u5.g.tr u6.g), I6.cast rfl (by rw [hnl]; omega)⟩
    · obtain ⟨o6, o7, o9, G', ds, rfl, u', e', I'⟩ := hP
      obtain ⟨G7, uM, hDk, dL⟩ := UpM.done u' hLH I'.l I'.n1 I'.n2 I'.d
      have hdl := I'.len
      refine st_ret (K := K) (P := fun d => d = .tuple ds) (n_pure (e_cb (a_cons (e_var (i := 4) rfl dL) a_nil) c_tupL)) uM.h hDk fun v d G8 H8 u8 hD8 p8 x8 => ?_
      subst p8
      refine q v ds G8 H8 (uM.tr u8) (hD8.mono (by omega)) ⟨by omega, by omega, fun r hr => ?_⟩ x8
      have hn : (ds.length : Int) = 1 + i := by omega
      rw [hn]
      exact I'.all r hr
end
end L05
set_option Elab.async false
set_option linter.all false
set_option maxRecDepth 100000
set_option maxHeartbeats 1000000
namespace L05
open PySem PySem.Spec PyProof.Rows L2 KD
section
variable {P : Program} {w : World} {K : PySem.W.Frag} {mg : Str → Option Value} {base : Heap}
/-! ### copies of rows -/
structure CopyV (rs cs : List PyData) (sp : List Nat) : Prop where
  l : cs.length = sp.length
  b : sp.length ≤ 101
  z : sp[0]? = some 0
  a : ∀ (j k : Nat), sp[j]? = some k → ∃ (s : Str) (fs fs' : List PyData), rs[k]? = some (.tuple [.str s, .tuple fs]) ∧ cs[j]? = some (.tuple [.str s, .tuple fs']) ∧ fs'.length = fs.length ∧
    ∀ (i : Nat) (x : Int), fs[i]? = some (.int x) → ∃ y : Nat, fs'[i]? = some (.int (y : Int)) ∧ sp[y]? = some x.toNat
def spCopies (K : PySem.W.Frag) : Sp := fun vs H Q _ => vs.length = 2 ∧ ∃ (dk cl : Addr) (rv : V) (tags rs : List PyData) (G : Hp) (m : Nat), vs = [.ref dk, rv] ∧ Ex G H ∧ Deck G H dk cl m ∧ m ≤ 999980000 ∧ Da K G rv (.tuple rs) ∧ TagsV tags ∧ RowsV tags rs ∧
  ∀ (v : V) (cs : List PyData) (sp : List Nat) (G' H' : Hp), UpM dk cl G H G' H' → Deck G' H' dk cl (m + 600) → CopyV rs cs sp → Da K G' v (.tuple cs) → Q v H'
structure LeftV (k : Nat) (ls : List Nat) : Prop where
  l : ls.length ≤ 4 * k
  a : ∀ x ∈ ls, x < k
  b : ∀ j, 0 < j → j < k → j ∈ ls
theorem LeftV.step {k : Nat} {ls : List Nat} (h : LeftV k ls) {c : Nat} (c0 : k ≠ 0 → 1 ≤ c) (c4 : c ≤ 4) : LeftV (k + 1) (ls ++ List.replicate c k) := by
  refine ⟨?_, fun x hx => ?_, fun j j0 j1 => ?_⟩
  · rw [List.length_append, List.length_replicate]
    have := h.l
    omega
  · rcases List.mem_append.mp hx with hx | hx
    · have := h.a x hx
      omega
    · have := (List.mem_replicate.mp hx).2
      omega
  · by_cases e : j < k
    · exact List.mem_append_left _ (h.b j j0 e)
    · have e2 : j = k := by omega
      subst e2
      exact List.mem_append_right _ (List.mem_replicate.mpr ⟨by have := c0 (by omega); omega, rfl⟩)
theorem ok__law_copies (T : Txt K mg) : FnG P w K mg base CX0 3 T.a__law_copies T.d__law_copies ["_law_deck_here", "_law_rows_here"] (spCopies K) := by
  have G__law_draw := (ok__law_draw (P := P) (w := w) (base := base) T).mono (show 1 ≤ 2 by decide)
  have G__law_pick := ok__law_pick (P := P) (w := w) (base := base) T
  refine okG T.F__law_copies sc__law_copies (fun vs H Q E h => h.1) fun cdv A out s H vs Q E hr hq h => ?_
  obtain ⟨_, dk, cl, rv, tags, rs, G, m, rfl, eg, hD, hm, x1, hT, hR, q⟩ := h
  have hu := hr.units
  have hRl := hR.l
  have hRp := hR.p
  obtain ⟨ra, rvs, rfl, hra, hrv⟩ : ∃ ra rvs, rv = .ref ra ∧ G ra = some (.tup rvs) ∧ DaAll K G rvs rs := by
    cases x1 with | tup h1 h2 => exact ⟨_, _, rfl, h1, h2⟩
  have hlen := hrv.length
  refine ⟨_, (pss_cons (ps_asg (pe_tup (pa_cons (pe_lst (pa_cons pe_int pa_nil)) (pa_cons (pe_lst pa_nil) pa_nil))) (pg_tupK K rfl (pgs_cons (pg_name (i := 2) sc__law_copies.nd rfl (.inr rfl)) (pgs_cons (pg_name (i := 3) sc__law_copies.nd rfl (.inl rfl)) pgs_nil))))
    (pss_cons (ps_for PassesOwn.never rfl (pi_range1 (by rfl) T.m_range (pa_cons (pe_callB (call_lenK K) (by rfl) T.m_len PySem.boot_len (pa_cons (pv 1) pa_nil)) pa_nil)) (pg_name (i := 4) sc__law_copies.nd rfl (.inl rfl))
    (pss_one (ps_set (i := 3) sc__law_copies.nd rfl (.inl rfl) (pe_op op_cat (pv 3) (pe_op op_rep (pe_lst (pa_cons (pv 4) pa_nil)) (pe_op op_add (pe_callTy call_int1 (by rfl) T.m_int (by decide +kernel) (pa_cons (pe_cmpR op_gt (pv 4) pe_int (nomark _)) pa_nil)) (pe_g G__law_draw hr hq (by rfl) T.g__law_draw T.F__law_draw.kp T.b__law_draw .nil pass0 (pa_cons (pv 0) (pa_cons (pe_ix (ix_listK K) (pe_lst (pa_cons pe_int (pa_cons pe_int pa_nil))) (pe_callTy call_int1 (by rfl) T.m_int (by decide +kernel) (pa_cons (pe_cmpR op_gt (pe_callB (call_lenK K) (by rfl) T.m_len PySem.boot_len (pa_cons (pv 1) pa_nil)) pe_int (nomark _)) pa_nil)) (fun _ _ => rfl)) pa_nil)))))))))
    (pss_cons (ps_while PassesOwn.never (pt_cmpR (op_neDaK K hu) (pv 3) (pe_lst pa_nil) (nomark _))
    (pss_one (ps_expr (pe_bm PySem.F.plainAttrs_list PySem.F.slot_list_append PySem.F.type_list_append mt_append (pv 2) (pa_cons (pe_bm PySem.F.plainAttrs_list PySem.F.slot_list_pop PySem.F.type_list_pop mt_popAt (pv 3) (pa_cons (pe_g G__law_draw hr hq (by rfl) T.g__law_draw T.F__law_draw.kp T.b__law_draw .nil pass0 (pa_cons (pv 0) (pa_cons (pe_callB (call_lenK K) (by rfl) T.m_len PySem.boot_len (pa_cons (pv 3) pa_nil)) pa_nil))) pa_nil)) pa_nil)))))
    (pss_cons (ps_set (i := 5) sc__law_copies.nd rfl (.inl rfl) (pe_lst pa_nil))
    (pss_cons (ps_for PassesOwn.never rfl (pi_listK K (pv 2)) (pg_name (i := 4) sc__law_copies.nd rfl (.inl rfl))
    (pss_cons (ps_setLc (i := 6) (own := [("_law_field", 7)]) (g := gName 7) (tt := tYes) rfl sc__law_copies.nd rfl rfl (sw_true rfl rfl rfl (by decide +kernel)) (pi_tupK K (pe_ix (ix_tupK K) (pe_ix (ix_tupK K) (pv 1) (pv 4) (fun _ _ => rfl)) pe_int (fun _ _ => rfl))) (blkOk_by (N := N__law_copies) (sc := defScope s__law_copies) (by decide +kernel)) (fun _ _ _ _ _ => (pg_name (i := 7) sc__law_copies.nd rfl (.inr rfl))) (fun _ _ _ _ _ => pts_nil) (fun _ _ _ _ _ => (pe_g G__law_pick hr hq (by rfl) T.g__law_pick T.F__law_pick.kp T.b__law_pick .nil pass0 (pa_cons (pv 0) (pa_cons (pe_lc (own := [("_law_spot", 8)]) (g := gName 8) rfl sc__law_copies.nd  (pi_range1 (by rfl) T.m_range (pa_cons (pe_callB (call_lenK K) (by rfl) T.m_len PySem.boot_len (pa_cons (pv 2) pa_nil)) pa_nil)) (blkOk_by (N := N__law_copies) (sc := (⟨.function, [(".0", .local), ("_law_field", .cell), ("_law_pick", .globalImplicit), ("range", .globalImplicit), ("len", .globalImplicit), ("_law_deck_here", .cell), ("_law_spots", .cell)], false, false, []⟩ : Scope)) (by decide +kernel)) (fun _ _ _ _ _ => (pg_name (i := 8) sc__law_copies.nd rfl (.inl rfl))) (fun _ _ _ _ _ => pts_one (pt_cmpR op_eq (pe_ix (ix_listK K) (pv 2) (pv 8) (fun _ _ => rfl)) (pv 7) (nomark _))) (fun _ _ _ _ _ => (pv 8))) pa_nil)))))
    (pss_one (ps_expr (pe_bm PySem.F.plainAttrs_list PySem.F.slot_list_append PySem.F.type_list_append mt_append (pv 5) (pa_cons (pe_tup (pa_cons (pe_ix (ix_tupK K) (pe_ix (ix_tupK K) (pv 1) (pv 4) (fun _ _ => rfl)) pe_int (fun _ _ => rfl)) (pa_cons (pe_callTy (call_tupK K) (by rfl) T.m_tuple (by decide +kernel) (pa_cons (pv 6) pa_nil)) pa_nil))) pa_nil))))))
    (pss_one (ps_ret (pe_callTy (call_tupK K) (by rfl) T.m_tuple (by decide +kernel) (pa_cons (pv 5) pa_nil))))))))), ?_⟩
  refine ⟨by show 1 ≤ sizeLine; decide, fun p1 h1 => ⟨Nat.zero_le _, fun p2 h2 => ⟨by show 2 ≤ sizeLine; decide, fun p3 h3 => ?_⟩⟩⟩
  refine ⟨p3, _, rfl, SqT.of upd_same, rfl, _, _, rfl, _, _, rfl, rfl, ?_⟩
  have n21 : p2 ≠ p1 := fun z => by rw [z, upd_same] at h2; cases h2
  have hp2 : H p2 = none := by rw [upd_ne n21] at h2; exact h2
  have n32 : p3 ≠ p2 := fun z => by rw [z, upd_same] at h3; cases h3
  have h3' := h3
  rw [upd_ne n32] at h3'
  have n31 : p3 ≠ p1 := fun z => by rw [z, upd_same] at h3'; cases h3'
  have hp3 : H p3 = none := by rw [upd_ne n31] at h3'; exact h3'
  have nd : ∀ p, H p = none → p ≠ dk := fun p h z => hD.dn (by rw [← z]; exact h)
  have nc : ∀ p, H p = none → p ≠ cl := fun p h z => hD.cn (by rw [← z]; exact h)
  generalize hHs : upd (upd (upd H p1 (.lst [.int 0])) p2 (.lst [])) p3 (.tup [.ref p1, .ref p2]) = Hs
  have u0 : UpM dk cl G H G Hs := by rw [← hHs]; exact (((UpM.rf eg).own h1 (eg.fresh h1)).own hp2 (eg.fresh hp2)).own hp3 (eg.fresh hp3)
  have D0 : Deck G Hs dk cl m := by rw [← hHs]; exact ((hD.put (nd _ h1) (nc _ h1)).put (nd _ hp2) (nc _ hp2)).put (nd _ hp3) (nc _ hp3)
  have O1 : Own K dk cl p1 [nD 0] G Hs := by rw [← hHs]; exact ((Own.new h1 eg hD (.cons (.int 0) .nil)).other n21.symm).other n31.symm
  have O2 : Own K dk cl p2 [] G Hs := by rw [← hHs]; exact (Own.new (K := K) (xs := []) h2 (eg.at (eg.fresh h1)) (hD.put (nd _ h1) (nc _ h1)) .nil).other n32.symm
  show tSeq _ _ _ [some (V.ref dk), some (.ref ra), some (.ref p1), some (.ref p2), none, none, none, none, none] Hs
  refine ⟨.ref ra, rfl, ra, rvs, rfl, .inr (SqT.of (u0.h _ _ (u0.g _ _ hra))), (rvs.length : Int), rfl, by omega, by omega, ?_⟩
  refine for_range (lo := 0) (n := (rvs.length : Int).toNat) (fun k σ H' => ∃ (o4 : Option V) (Lc : Addr) (G' : Hp) (ls : List Nat), σ = [some (V.ref dk), some (.ref ra), some (.ref p1), some (.ref Lc), o4, none, none, none, none] ∧
      UpM dk cl G H G' H' ∧ Deck G' H' dk cl (m + k) ∧ H Lc = none ∧ p1 ≠ Lc ∧ Own K dk cl p1 [nD 0] G' H' ∧ Own K dk cl Lc (ls.map nD) G' H' ∧ LeftV k ls)
    ⟨none, p2, G, [], rfl, u0, D0, hp2, n21.symm, O1, O2, ⟨Nat.zero_le _, (by intro x h; cases h), fun j _ h => by omega⟩⟩ (fun k σ H' hk hP => ?_) (fun σ H' hP => ?_)
  · obtain ⟨o4, Lc, G', ls, rfl, u', D', hL2, nL, P1, P2, hv⟩ := hP
    show tAsg _ _ _ [some (V.ref dk), some (.ref ra), some (.ref p1), some (.ref Lc), some (.int (0 + (k : Int))), none, none, none, none] H'
    obtain ⟨lim, hlim, l0, l4⟩ : ∃ lim : Int, atI [PyData.int 4, .int 2] (if decide ((rs.length : Int) > 15) = true then 1 else 0) = some (.int lim) ∧ 0 < lim ∧ lim ≤ 4 := by
      cases decide ((rs.length : Int) > 15)
      · exact ⟨4, rfl, by decide, by decide⟩
      · exact ⟨2, rfl, by decide, by decide⟩
    have xr : Da K G' (.ref ra) (.tuple rs) := x1.mono u'.g
    have hll := hv.l
    refine do_catO (K := K) (i := 3) rfl P2 (n_reps (x := .int (0 + (k : Int))) (lo := if k = 0 then 0 else 1) (hi := 4) (e_lst (a_cons (e_var (i := 4) rfl (.int _)) a_nil) (show 1 ≤ 100000 by decide))
      ((n_op (f := addD) (n_pure (e_cb (a_cons (e_op (e_var (i := 4) rfl (.int _)) e_int (o_I0 fun _ => .bl _)) a_nil) c_intB)) (fun _ _ => n_draw (i0 := 0) (lim := lim) rfl
        (e_op (e_lst (a_cons e_int (a_cons e_int a_nil)) (show 2 ≤ 100000 by decide)) (e_cb (a_cons (e_op (e_cb (a_cons (e_var (i := 1) rfl xr) a_nil) q_lenT) e_int (o_I0 fun _ => .bl _)) a_nil) c_intB) (o_ixL hlim)) l0 (by omega) (by omega))
        (by rintro _ _ rfl ⟨i, rfl, _⟩; exact o_I0 fun _ => .int _)).imp ?_) (by split <;> omega) (by omega)) u'.h D' ?_ fun L' ys G1 H1 o' u1 hL' hA D1 O1' => ?_
    · rintro _ ⟨_, _, rfl, ⟨i, rfl, i0, i1⟩, rfl⟩
      refine ⟨_, rfl, ?_, ?_⟩
      · simp only [decide_eq_true_eq]
        split <;> split <;> omega
      · simp only [decide_eq_true_eq]
        split <;> omega
    · rintro ys ⟨c, rfl, _, c4⟩
      rw [List.length_map, List.length_replicate]
      omega
    · obtain ⟨c, rfl, c0, c4⟩ := hA
      have hLH : H L' = none := (u'.tr u1).none hL'
      have gl : G1 L' = none := u1.h.fresh hL'
      have nL' : p1 ≠ L' := fun z => by
        obtain ⟨_, e, _⟩ := (P1.upM u1).ex
        rw [z, hL'] at e; cases e
      refine ⟨_, L', G1, ls ++ List.replicate c k, rfl, (u'.tr u1).own hLH gl, D1, hLH, nL', (P1.upM u1).other nL', ?_, hv.step (fun h => ?_) (by omega)⟩
      · have : (ls ++ List.replicate c k).map nD = ls.map nD ++ List.replicate c (.int (0 + (k : Int))) := by
          rw [List.map_append, List.map_replicate, Int.zero_add]
        rw [this]
        exact O1'
      · rw [if_neg h] at c0; omega
  · obtain ⟨o4, Lc, G', ls0, rfl, u', D', hL2, nL, P1, P2, hv⟩ := hP
    have hn : (rvs.length : Int).toNat = rs.length := by omega
    rw [hn] at hv D'
    have hll := hv.l
    show tSeq _ _ _ [some (V.ref dk), some (.ref ra), some (.ref p1), some (.ref Lc), o4, none, none, none, none] H'
    refine ⟨fun μ σ H2 => ∃ (sp ls : List Nat), μ = ls.length ∧ σ = [some (V.ref dk), some (.ref ra), some (.ref p1), some (.ref Lc), o4, none, none, none, none] ∧ UpM dk cl G H G' H2 ∧ Deck G' H2 dk cl (m + rs.length + (sp.length - 1)) ∧ Own K dk cl p1 (sp.map nD) G' H2 ∧
      Own K dk cl Lc (ls.map nD) G' H2 ∧ sp[0]? = some 0 ∧ (sp ++ ls).Perm (0 :: ls0), ⟨_, [0], ls0, rfl, rfl, u', D', P1, P2, rfl, List.Perm.refl _⟩, ?_⟩
    rintro μ σ H2 ⟨sp, ls, rfl, rfl, u2, D2, R1, R2, hz, hp⟩
    have hpl := hp.length_eq
    rw [List.length_append, List.length_cons] at hpl
    have hsp : 0 < sp.length := by
      cases sp with
      | nil => cases hz
      | cons a b => simp
    refine ⟨.ref Lc, rfl, Nat.zero_le _, fun p hpn => ?_⟩
    have u2p : UpM dk cl G H G' (upd H2 p (.lst [])) := u2.own (u2.none hpn) (u2.h.fresh hpn)
    have D2p : Deck G' (upd H2 p (.lst [])) dk cl _ := D2.put (fun z => D2.dn (by rw [← z]; exact hpn)) (fun z => D2.cn (by rw [← z]; exact hpn))
    have npl : ∀ {L : Addr} {ds : List PyData}, Own K dk cl L ds G' H2 → L ≠ p := fun o z => by
      obtain ⟨_, e, _⟩ := o.ex
      rw [z, hpn] at e; cases e
    have R1p := R1.other (o' := .lst []) (npl R1)
    have R2p := R2.other (o' := .lst []) (npl R2)
    refine ⟨_, _, R2p.da u2p.h, .lst upd_same .nil, cmpOk_nil, _, rfl, ?_⟩
    rw [eqv_nil]
    cases hls : ls with
    | nil =>
      subst hls
      rw [List.append_nil] at hp
      refine iteF ?_
      -- all are moved
      obtain ⟨G3, u3, D3, g3, _, x2⟩ := R1p.done u2p h1 D2p
      refine st_newO (K := K) u3.h D3 fun L3 o3 hL3 e3 u4 D4 O4 => ?_
      have hL3H : H L3 = none := u3.none hL3
      have memSp : ∀ x : Int, 0 ≤ x → x < rs.length → x.toNat ∈ sp := fun x x0 x1 => hp.mem_iff.mpr (by
        by_cases e : x.toNat = 0
        · rw [e]; exact List.mem_cons_self
        · exact List.mem_cons_of_mem _ (hv.b _ (by omega) (by omega)))
      have spLt : ∀ k ∈ sp, k < rs.length := fun k hk => by
        rcases List.mem_cons.mp (hp.mem_iff.mp hk) with rfl | h
        · exact hRp
        · exact hv.a _ h
      obtain ⟨sa, hsa, hsd⟩ : ∃ sa, G3 p1 = some (.lst sa) ∧ DaAll K G3 sa (sp.map nD) := by
        cases x2 with | lst a b => exact ⟨_, a, b⟩
      have hsl := hsd.length
      rw [List.length_map] at hsl
      rw [List.length_nil, Nat.add_zero] at hpl
      show tSeq _ _ _ [some (V.ref dk), some (.ref ra), some (.ref p1), some (.ref Lc), o4, some (.ref L3), none, none, none] (upd (upd H2 p (.lst [])) L3 o3)
      refine ⟨.ref p1, rfl, p1, rfl, ⟨sa, SqL.of (e3 _ _ hsa)⟩, ?_⟩
      refine for_list (K := K) (a := p1) (xs := sa) (fun j σ H5 => ∃ (o4 o6 : Option V) (G5 : Hp) (cs : List PyData), σ = [some (V.ref dk), some (.ref ra), some (.ref p1), some (.ref Lc), o4, some (.ref L3), o6, none, none] ∧
          UpM dk cl G H G5 H5 ∧ Ex G3 G5 ∧ Deck G5 H5 dk cl (m + rs.length + (sp.length - 1) + 3 * j) ∧ Own K dk cl L3 cs G5 H5 ∧ cs.length = j ∧
          ∀ (i k : Nat) (c : PyData), sp[i]? = some k → cs[i]? = some c → ∃ (s : Str) (fs fs' : List PyData), rs[k]? = some (.tuple [.str s, .tuple fs]) ∧ c = .tuple [.str s, .tuple fs'] ∧ fs'.length = fs.length ∧
            ∀ (i : Nat) (x : Int), fs[i]? = some (.int x) → ∃ y : Nat, fs'[i]? = some (.int (y : Int)) ∧ sp[y]? = some x.toNat)
        ⟨o4, none, G3, [], rfl, u3.tr u4, Ex.rf _, D4, O4, rfl, fun i k c _ h => by simp at h⟩ ?_ (fun j x σ H5 hx hP => ?_) (fun σ H5 hP => ?_)
      · rintro j σ H5 _ ⟨_, _, G5, _, _, u5, e5, _⟩
        exact SqL.of (u5.h _ _ (e5 _ _ hsa))
      · obtain ⟨o4', o6, G5, cs, rfl, u5, e5, D5, O5, hcl, hC⟩ := hP
        have hj := (List.getElem?_eq_some_iff.mp hx).1
        obtain ⟨d, hd, dd⟩ := hsd.get hx
        rw [List.getElem?_map] at hd
        obtain ⟨k, hk, rfl⟩ := Option.map_eq_some_iff.mp hd
        cases dd
        have hklt := spLt k (List.mem_of_getElem? hk)
        obtain ⟨r, hr'⟩ : ∃ r, rs[k]? = some r := ⟨_, List.getElem?_eq_getElem hklt⟩
        obtain ⟨s, c, fs, rfl, hmem, hc, hfs⟩ := hR.a r (List.mem_of_getElem? hr')
        have hc3 : fs.length ≤ 3 := by
          obtain ⟨_, _, e, _, c0, c3⟩ := all_void hT.t.a _ hmem
          cases e
          omega
        have xr : Da K G5 (.ref ra) (.tuple rs) := x1.mono u5.g
        have x25 : Da K G5 (.ref p1) (.list (sp.map nD)) := x2.mono e5
        have row : ∀ {σ : L2.St} {F : Hp}, σ[1]? = some (some (.ref ra)) → σ[4]? = some (some (.int (k : Int))) → Ex G5 F → EvE K σ F (tOp (rIxT K) (tVar 1) (tVar 4)) (.tuple [.str s, .tuple fs]) := fun h1 h4 e =>
          e_op (e_var h1 (xr.mono e)) (e_var h4 (.int _)) (o_ixT (by have := atI_nat hr'; exact this))
        show tSeq _ _ _ [some (V.ref dk), some (.ref ra), some (.ref p1), some (.ref Lc), some (.int (k : Int)), some (.ref L3), o6, none, none] H5
        refine st_set (K := K) (n_lc1 (c := 1) (P := fun d r => ∀ x : Int, d = .int x → ∃ y : Nat, r = nD y ∧ sp[y]? = some x.toNat) (i_tup (e_op (row rfl rfl (Ex.rf _)) e_int (o_ixT rfl))) (by omega) fun i f hf F' v6 ef dv => ?_) u5.h D5 fun v6 d6 G6 H6 u6 D6 p6 x6 => ?_
        · obtain ⟨x, rfl, x0, x1'⟩ := hfs f (List.mem_of_getElem? hf)
          have hil := (List.getElem?_eq_some_iff.mp hf).1
          refine (n_pickS (i0 := 0) (ds := ((nums 0 sp.length).filter fun d => match d with | .int j => eqD (nD (sp.getD j.toNat 0)) (.int x) | _ => false).map fun d => d) rfl (e_lc1f (i_range1 (j := (sp.length : Int)) (a_cons ((e_cb (a_cons (e_var (i := 2) rfl (x25.mono ef)) a_nil) q_lenL).is (by rw [List.length_map])) a_nil) (by omega) (by omega)) ?_ fun d hd F2 v8 e2 dv8 => ?_) (.inl rfl) ?_ ?_ (by omega)).imp ?_
          · unfold nums
            rw [List.length_map, List.length_range]; omega
          · obtain ⟨j', hj'⟩ := List.mem_iff_getElem?.mp hd
            obtain ⟨hj2, rfl⟩ := nums_get hj'
            have hj3 : j' < sp.length := by omega
            refine ⟨t_test (e_op (e_op (e_var (i := 2) rfl ((x25.mono ef).mono e2)) (e_var (i := 8) rfl dv8) (o_ixL (z := nD (sp.getD j' 0)) ?_)) (e_var (i := 7) rfl (dv.mono e2)) ((o_eq rfl).is ?_)), fun _ => e_var (i := 8) rfl dv8⟩
            · have : (sp.map nD)[j']? = some (nD (sp.getD j' 0)) := by
                rw [List.getElem?_map, List.getElem?_eq_getElem hj3, List.getD_eq_getElem?_getD, List.getElem?_eq_getElem hj3]; rfl
              have := atI_nat this
              rw [Int.zero_add]; exact this
            · show _ = PyData.bool (eqD (nD (sp.getD ((0 : Int) + (j' : Int)).toNat 0)) (.int x))
              rw [Int.zero_add, Int.toNat_natCast]
          · rw [List.length_map]
            obtain ⟨j', hj'⟩ := List.mem_iff_getElem?.mp (memSp x x0 x1')
            refine List.length_pos_of_mem (a := .int (0 + (j' : Nat))) (List.mem_filter.mpr ⟨?_, ?_⟩)
            · unfold nums
              refine List.mem_map.mpr ⟨j', List.mem_range.mpr ?_, rfl⟩
              have := (List.getElem?_eq_some_iff.mp hj').1
              omega
            · show eqD (nD (sp.getD ((0 : Int) + (j' : Int)).toNat 0)) (.int x) = true
              rw [Int.zero_add, Int.toNat_natCast, List.getD_eq_getElem?_getD, hj']
              show decide (((x.toNat : Nat) : Int) = x) = true
              exact decide_eq_true (Int.toNat_of_nonneg x0)
          · rw [List.length_map]
            refine Nat.lt_of_le_of_lt (List.length_filter_le _ _) ?_
            unfold nums
            rw [List.length_map, List.length_range]; omega
          · intro d hd y hy
            cases hy
            rw [List.map_id'] at hd
            obtain ⟨h1, h2⟩ := List.mem_filter.mp hd
            obtain ⟨j', hj'⟩ := List.mem_iff_getElem?.mp h1
            obtain ⟨hj2, rfl⟩ := nums_get hj'
            have hj3 : j' < sp.length := by omega
            have h2 : eqD (nD (sp.getD ((0 : Int) + (j' : Int)).toNat 0)) (.int x) = true := h2
            rw [Int.zero_add, Int.toNat_natCast] at h2
            have h3 : ((sp.getD j' 0 : Nat) : Int) = x := of_decide_eq_true h2
            refine ⟨j', by rw [Int.zero_add], ?_⟩
            rw [List.getD_eq_getElem?_getD, List.getElem?_eq_getElem hj3] at h3
            rw [List.getElem?_eq_getElem hj3, ← h3]; rfl
        · obtain ⟨fs', rfl, hfl, hF⟩ := p6
          refine do_appendO (K := K) (i := 5) (P := fun d => d = .tuple [.str s, .tuple fs']) rfl (O5.upM u6) (n_pure (e_tup (a_cons (e_op (row rfl rfl u6.g) e_int (o_ixT rfl)) (a_cons (e_cb (a_cons (e_var (i := 6) rfl x6) a_nil) q_tupL) a_nil)) (show 2 ≤ 100000 by decide))) u6.h D6 (by omega) fun d G7 H7 o7 u7 gl7 p7 e7 D7 O7 => ?_
          subst p7
          refine ⟨_, _, G7, _, rfl, (u5.tr (u6.tr u7)).own hL3H gl7, e5.tr (u6.g.tr u7.g), D7.mono (by omega), O7, by rw [List.length_append, hcl]; rfl, fun i k' c' hi hc' => ?_⟩
          by_cases hic : i < cs.length
          · rw [List.getElem?_append_left hic] at hc'
            exact hC i k' c' hi hc'
          · have hlt := (List.getElem?_eq_some_iff.mp hc').1
            rw [List.length_append, List.length_singleton] at hlt
            have hij : i = cs.length := by omega
            subst hij
            rw [List.getElem?_append_right (Nat.le_refl _), Nat.sub_self] at hc'
            simp at hc'
            subst hc'
            rw [hcl, hk] at hi
            cases hi
            refine ⟨s, fs, fs', hr', rfl, hfl, fun i x hx => ?_⟩
            have hi1 := (List.getElem?_eq_some_iff.mp hx).1
            obtain ⟨y, hy, hy2⟩ := hF i _ _ hx (List.getElem?_eq_getElem (by omega : i < fs'.length)) x rfl
            exact ⟨y, by rw [List.getElem?_eq_getElem (by omega : i < fs'.length), hy], hy2⟩
      · obtain ⟨o4', o6, G5, cs, rfl, u5, e5, D5, O5, hcl, hC⟩ := hP
        obtain ⟨G6, u6, D6, _, _, x6⟩ := O5.done u5 hL3H D5
        refine st_ret (K := K) (P := fun d => d = .tuple cs) (n_pure (e_cb (a_cons (e_var (i := 5) rfl x6) a_nil) q_tupL)) u6.h D6 fun v d G7 H7 u7 D7 p7 x7 => ?_
        subst p7
        refine q v cs sp G7 H7 (u6.tr u7) (D7.mono (by omega)) ⟨by omega, by omega, hz, fun j k hj => ?_⟩ x7
        have hjl := (List.getElem?_eq_some_iff.mp hj).1
        obtain ⟨s, fs, fs', a1, a2, a3, a4⟩ := hC j k _ hj (List.getElem?_eq_getElem (by omega : j < cs.length))
        exact ⟨s, fs, fs', a1, by rw [List.getElem?_eq_getElem (by omega : j < cs.length), a2], a3, a4⟩
    | cons a b =>
      rw [hls] at R2p hp hpl
      refine iteT ⟨_, fun _ _ h => h, ?_⟩
      refine do_move (K := K) (i0 := 0) (i := 2) (j := 3) rfl rfl rfl nL R1p R2p u2p.h D2p (by rw [List.length_map]; simp) (by rw [List.length_map]; omega) (by rw [List.length_map]; omega) (by omega) fun k d H3 a3 b3 hkd u3 e3 D3 S1 S2 => ?_
      rw [List.getElem?_map] at hkd
      obtain ⟨y, hy, rfl⟩ := Option.map_eq_some_iff.mp hkd
      have hky := (List.getElem?_eq_some_iff.mp hy).1
      refine ⟨((a :: b).eraseIdx k).length, by rw [List.length_eraseIdx, if_pos hky]; omega, sp ++ [y], (a :: b).eraseIdx k, rfl, rfl, ?_, ?_, ?_, ?_, ?_, ?_⟩
      · exact ((u2p.tr u3).own hL2 S2.a.gl).own h1 S1.a.gl
      · rw [List.length_append, List.length_singleton]
        exact D3.mono (by omega)
      · rw [List.map_append]; exact S1
      · rw [erase_map]; exact S2
      · rw [List.getElem?_append_left hsp]; exact hz
      · refine List.Perm.trans ?_ hp
        rw [List.append_assoc]
        refine List.Perm.append_left sp ?_
        have := (List.getElem_eq_iff hky).mpr hy
        rw [← this]
        exact erase_perm _ _ hky
end
end L05
set_option Elab.async false
set_option linter.all false
set_option maxRecDepth 100000
set_option maxHeartbeats 1000000
namespace L05
open PySem PySem.Spec PyProof.Rows L2 KD
section
variable {P : Program} {w : World} {K : PySem.W.Frag} {mg : Str → Option Value} {base : Heap}
/-! ### clean data -/
theorem c_two {w k : Nat} {a b : PyData} (ha : Cln w k a) (hb : Cln w k b) : Cln ((w + 1) * 2) (k + 1) (.tuple [a, b]) :=
  Cln.tup (by intro x hx; rcases List.mem_cons.mp hx with rfl | hx; exact ha; rcases List.mem_cons.mp hx with rfl | hx; exact hb; cases hx) (Nat.le_refl _) (by decide)
theorem smx_ok2 {w k : Nat} {d : PyData} (h : Smx w k d) (hw : w ≤ 250000) (hk : k ≤ 40) : okD d = true := by
  have hs := PyData.shown_le 60 (by decide) d h.s
  have := h.w
  have hd := h.p
  have hx : (noList d || !d.hasDict) = true := by
    rcases h.x with e | e
    · rw [e]; rfl
    · rw [e]; simp
  unfold okD KD.repOk
  simp only [Bool.and_eq_true, decide_eq_true_eq, h.f, h.h, hx, true_and]
  refine ⟨by omega, Nat.le_trans hs ?_⟩
  have : (60 + 2) * d.weight ≤ 62 * 250000 := Nat.mul_le_mul (by decide) (by omega)
  omega
theorem RowV.cln {tags : List PyData} {n : Int} {r : PyData} (ht : ∀ d ∈ tags, TagD d) (hn : n ≤ 100) (h : RowV tags n r) : Cln 3000 4 r := by
  obtain ⟨s, c, fs, rfl, hmem, hc, hfs⟩ := h
  obtain ⟨_, _, e, s9, c0, c3⟩ := all_void ht _ hmem
  cases e
  have cf : Cln 603 2 (.tuple fs) := Cln.tup (w := 200) (k := 1) (n := 3) (fun f hf => by
    obtain ⟨i, rfl, i0, i1⟩ := hfs f hf
    exact (Cln.int (by omega)).mono (by decide) (by decide)) (by omega) (by decide)
  exact (c_two ((Cln.str s9 (by decide)).mono (by decide) (by decide)) cf).mono (by decide) (by decide)
end
end L05
set_option Elab.async false
set_option linter.all false
set_option maxRecDepth 100000
set_option maxHeartbeats 1000000
namespace L05
open PySem PySem.Spec PyProof.Rows L2 KD
section
variable {P : Program} {w : World} {K : PySem.W.Frag} {mg : Str → Option Value} {base : Heap}
/-! ### dicts by pairs of numbers -/
def kP (a b : Nat) : List Key := [kN a, kN b]
theorem kP_inj {a b c d : Nat} (h : kP a b = kP c d) : a = c ∧ b = d := by
  unfold kP at h
  have h1 := List.cons.inj h
  have h2 := List.cons.inj h1.2
  exact ⟨kN_inj h1.1, kN_inj h2.1⟩
def kvM (ps : List (Nat × Nat)) (mk : Nat → Nat → Bool) : List (List Key × V) := ps.map fun p => (kP p.1 p.2, V.bl (mk p.1 p.2))
def pr (n i : Nat) : List (Nat × Nat) := (List.range i).flatMap fun a => (List.range n).map (Prod.mk a)
theorem pr_mem {n i a b : Nat} : (a, b) ∈ pr n i ↔ a < i ∧ b < n := by
  unfold pr
  rw [List.mem_flatMap]
  constructor
  · rintro ⟨x, h1, h2⟩
    obtain ⟨y, h3, e⟩ := List.mem_map.mp h2
    cases e
    exact ⟨List.mem_range.mp h1, List.mem_range.mp h3⟩
  · rintro ⟨h1, h2⟩
    exact ⟨a, List.mem_range.mpr h1, List.mem_map.mpr ⟨b, List.mem_range.mpr h2, rfl⟩⟩
theorem pr_succ {n i : Nat} : pr n (i + 1) = pr n i ++ (List.range n).map (Prod.mk i) := by
  unfold pr
  rw [List.range_succ, List.flatMap_append, List.flatMap_singleton]
theorem pr_length {n : Nat} : ∀ {i : Nat}, (pr n i).length = i * n
  | 0 => by unfold pr; simp
  | i + 1 => by rw [pr_succ, List.length_append, pr_length, List.length_map, List.length_range, Nat.succ_mul]
theorem valV_kvM {mk : Nat → Nat → Bool} {a b : Nat} : ∀ {ps : List (Nat × Nat)}, valV (kvM ps mk) (kP a b) = if (a, b) ∈ ps then some (.bl (mk a b)) else none
  | [] => rfl
  | (x, y) :: ps => by
    show valV ((kP x y, V.bl (mk x y)) :: kvM ps mk) (kP a b) = _
    by_cases e : (x, y) = (a, b)
    · cases e
      rw [valV_pos rfl, if_pos List.mem_cons_self]
    · have hne : kP x y ≠ kP a b := fun z => e (by obtain ⟨h1, h2⟩ := kP_inj z; rw [h1, h2])
      rw [valV_neg hne, valV_kvM]
      by_cases h : (a, b) ∈ ps
      · rw [if_pos h, if_pos (List.mem_cons_of_mem _ h)]
      · rw [if_neg h, if_neg (by rw [List.mem_cons, not_or]; exact ⟨fun z => e z.symm, h⟩)]
theorem putK_kvM {mk : Nat → Nat → Bool} {a b : Nat} {ps : List (Nat × Nat)} (h : (a, b) ∈ ps) : putK (kvM ps mk) (kP a b) (.bl true) = kvM ps fun x y => mk x y || decide ((x, y) = (a, b)) := by
  unfold putK
  have : (kvM ps mk).any (fun kv => decide (kv.1 = kP a b)) = true := List.any_eq_true.mpr ⟨(kP a b, .bl (mk a b)), List.mem_map_of_mem (f := fun p : Nat × Nat => (kP p.1 p.2, V.bl (mk p.1 p.2))) h, by simp⟩
  rw [if_pos this]
  unfold kvM
  rw [List.map_map]
  refine List.map_congr_left fun p hp => ?_
  obtain ⟨x, y⟩ := p
  show (if kP x y = kP a b then (kP x y, V.bl true) else (kP x y, V.bl (mk x y))) = (kP x y, V.bl (mk x y || decide ((x, y) = (a, b))))
  by_cases e : (x, y) = (a, b)
  · cases e
    rw [if_pos rfl, decide_eq_true rfl, Bool.or_true]
  · rw [if_neg (fun z => e (by obtain ⟨h1, h2⟩ := kP_inj z; rw [h1, h2])), decide_eq_false e, Bool.or_false]
theorem kvM_get {mk : Nat → Nat → Bool} {ps : List (Nat × Nat)} {i : Nat} {k : List Key} {v : V} (h : (kvM ps mk)[i]? = some (k, v)) : ∃ a b, ps[i]? = some (a, b) ∧ k = kP a b := by
  unfold kvM at h
  rw [List.getElem?_map] at h
  obtain ⟨⟨a, b⟩, hp, e⟩ := Option.map_eq_some_iff.mp h
  exact ⟨a, b, hp, (Prod.mk.inj e).1.symm⟩
theorem filter_lt {α : Type} {f g : α → Bool} : ∀ {xs : List α}, (∀ x ∈ xs, f x = true → g x = true) → (∃ x ∈ xs, g x = true ∧ f x = false) → (xs.filter f).length < (xs.filter g).length
  | [], _, h => by obtain ⟨_, h, _⟩ := h; cases h
  | x :: xs, hs, h => by
    have hle : (xs.filter f).length ≤ (xs.filter g).length := by
      clear h
      induction xs with
      | nil => exact Nat.le_refl _
      | cons y ys ih =>
        have ih := ih fun z hz => hs z (by
          rcases List.mem_cons.mp hz with h | h
          · rw [h]; exact List.mem_cons_self
          · exact List.mem_cons_of_mem _ (List.mem_cons_of_mem _ h))
        rw [List.filter_cons, List.filter_cons]
        have hy := hs y (List.mem_cons_of_mem _ List.mem_cons_self)
        cases e : f y with
        | true =>
          rw [hy e, if_pos rfl, if_pos rfl, List.length_cons, List.length_cons]
          omega
        | false =>
          rw [if_neg (by decide)]
          split
          · rw [List.length_cons]; omega
          · exact ih
    rw [List.filter_cons, List.filter_cons]
    obtain ⟨z, hz, h1, h2⟩ := h
    by_cases ez : g x = true ∧ f x = false
    · rw [ez.1, ez.2, if_neg (by decide), if_pos rfl, List.length_cons]
      omega
    · have hz' : z ∈ xs := by
        rcases List.mem_cons.mp hz with e | e
        · rw [e] at h1 h2; exact absurd ⟨h1, h2⟩ ez
        · exact e
      have ih := filter_lt (xs := xs) (fun y hy => hs y (List.mem_cons_of_mem _ hy)) ⟨z, hz', h1, h2⟩
      cases e : f x with
      | true =>
        rw [hs x List.mem_cons_self e, if_pos rfl, if_pos rfl, List.length_cons, List.length_cons]
        omega
      | false =>
        rw [if_neg (by decide)]
        split
        · rw [List.length_cons]; omega
        · exact ih
theorem rowG {K : PySem.W.Frag} {G : Hp} {rvs : List V} {s : KM.Sheet Str} (h : DaAll K G rvs (s.map rowD)) {i : Nat} (hi : i < s.length) : ∃ r fa t fs, s[i]? = some (t, fs) ∧ rvs[i]? = some (.ref r) ∧ G r = some (.tup [.str t, .ref fa]) ∧ G fa = some (.tup (fs.map vN)) := by
  obtain ⟨r, hr, hrm⟩ := KM.at_lt hi
  have hl := h.length
  rw [List.length_map] at hl
  have hx : rvs[i]? = some (rvs[i]'(by omega)) := List.getElem?_eq_getElem _
  generalize rvs[i]'(by omega) = x at hx
  obtain ⟨d, hd, dd⟩ := h.get hx
  rw [List.getElem?_map, hr] at hd
  cases hd
  obtain ⟨t, fs⟩ := r
  cases dd with | @tup rr xs1 _ h1 h2 => ?_
  cases h2 with | cons a1 h2 => ?_
  cases h2 with | cons a2 h2 => ?_
  cases h2; cases a1
  cases a2 with | @tup fa xs2 _ b1 b2 => ?_
  have hnats := daAll_nats b2
  subst hnats
  exact ⟨rr, fa, t, fs, hr, hx, h1, b1⟩
end
end L05
set_option Elab.async false
set_option linter.all false
set_option maxRecDepth 100000
set_option maxHeartbeats 1000000
namespace L05
open PySem PySem.Spec PyProof.Rows L2 KD
section
variable {P : Program} {w : World} {K : PySem.W.Frag} {mg : Str → Option Value} {base : Heap}
/-! ### sheets of the draws -/
theorem nats_of : ∀ {fs : List PyData} {n : Int}, (∀ f ∈ fs, ∃ i : Int, f = .int i ∧ 0 ≤ i ∧ i < n) → ∃ ns : List Nat, fs = ns.map nD ∧ ∀ x ∈ ns, (x : Int) < n
  | [], _, _ => ⟨[], rfl, fun _ h => by cases h⟩
  | f :: fs, n, h => by
    obtain ⟨i, rfl, i0, i1⟩ := h f List.mem_cons_self
    obtain ⟨ns, rfl, hn⟩ := nats_of (fs := fs) fun g hg => h g (List.mem_cons_of_mem _ hg)
    refine ⟨i.toNat :: ns, ?_, fun x hx => ?_⟩
    · show _ = nD i.toNat :: _
      have : nD i.toNat = .int i := by show PyData.int _ = _; rw [Int.toNat_of_nonneg i0]
      rw [this]
    · rcases List.mem_cons.mp hx with rfl | hx
      · omega
      · exact hn x hx
/-- a row of the tags -/
def RowN (tags : List PyData) (r : Str × List Nat) : Prop := ∃ c : Int, .tuple [.str r.1, .int c] ∈ tags ++ [voidP] ∧ (r.2.length : Int) = c
structure ShN (tags : List PyData) (s : KM.Sheet Str) : Prop where
  p : 0 < s.length
  l : s.length ≤ 101
  a : ∀ r ∈ s, RowN tags r
  f : ∀ r ∈ s, ∀ x ∈ r.2, x < s.length
theorem sheet_of : ∀ {tags rs : List PyData} {n : Int}, (∀ r ∈ rs, RowV tags n r) → ∃ s : KM.Sheet Str, rs = s.map rowD ∧ (∀ r ∈ s, RowN tags r) ∧ ∀ r ∈ s, ∀ x ∈ r.2, (x : Int) < n
  | _, [], _, _ => ⟨[], rfl, (fun _ h => by cases h), fun _ h => by cases h⟩
  | tags, r :: rs, n, h => by
    obtain ⟨t, c, fs, rfl, hm, hc, hf⟩ := h r List.mem_cons_self
    obtain ⟨ns, rfl, hn⟩ := nats_of hf
    obtain ⟨s, rfl, h1, h2⟩ := sheet_of (rs := rs) fun r' hr' => h r' (List.mem_cons_of_mem _ hr')
    refine ⟨(t, ns) :: s, rfl, fun q hq => ?_, fun q hq => ?_⟩
    · rcases List.mem_cons.mp hq with rfl | hq
      · exact ⟨c, hm, by rw [List.length_map] at hc; exact hc⟩
      · exact h1 q hq
    · rcases List.mem_cons.mp hq with rfl | hq
      · exact hn
      · exact h2 q hq
theorem ShN.rowsV {tags : List PyData} {s : KM.Sheet Str} (h : ShN tags s) (hl : s.length ≤ 25) : RowsV tags (s.map rowD) := by
  refine ⟨by rw [List.length_map]; exact h.p, by rw [List.length_map]; exact hl, fun r hr => ?_⟩
  obtain ⟨q, hq, rfl⟩ := List.mem_map.mp hr
  obtain ⟨c, h1, h2⟩ := h.a q hq
  refine ⟨q.1, c, q.2.map nD, rfl, h1, by rw [List.length_map]; exact h2, fun f hf => ?_⟩
  obtain ⟨x, hx, rfl⟩ := List.mem_map.mp hf
  have := h.f q hq x hx
  exact ⟨(x : Int), rfl, by omega, by rw [List.length_map]; omega⟩
theorem tags_uniq {tags : List PyData} (hT : TagsV tags) {n : Str} {c c' : Int} (h : .tuple [.str n, .int c] ∈ tags ++ [voidP]) (h' : .tuple [.str n, .int c'] ∈ tags ++ [voidP]) : c = c' := by
  have key : ∀ {c c' : Int}, (.tuple [.str n, .int c] : PyData) ∈ tags → (.tuple [.str n, .int c'] : PyData) ∈ tags → c = c' := fun {c c'} a b => by
    obtain ⟨i, hi⟩ := List.mem_iff_getElem?.mp a
    obtain ⟨j, hj⟩ := List.mem_iff_getElem?.mp b
    have h1 := (List.getElem?_eq_some_iff.mp hi)
    have h2 := (List.getElem?_eq_some_iff.mp hj)
    have hd := hT.d
    have h3 : (tags.map nameD)[i]'(by rw [List.length_map]; exact h1.1) = (tags.map nameD)[j]'(by rw [List.length_map]; exact h2.1) := by
      rw [List.getElem_map, List.getElem_map, h1.2, h2.2]; rfl
    have := (List.getElem_inj hd).mp h3
    subst this
    rw [hi] at hj
    cases hj; rfl
  rcases List.mem_append.mp h with a | a
  · rcases List.mem_append.mp h' with b | b
    · exact key a b
    · have e := List.mem_singleton.mp b
      cases e
      exact absurd rfl (hT.v _ a _ _ rfl)
  · have e := List.mem_singleton.mp a
    cases e
    rcases List.mem_append.mp h' with b | b
    · exact absurd rfl (hT.v _ b _ _ rfl)
    · have e := List.mem_singleton.mp b
      cases e; rfl
noncomputable def arOf (tags : List PyData) (n : Str) : Nat := by
  classical exact if h : ∃ c : Int, .tuple [.str n, .int c] ∈ tags ++ [voidP] then (Classical.choose h).toNat else 0
theorem arOf_at {tags : List PyData} (hT : TagsV tags) {n : Str} {c : Int} (h : .tuple [.str n, .int c] ∈ tags ++ [voidP]) : arOf tags n = c.toNat := by
  unfold arOf
  have hex : ∃ c : Int, .tuple [.str n, .int c] ∈ tags ++ [voidP] := ⟨c, h⟩
  rw [dif_pos hex, tags_uniq hT (Classical.choose_spec hex) h]
theorem ShN.ok {tags : List PyData} {s : KM.Sheet Str} (hT : TagsV tags) (h : ShN tags s) : KM.Ok (arOf tags) s := by
  refine ⟨fun r hr => ?_, h.f⟩
  obtain ⟨c, h1, h2⟩ := h.a r hr
  rw [arOf_at hT h1]; omega
theorem RowN.f3 {tags : List PyData} {r : Str × List Nat} (hT : TagsV tags) (h : RowN tags r) : r.2.length ≤ 3 ∧ SN 9 r.1 := by
  obtain ⟨c, h1, h2⟩ := h
  obtain ⟨_, _, e, s9, c0, c3⟩ := all_void hT.t.a _ h1
  cases e
  exact ⟨by omega, s9⟩
theorem ShN.sz {tags : List PyData} {s : KM.Sheet Str} (hT : TagsV tags) (h : ShN tags s) : SzOk s :=
  ⟨h.p, by have := h.l; omega, fun r hr => ((h.a r hr).f3 hT).1, arOf tags, h.ok hT⟩
theorem ShN.okD {tags : List PyData} {s : KM.Sheet Str} (hT : TagsV tags) (h : ShN tags s) : okD (sheetD s) = true := by
  refine smx_ok2 (Cln.tup (w := 368) (k := 2) (n := 101) (fun c hc => ?_) (by rw [List.length_map]; exact h.l) (by decide)).x (by decide) (by decide)
  obtain ⟨r, hr, rfl⟩ := List.mem_map.mp hc
  obtain ⟨h3, h9⟩ := (h.a r hr).f3 hT
  have cf : Cln 183 1 (.tuple (r.2.map nD)) := Cln.tup (w := 60) (k := 0) (n := 3) (fun f hf => by
    obtain ⟨x, hx, rfl⟩ := List.mem_map.mp hf
    have := h.f r hr x hx
    have := h.l
    exact Cln.int (by omega)) (by rw [List.length_map]; exact h3) (by decide)
  exact c_two ((Cln.str h9 (by decide)).mono (by decide) (by decide)) cf
theorem least_rows {s r : KM.Sheet Str} {ar : Str → Nat} (hs : KM.Ok ar s) {i : Nat} (hi : i < s.length) (h : KM.IsLeast s i r) : ∀ q ∈ r, ∃ p ∈ s, q.1 = p.1 ∧ q.2.length = p.2.length := by
  intro q hq
  obtain ⟨h1, h2, h3, hsm⟩ := KM.isLeast_same hs hi h
  obtain ⟨num, T, F, met, L⟩ := h
  rw [L.r] at hq
  unfold KM.rooted at hq
  obtain ⟨k, hk, rfl⟩ := List.mem_map.mp hq
  have hRm : ∀ x ∈ met, ∃ a, a < s.length ∧ x = num a := L.d.inv (P := fun x => ∃ a, a < s.length ∧ x = num a) (by
    rintro _ ⟨a, ha, rfl⟩ y hy
    rw [L.f a ha] at hy
    obtain ⟨z, hz, rfl⟩ := List.mem_map.mp hy
    exact ⟨z, hs.fld hz, rfl⟩) (by intro x hx; rw [List.mem_singleton.mp hx]; exact ⟨i, hi, rfl⟩) (by intro _ h; cases h)
  obtain ⟨a, ha, rfl⟩ := hRm k hk
  obtain ⟨p, hp, hpm⟩ := KM.at_lt ha
  refine ⟨p, hpm, ?_, ?_⟩
  · have := L.t a ha
    rw [KM.tg_at hp] at this
    exact (Option.some.inj this).symm
  · show ((F (num a)).map _).length = _
    rw [List.length_map, L.f a ha, List.length_map, KM.fl_at hp]
theorem ShN.least {tags : List PyData} {s r : KM.Sheet Str} (hT : TagsV tags) (h : ShN tags s) (hl : KM.IsLeast s 0 r) : ShN tags r ∧ r.length ≤ s.length ∧ KM.Same r s 0 0 := by
  obtain ⟨h1, h2, h3, hsm⟩ := KM.isLeast_same (h.ok hT) h.p hl
  refine ⟨⟨h2, Nat.le_trans h3 h.l, fun q hq => ?_, h1.f⟩, h3, hsm⟩
  obtain ⟨p, hp, e1, e2⟩ := least_rows (h.ok hT) h.p hl q hq
  obtain ⟨c, c1, c2⟩ := h.a p hp
  exact ⟨c, by rw [e1]; exact c1, by rw [e2]; exact c2⟩
/-- copies are a sheet that writes the same -/
theorem copy_sheet {tags : List PyData} {s : KM.Sheet Str} {cs : List PyData} {sp : List Nat} (hT : TagsV tags) (h : ShN tags s) (hC : CopyV (s.map rowD) cs sp) : ∃ s' : KM.Sheet Str, cs = s'.map rowD ∧ ShN tags s' ∧ KM.Same s' s 0 0 := by
  have hz0 : 0 < sp.length := (List.getElem?_eq_some_iff.mp hC.z).1
  have row : ∀ (j k : Nat), sp[j]? = some k → ∃ (t : Str) (fs ns : List Nat), s[k]? = some (t, fs) ∧ cs[j]? = some (rowD (t, ns)) ∧ ns.length = fs.length ∧ ∀ (i x y : Nat), fs[i]? = some x → ns[i]? = some y → sp[y]? = some x := fun j k hjk => by
    obtain ⟨t, fd, fd', a1, a2, a3, a4⟩ := hC.a j k hjk
    rw [List.getElem?_map] at a1
    obtain ⟨r, hr, e⟩ := Option.map_eq_some_iff.mp a1
    obtain ⟨t', fs⟩ := r
    cases e
    have hall : ∀ f ∈ fd', ∃ i : Int, f = .int i ∧ 0 ≤ i ∧ i < (sp.length : Int) := fun f hf => by
      obtain ⟨i, hi⟩ := List.mem_iff_getElem?.mp hf
      have hil := (List.getElem?_eq_some_iff.mp hi).1
      rw [a3, List.length_map] at hil
      obtain ⟨y, h1, h2⟩ := a4 i (fs[i] : Int) (by rw [List.getElem?_map, List.getElem?_eq_getElem hil]; rfl)
      rw [hi] at h1
      cases h1
      have := (List.getElem?_eq_some_iff.mp h2).1
      exact ⟨(y : Int), rfl, by omega, by omega⟩
    obtain ⟨ns, rfl, _⟩ := nats_of hall
    rw [List.length_map, List.length_map] at a3
    refine ⟨t', fs, ns, hr, a2, a3, fun i x y hx hy => ?_⟩
    obtain ⟨y', h1, h2⟩ := a4 i (x : Int) (by rw [List.getElem?_map, hx]; rfl)
    rw [List.getElem?_map, hy] at h1
    have h1 : (PyData.int (y : Int)) = .int (y' : Int) := Option.some.inj h1
    have h1 : (y : Int) = (y' : Int) := PyData.int.inj h1
    have h1 : y = y' := by omega
    rw [h1, h2, Int.toNat_natCast]
  have hmap : ∀ (cs : List PyData), (∀ c ∈ cs, ∃ t ns, c = rowD (t, ns)) → ∃ s' : KM.Sheet Str, cs = s'.map rowD := by
    intro cs
    induction cs with
    | nil => exact fun _ => ⟨[], rfl⟩
    | cons c cs ih =>
      intro h
      obtain ⟨t, ns, rfl⟩ := h c List.mem_cons_self
      obtain ⟨s', rfl⟩ := ih fun c hc => h c (List.mem_cons_of_mem _ hc)
      exact ⟨(t, ns) :: s', rfl⟩
  have hcs : ∀ c ∈ cs, ∃ (t : Str) (ns : List Nat), c = rowD (t, ns) := fun c hc => by
    obtain ⟨j, hj⟩ := List.mem_iff_getElem?.mp hc
    have hjl := (List.getElem?_eq_some_iff.mp hj).1
    obtain ⟨t1, fs1, ns1, _, h2, _⟩ := row j (sp[j]'(by rw [← hC.l]; exact hjl)) (List.getElem?_eq_getElem _)
    rw [hj] at h2
    exact ⟨t1, ns1, Option.some.inj h2⟩
  obtain ⟨s', rfl⟩ := hmap cs hcs
  have hl := hC.l
  rw [List.length_map] at hl
  have rinj : ∀ {r r' : Str × List Nat}, rowD r = rowD r' → r = r' := fun {r r'} e => by
    obtain ⟨a, b⟩ := r
    obtain ⟨a', b'⟩ := r'
    have e : PyData.tuple [.str a, .tuple (b.map nD)] = .tuple [.str a', .tuple (b'.map nD)] := e
    have e1 := List.cons.inj (PyData.tuple.inj e)
    have e2 := PyData.str.inj e1.1
    have e3 := PyData.tuple.inj (List.cons.inj e1.2).1
    have e4 : b = b' := by
      have hinj : ∀ (xs ys : List Nat), xs.map nD = ys.map nD → xs = ys := by
        intro xs
        induction xs with
        | nil => intro ys h; cases ys with | nil => rfl | cons a b => simp at h
        | cons x xs ih =>
          intro ys h
          cases ys with
          | nil => simp at h
          | cons y ys =>
            have h1 := List.cons.inj h
            have h2 : (x : Int) = (y : Int) := PyData.int.inj h1.1
            have h2 : x = y := by omega
            rw [h2, ih ys h1.2]
      exact hinj _ _ e3
    rw [e2, e4]
  have rowS : ∀ (j k : Nat), sp[j]? = some k → ∃ (t : Str) (fs ns : List Nat), s[k]? = some (t, fs) ∧ s'[j]? = some (t, ns) ∧ ns.length = fs.length ∧ ∀ (i x y : Nat), fs[i]? = some x → ns[i]? = some y → sp[y]? = some x := fun j k hjk => by
    obtain ⟨t, fs, ns, h1, h2, h3⟩ := row j k hjk
    rw [List.getElem?_map] at h2
    obtain ⟨r, hr, e⟩ := Option.map_eq_some_iff.mp h2
    rw [rinj e] at hr
    exact ⟨t, fs, ns, h1, hr, h3⟩
  refine ⟨s', rfl, ⟨by omega, by have := hC.b; omega, fun r hr => ?_, fun r hr x hx => ?_⟩, KM.same_of (fun j k => sp[j]? = some k) (fun j k hjk => ?_) hC.z⟩
  · obtain ⟨j, hj⟩ := List.mem_iff_getElem?.mp hr
    have hjl := (List.getElem?_eq_some_iff.mp hj).1
    obtain ⟨t, fs, ns, h1, h2, h3, _⟩ := rowS j _ (List.getElem?_eq_getElem (by rw [← hl]; exact hjl))
    rw [hj] at h2
    cases h2
    obtain ⟨c, c1, c2⟩ := h.a _ (List.mem_of_getElem? h1)
    exact ⟨c, c1, by show (ns.length : Int) = c; rw [h3]; exact c2⟩
  · obtain ⟨j, hj⟩ := List.mem_iff_getElem?.mp hr
    have hjl := (List.getElem?_eq_some_iff.mp hj).1
    obtain ⟨t, fs, ns, h1, h2, h3, h4⟩ := rowS j _ (List.getElem?_eq_getElem (by rw [← hl]; exact hjl))
    rw [hj] at h2
    cases h2
    obtain ⟨i, hi⟩ := List.mem_iff_getElem?.mp (show x ∈ ns from hx)
    have hil := (List.getElem?_eq_some_iff.mp hi).1
    have := (List.getElem?_eq_some_iff.mp (h4 i _ x (List.getElem?_eq_getElem (by omega : i < fs.length)) hi)).1
    omega
  · obtain ⟨t, fs, ns, h1, h2, h3, h4⟩ := rowS j k hjk
    refine ⟨by rw [KM.tg_at h1, KM.tg_at h2], fun a x y hx hy => ?_⟩
    rw [KM.fl_at h2] at hx
    rw [KM.fl_at h1] at hy
    exact h4 a y x hy hx
theorem spare_same {s e : KM.Sheet Str} {ar : Str → Nat} (hs : KM.Ok ar s) (h0 : 0 < s.length) : KM.Same (s ++ e) s 0 0 := by
  refine KM.same_of (fun i j => i = j ∧ j < s.length) (fun i j hij => ?_) ⟨rfl, h0⟩
  obtain ⟨rfl, hi⟩ := hij
  obtain ⟨r, hr, _⟩ := KM.at_lt hi
  have hr2 : (s ++ e)[i]? = some r := by rw [List.getElem?_append_left hi]; exact hr
  refine ⟨by rw [KM.tg_at hr, KM.tg_at hr2], fun a x y hx hy => ?_⟩
  have hy' := hy
  rw [KM.fl_at hr] at hy
  rw [KM.fl_at hr2, hy] at hx
  cases hx
  exact ⟨rfl, hs.fld (List.mem_of_getElem? hy')⟩
theorem ShN.app {tags : List PyData} {s e : KM.Sheet Str} (h : ShN tags s) (hl : (s ++ e).length ≤ 101) (ha : ∀ r ∈ e, RowN tags r) (hf : ∀ r ∈ e, ∀ x ∈ r.2, x < s.length) : ShN tags (s ++ e) := by
  refine ⟨by rw [List.length_append]; have := h.p; omega, hl, fun r hr => ?_, fun r hr x hx => ?_⟩
  · rcases List.mem_append.mp hr with h1 | h1
    · exact h.a r h1
    · exact ha r h1
  · rw [List.length_append]
    rcases List.mem_append.mp hr with h1 | h1
    · have := h.f r h1 x hx; omega
    · have := hf r h1 x hx; omega
end
end L05
set_option Elab.async false
set_option linter.all false
set_option maxRecDepth 100000
set_option maxHeartbeats 1000000
namespace L05
open PySem PySem.Spec PyProof.Rows L2 KD
section
variable {P : Program} {w : World} {K : PySem.W.Frag} {mg : Str → Option Value} {base : Heap}
/-! ### least sheets are equal where the values are the same -/
theorem nats_eqv : ∀ {xs ys : List Nat}, PyData.eqvAll (xs.map nD) (ys.map nD) = decide (xs = ys)
  | [], [] => rfl
  | [], _ :: _ => rfl
  | _ :: _, [] => rfl
  | x :: xs, y :: ys => by
    show (PyData.eqv (nD x) (nD y) && PyData.eqvAll (xs.map nD) (ys.map nD)) = _
    rw [nats_eqv]
    have h : PyData.eqv (nD x) (nD y) = decide (x = y) := by
      show PyData.eqv (.int (x : Int)) (.int (y : Int)) = _
      by_cases e : x = y
      · subst e; simp [PyData.eqv]
      · have h1 : ¬ ((x : Int) = (y : Int)) := by omega
        simp [PyData.eqv, e, h1]
    rw [h]
    by_cases e : x = y <;> simp [e]
theorem row_eqv {r q : Str × List Nat} : PyData.eqv (rowD r) (rowD q) = decide (r = q) := by
  obtain ⟨a, xs⟩ := r
  obtain ⟨b, ys⟩ := q
  show PyData.eqv (.tuple [.str a, .tuple (xs.map nD)]) (.tuple [.str b, .tuple (ys.map nD)]) = _
  have h := nats_eqv (xs := xs) (ys := ys)
  by_cases e1 : a = b
  · subst e1
    by_cases e2 : xs = ys
    · subst e2
      simp only [PyData.eqv, PyData.eqvAll, h]
      simp
    · simp only [PyData.eqv, PyData.eqvAll, h]
      simp [e2]
  · simp only [PyData.eqv, PyData.eqvAll, h]
    simp [e1]
theorem rows_eqv : ∀ {s t : KM.Sheet Str}, PyData.eqvAll (s.map rowD) (t.map rowD) = decide (s = t)
  | [], [] => rfl
  | [], _ :: _ => rfl
  | _ :: _, [] => rfl
  | r :: s, q :: t => by
    show (PyData.eqv (rowD r) (rowD q) && PyData.eqvAll (s.map rowD) (t.map rowD)) = _
    rw [rows_eqv, row_eqv]
    by_cases e : r = q <;> simp [e]
theorem sheetD_eqv {s t : KM.Sheet Str} : PyData.eqv (sheetD s) (sheetD t) = decide (s = t) := rows_eqv
def StrS (s : KM.Sheet Str) : Prop := ∀ r ∈ s, PyData.canLay0 (.str r.1) = true
theorem canLay_nats : ∀ {xs : List Nat}, PyData.canLayAll0 (xs.map nD) = true
  | [] => rfl
  | x :: xs => by show (true && PyData.canLayAll0 (xs.map nD)) = true; rw [canLay_nats]; rfl
theorem canLay_rows : ∀ {s : KM.Sheet Str}, StrS s → PyData.canLayAll0 (s.map rowD) = true
  | [], _ => rfl
  | r :: s, h => by
    show (PyData.canLay0 (rowD r) && PyData.canLayAll0 (s.map rowD)) = true
    rw [canLay_rows fun q hq => h q (List.mem_cons_of_mem _ hq), Bool.and_true]
    show (PyData.canLay0 (.str r.1) && (PyData.canLayAll0 (r.2.map nD) && true)) = true
    rw [h r List.mem_cons_self, canLay_nats]; rfl
theorem depth_nats : ∀ {xs : List Nat}, PyData.depthAll (xs.map nD) = 0
  | [] => rfl
  | x :: xs => by show max 0 (PyData.depthAll (xs.map nD)) = 0; rw [depth_nats]; rfl
theorem depth_rows : ∀ {s : KM.Sheet Str}, PyData.depthAll (s.map rowD) ≤ 2
  | [] => Nat.zero_le _
  | r :: s => by
    show max (max 0 (max (PyData.depthAll (r.2.map nD) + 1) 0) + 1) (PyData.depthAll (s.map rowD)) ≤ 2
    rw [depth_nats]
    have := depth_rows (s := s)
    omega
theorem sheet_shaped {s : KM.Sheet Str} (h : StrS s) : SeqAt.shaped (sheetD s) = true := by
  have h1 : PyData.canLay0 (sheetD s) = true := canLay_rows h
  have h2 : PyData.depth (sheetD s) ≤ 64 := by
    show PyData.depthAll (s.map rowD) + 1 ≤ 64
    have := depth_rows (s := s)
    omega
  unfold SeqAt.shaped
  rw [h1, decide_eq_true h2]; rfl
theorem StrS.least {s r : KM.Sheet Str} {ar : Str → Nat} (h : StrS s) (ok : KM.Ok ar s) (h0 : 0 < s.length) (hl : KM.IsLeast s 0 r) : StrS r := fun q hq => by
  obtain ⟨p, hp, e, _⟩ := least_rows ok h0 hl q hq
  rw [e]; exact h p hp
theorem least_iff {s t r q : KM.Sheet Str} {ar : Str → Nat} (hs : KM.Ok ar s) (ht : KM.Ok ar t) (s0 : 0 < s.length) (t0 : 0 < t.length) (hr : KM.IsLeast s 0 r) (hq : KM.IsLeast t 0 q) : r = q ↔ KM.Same s t 0 0 := by
  obtain ⟨r1, _, _, r4⟩ := KM.isLeast_same hs s0 hr
  obtain ⟨q1, _, _, q4⟩ := KM.isLeast_same ht t0 hq
  constructor
  · rintro rfl
    exact r4.sym.tr hs r1 q4
  · exact fun h => KM.isLeast_uniq hs ht s0 h hr hq
/-- two sheets that are compared -/
structure Two (s t : KM.Sheet Str) : Prop where
  zs : SzOk s
  zt : SzOk t
  ss : StrS s
  st : StrS t
  ok : ∃ ar, KM.Ok ar s ∧ KM.Ok ar t
theorem Two.sym {s t : KM.Sheet Str} (h : Two s t) : Two t s := ⟨h.zt, h.zs, h.st, h.ss, h.ok.imp fun _ h => ⟨h.2, h.1⟩⟩
def spSame (K : PySem.W.Frag) : Sp := fun vs H Q _ => ∃ (ra rb : Addr) (s t : KM.Sheet Str) (G : Hp), vs = [.ref ra, .ref rb] ∧ Ex G H ∧ Da K G (.ref ra) (sheetD s) ∧ Da K G (.ref rb) (sheetD t) ∧ Two s t ∧
  ∀ (b : Bool) (G' H' : Hp), Up G H G' H' → (b = true ↔ KM.Same s t 0 0) → Q (.bl b) H'
theorem ok_are_same (T : Txt K mg) : FnG P w K mg base CX0 7 T.a_are_same T.d_are_same ["sheet", "other"] (spSame K) := by
  have G_least_sheet := ok_least_sheet (P := P) (w := w) (base := base) T
  refine okG T.F_are_same sc_are_same (fun vs H Q E h => ?_) fun cdv A outer s0 H vs Q E hr hq h => ?_
  · obtain ⟨ra, rb, s, t, G, rfl, _⟩ := h
    rfl
  obtain ⟨ra, rb, s, t, G, rfl, eg, x1, x2, h2, q⟩ := h
  have hu := hr.units
  obtain ⟨ar, ok1, ok2⟩ := h2.ok
  refine ⟨_, (pss_one (ps_ret (pe_cmpR (op_eqDaK K hu) (pe_g G_least_sheet hr hq (by rfl) T.g_least_sheet T.F_least_sheet.kp T.b_least_sheet .nil pass0 (pa_cons (pv 0) pa_nil)) (pe_g G_least_sheet hr hq (by rfl) T.g_least_sheet T.F_least_sheet.kp T.b_least_sheet .nil pass0 (pa_cons (pv 1) pa_nil)) (nomark _)))), ?_⟩
  refine ⟨.ref ra, rfl, ra, s, G, rfl, eg, x1, h2.zs, fun v G1 H1 r u1 hr1 dv => ?_⟩
  refine ⟨.ref rb, rfl, rb, t, G1, rfl, u1.h, x2.mono u1.g, h2.zt, fun v' G2 H2 r' u2 hr2 dw => ?_⟩
  refine ⟨_, _, dv.mono (u2.g.tr u2.h), dw.mono u2.h, cmpOk_of (sheet_shaped (h2.ss.least ok1 h2.zs.p hr1)) (sheet_shaped (h2.st.least ok2 h2.zt.p hr2)), ?_⟩
  rw [sheetD_eqv]
  exact q _ G2 H2 (u1.tr u2) (by rw [decide_eq_true_iff]; exact least_iff ok1 ok2 h2.zs.p h2.zt.p hr1 hr2)
end
end L05
set_option Elab.async false
set_option linter.all false
set_option maxRecDepth 100000
set_option maxHeartbeats 1000000
namespace L05
open PySem PySem.Spec PyProof.Rows L2 KD
section
variable {P : Program} {w : World} {K : PySem.W.Frag} {mg : Str → Option Value} {base : Heap}
/-! ### a pair of rows: do their tags agree, which pairs are below -/
theorem tupAt {K : PySem.W.Frag} {G : Hp} {ra : Addr} {s : KM.Sheet Str} (x : Da K G (.ref ra) (sheetD s)) : ∃ rvs, G ra = some (.tup rvs) ∧ DaAll K G rvs (s.map rowD) ∧ rvs.length = s.length := by
  cases x with | tup h1 h2 =>
    have hl := h2.length
    rw [List.length_map] at hl
    exact ⟨_, h1, h2, hl⟩
theorem tag_eq {s t : KM.Sheet Str} {x y : Nat} {t1 t2 : Str} {f1 f2 : List Nat} (p : s[x]? = some (t1, f1)) (q : t[y]? = some (t2, f2)) : decide (V.str t1 = V.str t2) = decide (KM.tg s x = KM.tg t y) := by
  rw [KM.tg_at p, KM.tg_at q]
  by_cases e : t1 = t2
  · subst e; simp
  · have h1 : V.str t1 ≠ V.str t2 := fun z => e (V.str.inj z)
    simp [e]
def spAgree (K : PySem.W.Frag) : Sp := fun vs H Q _ => ∃ (ra rb p : Addr) (x y : Nat) (s t : KM.Sheet Str) (G : Hp), vs = [.ref ra, .ref rb, .ref p] ∧ Ex G H ∧ Da K G (.ref ra) (sheetD s) ∧ Da K G (.ref rb) (sheetD t) ∧
  H p = some (.tup [vN x, vN y]) ∧ x < s.length ∧ y < t.length ∧ ∀ H', Ex H H' → Q (.bl (decide (KM.tg s x = KM.tg t y))) H'
theorem ok_tags_agree (T : Txt K mg) : FnG P w K mg base CX0 1 T.a_tags_agree T.d_tags_agree ["sheet", "other", "pair"] (spAgree K) := by
  refine okG T.F_tags_agree sc_tags_agree (fun vs H Q E h => ?_) fun cdv A outer s0 H vs Q E hr hq h => ?_
  · obtain ⟨ra, rb, p, x, y, s, t, G, rfl, _⟩ := h
    rfl
  obtain ⟨ra, rb, p, x, y, s, t, G, rfl, eg, x1, x2, hp, hx, hy, q⟩ := h
  have hu := hr.units
  obtain ⟨rvs, hra, hrv, _⟩ := tupAt x1
  obtain ⟨rws, hrb, hrw, _⟩ := tupAt x2
  obtain ⟨r1, fa1, t1, fs1, p1, p2, p3, p4⟩ := rowG hrv hx
  obtain ⟨r2, fa2, t2, fs2, q1, q2, q3, q4⟩ := rowG hrw hy
  refine ⟨_, (pss_cons (ps_asg (pv 2) (pg_tupK K rfl (pgs_cons (pg_name (i := 3) sc_tags_agree.nd rfl (.inl rfl)) (pgs_cons (pg_name (i := 4) sc_tags_agree.nd rfl (.inl rfl)) pgs_nil))))
    (pss_one (ps_ret (pe_cmpR op_eq (pe_ix (ix_tupK K) (pe_ix (ix_tupK K) (pv 0) (pv 3) (fun _ _ => rfl)) pe_int (fun _ _ => rfl)) (pe_ix (ix_tupK K) (pe_ix (ix_tupK K) (pv 1) (pv 4) (fun _ _ => rfl)) pe_int (fun _ _ => rfl)) (nomark _))))), ?_⟩
  refine ⟨.ref p, rfl, p, _, rfl, SqT.of hp, rfl, _, _, rfl, _, _, rfl, rfl, ?_⟩
  refine ⟨.ref ra, rfl, vN x, rfl, ra, _, _, .ref r1, rfl, rfl, SqT.of (eg _ _ hra), atI_nat p2, r1, _, _, .str t1, rfl, rfl, SqT.of (eg _ _ p3), rfl, .ref rb, rfl, vN y, rfl, rb, _, _, .ref r2, rfl, rfl, SqT.of (eg _ _ hrb), atI_nat q2, r2, _, _, .str t2, rfl, rfl, SqT.of (eg _ _ q3), rfl, rfl, ?_⟩
  rw [← tag_eq p1 q1] at q
  exact q H (Ex.rf _)
def spFields (K : PySem.W.Frag) : Sp := fun vs H Q _ => ∃ (ra rb p : Addr) (x y : Nat) (s t : KM.Sheet Str) (G : Hp), vs = [.ref ra, .ref rb, .ref p] ∧ Ex G H ∧ Da K G (.ref ra) (sheetD s) ∧ Da K G (.ref rb) (sheetD t) ∧
  H p = some (.tup [vN x, vN y]) ∧ x < s.length ∧ y < t.length ∧ (KM.fl s x).length = (KM.fl t y).length ∧ (KM.fl s x).length ≤ 3 ∧ ∀ (L : Addr) (Ts : List Addr) (H' : Hp), ZipMade H H' L Ts ((KM.fl s x).map vN) ((KM.fl t y).map vN) → Q (.ref L) H'
theorem ok_field_pairs (T : Txt K mg) : FnG P w K mg base CX0 1 T.a_field_pairs T.d_field_pairs ["sheet", "other", "pair"] (spFields K) := by
  refine okG T.F_field_pairs sc_field_pairs (fun vs H Q E h => ?_) fun cdv A outer s0 H vs Q E hr hq h => ?_
  · obtain ⟨ra, rb, p, x, y, s, t, G, rfl, _⟩ := h
    rfl
  obtain ⟨ra, rb, p, x, y, s, t, G, rfl, eg, x1, x2, hp, hx, hy, hl, h3, q⟩ := h
  have hu := hr.units
  obtain ⟨rvs, hra, hrv, _⟩ := tupAt x1
  obtain ⟨rws, hrb, hrw, _⟩ := tupAt x2
  obtain ⟨r1, fa1, t1, fs1, p1, p2, p3, p4⟩ := rowG hrv hx
  obtain ⟨r2, fa2, t2, fs2, q1, q2, q3, q4⟩ := rowG hrw hy
  rw [KM.fl_at p1] at hl h3 q
  rw [KM.fl_at q1] at hl q
  have h3 : fs1.length ≤ 3 := h3
  refine ⟨_, (pss_cons (ps_asg (pv 2) (pg_tupK K rfl (pgs_cons (pg_name (i := 3) sc_field_pairs.nd rfl (.inl rfl)) (pgs_cons (pg_name (i := 4) sc_field_pairs.nd rfl (.inl rfl)) pgs_nil))))
    (pss_one (ps_ret (pe_listZipK K rfl (by rfl) T.m_list (by rfl) T.m_zip (pa_cons (pe_ix (ix_tupK K) (pe_ix (ix_tupK K) (pv 0) (pv 3) (fun _ _ => rfl)) pe_int (fun _ _ => rfl)) (pa_cons (pe_ix (ix_tupK K) (pe_ix (ix_tupK K) (pv 1) (pv 4) (fun _ _ => rfl)) pe_int (fun _ _ => rfl)) pa_nil)))))), ?_⟩
  refine ⟨.ref p, rfl, p, _, rfl, SqT.of hp, rfl, _, _, rfl, _, _, rfl, rfl, ?_⟩
  exact ⟨.ref ra, rfl, vN x, rfl, ra, _, _, .ref r1, rfl, rfl, SqT.of (eg _ _ hra), atI_nat p2, r1, _, _, .ref fa1, rfl, rfl, SqT.of (eg _ _ p3), rfl, .ref rb, rfl, vN y, rfl, rb, _, _, .ref r2, rfl, rfl, SqT.of (eg _ _ hrb), atI_nat q2, r2, _, _, .ref fa2, rfl, rfl, SqT.of (eg _ _ q3), rfl, fa1, fa2, _, _, rfl, SqT.of (eg _ _ p4), SqT.of (eg _ _ q4),
    by rw [List.length_map, List.length_map]; exact hl, by rw [List.length_map]; omega, fun L Ts H' Z => q L Ts H' Z⟩
end
end L05
set_option Elab.async false
set_option linter.all false
set_option maxRecDepth 100000
set_option maxHeartbeats 1000000
namespace L05
open PySem PySem.Spec PyProof.Rows L2 KD
section
variable {P : Program} {w : World} {K : PySem.W.Frag} {mg : Str → Option Value} {base : Heap}
/-! ### the parting path -/
abbrev kvE (es : List (KM.Ent × Addr)) : List (List Key × V) := es.map fun q => (kP q.1.x q.1.y, V.ref q.2)
abbrev pathD : Option (List Nat) → PyData
  | some p => .tuple (p.map nD)
  | none => .none
theorem valV_kvE {x y : Nat} : ∀ {es : List (KM.Ent × Addr)}, valV (kvE es) (kP x y) = (es.find? fun q => decide (q.1.x = x ∧ q.1.y = y)).map fun q => V.ref q.2
  | [] => rfl
  | q :: es => by
    show valV ((kP q.1.x q.1.y, V.ref q.2) :: kvE es) (kP x y) = _
    by_cases e : q.1.x = x ∧ q.1.y = y
    · rw [e.1, e.2, valV_pos rfl, List.find?_cons_of_pos (by simpa using e)]
      rfl
    · rw [valV_neg (fun z => e (kP_inj z)), valV_kvE, List.find?_cons_of_neg (by simpa using e)]
theorem kvE_none {x y : Nat} {es : List (KM.Ent × Addr)} (h : ∀ e ∈ es.map Prod.fst, ¬ (e.x = x ∧ e.y = y)) : valV (kvE es) (kP x y) = none := by
  rw [valV_kvE, List.find?_eq_none.mpr]
  · rfl
  · intro q hq
    simp only [decide_eq_true_eq]
    exact h q.1 (List.mem_map.mpr ⟨q, hq, rfl⟩)
theorem kvE_some {e : KM.Ent} {a : Addr} {es : List (KM.Ent × Addr)} (hn : ((es.map Prod.fst).map fun e => (e.x, e.y)).Nodup) (h : (e, a) ∈ es) : valV (kvE es) (kP e.x e.y) = some (.ref a) := by
  induction es with
  | nil => cases h
  | cons q es ih =>
    rw [List.map_cons, List.map_cons, List.nodup_cons] at hn
    show valV ((kP q.1.x q.1.y, V.ref q.2) :: kvE es) (kP e.x e.y) = _
    rcases List.mem_cons.mp h with rfl | h
    · exact valV_pos rfl
    · rw [valV_neg (fun z => hn.1 ?_), ih hn.2 h]
      obtain ⟨z1, z2⟩ := kP_inj z
      rw [z1, z2]
      exact List.mem_map.mpr ⟨e, List.mem_map.mpr ⟨(e, a), h, rfl⟩, rfl⟩
theorem kvE_is {x y : Nat} {es : List (KM.Ent × Addr)} : ((valV (kvE es) (kP x y)).isSome = true) ↔ ∃ e ∈ es.map Prod.fst, e.x = x ∧ e.y = y := by
  rw [valV_kvE, Option.isSome_map]
  constructor
  · intro h
    obtain ⟨q, hq⟩ := Option.isSome_iff_exists.mp h
    have h1 := List.mem_of_find?_eq_some hq
    have h2 := List.find?_some hq
    exact ⟨q.1, List.mem_map.mpr ⟨q, h1, rfl⟩, by simpa using h2⟩
  · rintro ⟨e, he, h1, h2⟩
    obtain ⟨q, hq, rfl⟩ := List.mem_map.mp he
    rw [List.find?_isSome]
    exact ⟨q, hq, by simp [h1, h2]⟩
theorem tSeq_go {t u : TS} {D : Ends} {σ : L2.St} {H : Hp} (h : t { D with nx := u D } σ H) : tSeq t u D σ H := h
theorem cat_go {K : PySem.W.Frag} {H : Hp} {a b : Addr} {xs ys : List V} {Q : VK} (ha : H a = some (.tup xs)) (hb : H b = some (.tup ys)) (hl : xs.length + ys.length ≤ sizeLine) (hy : ys ≠ [])
    (q : ∀ (P : Addr) (H' : Hp), Ex H H' → (P = b ∨ H P = none) → H' P = some (.tup (xs ++ ys)) → Q (.ref P) H') : rCatA K (.ref a) (.ref b) H Q :=
  ⟨a, b, xs, ys, rfl, rfl, SqT.of ha, SqT.of hb, hl, fun h => q b H (Ex.rf H) (.inl rfl) (by rw [h]; exact hb), fun _ h => absurd h hy, fun _ _ P hP => q P _ (Ex.up hP) (.inr hP) upd_same⟩
theorem fr_tup {ft : List Addr} {H H' : Hp} {x : Addr} {xs : List V} (f : Fr ft H H') (h : H x = some (.tup xs)) (hf : ∀ y ∈ ft, H y ≠ some (.tup xs)) : H' x = some (.tup xs) := f x _ (fun z => hf x z h) h
structure PairsAt (H : Hp) (Ts : List Addr) (es : List KM.Ent) : Prop where
  l : Ts.length = es.length
  a : ∀ (j : Nat) (T : Addr) (e : KM.Ent), Ts[j]? = some T → es[j]? = some e → H T = some (.tup [vN e.x, vN e.y])
theorem PairsAt.mono {H H' : Hp} {Ts : List Addr} {es : List KM.Ent} (h : PairsAt H Ts es) (e : Ex H H') : PairsAt H' Ts es := ⟨h.l, fun j T u h1 h2 => e _ _ (h.a j T u h1 h2)⟩
theorem PairsAt.snoc {H : Hp} {Ts : List Addr} {es : List KM.Ent} {T : Addr} {e : KM.Ent} (h : PairsAt H Ts es) (hT : H T = some (.tup [vN e.x, vN e.y])) : PairsAt H (Ts ++ [T]) (es ++ [e]) := by
  refine ⟨by rw [List.length_append, List.length_append, h.l]; rfl, fun j T' e' h1 h2 => ?_⟩
  have hl := h.l
  by_cases c : j < Ts.length
  · rw [List.getElem?_append_left c] at h1
    rw [List.getElem?_append_left (by omega)] at h2
    exact h.a j T' e' h1 h2
  · rw [List.getElem?_append_right (by omega)] at h1
    rw [List.getElem?_append_right (by omega), ← hl] at h2
    have h0 := (List.getElem?_eq_some_iff.mp h1).1
    rw [List.length_singleton] at h0
    have z : j - Ts.length = 0 := by omega
    rw [z] at h1 h2
    cases h1; cases h2
    exact hT
/-- what is kept of the search: the paths, the two least sheets -/
structure PS5 (H0 H : Hp) (d : Addr) (es : List (KM.Ent × Addr)) : Prop where
  e : Ex H0 H
  d : H d = some (.dT (kvE es))
  a : ∀ q ∈ es, H0 q.2 = none ∧ H q.2 = some (.tup (q.1.p.map vN))
def spPath (K : PySem.W.Frag) : Sp := fun vs H Q _ => ∃ (ra rb : Addr) (s t : KM.Sheet Str) (G : Hp), vs = [.ref ra, .ref rb] ∧ Ex G H ∧ Da K G (.ref ra) (sheetD s) ∧ Da K G (.ref rb) (sheetD t) ∧ Two s t ∧ s.length ≤ 110 ∧ t.length ≤ 110 ∧
  ∀ (v : V) (G' H' : Hp) (o : Option (List Nat)), Up G H G' H' → KM.Told s t o → Da K G' v (pathD o) → Q v H'
theorem ok_parting_path (T : Txt K mg) : FnG P w K mg base CX0 7 T.a_parting_path T.d_parting_path ["sheet", "other"] (spPath K) := by
  have G_least_sheet := ok_least_sheet (P := P) (w := w) (base := base) T
  have G_tags_agree := (ok_tags_agree (P := P) (w := w) (base := base) T).mono (show 1 ≤ 6 by decide)
  have G_field_pairs := (ok_field_pairs (P := P) (w := w) (base := base) T).mono (show 1 ≤ 6 by decide)
  refine okG T.F_parting_path sc_parting_path (fun vs H Q E h => ?_) fun cdv A outer s0 H vs Q E hr hq h => ?_
  · obtain ⟨ra, rb, s, t, G, rfl, _⟩ := h
    rfl
  obtain ⟨ra, rb, s, t, G, rfl, eg, x1, x2, h2, hsl, htl, q⟩ := h
  have hu := hr.units
  have hu1 := hu_of hr
  obtain ⟨ar, ok1, ok2⟩ := h2.ok
  refine ⟨_, (pss_cons (ps_par (i := 2) (j := 3) (by rfl) sc_parting_path.nd rfl rfl (by decide) rfl rfl (pa_cons (pe_g G_least_sheet hr hq (by rfl) T.g_least_sheet T.F_least_sheet.kp T.b_least_sheet .nil pass0 (pa_cons (pv 0) pa_nil)) (pa_cons (pe_g G_least_sheet hr hq (by rfl) T.g_least_sheet T.F_least_sheet.kp T.b_least_sheet .nil pass0 (pa_cons (pv 1) pa_nil)) pa_nil)) (by rfl))
    (pss_cons (ps_set (i := 4) sc_parting_path.nd rfl (.inl rfl) (pe_dispT1 hu1 (pe_tup (pa_cons pe_int (pa_cons pe_int pa_nil))) (pe_tup pa_nil)))
    (pss_cons (ps_set (i := 5) sc_parting_path.nd rfl (.inl rfl) (pe_lst (pa_cons (pe_tup (pa_cons pe_int (pa_cons pe_int pa_nil))) pa_nil)))
    (pss_cons (ps_while PassesOwn.never (pt_truthK K (pv 5) (by intro _; rfl))
    (pss_cons (ps_set (i := 6) sc_parting_path.nd rfl (.inl rfl) (pe_lst pa_nil))
    (pss_cons (ps_for PassesOwn.never rfl (pi_listK K (pv 5)) (pg_name (i := 7) sc_parting_path.nd rfl (.inl rfl))
    (pss_cons (ps_if (pt_not (pt_val (pe_g G_tags_agree hr hq (by rfl) T.g_tags_agree T.F_tags_agree.kp T.b_tags_agree .nil pass0 (pa_cons (pv 2) (pa_cons (pv 3) (pa_cons (pv 7) pa_nil))))))
    (pss_one (ps_ret (pe_dget hu1 (pv 4) (pv 7) (fun _ _ => rfl))))
    pss_nil)
    (pss_one (ps_for PassesOwn.never rfl (pi_enumK K (by rfl) T.m_enumerate (pa_cons (pe_g G_field_pairs hr hq (by rfl) T.g_field_pairs T.F_field_pairs.kp T.b_field_pairs .nil pass0 (pa_cons (pv 2) (pa_cons (pv 3) (pa_cons (pv 7) pa_nil)))) pa_nil)) (pg_tupK K rfl (pgs_cons (pg_name (i := 8) sc_parting_path.nd rfl (.inl rfl)) (pgs_cons (pg_name (i := 9) sc_parting_path.nd rfl (.inl rfl)) pgs_nil)))
    (pss_one (ps_if (pt_cmp (pc_dnotin hu1 (pv 9) (pv 4)) rfl)
    (pss_cons (ps_dput hu1 (pv 4) (pv 9) (pe_op (op_catAK K) (pe_dget hu1 (pv 4) (pv 7) (fun _ _ => rfl)) (pe_tup (pa_cons (pv 8) pa_nil))) rfl)
    (pss_one (ps_expr (pe_bm PySem.F.plainAttrs_list PySem.F.slot_list_append PySem.F.type_list_append mt_append (pv 6) (pa_cons (pv 9) pa_nil)))))
    pss_nil))))))
    (pss_one (ps_set (i := 5) sc_parting_path.nd rfl (.inl rfl) (pv 6))))))
    (pss_one (ps_ret pe_non)))))), ?_⟩
  refine ⟨.ref ra, rfl, ra, s, G, rfl, eg, x1, h2.zs, fun v1 G1 H1 r1 u1 hr1 dv1 => ?_⟩
  refine ⟨.ref rb, rfl, rb, t, G1, rfl, u1.h, x2.mono u1.g, h2.zt, fun v2 G2 H2 r2 u2 hr2 dv2 => ?_⟩
  obtain ⟨a1, rfl⟩ : ∃ a, v1 = .ref a := by cases dv1; exact ⟨_, rfl⟩
  obtain ⟨a2, rfl⟩ : ∃ a, v2 = .ref a := by cases dv2; exact ⟨_, rfl⟩
  have y1 := dv1.mono u2.g
  obtain ⟨k1, k2, k3, k4⟩ := KM.isLeast_same ok1 h2.zs.p hr1
  obtain ⟨l1, l2, l3, l4⟩ := KM.isLeast_same ok2 h2.zt.p hr2
  have h3 : ∀ {x : Nat}, x < r1.length → (KM.fl r1 x).length ≤ 3 := fun {x} hx => by
    obtain ⟨r, hr1', hrm⟩ := KM.at_lt hx
    obtain ⟨p, hp, _, e⟩ := least_rows ok1 h2.zs.p hr1 r hrm
    rw [KM.fl_at hr1', e]
    exact h2.zs.f p hp
  have told : ∀ {o : Option (List Nat)}, KM.Told r1 r2 o → KM.Told s t o := fun h => h.same k1 l1 ok1 ok2 k4 l4
  refine ⟨_, _, rfl, ?_⟩
  try dsimp only
  refine st_e ?_
  intro d hd
  refine ⟨(by show 2 ≤ sizeLine; decide), fun T1 hT1 => ⟨Nat.zero_le _, fun T2 hT2 => ?_⟩⟩
  obtain ⟨n1, hT1'⟩ := upd_ne_none hT1
  obtain ⟨n2, hT2'⟩ := upd_ne_none hT2
  obtain ⟨n3, hT2''⟩ := upd_ne_none hT2'
  have f4 : Ex H2 (upd (upd (upd H2 d (.dT [])) T1 (.tup [vN 0, vN 0])) T2 (.tup [])) := ((Ex.up hd).tr (Ex.up hT1)).tr (Ex.up hT2)
  refine ⟨by rw [upd_ne n3.symm, upd_ne n1.symm]; exact upd_same, T1, kP 0 0, .ref T2, rfl, by rw [upd_ne n2.symm]; exact upd_same, ?_⟩
  have P0 : PS5 H2 (upd (upd (upd (upd H2 d (.dT [])) T1 (.tup [vN 0, vN 0])) T2 (.tup [])) d (.dT [(kP 0 0, .ref T2)])) d [(⟨0, 0, []⟩, T2)] := by
    refine ⟨f4.at hd, upd_same, fun q hq => ?_⟩
    rw [List.mem_singleton.mp hq]
    exact ⟨hT2'', by rw [upd_ne n3]; exact upd_same⟩
  revert P0
  generalize (upd (upd (upd (upd H2 d (.dT [])) T1 (.tup [vN 0, vN 0])) T2 (.tup [])) d (.dT [(kP 0 0, .ref T2)])) = H4
  intro P0
  refine st_e ?_
  refine ⟨(by show 2 ≤ sizeLine; decide), fun T3 hT3 => ⟨(by show 1 ≤ sizeLine; decide), fun L hL => ?_⟩⟩
  obtain ⟨n4, hL'⟩ := upd_ne_none hL
  have e45 : Ex H4 (upd (upd H4 T3 (.tup [vN 0, vN 0])) L (.lst [.ref T3])) := (Ex.up hT3).tr (Ex.up hL)
  have hL5 : (upd (upd H4 T3 (.tup [vN 0, vN 0])) L (.lst [.ref T3])) L = some (.lst [.ref T3]) := upd_same
  have hT5 : (upd (upd H4 T3 (.tup [vN 0, vN 0])) L (.lst [.ref T3])) T3 = some (.tup [vN 0, vN 0]) := by rw [upd_ne n4.symm]; exact upd_same
  revert e45 hL5 hT5
  generalize (upd (upd H4 T3 (.tup [vN 0, vN 0])) L (.lst [.ref T3])) = H5
  intro e45 hL5 hT5
  have PSm : ∀ {H H' : Hp} {es : List (KM.Ent × Addr)}, PS5 H2 H d es → Ex H H' → PS5 H2 H' d es := fun p e => ⟨p.e.tr e, e _ _ p.d, fun q hq => ⟨(p.a q hq).1, e _ _ (p.a q hq).2⟩⟩
  try dsimp only
  refine tSeq_go ?_
  refine ⟨fun m σ H' => ∃ (o6 o7 o8 o9 : Option V) (Lv : Addr) (Ts : List Addr) (es : List (KM.Ent × Addr)) (lev : List KM.Ent) (dd : Nat), σ = [some (.ref ra), some (.ref rb), some (.ref a1), some (.ref a2), some (.ref d), some (.ref Lv), o6, o7, o8, o9] ∧
      PS5 H2 H' d es ∧ H' Lv = some (.lst (Ts.map V.ref)) ∧ PairsAt H' Ts lev ∧ KM.Bfs r1 r2 dd (es.map Prod.fst) lev [] ∧ (lev ≠ [] → dd ≤ es.length) ∧ m = 2 * (r1.length * r2.length - es.length) + (if lev.isEmpty then 0 else 1),
    ⟨_, none, none, none, none, L, [T3], [(⟨0, 0, []⟩, T2)], [⟨0, 0, []⟩], 0, rfl, PSm P0 e45, hL5, ⟨rfl, fun j T e h1 h2 => ?_⟩, KM.Bfs.start, fun _ => Nat.zero_le _, rfl⟩, fun m σ H6 w => ?_⟩
  · match j, h1, h2 with
    | 0, h1, h2 => cases h1; cases h2; exact hT5
  obtain ⟨o6, o7, o8, o9, Lv, Ts, es, lev, dd, rfl, P6, hL6, A6, B6, hdd, rfl⟩ := w
  cases lev with
  | nil =>
    have hTs : Ts = [] := List.length_eq_zero_iff.mp A6.l
    subst hTs
    refine ⟨.ref Lv, rfl, false, .inl ⟨_, SqL.of hL6, rfl⟩, iteF ?_⟩
    exact q .non G2 H6 none ((u1.tr u2).tr ⟨Ex.rf _, u2.h.tr P6.e, P6.e, fun _ _ h => h⟩) (told (show KM.Told r1 r2 none from B6.none)) .non
  | cons e0 lev0 =>
    refine ⟨.ref Lv, rfl, true, .inl ⟨_, SqL.of hL6, ?_⟩, iteT ⟨_, fun _ _ h => h, ?_⟩⟩
    · have hl := A6.l
      cases Ts with
      | nil => simp at hl
      | cons => rfl
    try dsimp only
    refine st_e ?_
    refine ⟨Nat.zero_le _, fun F hF => ?_⟩
    have e67 : Ex H6 (upd H6 F (.lst [])) := Ex.up hF
    have hF7 : (upd H6 F (.lst [])) F = some (.lst []) := upd_same
    revert e67 hF7
    generalize (upd H6 F (.lst [])) = H7
    intro e67 hF7
    have P7 := PSm P6 e67
    have A7 := A6.mono e67
    have hL7 := e67 _ _ hL6
    have nLF : Lv ≠ F := fun z => by rw [z, hF] at hL6; cases hL6
    have nLd : Lv ≠ d := fun z => by rw [z, P6.d] at hL6; cases hL6
    have nFd : F ≠ d := fun z => by rw [z, P6.d] at hF; cases hF
    try dsimp only
    refine tSeq_go ?_
    refine ⟨.ref Lv, rfl, Lv, rfl, ⟨_, SqL.of hL7⟩, ?_⟩
    refine for_list (K := K) (a := Lv) (xs := Ts.map V.ref) (fun i σ H' => ∃ (o7 o8 o9 : Option V) (es' : List (KM.Ent × Addr)) (fo : List KM.Ent) (Fs : List Addr), σ = [some (.ref ra), some (.ref rb), some (.ref a1), some (.ref a2), some (.ref d), some (.ref Lv), some (.ref F), o7, o8, o9] ∧
        PS5 H2 H' d es' ∧ Fr [d, F] H7 H' ∧ H' F = some (.lst (Fs.map V.ref)) ∧ PairsAt H' Fs fo ∧ KM.Bfs r1 r2 dd (es'.map Prod.fst) ((e0 :: lev0).drop i) fo ∧ es'.length = es.length + fo.length)
      ⟨o7, o8, o9, es, [], [], rfl, P7, Fr.rf, hF7, ⟨rfl, fun j T e h => by simp at h⟩, B6, by simp⟩ (fun i σ H' _ hP => ?_) (fun i x σ H8 hx hP => ?_) (fun σ H8 hP => ?_)
    · obtain ⟨_, _, _, _, _, _, _, _, fr, _⟩ := hP
      exact SqL.of (fr _ _ (by simp [nLF, nLd]) hL7)
    · obtain ⟨o7, o8, o9, es', fo, Fs, rfl, P8, fr8, hF8, F8, B8, hln⟩ := hP
      rw [List.getElem?_map] at hx
      obtain ⟨T, hT, rfl⟩ := Option.map_eq_some_iff.mp hx
      have hil : i < (e0 :: lev0).length := by rw [← A7.l]; exact (List.getElem?_eq_some_iff.mp hT).1
      have he : (e0 :: lev0)[i]? = some ((e0 :: lev0)[i]) := List.getElem?_eq_getElem hil
      rw [List.drop_eq_getElem_cons hil] at B8
      generalize (e0 :: lev0)[i] = e at he B8
      have hT7 := A7.a i T e hT he
      have hT8 : H8 T = some (.tup [vN e.x, vN e.y]) := fr_tup fr8 hT7 (fun y hy => by
        rcases List.mem_cons.mp hy with rfl | hy
        · rw [P7.d]; simp
        · rw [List.mem_singleton.mp hy, hF7]; simp)
      obtain ⟨hm, hdl⟩ := B8.rm e List.mem_cons_self
      obtain ⟨hxl, hyl⟩ := (B8.agr e hm).lt k1 l1 k2 l2
      obtain ⟨⟨e', a⟩, hea, hee⟩ := List.mem_map.mp hm
      have hee : e' = e := hee
      subst hee
      obtain ⟨ha2, ha8⟩ := P8.a _ hea
      have eG8 : Ex G2 H8 := u2.h.tr P8.e
      try dsimp only
      refine tSeq_go ?_
      refine ⟨.ref a1, rfl, .ref a2, rfl, .ref T, rfl, a1, a2, T, e'.x, e'.y, r1, r2, G2, rfl, eG8, y1, dv2, hT8, hxl, hyl, fun H9 e89 => ⟨_, rfl, ?_⟩⟩
      have P9 := PSm P8 e89
      have hT9 := e89 _ _ hT8
      have ha9 := e89 _ _ ha8
      have nd := B8.nd
      by_cases htg : KM.tg r1 e'.x = KM.tg r2 e'.y
      · rw [decide_eq_true htg]
        refine iteF ?_
        have hFl := k1.len l1 htg
        have hd9 := P9.d
        have hF9 := e89 _ _ hF8
        refine ⟨.ref a1, rfl, .ref a2, rfl, .ref T, rfl, a1, a2, T, e'.x, e'.y, r1, r2, G2, rfl, eG8.tr e89, y1, dv2, hT9, hxl, hyl, hFl, h3 hxl, fun Z Zs H10 ZM => ⟨Z, _, rfl, SqL.of ZM.hL, ?_⟩⟩
        have eA := ZM.e
        have P10 := PSm P9 eA
        have hT10 := eA _ _ hT9
        have hF10 := eA _ _ hF9
        have nZd : Z ≠ d := fun z => by have := ZM.nL; rw [z, hd9] at this; cases this
        have nZF : Z ≠ F := fun z => by have := ZM.nL; rw [z, hF9] at this; cases this
        have ntup : ∀ {xs : List V}, ∀ y ∈ [d, F], H10 y ≠ some (.tup xs) := fun {xs} y hy => by
          rcases List.mem_cons.mp hy with rfl | hy
          · rw [P10.d]; simp
          · rw [List.mem_singleton.mp hy, hF10]; simp
        have hZl : Zs.length = (KM.fl r1 e'.x).length := by rw [ZM.l, List.length_map]
        refine for_it (walk_enum (K := K) (a := Z) (xs := Zs.map V.ref)) (fun j σ H' => ∃ (o8 o9 : Option V) (es2 : List (KM.Ent × Addr)) (fo2 : List KM.Ent) (Fs2 : List Addr), σ = [some (.ref ra), some (.ref rb), some (.ref a1), some (.ref a2), some (.ref d), some (.ref Lv), some (.ref F), some (.ref T), o8, o9] ∧
            PS5 H2 H' d es2 ∧ Fr [d, F] H10 H' ∧ H' F = some (.lst (Fs2.map V.ref)) ∧ PairsAt H' Fs2 fo2 ∧ KM.Mid r1 r2 dd (es2.map Prod.fst) ((e0 :: lev0).drop (i + 1)) fo2 e' j ∧ es2.length = es.length + fo2.length ∧ (e', a) ∈ es2)
          ⟨o8, o9, es', fo, Fs, rfl, P10, Fr.rf, hF10, F8.mono (e89.tr eA), B8.mid htg, hln, hea⟩ (fun j σ H' _ hP => ?_) (fun j x σ H11 H12 hj hP hY => ?_) (fun σ H' hP => ?_)
        · obtain ⟨_, _, _, _, _, _, _, fr, _⟩ := hP
          exact SqL.of (fr _ _ (by simp [nZd, nZF]) ZM.hL)
        · obtain ⟨o8, o9, es2, fo2, Fs2, rfl, P11, fr11, hF11, F11, M11, hl2, hea2⟩ := hP
          obtain ⟨T5, w1, w2, rfl, hT5, rfl, e1, e2⟩ := hY
          cases e1
          have e2 : (List.map V.ref Zs)[j]? = some w2 := e2
          rw [List.getElem?_map] at e2
          obtain ⟨Tz, hTz, rfl⟩ := Option.map_eq_some_iff.mp e2
          rw [List.length_map] at hj
          have hu : (KM.fl r1 e'.x)[j]? = some ((KM.fl r1 e'.x)[j]'(by omega)) := List.getElem?_eq_getElem _
          have hv : (KM.fl r2 e'.y)[j]? = some ((KM.fl r2 e'.y)[j]'(by omega)) := List.getElem?_eq_getElem _
          generalize (KM.fl r1 e'.x)[j]'(by omega) = u at hu
          generalize (KM.fl r2 e'.y)[j]'(by omega) = v at hv
          obtain ⟨_, hz10⟩ := ZM.t j Tz (vN u) (vN v) hTz (by rw [List.getElem?_map, hu]; rfl) (by rw [List.getElem?_map, hv]; rfl)
          have e12 : Ex H11 (upd H11 T5 (.tup [vN j, .ref Tz])) := Ex.up hT5
          have h5 : (upd H11 T5 (.tup [vN j, .ref Tz])) T5 = some (.tup [vN j, .ref Tz]) := upd_same
          show gTup K 2 _ (.ref T5) _ (upd H11 T5 (.tup [vN j, .ref Tz])) _
          revert e12 h5
          generalize (upd H11 T5 (.tup [vN j, .ref Tz])) = H12
          intro e12 h5
          have P12 := PSm P11 e12
          have fr12 := fr11.tr (Fr.of e12)
          have hz12 := fr_tup fr12 hz10 ntup
          have hT12 := fr_tup fr12 hT10 ntup
          have hF12 := e12 _ _ hF11
          have F12 := F11.mono e12
          have nd2 := M11.nd
          refine ⟨T5, _, rfl, SqT.of h5, rfl, _, _, rfl, _, _, rfl, rfl, ?_⟩
          refine ⟨.ref Tz, rfl, .ref d, rfl, d, _, rfl, DGet.t (k := kP u v) P12.d hz12, _, rfl, ?_⟩
          by_cases hin : (valV (kvE es2) (kP u v)).isSome = true
          · rw [hin]
            refine iteF ?_
            exact ⟨_, _, es2, fo2, Fs2, rfl, P12, fr12, hF12, F12, M11.skip hu hv (kvE_is.mp hin), hl2, hea2⟩
          · have hk : ∀ e ∈ es2.map Prod.fst, ¬ (e.x = u ∧ e.y = v) := fun e he h => hin (kvE_is.mpr ⟨e, he, h⟩)
            have hnone := kvE_none hk
            rw [hnone]
            refine iteT ?_
            try dsimp only
            refine tSeq_go ?_
            have hlt : es2.length ≤ 110 * 110 := by
              have h := KM.pairs_le (n := r1.length) (m := r2.length) M11.nd (fun p hp => by
                obtain ⟨e, he, rfl⟩ := List.mem_map.mp hp
                exact (M11.agr e he).lt k1 l1 k2 l2)
              rw [List.length_map, List.length_map] at h
              exact Nat.le_trans h (Nat.mul_le_mul (by omega) (by omega))
            have hdget : DGet H12 d (.ref T) (some (.ref a)) := by
              have h := DGet.t (k := kP e'.x e'.y) P12.d hT12
              rw [kvE_some nd2 hea2] at h
              exact h
            refine ⟨.ref d, rfl, .ref T, rfl, d, .ref a, rfl, hdget, vN j, rfl, (by show 1 ≤ sizeLine; decide), fun T6 hT6 => ?_⟩
            have e126 : Ex H12 (upd H12 T6 (.tup [vN j])) := Ex.up hT6
            refine cat_go (xs := e'.p.map vN) (ys := [vN j]) (e126 _ _ (P12.a _ hea2).2) upd_same (by
              rw [List.length_map, M11.em.2]
              have := hdd (by simp)
              refine Nat.le_trans (?_ : _ ≤ 110 * 110 + 1) (by decide)
              show dd + 1 ≤ _
              omega) (by simp) fun P H13 e13 hPn hP13 => ?_
            have e1213 := e126.tr e13
            have P13 := PSm P12 e1213
            have hP2 : H2 P = none := by
              rcases hPn with rfl | hPn
              · exact P12.e.fresh hT6
              · exact P12.e.fresh (upd_ne_none hPn).2
            have hz13 := e1213 _ _ hz12
            have hF13 := e1213 _ _ hF12
            have F13 := F12.mono e1213
            refine ⟨.ref d, rfl, .ref Tz, rfl, d, _, rfl, DPut.t (k := kP u v) P13.d hz13 ?_, ?_⟩
            · rw [List.length_map]; exact Nat.lt_of_le_of_lt hlt (by decide)
            have hF14 : (upd H13 d (.dT (putK (kvE es2) (kP u v) (.ref P)))) F = some (.lst (Fs2.map V.ref)) := by rw [upd_ne nFd]; exact hF13
            refine ⟨.ref F, rfl, .inl ⟨rfl, _, SqL.of hF14⟩, .ref Tz, rfl, F, _, .ref Tz, rfl, rfl, hF14, ?_, ?_⟩
            · rw [List.length_map, F12.l]
              exact Nat.lt_of_le_of_lt (by omega : fo2.length ≤ 110 * 110) (by decide)
            have ht : ∀ {x : Addr} {xs : List V}, H13 x = some (.tup xs) → (upd (upd H13 d (.dT (putK (kvE es2) (kP u v) (.ref P)))) F (.lst (Fs2.map V.ref ++ [.ref Tz]))) x = some (.tup xs) := fun {x xs} h => by
              rw [upd_ne (fun z => by rw [z, hF13] at h; cases h), upd_ne (fun z => by rw [z, P13.d] at h; cases h)]; exact h
            have hH2F : H2 F = none := P6.e.fresh hF
            refine ⟨_, _, es2 ++ [(⟨u, v, e'.p ++ [j]⟩, P)], fo2 ++ [⟨u, v, e'.p ++ [j]⟩], Fs2 ++ [Tz], rfl, ⟨(P13.e.at hd).at hH2F, ?_, fun q hq => ?_⟩, ((fr12.tr (Fr.of e1213)).upd (.inl (by simp))).upd (.inl (by simp)), ?_, ?_, ?_, ?_, List.mem_append_left _ hea2⟩
            · rw [upd_ne nFd.symm, upd_same, putK_new _ hnone]
              simp [kvE]
            · rcases List.mem_append.mp hq with hq | hq
              · exact ⟨(P13.a q hq).1, ht (P13.a q hq).2⟩
              · rw [List.mem_singleton.mp hq]
                refine ⟨hP2, ht ?_⟩
                rw [hP13, List.map_append]; rfl
            · rw [upd_same, List.map_append]; rfl
            · refine PairsAt.snoc ⟨F13.l, fun j T u h1 h2 => ht (F13.a j T u h1 h2)⟩ (ht hz13)
            · rw [List.map_append]
              exact M11.put hu hv hk
            · rw [List.length_append, List.length_append, hl2]
              show es.length + fo2.length + 1 = es.length + (fo2.length + 1)
              omega
        · obtain ⟨o8, o9, es2, fo2, Fs2, rfl, P11, fr11, hF11, F11, M11, hl2, _⟩ := hP
          rw [List.length_map] at M11
          refine ⟨_, _, _, es2, fo2, Fs2, rfl, P11, (fr8.tr (Fr.of (e89.tr eA))).tr fr11, hF11, F11, M11.done (by omega), hl2⟩
      · rw [decide_eq_false htg]
        refine iteT ?_
        refine ⟨.ref d, rfl, .ref T, rfl, d, .ref a, rfl, ?_, ?_⟩
        · have h := DGet.t (k := kP e'.x e'.y) P9.d hT9
          rw [kvE_some nd hea] at h
          exact h
        · have hG2a : G2 a = none := u2.h.fresh ha2
          refine q (.ref a) (upd G2 a (.tup (e'.p.map vN))) H9 (some e'.p) ((u1.tr u2).tr ⟨Ex.up hG2a, fun x o h => ?_, P9.e, fun b h1 h2 => ?_⟩) (told (show KM.Told r1 r2 (some e'.p) from B8.found htg)) (.tup upd_same daAll_ofNats)
          · by_cases z : x = a
            · subst z; rw [upd_same] at h; cases h; exact ha9
            · rw [upd_ne z] at h; exact u2.h.tr P9.e _ _ h
          · rw [upd_ne (fun z => h1 (by rw [z]; exact ha2))]; exact h2
    · obtain ⟨o7, o8, o9, es', fo, Fs, rfl, P8, fr8, hF8, F8, B8, hln⟩ := hP
      rw [List.length_map, A7.l, List.drop_length] at B8
      refine ⟨.ref F, rfl, ?_⟩
      have hlt : es'.length ≤ r1.length * r2.length := by
        have h := KM.pairs_le (n := r1.length) (m := r2.length) B8.nd (fun p hp => by
          obtain ⟨e, he, rfl⟩ := List.mem_map.mp hp
          exact (B8.agr e he).lt k1 l1 k2 l2)
        rwa [List.length_map, List.length_map] at h
      refine ⟨2 * (r1.length * r2.length - es'.length) + (if fo.isEmpty then 0 else 1), ?_, _, _, _, _, F, Fs, es', fo, dd + 1, rfl, P8, hF8, F8, B8.next, fun h => ?_, rfl⟩
      · cases fo with
        | nil =>
          rw [List.length_nil, Nat.add_zero] at hln
          rw [hln]
          show _ + 0 < _ + 1
          omega
        | cons f fo =>
          rw [List.length_cons] at hln
          show _ + 1 < _ + 1
          omega
      · have := hdd (by simp)
        have := List.length_pos_iff.mpr h
        omega
end
end L05
set_option Elab.async false
set_option linter.all false
set_option maxRecDepth 100000
set_option maxHeartbeats 1000000
namespace L05
open PySem PySem.Spec PyProof.Rows L2 KD
section
variable {P : Program} {w : World} {K : PySem.W.Frag} {mg : Str → Option Value} {base : Heap}
/-! ### the lengths of the parting paths of all pairs of rows -/
def kvN (ps : List (Nat × Nat)) (mk : Nat → Nat → Nat) : List (List Key × V) := ps.map fun p => (kP p.1 p.2, vN (mk p.1 p.2))
theorem kvN_length {ps : List (Nat × Nat)} {mk : Nat → Nat → Nat} : (kvN ps mk).length = ps.length := by unfold kvN; rw [List.length_map]
theorem valV_kvN {mk : Nat → Nat → Nat} {a b : Nat} : ∀ {ps : List (Nat × Nat)}, valV (kvN ps mk) (kP a b) = if (a, b) ∈ ps then some (vN (mk a b)) else none
  | [] => rfl
  | (x, y) :: ps => by
    show valV ((kP x y, vN (mk x y)) :: kvN ps mk) (kP a b) = _
    by_cases e : (x, y) = (a, b)
    · cases e
      rw [valV_pos rfl, if_pos List.mem_cons_self]
    · have hne : kP x y ≠ kP a b := fun z => e (by obtain ⟨h1, h2⟩ := kP_inj z; rw [h1, h2])
      rw [valV_neg hne, valV_kvN]
      by_cases h : (a, b) ∈ ps
      · rw [if_pos h, if_pos (List.mem_cons_of_mem _ h)]
      · rw [if_neg h, if_neg (by rw [List.mem_cons, not_or]; exact ⟨fun z => e z.symm, h⟩)]
theorem putK_kvN {mk : Nat → Nat → Nat} {a b c : Nat} {ps : List (Nat × Nat)} (h : (a, b) ∈ ps) : putK (kvN ps mk) (kP a b) (vN c) = kvN ps fun x y => if (x, y) = (a, b) then c else mk x y := by
  unfold putK
  have : (kvN ps mk).any (fun kv => decide (kv.1 = kP a b)) = true := List.any_eq_true.mpr ⟨(kP a b, vN (mk a b)), List.mem_map_of_mem (f := fun p : Nat × Nat => (kP p.1 p.2, vN (mk p.1 p.2))) h, by simp⟩
  rw [if_pos this]
  unfold kvN
  rw [List.map_map]
  refine List.map_congr_left fun p hp => ?_
  obtain ⟨x, y⟩ := p
  show (if kP x y = kP a b then (kP x y, vN c) else (kP x y, vN (mk x y))) = (kP x y, vN (if (x, y) = (a, b) then c else mk x y))
  by_cases e : (x, y) = (a, b)
  · cases e
    rw [if_pos rfl, if_pos rfl]
  · rw [if_neg (fun z => e (by obtain ⟨h1, h2⟩ := kP_inj z; rw [h1, h2])), if_neg e]
theorem merge_kvN {f : Nat → Nat → Nat} {ps : List (Nat × Nat)} : ∀ {hits : List (Nat × Nat)} {mk : Nat → Nat → Nat}, (∀ p ∈ hits, p ∈ ps) → mergeT (kvN ps mk) (kvN hits f) = kvN ps fun x y => if (x, y) ∈ hits then f x y else mk x y
  | [], mk, _ => by
    show kvN ps mk = _
    congr 1
  | (a, b) :: hits, mk, h => by
    show mergeT (putK (kvN ps mk) (kP a b) (vN (f a b))) (kvN hits f) = _
    rw [putK_kvN (h _ List.mem_cons_self), merge_kvN fun p hp => h p (List.mem_cons_of_mem _ hp)]
    congr 1
    funext x y
    by_cases e : (x, y) = (a, b)
    · cases e
      rw [if_pos rfl, if_pos List.mem_cons_self]
      by_cases e2 : (a, b) ∈ hits
      · rw [if_pos e2]
      · rw [if_neg e2]
    · rw [if_neg e]
      by_cases e2 : (x, y) ∈ hits
      · rw [if_pos e2, if_pos (List.mem_cons_of_mem _ e2)]
      · rw [if_neg e2, if_neg (by rw [List.mem_cons, not_or]; exact ⟨e, e2⟩)]
theorem kvN_get {mk : Nat → Nat → Nat} {ps : List (Nat × Nat)} {i : Nat} {k : List Key} {v : V} (h : (kvN ps mk)[i]? = some (k, v)) : ∃ a b, ps[i]? = some (a, b) ∧ k = kP a b := by
  unfold kvN at h
  rw [List.getElem?_map] at h
  obtain ⟨⟨a, b⟩, hp, e⟩ := Option.map_eq_some_iff.mp h
  exact ⟨a, b, hp, (Prod.mk.inj e).1.symm⟩
/-- the least of some numbers and 99 -/
theorem foldmin_le : ∀ {l : List Nat} {z : Nat}, l.foldl min z ≤ z ∧ ∀ y ∈ l, l.foldl min z ≤ y
  | [], z => ⟨Nat.le_refl _, fun _ h => by cases h⟩
  | x :: l, z => by
    obtain ⟨h1, h2⟩ := foldmin_le (l := l) (z := min z x)
    refine ⟨Nat.le_trans h1 (Nat.min_le_left _ _), fun y hy => ?_⟩
    rcases List.mem_cons.mp hy with rfl | hy
    · exact Nat.le_trans h1 (Nat.min_le_right _ _)
    · exact h2 y hy
theorem foldmin_mem : ∀ {l : List Nat} {z : Nat}, l.foldl min z = z ∨ l.foldl min z ∈ l
  | [], z => .inl rfl
  | x :: l, z => by
    show l.foldl min (min z x) = z ∨ l.foldl min (min z x) ∈ x :: l
    rcases foldmin_mem (l := l) (z := min z x) with h | h
    · rcases Nat.le_total z x with c | c
      · left; rw [h, Nat.min_eq_left c]
      · right; rw [h, Nat.min_eq_right c]; exact List.mem_cons_self
    · exact .inr (List.mem_cons_of_mem _ h)
def belN (s t : KM.Sheet Str) (mk : Nat → Nat → Nat) (a b : Nat) : List Nat := ((KM.fl s a).zip (KM.fl t b)).map fun p => 1 + mk p.1 p.2
def nearN (s t : KM.Sheet Str) (mk : Nat → Nat → Nat) (a b : Nat) : Nat := (belN s t mk a b).foldl min 99
theorem near_is {s t : KM.Sheet Str} {mk : Nat → Nat → Nat} {a b : Nat} {m : Int} (h : m ∈ (99 :: belN s t mk a b).map fun n : Nat => (n : Int)) (hm : ∀ y ∈ (99 :: belN s t mk a b).map (fun n : Nat => (n : Int)), m ≤ y) : m = (nearN s t mk a b : Int) := by
  unfold nearN
  generalize belN s t mk a b = l at h hm
  obtain ⟨n, hn, rfl⟩ := List.mem_map.mp h
  have h1 : l.foldl min 99 ∈ 99 :: l := by
    rcases foldmin_mem (l := l) (z := 99) with e | e
    · rw [e]; exact List.mem_cons_self
    · exact List.mem_cons_of_mem _ e
  have h2 := hm _ (List.mem_map.mpr ⟨_, h1, rfl⟩)
  obtain ⟨g1, g2⟩ := foldmin_le (l := l) (z := 99)
  rcases List.mem_cons.mp hn with rfl | hn
  · omega
  · have := g2 n hn; omega
section
variable {s t : KM.Sheet Str} {mk : Nat → Nat → Nat} {ar : Str → Nat}
theorem belN_mem {a b n : Nat} : n ∈ belN s t mk a b ↔ ∃ (f x y : Nat), (KM.fl s a)[f]? = some x ∧ (KM.fl t b)[f]? = some y ∧ n = 1 + mk x y := by
  unfold belN
  rw [List.mem_map]
  constructor
  · rintro ⟨⟨x, y⟩, h, rfl⟩
    obtain ⟨f, hf⟩ := List.mem_iff_getElem?.mp h
    obtain ⟨h1, h2⟩ := List.getElem?_zip_eq_some.mp hf
    exact ⟨f, x, y, h1, h2, rfl⟩
  · rintro ⟨f, x, y, h1, h2, rfl⟩
    exact ⟨(x, y), List.mem_of_getElem? (List.getElem?_zip_eq_some.mpr ⟨h1, h2⟩), rfl⟩
/-- so far: never too small -/
structure Far (s t : KM.Sheet Str) (mk : Nat → Nat → Nat) : Prop where
  b : ∀ i j, mk i j ≤ 99
  z : ∀ i j, KM.tg s i ≠ KM.tg t j → mk i j = 0
  o : ∀ i j, mk i j < 99 → ¬ KM.eqv s t (mk i j + 1) i j
def mk0 (s t : KM.Sheet Str) (i j : Nat) : Nat := if KM.tg s i = KM.tg t j then 99 else 0
theorem Far.start : Far s t (mk0 s t) := by
  refine ⟨fun i j => ?_, fun i j h => if_neg h, fun i j h => ?_⟩
  · unfold mk0; split <;> decide
  · unfold mk0 at h ⊢
    by_cases e : KM.tg s i = KM.tg t j
    · rw [if_pos e] at h; omega
    · rw [if_neg e]; exact fun z => e z.1
theorem Far.near (F : Far s t mk) {i j : Nat} (h : KM.tg s i = KM.tg t j) (hn : nearN s t mk i j < 99) : ¬ KM.eqv s t (nearN s t mk i j + 1) i j := by
  unfold nearN at hn ⊢
  rcases foldmin_mem (l := belN s t mk i j) (z := 99) with e | e
  · omega
  · obtain ⟨f, x, y, h1, h2, h3⟩ := belN_mem.mp e
    rw [h3] at hn ⊢
    intro z
    refine F.o x y (by omega) ?_
    have := z.2 f x y h1 h2
    rwa [Nat.add_comm] at this
theorem near_le {i j : Nat} : nearN s t mk i j ≤ 99 := foldmin_le.1
def hitN (s t : KM.Sheet Str) (mk : Nat → Nat → Nat) (p : Nat × Nat) : Bool := decide (KM.tg s p.1 = KM.tg t p.2) && decide (nearN s t mk p.1 p.2 < mk p.1 p.2)
abbrev mkN (s t : KM.Sheet Str) (mk : Nat → Nat → Nat) (hits : List (Nat × Nat)) (x y : Nat) : Nat := if (x, y) ∈ hits then nearN s t mk x y else mk x y
theorem Far.next (F : Far s t mk) {hits : List (Nat × Nat)} (hh : ∀ p ∈ hits, hitN s t mk p = true) : Far s t (mkN s t mk hits) := by
  have key : ∀ {x y}, (x, y) ∈ hits → KM.tg s x = KM.tg t y := fun h => of_decide_eq_true (Bool.and_eq_true_iff.mp (hh _ h)).1
  refine ⟨fun i j => ?_, fun i j h => ?_, fun i j h => ?_⟩
  · unfold mkN
    by_cases c : (i, j) ∈ hits
    · rw [if_pos c]; exact near_le
    · rw [if_neg c]; exact F.b i j
  · unfold mkN
    by_cases c : (i, j) ∈ hits
    · exact absurd (key c) h
    · rw [if_neg c]; exact F.z i j h
  · unfold mkN at h ⊢
    by_cases c : (i, j) ∈ hits
    · rw [if_pos c] at h ⊢; exact F.near (key c) h
    · rw [if_neg c] at h ⊢; exact F.o i j h
/-- the lengths: the least n with a path of length n that parts, below 99 -/
structure Dist (s t : KM.Sheet Str) (mk : Nat → Nat → Nat) : Prop where
  b : ∀ i j, mk i j ≤ 99
  d : ∀ i j n, i < s.length → j < t.length → n < 99 → (mk i j ≤ n ↔ ¬ KM.eqv s t (n + 1) i j)
theorem eqv_le {n m i j : Nat} (h : n ≤ m) (e : KM.eqv s t m i j) : KM.eqv s t n i j := by
  have : m = n + (m - n) := by omega
  rw [this] at e
  exact e.le
theorem Far.done (F : Far s t mk) (hs : KM.Ok ar s) (ht : KM.Ok ar t) (h : ∀ p ∈ pr t.length s.length, hitN s t mk p = false) : Dist s t mk := by
  refine ⟨F.b, fun i j n hi hj hn => ⟨fun hl z => F.o i j (by omega) (eqv_le (by omega) z), fun hz => ?_⟩⟩
  induction n generalizing i j with
  | zero =>
    have : KM.tg s i ≠ KM.tg t j := fun e => hz ⟨e, fun _ _ _ _ _ => trivial⟩
    rw [F.z i j this]; exact Nat.le_refl 0
  | succ n ih =>
    by_cases e : KM.tg s i = KM.tg t j
    · have : ∃ f x y, (KM.fl s i)[f]? = some x ∧ (KM.fl t j)[f]? = some y ∧ ¬ KM.eqv s t (n + 1) x y := Classical.byContradiction fun c => hz ⟨e, fun f x y hx hy => Classical.byContradiction fun g => c ⟨f, x, y, hx, hy, g⟩⟩
      obtain ⟨f, x, y, hx, hy, g⟩ := this
      have h1 := ih x y (hs.fld (List.mem_of_getElem? hx)) (ht.fld (List.mem_of_getElem? hy)) (by omega) g
      have h2 := h (i, j) (pr_mem.mpr ⟨hi, hj⟩)
      unfold hitN at h2
      rw [decide_eq_true e, Bool.true_and, decide_eq_false_iff_not] at h2
      have h3 : nearN s t mk i j ≤ 1 + mk x y := foldmin_le.2 _ (belN_mem.mpr ⟨f, x, y, hx, hy, rfl⟩)
      show mk i j ≤ n + 1
      have h2 : ¬ nearN s t mk i j < mk i j := h2
      omega
    · rw [F.z i j e]; exact Nat.zero_le _
def sumN (ps : List (Nat × Nat)) (mk : Nat → Nat → Nat) : Nat := (ps.map fun p => mk p.1 p.2).sum
theorem sumN_le {mk' : Nat → Nat → Nat} : ∀ {ps : List (Nat × Nat)}, (∀ p ∈ ps, mk' p.1 p.2 ≤ mk p.1 p.2) → sumN ps mk' ≤ sumN ps mk ∧ ((∃ p ∈ ps, mk' p.1 p.2 < mk p.1 p.2) → sumN ps mk' < sumN ps mk)
  | [], _ => ⟨Nat.le_refl _, fun ⟨_, h, _⟩ => by cases h⟩
  | p :: ps, h => by
    obtain ⟨h1, h2⟩ := sumN_le (ps := ps) fun q hq => h q (List.mem_cons_of_mem _ hq)
    have h0 := h p List.mem_cons_self
    have e1 : sumN (p :: ps) mk' = mk' p.1 p.2 + sumN ps mk' := by unfold sumN; rw [List.map_cons, List.sum_cons]
    have e2 : sumN (p :: ps) mk = mk p.1 p.2 + sumN ps mk := by unfold sumN; rw [List.map_cons, List.sum_cons]
    rw [e1, e2]
    refine ⟨by omega, fun ⟨q, hq, hl⟩ => ?_⟩
    rcases List.mem_cons.mp hq with rfl | hq
    · omega
    · have := h2 ⟨q, hq, hl⟩; omega
theorem sum_falls {ps hits : List (Nat × Nat)} (hh : ∀ p ∈ hits, p ∈ ps ∧ hitN s t mk p = true) (hne : hits ≠ []) : sumN ps (mkN s t mk hits) < sumN ps mk := by
  have key : ∀ {x y}, (x, y) ∈ hits → nearN s t mk x y < mk x y := fun h => of_decide_eq_true (Bool.and_eq_true_iff.mp (hh _ h).2).2
  refine (sumN_le fun p _ => ?_).2 ?_
  · unfold mkN
    by_cases c : (p.1, p.2) ∈ hits
    · rw [if_pos c]; exact Nat.le_of_lt (key c)
    · rw [if_neg c]; exact Nat.le_refl _
  · obtain ⟨⟨x, y⟩, hp⟩ := List.exists_mem_of_ne_nil _ hne
    refine ⟨(x, y), (hh _ hp).1, ?_⟩
    unfold mkN
    rw [if_pos hp]; exact key hp
end
theorem pr_nodup {n : Nat} : ∀ {i : Nat}, (pr n i).Nodup
  | 0 => by unfold pr; simp
  | i + 1 => by
    rw [pr_succ]
    refine List.nodup_append.mpr ⟨pr_nodup, ?_, fun x hx y hy => ?_⟩
    · exact List.Pairwise.map _ (fun a b h z => h (Prod.mk.inj z).2) List.nodup_range
    · obtain ⟨b, _, rfl⟩ := List.mem_map.mp hy
      obtain ⟨u, v⟩ := x
      have := (pr_mem.mp hx).1
      intro z
      have := (Prod.mk.inj z).1
      omega
def spDist (K : PySem.W.Frag) : Sp := fun vs H Q _ => ∃ (ra rb : Addr) (s t : KM.Sheet Str) (G : Hp), vs = [.ref ra, .ref rb] ∧ Ex G H ∧ Da K G (.ref ra) (sheetD s) ∧ Da K G (.ref rb) (sheetD t) ∧ Two s t ∧ s.length ≤ 110 ∧ t.length ≤ 110 ∧
  ∀ (H' : Hp) (md : Addr) (mk : Nat → Nat → Nat), Ex H H' → H md = none → H' md = some (.dT (kvN (pr t.length s.length) mk)) → Dist s t mk → Q (.ref md) H'
theorem ok__law_distances (T : Txt K mg) : FnG P w K mg base CX0 1 T.a__law_distances T.d__law_distances ["_law_rows_here", "_law_far"] (spDist K) := by
  refine okG T.F__law_distances sc__law_distances (fun vs H Q E h => ?_) fun cdv A outer s0 H vs Q E hr hq h => ?_
  · obtain ⟨ra, rb, s, t, G, rfl, _⟩ := h
    rfl
  obtain ⟨ra, rb, s, t, G, rfl, eg, x1, x2, h2, hsl, htl, q⟩ := h
  have hu := hr.units
  have hu1 := hu_of hr
  have huL : (A.deeper (envOfC "_law_distances" (defScope s__law_distances) s0.heap.objs.size T.a__law_distances cdv)).units < cLine := by omega
  obtain ⟨ar, ok1, ok2⟩ := h2.ok
  obtain ⟨rvs, hra, hrv, hrl⟩ := tupAt x1
  obtain ⟨rws, hrb, hrw, hwl⟩ := tupAt x2
  have row1 := fun {i : Nat} (hi : i < s.length) => rowG hrv hi
  have row2 := fun {i : Nat} (hi : i < t.length) => rowG hrw hi
  have hpl : (pr t.length s.length).length ≤ 110 * 110 := by rw [pr_length]; exact Nat.mul_le_mul hsl htl
  refine ⟨_, (pss_cons (ps_set (i := 2) sc__law_distances.nd rfl (.inr rfl) pe_dnewT)
    (pss_cons (ps_for PassesOwn.never rfl (pi_range1 (by rfl) T.m_range (pa_cons (pe_callB (call_lenK K) (by rfl) T.m_len PySem.boot_len (pa_cons (pv 0) pa_nil)) pa_nil)) (pg_name (i := 3) sc__law_distances.nd rfl (.inl rfl))
    (pss_one (ps_for PassesOwn.never rfl (pi_range1 (by rfl) T.m_range (pa_cons (pe_callB (call_lenK K) (by rfl) T.m_len PySem.boot_len (pa_cons (pv 1) pa_nil)) pa_nil)) (pg_name (i := 4) sc__law_distances.nd rfl (.inl rfl))
    (pss_one (ps_dput hu1 (pv 2) (pe_tup (pa_cons (pv 3) (pa_cons (pv 4) pa_nil))) (pe_ifExp (pt_cmpR op_eq (pe_ix (ix_tupK K) (pe_ix (ix_tupK K) (pv 0) (pv 3) (fun _ _ => rfl)) pe_int (fun _ _ => rfl)) (pe_ix (ix_tupK K) (pe_ix (ix_tupK K) (pv 1) (pv 4) (fun _ _ => rfl)) pe_int (fun _ _ => rfl)) (nomark _)) pe_int pe_int) rfl)))))
    (pss_one (ps_while PassesOwn.never (pt_val pe_bl)
    (pss_cons (ps_set (i := 5) sc__law_distances.nd rfl (.inl rfl) pe_dnewT)
    (pss_cons (ps_lock (ps_for PassesOwn.never rfl (pi_keys (pv 2)) (pg_tupK K rfl (pgs_cons (pg_name (i := 3) sc__law_distances.nd rfl (.inl rfl)) (pgs_cons (pg_name (i := 4) sc__law_distances.nd rfl (.inl rfl)) pgs_nil)))
    (pss_one (ps_if (pt_cmpR op_eq (pe_ix (ix_tupK K) (pe_ix (ix_tupK K) (pv 0) (pv 3) (fun _ _ => rfl)) pe_int (fun _ _ => rfl)) (pe_ix (ix_tupK K) (pe_ix (ix_tupK K) (pv 1) (pv 4) (fun _ _ => rfl)) pe_int (fun _ _ => rfl)) (nomark _))
    (pss_cons (ps_set (i := 6) sc__law_distances.nd rfl (.inl rfl) (pe_callB (cr_minK' K rfl) (by rfl) T.m_min (by decide +kernel) (pa_cons (pe_op op_cat (pe_lst (pa_cons pe_int pa_nil)) (pe_lc (own := [("_law_pair", 7)]) (g := gName 7) (tt := tYes) rfl sc__law_distances.nd  (pi_zipNK K (by rfl) T.m_zip (pa_cons (pe_ix (ix_tupK K) (pe_ix (ix_tupK K) (pv 0) (pv 3) (fun _ _ => rfl)) pe_int (fun _ _ => rfl)) (pa_cons (pe_ix (ix_tupK K) (pe_ix (ix_tupK K) (pv 1) (pv 4) (fun _ _ => rfl)) pe_int (fun _ _ => rfl)) pa_nil))) (blkOk_by (N := N__law_distances) (sc := defScope s__law_distances) (by decide +kernel)) (fun _ _ _ _ _ => (pg_name (i := 7) sc__law_distances.nd rfl (.inl rfl))) (fun _ _ _ _ _ => pts_nil) (fun _ _ _ _ _ => (pe_op op_add pe_int (pe_dget hu1 (pv 2) (pv 7) (fun _ _ => rfl)))))) pa_nil)))
    (pss_one (ps_if (pt_cmpR op_lt (pv 6) (pe_dget hu1 (pv 2) (pe_tup (pa_cons (pv 3) (pa_cons (pv 4) pa_nil))) (fun _ _ => rfl)) (nomark _))
    (pss_one (ps_dput hu1 (pv 5) (pe_tup (pa_cons (pv 3) (pa_cons (pv 4) pa_nil))) (pv 6) rfl))
    pss_nil)))
    pss_nil))))
    (pss_cons (ps_if (pt_cmpR (op_eqD0 huL) (pv 5) pe_dnewT (nomark _))
    (pss_one (ps_ret (pv 2)))
    pss_nil)
    (pss_one (ps_expr (pe_bm PySem.F.plainAttrs_dict PySem.F.slot_dict_update PySem.F.type_dict_update (mt_updateT hu1) (pv 2) (pa_cons (pv 5) pa_nil))))))))))), ?_⟩
  intro md hmd
  dsimp only
  refine seq_with (fun σ H' => ∃ (o3 o4 : Option V), σ = [some (.ref ra), some (.ref rb), some (.ref md), o3, o4, none, none, none] ∧ Ex H H' ∧ H' md = some (.dT (kvN (pr t.length s.length) (mk0 s t)))) (fun σ H1 hP => ?_) (fun U hU => ?_)
  · obtain ⟨o3, o4, rfl, e1, hm1⟩ := hP
    refine ⟨fun m σ H' => ∃ (o3 o4 o5 o6 o7 : Option V) (mk : Nat → Nat → Nat), σ = [some (.ref ra), some (.ref rb), some (.ref md), o3, o4, o5, o6, o7] ∧ Ex H H' ∧ H' md = some (.dT (kvN (pr t.length s.length) mk)) ∧ Far s t mk ∧ m = sumN (pr t.length s.length) mk,
      ⟨_, o3, o4, none, none, none, mk0 s t, rfl, e1, hm1, Far.start, rfl⟩, fun m σ H2 w => ?_⟩
    obtain ⟨o3, o4, o5, o6, o7, mk, rfl, e2, hm2, F2, rfl⟩ := w
    refine ⟨_, rfl, ?_⟩
    dsimp only
    rw [if_pos rfl]
    refine ⟨fun σ' H'' => ∃ m', m' < sumN (pr t.length s.length) mk ∧ _, fun _ _ h => h, ?_⟩
    refine fun ml hml => ?_
    have nmm : ml ≠ md := fun z => by rw [z, hm2] at hml; cases hml
    have e3 : Ex H2 (upd H2 ml (.dT [])) := Ex.up hml
    have hm3 := e3 _ _ hm2
    have eH3 := e2.tr e3
    have hml3 : (upd H2 ml (.dT [])) ml = some (.dT []) := upd_same
    have hml0 : H ml = none := e2.fresh hml
    generalize upd H2 ml (.dT []) = H3 at hm3 eH3 hml3
    dsimp only
    refine ⟨md, _, hm3, trivial, fun od => ?_⟩
    have e4 : Ex H (upd H3 md (.frz od (.dT (kvN (pr t.length s.length) mk)))) := eH3.at hmd
    refine ⟨.ref md, rfl, md, od, rfl, .inr ⟨_, upd_same, ?_⟩⟩
    refine for_it (walk_keysT (d := md) (o := od) (kvs := kvN (pr t.length s.length) mk)) (fun i σ H' => ∃ (o3 o4 o6 o7 : Option V), σ = [some (.ref ra), some (.ref rb), some (.ref md), o3, o4, some (.ref ml), o6, o7] ∧ Ex H H' ∧
        H' md = some (.frz od (.dT (kvN (pr t.length s.length) mk))) ∧ H' ml = some (.dT (kvN (((pr t.length s.length).take i).filter (hitN s t mk)) (nearN s t mk))))
      ⟨o3, o4, o6, o7, rfl, e4, upd_same, by rw [upd_ne nmm]; exact hml3⟩ (fun i σ H' _ ⟨_, _, _, _, _, _, h, _⟩ => h) (fun i x σ H' H6 hi hP hY => ?_) (fun σ H' hP => ?_)
    · obtain ⟨o3, o4, o6, o7, rfl, e5, hfz, hl5⟩ := hP
      obtain ⟨rfl, k, v, q0, hkv, rfl, hq0⟩ := hY
      obtain ⟨a, b, hp, rfl⟩ := kvN_get hkv
      obtain ⟨ha, hb⟩ := pr_mem.mp (List.mem_of_getElem? hp)
      have tk : (pr t.length s.length).take (i + 1) = (pr t.length s.length).take i ++ [(a, b)] := by rw [List.take_add_one, hp]; rfl
      have hq0 : H6 q0 = some (.tup [vN a, vN b]) := hq0
      have g1 : ∀ {x o}, G x = some o → H6 x = some o := fun h => e5 _ _ (eg _ _ h)
      obtain ⟨r1, fa1, t1, fs1, p1, p2, p3, p4⟩ := row1 ha
      obtain ⟨r2, fa2, t2, fs2, q1, q2, q3, q4⟩ := row2 hb
      have mget : ∀ {H6 : Hp} {x y : Nat} {Tk : Addr}, H6 md = some (.frz od (.dT (kvN (pr t.length s.length) mk))) → H6 Tk = some (.tup [vN x, vN y]) → x < s.length → y < t.length → DGet H6 md (.ref Tk) (some (vN (mk x y))) := fun {H6 x y Tk} h1 h2 hx hy => by
        refine .inr ⟨_, kP x y, Tk, .inr ⟨od, h1⟩, rfl, h2, ?_⟩
        rw [valV_kvN, if_pos (pr_mem.mpr ⟨hx, hy⟩)]
      refine ⟨q0, _, rfl, SqT.of hq0, rfl, _, _, rfl, _, _, rfl, rfl, ?_⟩
      refine ⟨.ref ra, rfl, vN a, rfl, ra, _, _, .ref r1, rfl, rfl, SqT.of (g1 hra), atI_nat p2, r1, _, _, .str t1, rfl, rfl, SqT.of (g1 p3), rfl, .ref rb, rfl, vN b, rfl, rb, _, _, .ref r2, rfl, rfl, SqT.of (g1 hrb), atI_nat q2, r2, _, _, .str t2, rfl, rfl, SqT.of (g1 q3), rfl, rfl, ?_⟩
      refine ⟨_, rfl, ?_⟩
      rw [tag_eq p1 q1]
      by_cases e : KM.tg s a = KM.tg t b
      · rw [decide_eq_true e]
        refine iteT ?_
        have hll := ok1.len ok2 e
        rw [KM.fl_at p1, KM.fl_at q1] at hll
        have hll : fs1.length = fs2.length := hll
        try dsimp only
        refine tSeq_go ?_
        have hbel : belN s t mk a b = (fs1.zip fs2).map fun p => 1 + mk p.1 p.2 := by unfold belN; rw [KM.fl_at p1, KM.fl_at q1]
        have hzlt : ∀ {j x y : Nat}, fs1[j]? = some x → fs2[j]? = some y → x < s.length ∧ y < t.length := fun {j x y} h1 h2 => ⟨ok1.f _ (List.mem_of_getElem? p1) x (List.mem_of_getElem? h1), ok2.f _ (List.mem_of_getElem? q1) y (List.mem_of_getElem? h2)⟩
        have hf3 : fs1.length ≤ 3 := h2.zs.f _ (List.mem_of_getElem? p1)
        refine ⟨(by show 1 ≤ sizeLine; decide), fun L1 hL1 => ?_⟩
        have e67 : Ex H6 (upd H6 L1 (.lst [.int 99])) := Ex.up hL1
        have hL17 : (upd H6 L1 (.lst [.int 99])) L1 = some (.lst [.int 99]) := upd_same
        revert e67 hL17
        generalize (upd H6 L1 (.lst [.int 99])) = H7
        intro e67 hL17
        have g7 : ∀ {x o}, G x = some o → H7 x = some o := fun h => e67 _ _ (g1 h)
        refine ⟨.ref ra, rfl, vN a, rfl, ra, _, _, .ref r1, rfl, rfl, SqT.of (g7 hra), atI_nat p2, r1, _, _, .ref fa1, rfl, rfl, SqT.of (g7 p3), rfl, .ref rb, rfl, vN b, rfl, rb, _, _, .ref r2, rfl, rfl, SqT.of (g7 hrb), atI_nat q2, r2, _, _, .ref fa2, rfl, rfl, SqT.of (g7 q3), rfl, fa1, fa2, _, _, rfl, SqT.of (g7 p4), SqT.of (g7 q4), fun D hD => ?_⟩
        have hlz : (fs1.map vN).length = (fs2.map vN).length := by rw [List.length_map, List.length_map]; exact hll
        have e78 : Ex H7 (upd H7 D (.lst [])) := Ex.up hD
        refine lc_it (walk_zipN (K := K) (a := fa1) (b := fa2) hlz) (fun j H' => Fr [D] (upd H7 D (.lst [])) H' ∧ H' D = some (.lst (((fs1.zip fs2).take j).map fun p => vN (1 + mk p.1 p.2)))) ⟨Fr.rf, upd_same⟩ (fun j H' _ hP => ?_) (fun j x H8 H9 hj hP hY => ?_) (fun H8 hP => ?_)
        · have h : ∀ {x o}, H7 x = some o → H' x = some o := fun {x o} h => hP.1 x o (by rw [List.mem_singleton]; exact ne_of_none h hD) (e78 _ _ h)
          exact ⟨SqT.of (h (g7 p4)), SqT.of (h (g7 q4))⟩
        · obtain ⟨fr8, hD8⟩ := hP
          obtain ⟨T1, w1, w2, rfl, hT1, rfl, c1, c2⟩ := hY
          have c1 : (fs1.map vN)[j]? = some w1 := c1
          have c2 : (fs2.map vN)[j]? = some w2 := c2
          rw [List.getElem?_map] at c1 c2
          obtain ⟨x, hx, rfl⟩ := Option.map_eq_some_iff.mp c1
          obtain ⟨y, hy, rfl⟩ := Option.map_eq_some_iff.mp c2
          obtain ⟨hxs, hyt⟩ := hzlt hx hy
          have keep : ∀ {x o}, H7 x = some o → (upd H8 T1 (.tup [vN x, vN y])) x = some o := fun {x o} h => Ex.up hT1 _ _ (fr8 x o (by rw [List.mem_singleton]; exact ne_of_none h hD) (e78 _ _ h))
          have e89 : Ex H8 (upd H8 T1 (.tup [vN x, vN y])) := Ex.up hT1
          have hmd9 := e89 _ _ (fr8 md _ (by rw [List.mem_singleton]; exact ne_of_none (e67 _ _ hfz) hD) (e78 _ _ (e67 _ _ hfz)))
          have hT19 : (upd H8 T1 (.tup [vN x, vN y])) T1 = some (.tup [vN x, vN y]) := upd_same
          have hD9 := e89 _ _ hD8
          refine ⟨rfl, yes_if ?_⟩
          refine ⟨.ref md, rfl, .ref T1, rfl, md, vN (mk x y), rfl, mget hmd9 hT19 hxs hyt, 1, _, rfl, rfl, _, hD9, ?_, ?_, ?_⟩
          · rw [List.length_map]
            refine Nat.lt_of_le_of_lt (?_ : _ ≤ 3) (by decide)
            rw [List.length_take, List.length_zip]
            omega
          · exact (fr8.tr (Fr.of e89)).upd (.inl (by simp))
          · rw [upd_same]
            have tk : (fs1.zip fs2).take (j + 1) = (fs1.zip fs2).take j ++ [(x, y)] := by
              rw [List.take_add_one, (List.getElem?_zip_eq_some.mpr ⟨hx, hy⟩ : (fs1.zip fs2)[j]? = some (x, y))]; rfl
            rw [tk, List.map_append]
            have e : V.int (1 + (mk x y : Int)) = vN (1 + mk x y) := by
              show V.int _ = V.int _
              congr 1
            show some (HO.lst (_ ++ [V.int (1 + (mk x y : Int))])) = _
            rw [e]; rfl
        · obtain ⟨fr8, hD8⟩ := hP
          have hz2 : (fs1.zip fs2).take (fs1.map vN).length = fs1.zip fs2 := by
            rw [List.length_map]
            refine List.take_of_length_le ?_
            rw [List.length_zip]; omega
          rw [hz2] at hD8
          have keep : ∀ {x o}, H7 x = some o → H8 x = some o := fun {x o} h => fr8 x o (by rw [List.mem_singleton]; exact ne_of_none h hD) (e78 _ _ h)
          have hL18 := keep hL17
          have hmd8 := keep (e67 _ _ hfz)
          have hml8 := keep (e67 _ _ hl5)
          have eH8 : Ex H H8 := fun x o h => keep (e67 _ _ (e5 _ _ h))
          have hns : [V.int 99] ++ ((fs1.zip fs2).map fun p => vN (1 + mk p.1 p.2)) = ((99 :: belN s t mk a b).map fun n : Nat => (n : Int)).map V.int := by
            rw [hbel, List.map_cons, List.map_cons, List.map_map, List.map_map]; rfl
          refine ⟨L1, D, _, _, rfl, rfl, hL18, hD8, ?_, fun P hP => ?_⟩
          · rw [List.length_map, List.length_zip]
            refine Nat.le_trans (?_ : _ ≤ 4) (by decide)
            show 1 + _ ≤ 4
            omega
          · have e89 : Ex H8 (upd H8 P (.lst ([V.int 99] ++ ((fs1.zip fs2).map fun p => vN (1 + mk p.1 p.2))))) := Ex.up hP
            have hP9 : (upd H8 P (.lst ([V.int 99] ++ ((fs1.zip fs2).map fun p => vN (1 + mk p.1 p.2))))) P = some (.lst (((99 :: belN s t mk a b).map fun n : Nat => (n : Int)).map V.int)) := by rw [upd_same, hns]
            revert e89 hP9
            generalize (upd H8 P (.lst ([V.int 99] ++ ((fs1.zip fs2).map fun p => vN (1 + mk p.1 p.2))))) = H9
            intro e89 hP9
            refine ⟨P, _, rfl, SqL.of hP9, by simp, fun m hm hmin => ?_⟩
            have hmn := near_is hm hmin
            subst hmn
            have hmd9 := e89 _ _ hmd8
            have hml9 := e89 _ _ hml8
            have eH9 := eH8.tr e89
            try dsimp only
            refine ⟨_, rfl, .ref md, rfl, vN a, rfl, vN b, rfl, (by show 2 ≤ sizeLine; decide), fun Tk hTk => ?_⟩
            have e910 : Ex H9 (upd H9 Tk (.tup [vN a, vN b])) := Ex.up hTk
            have hTk10 : (upd H9 Tk (.tup [vN a, vN b])) Tk = some (.tup [vN a, vN b]) := upd_same
            revert e910 hTk10
            generalize (upd H9 Tk (.tup [vN a, vN b])) = H10
            intro e910 hTk10
            have hmd10 := e910 _ _ hmd9
            have hml10 := e910 _ _ hml9
            have eH10 := eH9.tr e910
            refine ⟨md, vN (mk a b), rfl, mget hmd10 hTk10 ha hb, _, _, rfl, rfl, _, rfl, ?_⟩
            have hcmp : decide ((nearN s t mk a b : Int) < (mk a b : Int)) = decide (nearN s t mk a b < mk a b) := by
              by_cases c : nearN s t mk a b < mk a b
              · rw [decide_eq_true c]; exact decide_eq_true (by omega)
              · rw [decide_eq_false c]; exact decide_eq_false (by omega)
            rw [hcmp]
            by_cases c : nearN s t mk a b < mk a b
            · rw [decide_eq_true c]
              refine iteT ⟨_, rfl, .ref ml, rfl, vN a, rfl, vN b, rfl, (by show 2 ≤ sizeLine; decide), fun Tq hTq => ?_⟩
              have e11 : Ex H10 (upd H10 Tq (.tup [vN a, vN b])) := Ex.up hTq
              have hnew : valV (kvN (((pr t.length s.length).take i).filter (hitN s t mk)) (nearN s t mk)) (kP a b) = none := by
                rw [valV_kvN, if_neg]
                intro hm
                obtain ⟨j, hj⟩ := List.mem_iff_getElem?.mp (List.mem_filter.mp hm).1
                have hji := (List.getElem?_eq_some_iff.mp hj).1
                rw [List.length_take] at hji
                rw [List.getElem?_take_of_lt (by omega)] at hj
                have hnd := pr_nodup (n := t.length) (i := s.length)
                have := (List.getElem?_inj (List.getElem?_eq_some_iff.mp hj).1 hnd).mp (hj.trans hp.symm)
                omega
              have hput := DPut.t (H := upd H10 Tq (.tup [vN a, vN b])) (k := kP a b) (b := Tq) (v := vN (nearN s t mk a b)) (e11 _ _ hml10) upd_same (by
                rw [kvN_length]
                refine Nat.lt_of_le_of_lt (List.length_filter_le _ _) ?_
                rw [List.length_take]
                exact Nat.lt_of_le_of_lt (Nat.le_trans (Nat.min_le_right _ _) hpl) (by decide))
              rw [putK_new _ hnew] at hput
              have ek : kvN (((pr t.length s.length).take i).filter (hitN s t mk)) (nearN s t mk) ++ [(kP a b, vN (nearN s t mk a b))] = kvN (((pr t.length s.length).take (i + 1)).filter (hitN s t mk)) (nearN s t mk) := by
                rw [tk, List.filter_append, List.filter_cons, List.filter_nil, if_pos (by unfold hitN; rw [decide_eq_true e, decide_eq_true c]; rfl)]
                unfold kvN
                rw [List.map_append]; rfl
              rw [ek] at hput
              refine ⟨ml, _, rfl, hput, _, _, _, _, rfl, (eH10.tr e11).at hml0, ?_, upd_same⟩
              rw [upd_ne nmm.symm]
              exact e11 _ _ hmd10
            · rw [decide_eq_false c]
              refine iteF ⟨_, _, _, _, rfl, eH10, hmd10, ?_⟩
              rw [tk, List.filter_append, List.filter_cons, List.filter_nil, if_neg (by unfold hitN; rw [decide_eq_false c]; simp), List.append_nil]
              exact hml10
      · rw [decide_eq_false e]
        refine iteF ⟨_, _, _, _, rfl, e5, hfz, ?_⟩
        rw [tk, List.filter_append, List.filter_cons, List.filter_nil, if_neg (by unfold hitN; rw [decide_eq_false e]; simp), List.append_nil]
        exact hl5
    · obtain ⟨o3, o4, o6, o7, rfl, e5, hfz, hl5⟩ := hP
      rw [kvN_length, List.take_length] at hl5
      have hml' : (upd H' md (.dT (kvN (pr t.length s.length) mk))) ml = some (.dT (kvN ((pr t.length s.length).filter (hitN s t mk)) (nearN s t mk))) := by rw [upd_ne nmm]; exact hl5
      have hmd' : (upd H' md (.dT (kvN (pr t.length s.length) mk))) md = some (.dT (kvN (pr t.length s.length) mk)) := upd_same
      have eH' : Ex H (upd H' md (.dT (kvN (pr t.length s.length) mk))) := e5.at hmd
      refine ⟨hfz, ?_⟩
      revert hml' hmd' eH'
      generalize upd H' md (.dT (kvN (pr t.length s.length) mk)) = H7
      intro hml' hmd' eH'
      dsimp only
      refine tSeq_go ?_
      refine ⟨.ref ml, rfl, fun em hem => ⟨ml, em, _, rfl, rfl, Ex.up hem _ _ hml', upd_same, _, rfl, ?_⟩⟩
      have e78 : Ex H7 (upd H7 em (.dT [])) := Ex.up hem
      have hmd8 := e78 _ _ hmd'
      have hml8 := e78 _ _ hml'
      have eH8 := eH'.tr e78
      revert hmd8 hml8 eH8
      generalize upd H7 em (.dT []) = H8
      intro hmd8 hml8 eH8
      generalize hhits : (pr t.length s.length).filter (hitN s t mk) = hits
      have hin : ∀ p ∈ hits, p ∈ pr t.length s.length ∧ hitN s t mk p = true := fun p hp => by
        rw [← hhits] at hp
        exact List.mem_filter.mp hp
      rw [hhits] at hml8
      cases hits with
      | nil =>
        refine iteT ⟨.ref md, rfl, ?_⟩
        refine q H8 md mk eH8 hmd hmd8 (F2.done ok1 ok2 fun p hp => ?_)
        cases c : hitN s t mk p with
        | false => rfl
        | true =>
          have := List.mem_filter.mpr ⟨hp, c⟩
          rw [hhits] at this
          cases this
      | cons h0 hits =>
        refine iteF ?_
        refine ⟨.ref md, rfl, .inr (.inr (.inl ⟨rfl, .inr ⟨_, hmd8⟩⟩)), .ref ml, rfl, md, ml, _, _, rfl, rfl, nmm.symm, hmd8, hml8, fun z => ?_, ?_, ?_⟩
        · have h1 : (0, 0) ∈ pr t.length s.length := pr_mem.mpr ⟨h2.zs.p, h2.zt.p⟩
          have h3 := congrArg List.length z
          rw [kvN_length] at h3
          rw [List.length_eq_zero_iff.mp h3] at h1
          cases h1
        · rw [kvN_length, kvN_length]
          have : (h0 :: hits).length ≤ (pr t.length s.length).length := by rw [← hhits]; exact List.length_filter_le _ _
          refine Nat.le_trans (?_ : _ ≤ 2 * (110 * 110)) (by decide)
          omega
        · rw [merge_kvN fun p hp => (hin p hp).1]
          refine ⟨sumN (pr t.length s.length) (mkN s t mk (h0 :: hits)), sum_falls hin (by simp), _, _, _, _, _, mkN s t mk (h0 :: hits), rfl, eH8.at hmd, upd_same, F2.next fun p hp => (hin p hp).2, rfl⟩
  · have e1 : Ex H (upd H md (.dT [])) := Ex.up hmd
    refine ⟨.ref ra, rfl, ra, rvs, rfl, .inr (SqT.of (e1 _ _ (eg _ _ hra))), ((rvs.length : Nat) : Int), rfl, by omega, by omega, ?_⟩
    refine for_range (lo := 0) (n := (((rvs.length : Nat) : Int)).toNat) (fun i σ H' => ∃ (o3 o4 : Option V), σ = [some (.ref ra), some (.ref rb), some (.ref md), o3, o4, none, none, none] ∧ Ex H H' ∧ H' md = some (.dT (kvN (pr t.length i) (mk0 s t))))
      ⟨none, none, rfl, e1, upd_same⟩ (fun i σ H' hi hP => ?_) (fun σ H' hP => ?_)
    · obtain ⟨o3, o4, rfl, e', hk⟩ := hP
      have hi : i < s.length := by omega
      refine ⟨.ref rb, rfl, rb, rws, rfl, .inr (SqT.of (e' _ _ (eg _ _ hrb))), ((rws.length : Nat) : Int), rfl, by omega, by omega, ?_⟩
      refine for_range (lo := 0) (n := (((rws.length : Nat) : Int)).toNat) (fun j σ H' => ∃ (o4 : Option V), σ = [some (.ref ra), some (.ref rb), some (.ref md), some (.int (0 + (i : Int))), o4, none, none, none] ∧ Ex H H' ∧ H' md = some (.dT (kvN (pr t.length i ++ (List.range j).map (Prod.mk i)) (mk0 s t))))
        ⟨o4, rfl, e', by rw [List.range_zero, List.map_nil, List.append_nil]; exact hk⟩ (fun j σ H' hj hP => ?_) (fun σ H' hP => ?_)
      · obtain ⟨o4, rfl, e', hk⟩ := hP
        have hj : j < t.length := by omega
        obtain ⟨r1, fa1, t1, fs1, p1, p2, p3, p4⟩ := row1 hi
        obtain ⟨r2, fa2, t2, fs2, q1, q2, q3, q4⟩ := row2 hj
        have g1 : ∀ {x o}, G x = some o → H' x = some o := fun h => e' _ _ (eg _ _ h)
        have z1 : (0 + (i : Int)) = (i : Int) := Int.zero_add _
        have z2 : (0 + (j : Int)) = (j : Int) := Int.zero_add _
        rw [z1, z2]
        have hlk : (kvN (pr t.length i ++ (List.range j).map (Prod.mk i)) (mk0 s t)).length < sizeLine := by
          rw [kvN_length, List.length_append, pr_length, List.length_map, List.length_range]
          refine Nat.lt_of_le_of_lt (?_ : _ ≤ 110 * 110 + 110) (by decide)
          have : i * t.length ≤ 110 * 110 := Nat.mul_le_mul (by omega) htl
          omega
        have hnew : valV (kvN (pr t.length i ++ (List.range j).map (Prod.mk i)) (mk0 s t)) (kP i j) = none := by
          rw [valV_kvN, if_neg]
          intro hm
          rcases List.mem_append.mp hm with h | h
          · have := (pr_mem.mp h).1; omega
          · obtain ⟨y, hy, e⟩ := List.mem_map.mp h
            have := List.mem_range.mp hy
            have e2 := (Prod.mk.inj e).2
            omega
        have fin : ∀ H'' : Hp, Ex H' H'' → ∀ Tk : Addr, H'' Tk = none → DPut (upd H'' Tk (.tup [vN i, vN j])) md (.ref Tk) (vN (mk0 s t i j)) (upd (upd H'' Tk (.tup [vN i, vN j])) md (.dT (kvN (pr t.length i ++ (List.range (j + 1)).map (Prod.mk i)) (mk0 s t)))) ∧
            Ex H (upd (upd H'' Tk (.tup [vN i, vN j])) md (.dT (kvN (pr t.length i ++ (List.range (j + 1)).map (Prod.mk i)) (mk0 s t)))) := fun H'' e Tk hTk => by
          refine ⟨?_, ((e'.tr e).tr (Ex.up hTk)).at hmd⟩
          have h := DPut.t (H := upd H'' Tk (.tup [vN i, vN j])) (k := kP i j) (b := Tk) (v := vN (mk0 s t i j)) (Ex.up hTk _ _ (e _ _ hk)) upd_same hlk
          rw [putK_new _ hnew] at h
          have e2 : kvN (pr t.length i ++ (List.range j).map (Prod.mk i)) (mk0 s t) ++ [(kP i j, vN (mk0 s t i j))] = kvN (pr t.length i ++ (List.range (j + 1)).map (Prod.mk i)) (mk0 s t) := by
            rw [List.range_succ, List.map_append, ← List.append_assoc]
            unfold kvN
            simp only [List.map_append, List.map_cons, List.map_nil]
          rw [e2] at h
          exact h
        refine ⟨.ref ra, rfl, vN i, rfl, ra, _, _, .ref r1, rfl, rfl, SqT.of (g1 hra), atI_nat p2, r1, _, _, .str t1, rfl, rfl, SqT.of (g1 p3), rfl, .ref rb, rfl, vN j, rfl, rb, _, _, .ref r2, rfl, rfl, SqT.of (g1 hrb), atI_nat q2, r2, _, _, .str t2, rfl, rfl, SqT.of (g1 q3), rfl, rfl, ?_⟩
        refine ⟨_, rfl, ?_⟩
        rw [tag_eq p1 q1]
        by_cases e : KM.tg s i = KM.tg t j
        · rw [decide_eq_true e]
          refine iteT ⟨.ref md, rfl, vN i, rfl, vN j, rfl, (by show 2 ≤ sizeLine; decide), fun Tk hTk => ?_⟩
          obtain ⟨f1, f2⟩ := fin H' (Ex.rf _) Tk hTk
          rw [show mk0 s t i j = 99 from if_pos e] at f1
          exact ⟨md, _, rfl, f1, _, rfl, f2, upd_same⟩
        · rw [decide_eq_false e]
          refine iteF ⟨.ref md, rfl, vN i, rfl, vN j, rfl, (by show 2 ≤ sizeLine; decide), fun Tk hTk => ?_⟩
          obtain ⟨f1, f2⟩ := fin H' (Ex.rf _) Tk hTk
          rw [show mk0 s t i j = 0 from if_neg e] at f1
          exact ⟨md, _, rfl, f1, _, rfl, f2, upd_same⟩
      · obtain ⟨o4, rfl, e', hk⟩ := hP
        have hn : (((rws.length : Nat) : Int)).toNat = t.length := by omega
        rw [hn, ← pr_succ] at hk
        exact ⟨_, o4, rfl, e', hk⟩
    · obtain ⟨o3, o4, rfl, e', hk⟩ := hP
      have hn : (((rvs.length : Nat) : Int)).toNat = s.length := by omega
      rw [hn] at hk
      exact hU _ _ ⟨o3, o4, rfl, e', hk⟩
end
end L05
set_option Elab.async false
set_option linter.all false
set_option maxRecDepth 100000
set_option maxHeartbeats 1000000
namespace L05
open PySem PySem.Spec PyProof.Rows L2 KD
section
variable {P : Program} {w : World} {K : PySem.W.Frag} {mg : Str → Option Value} {base : Heap}
/-! ### the law's parting path -/
section
variable {s t : KM.Sheet Str} {mk : Nat → Nat → Nat} {ar : Str → Nat}
theorem Dist.below (D : Dist s t mk) (hs : KM.Ok ar s) (ht : KM.Ok ar t) {x y : Nat} (hx : x < s.length) (hy : y < t.length) (h0 : 0 < mk x y) (h9 : mk x y < 99) :
    KM.tg s x = KM.tg t y ∧ (∃ f u v : Nat, (KM.fl s x)[f]? = some u ∧ (KM.fl t y)[f]? = some v ∧ mk u v + 1 = mk x y) ∧
    ∀ f u v : Nat, (KM.fl s x)[f]? = some u → (KM.fl t y)[f]? = some v → mk x y ≤ mk u v + 1 := by
  have e1 : KM.eqv s t (mk x y) x y := Classical.byContradiction fun c => by
    have := (D.d x y (mk x y - 1) hx hy (by omega)).mpr (by rw [Nat.sub_add_cancel h0]; exact c)
    omega
  have e2 : ¬ KM.eqv s t (mk x y + 1) x y := (D.d x y (mk x y) hx hy h9).mp (Nat.le_refl _)
  obtain ⟨n, hn⟩ : ∃ n, mk x y = n + 1 := ⟨mk x y - 1, by omega⟩
  rw [hn] at e1 e2 h9 ⊢
  have up : ∀ f u v : Nat, (KM.fl s x)[f]? = some u → (KM.fl t y)[f]? = some v → n ≤ mk u v := fun f u v hu hv => Classical.byContradiction fun c => by
    have hus := hs.fld (List.mem_of_getElem? hu)
    have hvt := ht.fld (List.mem_of_getElem? hv)
    have := (D.d u v (mk u v) hus hvt (by omega)).mp (Nat.le_refl _)
    exact this (eqv_le (by omega) (e1.2 f u v hu hv))
  have : ∃ f u v, (KM.fl s x)[f]? = some u ∧ (KM.fl t y)[f]? = some v ∧ ¬ KM.eqv s t (n + 1) u v := Classical.byContradiction fun c => e2 ⟨e1.1, fun f u v hu hv => Classical.byContradiction fun g => c ⟨f, u, v, hu, hv, g⟩⟩
  obtain ⟨f, u, v, hu, hv, g⟩ := this
  have hus := hs.fld (List.mem_of_getElem? hu)
  have hvt := ht.fld (List.mem_of_getElem? hv)
  have h1 := (D.d u v n hus hvt (by omega)).mpr g
  have h2 := up f u v hu hv
  exact ⟨e1.1, ⟨f, u, v, hu, hv, by omega⟩, fun f u v hu hv => by have := up f u v hu hv; omega⟩
theorem Dist.prt (D : Dist s t mk) {x y : Nat} (hx : x < s.length) (hy : y < t.length) {p : List Nat} (h : KM.Prt s t x y p) (hp : p.length < 99) : mk x y ≤ p.length := (D.d x y p.length hx hy hp).mpr (KM.prt_eqv h)
/-- the walk so far -/
structure Wk (s t : KM.Sheet Str) (mk : Nat → Nat → Nat) (n : Nat) (fs : List Nat) (x y : Nat) : Prop where
  a : KM.Agr s t fs 0 0 x y
  l : mk x y + fs.length = n
  m : ∀ q, KM.Prt s t 0 0 q → q.length = n → (∃ r, q = fs ++ r) ∨ KM.lx fs q
theorem Wk.start {n : Nat} (h : mk 0 0 = n) : Wk s t mk n [] 0 0 := ⟨⟨rfl, rfl⟩, h, fun q _ _ => .inl ⟨q, rfl⟩⟩
theorem Wk.lt {n x y : Nat} {fs : List Nat} (W : Wk s t mk n fs x y) (hs : KM.Ok ar s) (ht : KM.Ok ar t) (s0 : 0 < s.length) (t0 : 0 < t.length) : x < s.length ∧ y < t.length := W.a.lt hs ht s0 t0
theorem Wk.step {n x y f u v : Nat} {fs : List Nat} (W : Wk s t mk n fs x y) (D : Dist s t mk) (hs : KM.Ok ar s) (ht : KM.Ok ar t) (s0 : 0 < s.length) (t0 : 0 < t.length) (hn : n < 99) (h0 : 0 < mk x y)
    (hu : (KM.fl s x)[f]? = some u) (hv : (KM.fl t y)[f]? = some v) (hm : mk u v + 1 = mk x y) (hf : ∀ g u' v' : Nat, g < f → (KM.fl s x)[g]? = some u' → (KM.fl t y)[g]? = some v' → mk u' v' + 1 ≠ mk x y) : Wk s t mk n (fs ++ [f]) u v := by
  obtain ⟨hx, hy⟩ := W.lt hs ht s0 t0
  have hl := W.l
  obtain ⟨htg, _, up⟩ := D.below hs ht hx hy h0 (by omega)
  refine ⟨KM.Agr.snoc.mpr ⟨x, y, W.a, htg, hu, hv⟩, by rw [List.length_append]; show mk u v + (fs.length + 1) = n; omega, fun q hq hql => ?_⟩
  rcases W.m q hq hql with ⟨r, rfl⟩ | h
  · cases r with
    | nil => rw [List.append_nil] at hql; omega
    | cons b r =>
      have hp := (KM.Prt.app W.a).mp hq
      obtain ⟨_, u', v', h1, h2, h3⟩ := KM.Prt.cons.mp hp
      rw [List.length_append, List.length_cons] at hql
      have g1 := D.prt (hs.fld (List.mem_of_getElem? h1)) (ht.fld (List.mem_of_getElem? h2)) h3 (by omega)
      have g2 := up b u' v' h1 h2
      have hfb : f ≤ b := Nat.le_of_not_lt fun c => hf b u' v' c h1 h2 (by omega)
      by_cases e : f = b
      · subst e
        exact .inl ⟨r, by rw [List.append_assoc]; rfl⟩
      · exact .inr (KM.lx_pre (by omega))
  · right
    have := h.app [f] []
    rwa [List.append_nil] at this
theorem Wk.done {n x y : Nat} {fs : List Nat} (W : Wk s t mk n fs x y) (D : Dist s t mk) (hs : KM.Ok ar s) (ht : KM.Ok ar t) (s0 : 0 < s.length) (t0 : 0 < t.length) (hn : n < 99) (h0 : mk x y = 0) (hn0 : mk 0 0 = n) : KM.IsPart s t fs := by
  obtain ⟨hx, hy⟩ := W.lt hs ht s0 t0
  have hl := W.l
  have e : ¬ KM.eqv s t 1 x y := (D.d x y 0 hx hy (by decide)).mp (by omega)
  have htg : KM.tg s x ≠ KM.tg t y := fun z => e ⟨z, fun _ _ _ _ _ => trivial⟩
  refine ⟨⟨x, y, W.a, htg⟩, fun q hq => ?_⟩
  have h1 : n ≤ q.length := Nat.le_of_not_lt fun c => by
    have := D.prt s0 t0 hq (by omega)
    omega
  by_cases c : q.length = n
  · refine .inr ⟨by omega, ?_⟩
    rcases W.m q hq c with ⟨r, rfl⟩ | h
    · rw [List.length_append] at c
      have : r = [] := List.length_eq_zero_iff.mp (by omega)
      rw [this, List.append_nil]; exact .inr rfl
    · exact .inl h
  · exact .inl (by omega)
theorem Dist.none (D : Dist s t mk) (s0 : 0 < s.length) (t0 : 0 < t.length) (h : mk 0 0 = 99) : KM.eqv s t 99 0 0 := Classical.byContradiction fun c => by
  have := (D.d 0 0 98 s0 t0 (by decide)).mpr c
  omega
end
theorem range_first {h : Nat → Bool} : ∀ {n : Nat}, (∃ k, k < n ∧ h k = true) → ∃ f, ((List.range n).filter h)[0]? = some f ∧ f < n ∧ h f = true ∧ ∀ g, g < f → h g = false
  | 0, ⟨_, hk, _⟩ => absurd hk (Nat.not_lt_zero _)
  | n + 1, ⟨k, hk, hh⟩ => by
    rw [List.range_succ, List.filter_append]
    by_cases c : ∃ k, k < n ∧ h k = true
    · obtain ⟨f, h1, h2, h3, h4⟩ := range_first c
      exact ⟨f, by rw [List.getElem?_append_left (List.getElem?_eq_some_iff.mp h1).1]; exact h1, by omega, h3, h4⟩
    · have hk : k = n := by
        by_cases e : k = n
        · exact e
        · exact absurd ⟨k, by omega, hh⟩ c
      subst hk
      have e : (List.range k).filter h = [] := List.filter_eq_nil_iff.mpr fun x hx z => c ⟨x, List.mem_range.mp hx, z⟩
      refine ⟨k, by rw [e, List.nil_append, List.filter_cons, if_pos hh]; rfl, by omega, hh, fun g hg => ?_⟩
      cases z : h g with
      | false => rfl
      | true => exact absurd ⟨g, hg, z⟩ c
def spPart (K : PySem.W.Frag) : Sp := fun vs H Q _ => ∃ (ra rb : Addr) (s t : KM.Sheet Str) (G : Hp), vs = [.ref ra, .ref rb] ∧ Ex G H ∧ Da K G (.ref ra) (sheetD s) ∧ Da K G (.ref rb) (sheetD t) ∧ Two s t ∧ s.length ≤ 110 ∧ t.length ≤ 110 ∧ (KM.eqv s t 99 0 0 → KM.Same s t 0 0) ∧
  ∀ (v : V) (G' H' : Hp) (o : Option (List Nat)), Up G H G' H' → KM.Told s t o → (∀ p, o = some p → p.length < 99) → Da K G' v (pathD o) → Q v H'
theorem ok__law_parting (T : Txt K mg) : FnG P w K mg base CX0 2 T.a__law_parting T.d__law_parting ["_law_rows_here", "_law_far"] (spPart K) := by
  have G__law_distances := ok__law_distances (P := P) (w := w) (base := base) T
  refine okG T.F__law_parting sc__law_parting (fun vs H Q E h => ?_) fun cdv A outer s0 H vs Q E hr hq h => ?_
  · obtain ⟨ra, rb, s, t, G, rfl, _⟩ := h
    rfl
  obtain ⟨ra, rb, s, t, G, rfl, eg, x1, x2, h2, hsl, htl, hB, q⟩ := h
  have hu := hr.units
  have hu1 := hu_of hr
  obtain ⟨ar, ok1, ok2⟩ := h2.ok
  obtain ⟨rvs, hra, hrv, hrl⟩ := tupAt x1
  obtain ⟨rws, hrb, hrw, hwl⟩ := tupAt x2
  have row1 := fun {i : Nat} (hi : i < s.length) => rowG hrv hi
  have row2 := fun {i : Nat} (hi : i < t.length) => rowG hrw hi
  have s0' := h2.zs.p
  have t0' := h2.zt.p
  refine ⟨_, (pss_cons (ps_asg (pe_tup (pa_cons (pe_g G__law_distances hr hq (by rfl) T.g__law_distances T.F__law_distances.kp T.b__law_distances .nil pass0 (pa_cons (pv 0) (pa_cons (pv 1) pa_nil))) (pa_cons (pe_tup (pa_cons pe_int (pa_cons pe_int pa_nil))) (pa_cons (pe_tup pa_nil) pa_nil)))) (pg_tupK K rfl (pgs_cons (pg_name (i := 2) sc__law_parting.nd rfl (.inr rfl)) (pgs_cons (pg_name (i := 3) sc__law_parting.nd rfl (.inr rfl)) (pgs_cons (pg_name (i := 4) sc__law_parting.nd rfl (.inl rfl)) pgs_nil)))))
    (pss_cons (ps_if (pt_cmpR op_eq (pe_dget hu1 (pv 2) (pv 3) (fun _ _ => rfl)) pe_int (nomark _))
    (pss_one (ps_ret pe_non))
    pss_nil)
    (pss_cons (ps_while PassesOwn.never (pt_cmpR op_gt (pe_dget hu1 (pv 2) (pv 3) (fun _ _ => rfl)) pe_int (nomark _))
    (pss_cons (ps_set (i := 5) sc__law_parting.nd rfl (.inr rfl) (pe_listZipK K rfl (by rfl) T.m_list (by rfl) T.m_zip (pa_cons (pe_ix (ix_tupK K) (pe_ix (ix_tupK K) (pv 0) (pe_ix (ix_tupK K) (pv 3) pe_int (fun _ _ => rfl)) (fun _ _ => rfl)) pe_int (fun _ _ => rfl)) (pa_cons (pe_ix (ix_tupK K) (pe_ix (ix_tupK K) (pv 1) (pe_ix (ix_tupK K) (pv 3) pe_int (fun _ _ => rfl)) (fun _ _ => rfl)) pe_int (fun _ _ => rfl)) pa_nil))))
    (pss_cons (ps_set (i := 6) sc__law_parting.nd rfl (.inl rfl) (pe_ix (ix_listK K) (pe_lc (own := [("_law_k", 7)]) (g := gName 7) rfl sc__law_parting.nd  (pi_range1 (by rfl) T.m_range (pa_cons (pe_callB (call_lenK K) (by rfl) T.m_len PySem.boot_len (pa_cons (pv 5) pa_nil)) pa_nil)) (blkOk_by (N := N__law_parting) (sc := defScope s__law_parting) (by decide +kernel)) (fun _ _ _ _ _ => (pg_name (i := 7) sc__law_parting.nd rfl (.inl rfl))) (fun _ _ _ _ _ => pts_one (pt_cmpR op_eq (pe_dget hu1 (pv 2) (pe_ix (ix_listK K) (pv 5) (pv 7) (fun _ _ => rfl)) (fun _ _ => rfl)) (pe_op op_sub (pe_dget hu1 (pv 2) (pv 3) (fun _ _ => rfl)) pe_int) (nomark _))) (fun _ _ _ _ _ => (pv 7))) pe_int (fun _ _ => rfl)))
    (pss_one (ps_asg (pe_tup (pa_cons (pe_op (op_catAK K) (pv 4) (pe_tup (pa_cons (pv 6) pa_nil))) (pa_cons (pe_ix (ix_listK K) (pv 5) (pv 6) (fun _ _ => rfl)) pa_nil))) (pg_tupK K rfl (pgs_cons (pg_name (i := 4) sc__law_parting.nd rfl (.inl rfl)) (pgs_cons (pg_name (i := 3) sc__law_parting.nd rfl (.inr rfl)) pgs_nil))))))))
    (pss_one (ps_ret (pv 4)))))), ?_⟩
  refine ⟨.ref ra, rfl, .ref rb, rfl, ra, rb, s, t, G, rfl, eg, x1, x2, h2, hsl, htl, fun H1 md mk e1 hmd hm1 DD => ?_⟩
  refine ⟨(by show 2 ≤ sizeLine; decide), fun T1 hT1 => ⟨Nat.zero_le _, fun T2 hT2 => ⟨(by show 3 ≤ sizeLine; decide), fun T3 hT3 => ?_⟩⟩⟩
  obtain ⟨n2, hT2'⟩ := upd_ne_none hT2
  obtain ⟨n3, hT3'⟩ := upd_ne_none hT3
  obtain ⟨n31, _⟩ := upd_ne_none hT3'
  have e14 : Ex H1 (upd (upd (upd H1 T1 (.tup [vN 0, vN 0])) T2 (.tup [])) T3 (.tup [.ref md, .ref T1, .ref T2])) := ((Ex.up hT1).tr (Ex.up hT2)).tr (Ex.up hT3)
  have hp4 : (upd (upd (upd H1 T1 (.tup [vN 0, vN 0])) T2 (.tup [])) T3 (.tup [.ref md, .ref T1, .ref T2])) T1 = some (.tup [vN 0, vN 0]) := by rw [upd_ne n31.symm, upd_ne n2.symm]; exact upd_same
  have hf4 : (upd (upd (upd H1 T1 (.tup [vN 0, vN 0])) T2 (.tup [])) T3 (.tup [.ref md, .ref T1, .ref T2])) T2 = some (.tup []) := by rw [upd_ne n3.symm]; exact upd_same
  refine ⟨T3, _, rfl, SqT.of upd_same, rfl, _, _, rfl, _, _, rfl, _, _, rfl, rfl, ?_⟩
  revert e14 hp4 hf4
  generalize (upd (upd (upd H1 T1 (.tup [vN 0, vN 0])) T2 (.tup [])) T3 (.tup [.ref md, .ref T1, .ref T2])) = H4
  intro e14 hp4 hf4
  have hfr : H T2 = none := e1.fresh hT2'
  have mget : ∀ {H' : Hp} {x y : Nat} {Tk : Addr}, Ex H4 H' → H' Tk = some (.tup [vN x, vN y]) → x < s.length → y < t.length → DGet H' md (.ref Tk) (some (vN (mk x y))) := fun {H' x y Tk} e h hx hy => by
    have h1 := DGet.t (k := kP x y) (e _ _ (e14 _ _ hm1)) h
    rw [valV_kvN, if_pos (pr_mem.mpr ⟨hx, hy⟩)] at h1
    exact h1
  try dsimp only
  refine tSeq_go ?_
  refine ⟨.ref md, rfl, .ref T1, rfl, md, vN (mk 0 0), rfl, mget (Ex.rf _) hp4 s0' t0', rfl, _, rfl, ?_⟩
  have h9 : decide (vN (mk 0 0) = V.int 99) = decide (mk 0 0 = 99) := by
    by_cases c : mk 0 0 = 99
    · rw [c]; rfl
    · rw [decide_eq_false c]
      exact decide_eq_false fun z => c (by have h : (mk 0 0 : Int) = 99 := V.int.inj z; omega)
  rw [h9]
  by_cases c9 : mk 0 0 = 99
  · rw [decide_eq_true c9]
    refine iteT ?_
    exact q .non G H4 none ⟨Ex.rf _, eg.tr (e1.tr e14), e1.tr e14, fun _ _ h => h⟩ (hB (DD.none s0' t0' c9)) (fun p h => by cases h) .non
  · rw [decide_eq_false c9]
    refine iteF ?_
    have hn : mk 0 0 < 99 := by have := DD.b 0 0; omega
    try dsimp only
    refine tSeq_go ?_
    refine ⟨fun m σ H' => ∃ (p f : Addr) (o5 o6 o7 : Option V) (fs : List Nat) (x y : Nat), σ = [some (.ref ra), some (.ref rb), some (.ref md), some (.ref p), some (.ref f), o5, o6, o7] ∧ Ex H4 H' ∧ H' p = some (.tup [vN x, vN y]) ∧ H f = none ∧ H' f = some (.tup (fs.map vN)) ∧ Wk s t mk (mk 0 0) fs x y ∧ m = mk x y,
      ⟨_, T1, T2, none, none, none, [], 0, 0, rfl, Ex.rf _, hp4, hfr, hf4, Wk.start rfl, rfl⟩, fun m σ H5 w => ?_⟩
    obtain ⟨p, f, o5, o6, o7, fs, x, y, rfl, e45, hp5, hff, hf5, W5, rfl⟩ := w
    obtain ⟨hx, hy⟩ := W5.lt ok1 ok2 s0' t0'
    refine ⟨.ref md, rfl, .ref p, rfl, md, vN (mk x y), rfl, mget e45 hp5 hx hy, _, _, rfl, rfl, _, rfl, ?_⟩
    by_cases c0 : mk x y = 0
    · rw [c0]
      refine iteF ?_
      have e05 : Ex H H5 := (e1.tr e14).tr e45
      have hGf : G f = none := eg.fresh hff
      refine ⟨.ref f, rfl, ?_⟩
      refine q (.ref f) (upd G f (.tup (fs.map vN))) H5 (some fs) ⟨Ex.up hGf, fun b o h => ?_, e05, fun b h1 h2 => ?_⟩ (W5.done DD ok1 ok2 s0' t0' hn c0 rfl) (fun p h => by cases h; have := W5.l; omega) (.tup upd_same daAll_ofNats)
      · by_cases z : b = f
        · subst z; rw [upd_same] at h; cases h; exact hf5
        · rw [upd_ne z] at h; exact e05 _ _ (eg _ _ h)
      · rw [upd_ne (fun z => h1 (by rw [z]; exact hff))]; exact h2
    · have hpos : 0 < mk x y := by omega
      have hcmp : decide ((0 : Int) < (mk x y : Int)) = true := decide_eq_true (by omega)
      rw [hcmp]
      refine iteT ⟨_, fun _ _ h => h, ?_⟩
      have hl5 := W5.l
      obtain ⟨htg, ⟨fa, ua, va, hua, hva, hma⟩, _⟩ := DD.below ok1 ok2 hx hy hpos (by omega)
      obtain ⟨r1, fa1, t1, fs1, p1, p2, p3, p4⟩ := row1 hx
      obtain ⟨r2, fa2, t2, fs2, q1, q2, q3, q4⟩ := row2 hy
      have hll := ok1.len ok2 htg
      rw [KM.fl_at p1, KM.fl_at q1] at hll
      have hll : fs1.length = fs2.length := hll
      have hf3 : fs1.length ≤ 3 := h2.zs.f _ (List.mem_of_getElem? p1)
      have g1 : ∀ {x o}, G x = some o → H5 x = some o := fun h => e45 _ _ (e14 _ _ (e1 _ _ (eg _ _ h)))
      try dsimp only
      refine st_e ?_
      refine ⟨.ref ra, rfl, .ref p, rfl, p, _, _, vN x, rfl, rfl, SqT.of hp5, rfl, ra, _, _, .ref r1, rfl, rfl, SqT.of (g1 hra), atI_nat p2, r1, _, _, .ref fa1, rfl, rfl, SqT.of (g1 p3), rfl, .ref rb, rfl, .ref p, rfl, p, _, _, vN y, rfl, rfl, SqT.of hp5, rfl, rb, _, _, .ref r2, rfl, rfl, SqT.of (g1 hrb), atI_nat q2, r2, _, _, .ref fa2, rfl, rfl, SqT.of (g1 q3), rfl, fa1, fa2, _, _, rfl, SqT.of (g1 p4), SqT.of (g1 q4),
        by rw [List.length_map, List.length_map]; exact hll, by rw [List.length_map]; omega, fun L Ts H6 Z => ?_⟩
      have e56 := Z.e
      have e46 := e45.tr e56
      have hZl : Ts.length = fs1.length := by rw [Z.l, List.length_map]
      have hp6 := e56 _ _ hp5
      have hzt : ∀ {k : Nat}, k < fs1.length → ∃ (Tk : Addr) (u v : Nat), Ts[k]? = some Tk ∧ fs1[k]? = some u ∧ fs2[k]? = some v ∧ H5 Tk = none ∧ H6 Tk = some (.tup [vN u, vN v]) ∧ u < s.length ∧ v < t.length := fun {k} hk => by
        have h1 : Ts[k]? = some (Ts[k]'(by omega)) := List.getElem?_eq_getElem _
        have h2' : fs1[k]? = some (fs1[k]'(by omega)) := List.getElem?_eq_getElem _
        have h3 : fs2[k]? = some (fs2[k]'(by omega)) := List.getElem?_eq_getElem _
        obtain ⟨z1, z2⟩ := Z.t k _ (vN fs1[k]) (vN (fs2[k]'(by omega))) h1 (by rw [List.getElem?_map, h2']; rfl) (by rw [List.getElem?_map, h3]; rfl)
        exact ⟨_, _, _, h1, h2', h3, z1, z2, ok1.f _ (List.mem_of_getElem? p1) _ (List.getElem_mem _), ok2.f _ (List.mem_of_getElem? q1) _ (List.getElem_mem _)⟩
      obtain ⟨hk, hhk⟩ : ∃ hk : Nat → Bool, ∀ k, hk k = decide (mk (fs1.getD k 0) (fs2.getD k 0) + 1 = mk x y) := ⟨fun k => decide (mk (fs1.getD k 0) (fs2.getD k 0) + 1 = mk x y), fun _ => rfl⟩
      have hkat : ∀ {k u v : Nat}, fs1[k]? = some u → fs2[k]? = some v → hk k = decide (mk u v + 1 = mk x y) := fun {k u v} h1 h2 => by
        rw [hhk, List.getD_eq_getElem?_getD, h1, List.getD_eq_getElem?_getD, h2]; rfl
      rw [KM.fl_at p1] at hua
      rw [KM.fl_at q1] at hva
      obtain ⟨f0, hf0, hf0l, hf0h, hf0m⟩ := range_first (h := hk) (n := fs1.length) ⟨fa, (List.getElem?_eq_some_iff.mp hua).1, by rw [hkat hua hva]; exact decide_eq_true hma⟩
      try dsimp only
      refine st_e ?_
      refine ⟨.ref L, rfl, L, Ts.map V.ref, rfl, .inl (SqL.of Z.hL), ((Ts.length : Nat) : Int), (by rw [List.length_map]), by omega, by omega, fun D hD => ?_⟩
      refine lc_range (lo := 0) (n := (((Ts.length : Nat) : Int)).toNat) (fun k H' => Ex H6 H' ∧ H' D = some (.lst (((List.range k).filter hk).map vN)))
        ⟨Ex.up hD, upd_same⟩ (fun k H' hkl hP => ?_) (fun H' hP => ?_)
      · obtain ⟨e', hL⟩ := hP
        have hk3 : k < fs1.length := by omega
        have z1 : (0 + (k : Int)) = (k : Int) := Int.zero_add _
        rw [z1]
        obtain ⟨Tk, u, v, y1, y2, y3, _, y5, y6, y7⟩ := hzt hk3
        refine ⟨rfl, .ref md, rfl, .ref L, rfl, vN k, rfl, L, _, _, .ref Tk, rfl, rfl, SqL.of (e' _ _ Z.hL), atI_nat (by rw [List.getElem?_map, y1]; rfl), md, vN (mk u v), rfl, mget (e46.tr e') (e' _ _ y5) y6 y7, .ref md, rfl, .ref p, rfl, md, vN (mk x y), rfl, mget (e46.tr e') (e' _ _ hp6) hx hy, _, _, rfl, rfl, rfl, _, rfl, ?_⟩
        have hcmp2 : decide (vN (mk u v) = V.int ((mk x y : Int) - 1)) = hk k := by
          rw [hkat y2 y3]
          by_cases c : mk u v + 1 = mk x y
          · rw [decide_eq_true c]
            exact decide_eq_true (by show V.int _ = V.int _; congr 1; omega)
          · rw [decide_eq_false c]
            exact decide_eq_false fun z => c (by have h : (mk u v : Int) = (mk x y : Int) - 1 := V.int.inj z; omega)
        rw [List.range_succ, List.filter_append, List.filter_cons, List.filter_nil]
        dsimp only
        rw [hcmp2]
        by_cases e : hk k = true
        · rw [if_pos e, if_pos e]
          refine ⟨vN k, rfl, _, hL, ?_, e'.at hD, by rw [upd_same, List.map_append]; rfl⟩
          refine Nat.lt_of_le_of_lt ?_ (by decide : 3 < sizeLine)
          rw [List.length_map]
          refine Nat.le_trans (List.length_filter_le _ _) ?_
          rw [List.length_range]; omega
        · rw [if_neg e, if_neg e, List.append_nil]
          exact ⟨e', hL⟩
      · obtain ⟨e', hL⟩ := hP
        have hn' : (((Ts.length : Nat) : Int)).toNat = fs1.length := by omega
        rw [hn'] at hL
        refine ⟨D, _, _, vN f0, rfl, rfl, SqL.of hL, by have := atI_nat (α := V) (xs := ((List.range fs1.length).filter hk).map vN) (j := 0) (v := vN f0) (by rw [List.getElem?_map, hf0]; rfl); exact this, ?_⟩
        obtain ⟨Tf, u, v, y1, y2, y3, y4, y5, y6, y7⟩ := hzt hf0l
        have e57 := e56.tr e'
        try dsimp only
        refine ⟨.ref f, rfl, vN f0, rfl, (by show 1 ≤ sizeLine; decide), fun T6 hT6 => ?_⟩
        have e7 : Ex H' (upd H' T6 (.tup [vN f0])) := Ex.up hT6
        refine cat_go (xs := fs.map vN) (ys := [vN f0]) (e7 _ _ (e57 _ _ hf5)) upd_same (by
          rw [List.length_map]
          refine Nat.le_trans (?_ : _ ≤ 100) (by decide)
          show fs.length + 1 ≤ 100
          omega) (by simp) fun P H8 e8 hPn hP8 => ?_
        have e48 := e46.tr ((e'.tr e7).tr e8)
        have hHP : H P = none := by
          have e07 : Ex H H' := ((e1.tr e14).tr e46).tr e'
          rcases hPn with rfl | hPn
          · exact e07.fresh hT6
          · exact e07.fresh (upd_ne_none hPn).2
        have hTf8 := e8 _ _ (e7 _ _ (e' _ _ y5))
        refine ⟨.ref L, rfl, vN f0, rfl, L, _, _, .ref Tf, rfl, rfl, SqL.of (e8 _ _ (e7 _ _ (e' _ _ Z.hL))), atI_nat (by rw [List.getElem?_map, y1]; rfl), (by show 2 ≤ sizeLine; decide), fun T7 hT7 => ?_⟩
        have e9 : Ex H8 (upd H8 T7 (.tup [.ref P, .ref Tf])) := Ex.up hT7
        refine ⟨T7, _, rfl, SqT.of upd_same, rfl, _, _, rfl, _, _, rfl, rfl, ?_⟩
        have hm1' : mk u v + 1 = mk x y := by have := hf0h; rw [hkat y2 y3] at this; exact of_decide_eq_true this
        refine ⟨mk u v, by omega, Tf, P, _, _, _, fs ++ [f0], u, v, rfl, e48.tr e9, e9 _ _ hTf8, hHP, by rw [e9 _ _ hP8, List.map_append]; rfl, W5.step DD ok1 ok2 s0' t0' hn hpos (by rw [KM.fl_at p1]; exact y2) (by rw [KM.fl_at q1]; exact y3) hm1' (fun g u' v' hg h1 h2' => ?_), rfl⟩
        rw [KM.fl_at p1] at h1
        rw [KM.fl_at q1] at h2'
        have := hf0m g hg
        rw [hkat h1 h2'] at this
        exact of_decide_eq_false this
end
end L05
set_option Elab.async false
set_option linter.all false
set_option maxRecDepth 100000
set_option maxHeartbeats 1000000
namespace L05
open PySem PySem.Spec PyProof.Rows L2 KD
section
variable {P : Program} {w : World} {K : PySem.W.Frag} {mg : Str → Option Value} {base : Heap}
/-! ### a row replaced -/
theorem st_tup12 {dk cl : Addr} {σ : L2.St} {G H : Hp} {m m' : Nat} {te : TE} {i j l : Nat} {u : TS} {D : Ends} {P : PyData → PyData → PyData → Prop} (h : EvN K dk cl σ G m te m' (fun d => ∃ d1 d2 d3, d = .tuple [d1, .tuple [d2, d3]] ∧ P d1 d2 d3)) (e : Ex G H) (hD : Deck G H dk cl m)
    (q : ∀ x v w d1 d2 d3 G' H', UpM dk cl G H G' H' → Deck G' H' dk cl m' → P d1 d2 d3 → Da K G' x d1 → Da K G' v d2 → Da K G' w d3 → u D (((σ.set i (some x)).set j (some v)).set l (some w)) H') :
    tSeq (tAsg te (gTup K 2 (gCons (gName i) (gCons (gTup K 2 (gCons (gName j) (gCons (gName l) gNil))) gNil)))) u D σ H :=
  h G H (Ex.rf _) e hD _ fun v d G' H' u hD' p dv => by
    obtain ⟨d1, d2, d3, rfl, p⟩ := p
    cases dv with | tup h1 h2 => ?_
    cases h2 with | cons a1 h2 => ?_
    cases h2 with | cons a2 h2 => ?_
    cases h2
    cases a2 with | tup b1 b2 => ?_
    cases b2 with | cons c1 b2 => ?_
    cases b2 with | cons c2 b2 => ?_
    cases b2
    exact ⟨_, _, rfl, SqT.of (u.h _ _ h1), rfl, _, _, rfl, _, _, rfl, _, _, rfl, SqT.of (u.h _ _ b1), rfl, _, _, rfl, _, _, rfl, rfl, rfl, q _ _ _ d1 d2 d3 G' H' u hD' p a1 c1 c2⟩
theorem cut_take {xs : List PyData} {k : Nat} (h : k ≤ xs.length) : cutD xs none (some (k : Int)) = xs.take k := by
  unfold KD.cutD
  rw [HT.sIx_none, HT.sIx_nat, List.drop_zero, Nat.sub_zero, Nat.min_eq_left h]
theorem cut_drop {xs : List PyData} {k : Nat} (h : k ≤ xs.length) : cutD xs (some (k : Int)) none = xs.drop k := by
  unfold KD.cutD
  rw [HT.sIx_none, HT.sIx_nat, Nat.min_eq_left h]
  exact List.take_of_length_le (by rw [List.length_drop]; exact Nat.le_refl _)
def spChanged (K : PySem.W.Frag) : Sp := fun vs H Q _ => vs.length = 3 ∧ ∃ (dk cl : Addr) (tv rv : V) (tags : List PyData) (s : KM.Sheet Str) (G : Hp) (m : Nat), vs = [.ref dk, tv, rv] ∧ Ex G H ∧ Deck G H dk cl m ∧ m ≤ 999980000 ∧ Da K G tv (.tuple tags) ∧ TagsV tags ∧ Da K G rv (sheetD s) ∧ ShN tags s ∧ s.length ≤ 25 ∧
  ∀ (v : V) (s' : KM.Sheet Str) (G' H' : Hp), UpM dk cl G H G' H' → Deck G' H' dk cl (m + 10) → ShN tags s' → s'.length = s.length → Da K G' v (sheetD s') → Q v H'
theorem ok__law_changed (T : Txt K mg) : FnG P w K mg base CX0 3 T.a__law_changed T.d__law_changed ["_law_deck_here", "_law_tags_here", "_law_rows_here"] (spChanged K) := by
  have G__law_draw := (ok__law_draw (P := P) (w := w) (base := base) T).mono (show 1 ≤ 2 by decide)
  have G__law_pick := ok__law_pick (P := P) (w := w) (base := base) T
  refine okG T.F__law_changed sc__law_changed (fun vs H Q E h => h.1) fun cdv A out s0 H vs Q E hr hq h => ?_
  obtain ⟨_, dk, cl, tv, rv, tags, s, G, m, rfl, eg, hD, hm, x1, hT, x2, hS, hsl, q⟩ := h
  have hu := hr.units
  have hTl := hT.t.l
  have hSp := hS.p
  have hml : (s.map rowD).length = s.length := List.length_map _
  refine ⟨_, (pss_cons (ps_asg (pe_tup (pa_cons (pe_g G__law_draw hr hq (by rfl) T.g__law_draw T.F__law_draw.kp T.b__law_draw .nil pass0 (pa_cons (pv 0) (pa_cons (pe_callB (call_lenK K) (by rfl) T.m_len PySem.boot_len (pa_cons (pv 2) pa_nil)) pa_nil))) (pa_cons (pe_g G__law_pick hr hq (by rfl) T.g__law_pick T.F__law_pick.kp T.b__law_pick .nil pass0 (pa_cons (pv 0) (pa_cons (pe_op op_cat (pe_callTy (call_listK K) (by rfl) T.m_list (by decide +kernel) (pa_cons (pv 1) pa_nil)) (pe_lst (pa_cons (pe_tup (pa_cons pe_str (pa_cons pe_int pa_nil))) pa_nil))) pa_nil))) pa_nil))) (pg_tupK K rfl (pgs_cons (pg_name (i := 3) sc__law_changed.nd rfl (.inl rfl)) (pgs_cons (pg_tupK K rfl (pgs_cons (pg_name (i := 4) sc__law_changed.nd rfl (.inl rfl)) (pgs_cons (pg_name (i := 5) sc__law_changed.nd rfl (.inl rfl)) pgs_nil))) pgs_nil))))
    (pss_cons (ps_set (i := 6) sc__law_changed.nd rfl (.inl rfl) (pe_tup (pa_cons (pv 4) (pa_cons (pe_callTy (call_tupK K) (by rfl) T.m_tuple (by decide +kernel) (pa_cons (pe_lc (own := [("_law_k", 7)]) (g := gName 7) (tt := tYes) rfl sc__law_changed.nd  (pi_range1 (by rfl) T.m_range (pa_cons (pv 5) pa_nil)) (blkOk_by (N := N__law_changed) (sc := defScope s__law_changed) (by decide +kernel)) (fun _ _ _ _ _ => (pg_name (i := 7) sc__law_changed.nd rfl (.inl rfl))) (fun _ _ _ _ _ => pts_nil) (fun _ _ _ _ _ => (pe_g G__law_draw hr hq (by rfl) T.g__law_draw T.F__law_draw.kp T.b__law_draw .nil pass0 (pa_cons (pv 0) (pa_cons (pe_callB (call_lenK K) (by rfl) T.m_len PySem.boot_len (pa_cons (pv 2) pa_nil)) pa_nil))))) pa_nil)) pa_nil))))
    (pss_one (ps_ret (pe_op (op_catAK K) (pe_op (op_catAK K) (pe_slice (sl_tupAK K) (pv 2) po_none (po_some (pv 3))) (pe_tup (pa_cons (pv 6) pa_nil))) (pe_slice (sl_tupAK K) (pv 2) (po_some (pe_op op_add (pv 3) pe_int)) po_none)))))), ?_⟩
  have lenE : ∀ {σ : L2.St} {F : Hp}, σ[2]? = some (some rv) → Ex G F → EvE K σ F (tCB (rLenQ K) (tCons (tVar 2) tNil)) (.int (s.length : Int)) := fun h e => (e_cb (a_cons (e_var h (x2.mono e)) a_nil) q_lenT).is (by rw [hml])
  refine st_tup12 (K := K) (P := fun d1 d2 d3 => (∃ k : Nat, d1 = nD k ∧ k < s.length) ∧ ∃ (t : Str) (c : Int), d2 = .str t ∧ d3 = .int c ∧ .tuple [.str t, .int c] ∈ tags ++ [voidP])
    ((n_tup (an_cons (n_draw (i0 := 0) rfl (lenE rfl (Ex.rf _)) (by omega) (by omega) (by omega)) fun _ _ => an_cons (n_pickS (i0 := 0) (ds := tags ++ [voidP]) rfl (e_op (e_cb (a_cons (e_var (i := 1) (v := tv) rfl x1) a_nil) c_listT) (e_lst (a_cons (e_tup (a_cons e_str (a_cons e_int a_nil)) (show 2 ≤ 100000 by decide)) a_nil) (show 1 ≤ 100000 by decide)) (o_cat (show tags.length + 1 ≤ 100000 by omega)))
      (.inl rfl) (by simp) (by rw [List.length_append]; exact Nat.lt_of_le_of_lt (Nat.add_le_add hTl (Nat.le_refl 1)) (by decide)) (by omega)) fun _ _ => an_nil) (by rintro _ ⟨_, _, _, ⟨_, _, _, rfl, rfl⟩, rfl⟩; exact (show 2 ≤ 100000 by decide))).imp ?_) eg hD fun vk vt vc d1 d2 d3 G1 H1 u1 hD1 p1 y1 y2 y3 => ?_
  · rintro _ ⟨_, ⟨_, _, ⟨i, rfl, i0, i1⟩, ⟨d, _, hd, rfl, rfl⟩, rfl⟩, rfl⟩
    obtain ⟨t, c, rfl, _⟩ := all_void hT.t.a d hd
    exact ⟨_, _, _, rfl, ⟨i.toNat, by show PyData.int i = .int (i.toNat : Int); rw [Int.toNat_of_nonneg i0], by omega⟩, t, c, rfl, rfl, hd⟩
  obtain ⟨⟨k, rfl, hk⟩, t, c, rfl, rfl, hmem⟩ := p1
  obtain ⟨_, _, e, s9, c0, c3⟩ := all_void hT.t.a _ hmem
  cases e
  cases y1; cases y2; cases y3
  have hnl : (nums 0 c.toNat).length = c.toNat := by unfold nums; rw [List.length_map, List.length_range]
  have x21 := x2.mono u1.g
  refine st_set (K := K) (P := fun d => ∃ r : Str × List Nat, d = rowD r ∧ RowN tags r ∧ ∀ x ∈ r.2, x < s.length) ((n_tup (an_cons (n_pure (e_var (i := 4) rfl (.str _))) fun _ _ => an_cons (n_cb (f := tupD) (an_cons (n_lc1 (c := 1) (P := fun _ r => ∃ j : Int, r = .int j ∧ 0 ≤ j ∧ j < (s.length : Int)) (i_range1 (j := c) (a_cons (e_var (i := 5) rfl (.int _)) a_nil) (by omega) (by omega)) (by rw [hnl]; omega)
      fun j d hj F' v e dv => n_draw (i0 := 0) rfl (lenE rfl (u1.g.tr e)) (by omega) (by omega) ?_) fun _ _ => an_nil) ?_) fun _ _ => an_nil) ?_).imp ?_) u1.h hD1 fun v6 d6 G2 H2 u2 hD2 p6 x6 => ?_
  · have := (List.getElem?_eq_some_iff.mp hj).1
    rw [hnl] at this
    omega
  · rintro _ ⟨_, _, ⟨rs, rfl, _, _⟩, rfl, rfl⟩
    exact c_tupL
  · rintro _ ⟨_, _, rfl, ⟨_, _, _, rfl, rfl⟩, rfl⟩
    exact (show 2 ≤ 100000 by decide)
  · rintro _ ⟨_, ⟨_, _, rfl, ⟨_, _, ⟨_, ⟨_, _, ⟨rs, rfl, hl, hP⟩, rfl, rfl⟩, rfl⟩, rfl, rfl⟩, rfl⟩, rfl⟩
    obtain ⟨ns, rfl, hns⟩ := nats_of (fs := rs) (n := (s.length : Int)) fun f hf => by
      obtain ⟨j, hj⟩ := List.mem_iff_getElem?.mp hf
      have hjl := (List.getElem?_eq_some_iff.mp hj).1
      exact hP j _ f (List.getElem?_eq_getElem (by omega)) hj
    rw [List.length_map] at hl
    exact ⟨(t, ns), rfl, ⟨c, hmem, by show (ns.length : Int) = c; rw [hl, hnl]; omega⟩, fun x hx => by have := hns x hx; omega⟩
  obtain ⟨r, rfl, hrN, hrf⟩ := p6
  have x22 := x21.mono u2.g
  refine st_ret (K := K) (P := fun d => d = sheetD (s.take k ++ [r] ++ s.drop (k + 1))) ((n_pure (e_op (e_op (e_slT (e_var (i := 2) rfl x22) oo_none (oo_some (K := K) (e_var (i := 3) rfl (.int _)))) (e_tup (a_cons (e_var (i := 6) rfl x6) a_nil) (show 1 ≤ 100000 by decide)) (o_catT ?_))
    (e_slT (e_var (i := 2) rfl x22) (oo_some (K := K) (i := (k : Int) + 1) (e_op (z := .int ((k : Int) + 1)) (e_var (i := 3) rfl (.int _)) e_int (o_I0 fun _ => .int _))) oo_none) (o_catT ?_))).imp ?_) u2.h hD2 fun v d G3 H3 u3 hD3 p3 x3 => ?_
  · rw [cut_take (by rw [hml]; omega), List.length_take, hml]
    show _ + 1 ≤ 100000
    omega
  · rw [List.length_append, cut_take (by rw [hml]; omega), show ((k : Int) + 1) = ((k + 1 : Nat) : Int) by omega, cut_drop (by rw [hml]; omega), List.length_take, List.length_drop, hml]
    show _ + 1 + _ ≤ 100000
    omega
  · rintro _ rfl
    rw [cut_take (by rw [hml]; omega), show ((k : Int) + 1) = ((k + 1 : Nat) : Int) by omega, cut_drop (by rw [hml]; omega)]
    show PyData.tuple _ = .tuple _
    rw [List.map_append, List.map_append, List.map_take, List.map_drop]
    rfl
  · subst p3
    have hlen : (s.take k ++ [r] ++ s.drop (k + 1)).length = s.length := by
      rw [List.length_append, List.length_append, List.length_take, List.length_drop, List.length_singleton]; omega
    have hmem' : ∀ r' ∈ s.take k ++ [r] ++ s.drop (k + 1), r' ∈ s ∨ r' = r := fun r' h => by
      rcases List.mem_append.mp h with h | h
      · rcases List.mem_append.mp h with h | h
        · exact .inl (List.mem_of_mem_take h)
        · exact .inr (List.mem_singleton.mp h)
      · exact .inl (List.mem_of_mem_drop h)
    refine q v _ G3 H3 (u1.tr (u2.tr u3)) (hD3.mono (by rw [hnl]; omega)) ⟨by omega, by omega, fun r' hr' => ?_, fun r' hr' x hx => ?_⟩ hlen x3
    · rcases hmem' r' hr' with h | rfl
      · exact hS.a r' h
      · exact hrN
    · rw [hlen]
      rcases hmem' r' hr' with h | rfl
      · exact hS.f r' h x hx
      · exact hrf x hx
end
end L05
set_option Elab.async false
set_option linter.all false
set_option maxRecDepth 100000
set_option maxHeartbeats 1000000
namespace L05
open PySem PySem.Spec PyProof.Rows L2 KD
section
variable {P : Program} {w : World} {K : PySem.W.Frag} {mg : Str → Option Value} {base : Heap}
/-! ### what is asked of two sheets -/
structure RightP (s t : KM.Sheet Str) (o : Option (List Nat)) : Prop where
  w : Two s t
  ls : s.length ≤ 110
  lt : t.length ≤ 110
  to : KM.Told s t o
  b : KM.eqv s t 99 0 0 → KM.Same s t 0 0
  k : okD (.tuple [sheetD s, sheetD t]) = true
theorem sml_small {i : Int} (h : i.natAbs < 10 ^ 18) : Sml 60 0 (.int i) := by
  have hl : i.natAbs.log2 < 60 := by
    by_cases h0 : i.natAbs = 0
    · rw [h0]; decide
    · exact (Nat.log2_lt h0).mpr (Nat.lt_trans h (by decide))
  refine ⟨?_, ?_, rfl, rfl, Nat.le_refl _, ?_⟩
  · show decide ((PyData.shown (.int i)).length ≤ 60) = true
    refine decide_eq_true ?_
    have e := int_text_length_le10 (k := 18) (by decide) h
    show (Str.ofString (toString i)).length ≤ 60
    rw [PySem.ofString_length]; omega
  · show decide (i.natAbs.log2 < 1920) = true
    exact decide_eq_true (by omega)
  · show (if i == 0 then 0 else i.natAbs.log2 + 1) ≤ 60
    split <;> omega
theorem agr_small {s t : KM.Sheet Str} (hs : ∀ r ∈ s, r.2.length ≤ 3) : ∀ {p : List Nat} {i j x y : Nat}, KM.Agr s t p i j x y → ∀ a ∈ p, a < 3
  | [], _, _, _, _, _, a, h => by cases h
  | b :: p, i, j, x, y, ⟨_, u, v, h1, _, h3⟩, a, h => by
    rcases List.mem_cons.mp h with rfl | h
    · have hl := (List.getElem?_eq_some_iff.mp h1).1
      by_cases hi : i < s.length
      · obtain ⟨r, hr, hm⟩ := KM.at_lt hi
        rw [KM.fl_at hr] at hl
        have := hs r hm
        omega
      · have : KM.fl s i = [] := by
          unfold KM.fl
          rw [List.getElem?_eq_none (by omega)]; rfl
        rw [this] at hl
        cases hl
    · exact agr_small hs h3 a h
theorem path_sml {s t : KM.Sheet Str} {o : Option (List Nat)} (R : RightP s t o) : Sml 5978 1 (pathD o) := by
  cases o with
  | none => exact sml_none.mono (by decide) (by decide)
  | some p =>
    have h1 : p.length < 99 := KM.told_len R.to R.b
    have h2 : KM.IsPart s t p := R.to
    obtain ⟨x, y, hA, _⟩ := h2.w
    exact Sml.tup (w := 60) (k := 0) (n := 98) (fun d hd => by
      obtain ⟨a, ha, rfl⟩ := List.mem_map.mp hd
      have := agr_small R.w.zs.f hA a ha
      exact sml_small (by show a < 10 ^ 18; exact Nat.lt_trans this (by decide))) (by rw [List.length_map]; omega) (by decide)
theorem told3_ok {s t : KM.Sheet Str} {o : Option (List Nat)} (R : RightP s t o) : repOk (.list [pathD o, pathD o, pathD o]) = true := by
  refine (Sml.lst (w := 5978) (k := 1) (n := 3) (fun x hx => ?_) (Nat.le_refl _) (by decide)).repOk (by decide) (by decide)
  have h := path_sml R
  rcases List.mem_cons.mp hx with rfl | hx
  · exact h
  rcases List.mem_cons.mp hx with rfl | hx
  · exact h
  rcases List.mem_cons.mp hx with rfl | hx
  · exact h
  · cases hx
section
variable {K : PySem.W.Frag} {σ : L2.St} {F : Hp} {i j : Nat} {v w : V} {E : XK} {s t : KM.Sheet Str} {o : Option (List Nat)}
theorem sheet_ref {G : Hp} (x : Da K G v (sheetD s)) : ∃ ra, v = .ref ra := by cases x; exact ⟨_, rfl⟩
theorem path_go {G H : Hp} (e2 : Ex G H) (x : Da K G v (sheetD s)) (y : Da K G w (sheetD t)) (W : Two s t) (ls : s.length ≤ 110) (lt : t.length ≤ 110) (ht : KM.Told s t o) {Q : VK} (q : ∀ v G' H', Up G H G' H' → Da K G' v (pathD o) → Q v H') : spPath K [v, w] H Q E := by
  obtain ⟨ra, rfl⟩ := sheet_ref x
  obtain ⟨rb, rfl⟩ := sheet_ref y
  exact ⟨ra, rb, s, t, G, rfl, e2, x, y, W, ls, lt, fun v G' H' o' u h dv => by rw [h.uniq ht] at dv; exact q v G' H' u dv⟩
theorem same_go {b : Bool} {G H : Hp} (e2 : Ex G H) (x : Da K G v (sheetD s)) (y : Da K G w (sheetD t)) (W : Two s t) (hb : b = true ↔ KM.Same s t 0 0) {Q : VK} (q : ∀ v G' H', Up G H G' H' → Da K G' v (.bool b) → Q v H') : spSame K [v, w] H Q E := by
  obtain ⟨ra, rfl⟩ := sheet_ref x
  obtain ⟨rb, rfl⟩ := sheet_ref y
  refine ⟨ra, rb, s, t, G, rfl, e2, x, y, W, fun b' G' H' u h => ?_⟩
  have : b' = b := by
    cases b' <;> cases b <;> simp_all
  subst this
  exact q _ G' H' u (.bl _)
theorem part_go {G H : Hp} (e2 : Ex G H) (x : Da K G v (sheetD s)) (y : Da K G w (sheetD t)) (R : RightP s t o) {Q : VK} (q : ∀ v G' H', Up G H G' H' → Da K G' v (pathD o) → Q v H') : spPart K [v, w] H Q E := by
  obtain ⟨ra, rfl⟩ := sheet_ref x
  obtain ⟨rb, rfl⟩ := sheet_ref y
  exact ⟨ra, rb, s, t, G, rfl, e2, x, y, R.w, R.ls, R.lt, R.b, fun v G' H' o' u h _ dv => by rw [h.uniq R.to] at dv; exact q v G' H' u dv⟩
theorem e_path (h1 : σ[i]? = some (some v)) (h2 : σ[j]? = some (some w)) (x : Da K F v (sheetD s)) (y : Da K F w (sheetD t)) (W : Two s t) (ls : s.length ≤ 110) (lt : t.length ≤ 110) (ht : KM.Told s t o) :
    EvE K σ F (tCall (spPath K) [] E (tCons (tVar i) (tCons (tVar j) tNil))) (pathD o) := fun G H e1 e2 Q q => ⟨v, h1, w, h2, path_go (E := E) e2 (x.mono e1) (y.mono e1) W ls lt ht q⟩
theorem e_pathK (h1 : σ[i]? = some (some v)) (h2 : σ[j]? = some (some w)) (x : Da K F v (sheetD s)) (y : Da K F w (sheetD t)) (W : Two s t) (ls : s.length ≤ 110) (lt : t.length ≤ 110) (ht : KM.Told s t o) :
    EvE K σ F (tCallK (spPath K) kwR E tNil (tCons (tVar j) (tCons (tVar i) tNil))) (pathD o) := fun G H e1 e2 Q q => ⟨w, h2, v, h1, path_go (E := E) e2 (x.mono e1) (y.mono e1) W ls lt ht q⟩
theorem e_same {b : Bool} (h1 : σ[i]? = some (some v)) (h2 : σ[j]? = some (some w)) (x : Da K F v (sheetD s)) (y : Da K F w (sheetD t)) (W : Two s t) (hb : b = true ↔ KM.Same s t 0 0) :
    EvE K σ F (tCall (spSame K) [] E (tCons (tVar i) (tCons (tVar j) tNil))) (.bool b) := fun G H e1 e2 Q q => ⟨v, h1, w, h2, same_go (E := E) e2 (x.mono e1) (y.mono e1) W hb q⟩
theorem e_sameK {b : Bool} (h1 : σ[i]? = some (some v)) (h2 : σ[j]? = some (some w)) (x : Da K F v (sheetD s)) (y : Da K F w (sheetD t)) (W : Two s t) (hb : b = true ↔ KM.Same s t 0 0) :
    EvE K σ F (tCallK (spSame K) kwR E tNil (tCons (tVar j) (tCons (tVar i) tNil))) (.bool b) := fun G H e1 e2 Q q => ⟨w, h2, v, h1, same_go (E := E) e2 (x.mono e1) (y.mono e1) W hb q⟩
theorem e_part (h1 : σ[i]? = some (some v)) (h2 : σ[j]? = some (some w)) (x : Da K F v (sheetD s)) (y : Da K F w (sheetD t)) (R : RightP s t o) :
    EvE K σ F (tCall (spPart K) [] E (tCons (tVar i) (tCons (tVar j) tNil))) (pathD o) := fun G H e1 e2 Q q => ⟨v, h1, w, h2, part_go (E := E) e2 (x.mono e1) (y.mono e1) R q⟩
theorem e_isN {te : TE} (h : EvE K σ F te (pathD o)) : EvE K σ F (tOp (fun x y H Q => y = .non ∧ Q (.bl (decide (x = .non))) H) te (tC .non)) (.bool o.isNone) := fun G H e1 e2 Q q =>
  h G H e1 e2 _ fun v G1 H1 u1 dv => by
    cases o with
    | none => cases dv; exact ⟨rfl, q _ G1 H1 u1 (.bl _)⟩
    | some p => cases dv; exact ⟨rfl, q _ G1 H1 u1 (.bl _)⟩
end
theorem told_none {s t : KM.Sheet Str} {o : Option (List Nat)} (h : KM.Told s t o) : o.isNone = true ↔ KM.Same s t 0 0 := by
  cases o with
  | none => exact ⟨fun _ => h, fun _ => rfl⟩
  | some p => exact ⟨(fun z => by cases z), fun z => absurd h.w (KM.Same.noPrt (i := 0) (j := 0) z)⟩
theorem kbr_parting_path (T : Txt K mg) : KBinds K T.d_parting_path ["sheet", "other"] ["other", "sheet"] kwR kwR := by
  obtain ⟨oc, od, kV, doc, pm, an, cdv, ct, osl, e, _, _⟩ := T.F_parting_path.ex
  rw [e]
  exact kb_swap fun a b => rfl
theorem kbr_are_same (T : Txt K mg) : KBinds K T.d_are_same ["sheet", "other"] ["other", "sheet"] kwR kwR := by
  obtain ⟨oc, od, kV, doc, pm, an, cdv, ct, osl, e, _, _⟩ := T.F_are_same.ex
  rw [e]
  exact kb_swap fun a b => rfl
abbrev spLawRight (K : PySem.W.Frag) : Sp := spP K 2 (fun ds => ∃ (s t : KM.Sheet Str) (o : Option (List Nat)), ds = [sheetD s, sheetD t] ∧ RightP s t o) fun _ => .bool true
theorem ok__law_right (T : Txt K mg) : FnG P w K mg base CX0 8 T.a__law_right T.d__law_right ["_law_rows_here", "_law_far"] (spLawRight K) := by
  have G_parting_path := ok_parting_path (P := P) (w := w) (base := base) T
  have G_are_same := ok_are_same (P := P) (w := w) (base := base) T
  have G__law_parting := (ok__law_parting (P := P) (w := w) (base := base) T).mono (show 2 ≤ 7 by decide)
  refine okP T.F__law_right sc__law_right rfl fun cdv A out s0 H vs E G ds hr hq hl da hp => ?_
  obtain ⟨s, t, o, rfl, R⟩ := hp
  cases da with | cons x0 da => ?_
  cases da with | cons x1 da => ?_
  cases da
  rename_i v0 v1
  have hu := hr.units
  have ok1 := (Bool.and_eq_true_iff.mp (show (fit (.tuple [sheetD s, sheetD t]) && repOk (.tuple [sheetD s, sheetD t])) = true from R.k)).2
  refine ⟨_, (pss_cons (ps_par (i := 2) (j := 3) (by rfl) sc__law_right.nd rfl rfl (by decide) rfl rfl (pa_cons (pe_callB (call_reprK K hq hu) (by rfl) T.m_repr (by decide +kernel) (pa_cons (pe_tup (pa_cons (pv 0) (pa_cons (pv 1) pa_nil))) pa_nil)) (pa_cons (pe_g G__law_parting hr hq (by rfl) T.g__law_parting T.F__law_parting.kp T.b__law_parting .nil pass0 (pa_cons (pv 0) (pa_cons (pv 1) pa_nil))) pa_nil)) (by rfl))
    (pss_cons (ps_set (i := 4) sc__law_right.nd rfl (.inl rfl) (pe_lst (pa_cons (pe_g G_parting_path hr hq (by rfl) T.g_parting_path T.F_parting_path.kp T.b_parting_path .nil pass0 (pa_cons (pv 0) (pa_cons (pv 1) pa_nil))) (pa_cons (pe_kw G_parting_path hr hq (by rfl) T.g_parting_path T.F_parting_path.kp (kbr_parting_path T) pass0 (pk_cons (pv 1) (pk_cons (pv 0) pk_nil))) (pa_cons (pe_g G_parting_path hr hq (by rfl) T.g_parting_path T.F_parting_path.kp T.b_parting_path .nil pass0 (pa_cons (pv 1) (pa_cons (pv 0) pa_nil))) pa_nil)))))
    (pss_cons (ps_if (PW.pt (pw_or (pt_cmpR op_ne (pe_callB (call_reprK K hq hu) (by rfl) T.m_repr (by decide +kernel) (pa_cons (pv 4) pa_nil)) (pe_callB (call_reprK K hq hu) (by rfl) T.m_repr (by decide +kernel) (pa_cons (pe_op op_rep (pe_lst (pa_cons (pv 3) pa_nil)) pe_int) pa_nil)) (nomark _)) (pw_or1 (pt_cmpR op_ne (pe_callB (call_reprK K hq hu) (by rfl) T.m_repr (by decide +kernel) (pa_cons (pe_tup (pa_cons (pv 0) (pa_cons (pv 1) pa_nil))) pa_nil)) (pv 2) (nomark _)))))
    (pss_one (ps_ret pe_bl))
    pss_nil)
    (pss_cons (ps_set (i := 4) sc__law_right.nd rfl (.inl rfl) (pe_lst (pa_cons (pe_g G_are_same hr hq (by rfl) T.g_are_same T.F_are_same.kp T.b_are_same .nil pass0 (pa_cons (pv 0) (pa_cons (pv 1) pa_nil))) (pa_cons (pe_kw G_are_same hr hq (by rfl) T.g_are_same T.F_are_same.kp (kbr_are_same T) pass0 (pk_cons (pv 0) (pk_cons (pv 1) pk_nil))) (pa_cons (pe_g G_are_same hr hq (by rfl) T.g_are_same T.F_are_same.kp T.b_are_same .nil pass0 (pa_cons (pv 0) (pa_cons (pv 0) pa_nil))) pa_nil)))))
    (pss_one (ps_ret (pe_cmpR op_eq (pe_callB (call_reprK K hq hu) (by rfl) T.m_repr (by decide +kernel) (pa_cons (pv 4) pa_nil)) (pe_callB (call_reprK K hq hu) (by rfl) T.m_repr (by decide +kernel) (pa_cons (pe_lst (pa_cons (pe_cmpR op_isN (pv 3) pe_non (nomark _)) (pa_cons (pe_cmpR op_isN (pv 3) pe_non (nomark _)) (pa_cons pe_bl pa_nil)))) pa_nil)) (nomark _)))))))), ?_⟩
  have two : ∀ {σ : L2.St} {F : Hp}, σ[0]? = some (some v0) → σ[1]? = some (some v1) → Ex G F → EvE K σ F (tTup (tCons (tVar 0) (tCons (tVar 1) tNil))) (.tuple [sheetD s, sheetD t]) := fun h1 h2 e => e_tup (a_cons (e_var h1 (x0.mono e)) (a_cons (e_var h2 (x1.mono e)) a_nil)) (show 2 ≤ 100000 by decide)
  have T1 := R.to
  have T2 := R.to.sym
  have same1 := told_none T1
  have same2 : o.isNone = true ↔ KM.Same t s 0 0 := told_none T2
  have W1 := R.w
  have W2 := R.w.sym
  have W3 : Two s s := ⟨W1.zs, W1.zs, W1.ss, W1.ss, W1.ok.imp fun _ h => ⟨h.1, h.1⟩⟩
  refine r_par (K := K) (a_cons (e_cb (a_cons (two rfl rfl (Ex.rf _)) a_nil) (c_repr ok1)) (a_cons (e_part (i := 0) (j := 1) rfl rfl x0 x1 R) a_nil)) fun v2 v3 F1 e1 x2 x3 => ?_
  refine r_set (K := K) (e_lst (a_cons (e_path (i := 0) (j := 1) rfl rfl (x0.mono e1) (x1.mono e1) W1 R.ls R.lt T1) (a_cons (e_pathK (i := 0) (j := 1) rfl rfl (x0.mono e1) (x1.mono e1) W1 R.ls R.lt T1) (a_cons (e_path (i := 1) (j := 0) rfl rfl (x1.mono e1) (x0.mono e1) W2 R.lt R.ls T2) a_nil))) (show 3 ≤ 100000 by decide)) fun v4 F2 e2 x4 => ?_
  have e12 := e1.tr e2
  refine r_guard0 (K := K) (t_or0 (t_test ((e_op (e_cb (a_cons (e_var (i := 4) rfl x4) a_nil) (c_repr (told3_ok R)))
    (e_cb (a_cons ((e_op (e_lst (a_cons (e_var (i := 3) rfl (x3.mono e2)) a_nil) (show 1 ≤ 100000 by decide)) (e_int (i := 3)) (o_rep (n := 3) (show 1 * 3 ≤ 100000 by decide) (by decide))).is (d' := .list [pathD o, pathD o, pathD o]) rfl) a_nil) (c_repr (told3_ok R))) (o_ne rfl)).is ?_))
    (t_test ((e_op (e_cb (a_cons (two rfl rfl e12) a_nil) (c_repr ok1)) (e_var (i := 2) rfl (x2.mono e2)) (o_ne rfl)).is ?_))) ?_
  · simp [eqD]
  · simp [eqD]
  · refine r_set (K := K) (e_lst (a_cons (e_same (i := 0) (j := 1) rfl rfl (x0.mono e12) (x1.mono e12) W1 same1) (a_cons (e_sameK (i := 1) (j := 0) rfl rfl (x1.mono e12) (x0.mono e12) W2 same2) (a_cons (e_same (b := true) (i := 0) (j := 0) rfl rfl (x0.mono e12) (x0.mono e12) W3 ⟨fun _ => KM.Same.rf _ _, fun _ => rfl⟩) a_nil))) (show 3 ≤ 100000 by decide)) fun v5 F3 e3 x5 => ?_
    have isn : EvE K ((([some v0, some v1, some v2, some v3, some v4] : L2.St)).set 4 (some v5)) F3 (tOp (fun x y H Q => y = .non ∧ Q (.bl (decide (x = .non))) H) (tVar 3) (tC .non)) (.bool o.isNone) := e_isN (e_var (i := 3) rfl (x3.mono (e2.tr e3)))
    have ok2 : repOk (.list [.bool o.isNone, .bool o.isNone, .bool true]) = true := by cases o.isNone <;> decide +kernel
    refine (r_ret (K := K) ((e_op (e_cb (a_cons (e_var (i := 4) rfl x5) a_nil) (c_repr ok2)) (e_cb (a_cons (e_lst (a_cons isn (a_cons isn (a_cons e_bl a_nil))) (show 3 ≤ 100000 by decide)) a_nil) (c_repr ok2)) (o_eq rfl)).is ?_))
    simp [eqD]
end
end L05
set_option Elab.async false
set_option linter.all false
set_option maxRecDepth 100000
set_option maxHeartbeats 1000000
namespace L05
open PySem PySem.Spec PyProof.Rows L2 KD
section
variable {P : Program} {w : World} {K : PySem.W.Frag} {mg : Str → Option Value} {base : Heap}
/-! ### the law -/
section
variable {dk cl : Addr} {σ : L2.St} {F G H : Hp} {m m' m1 : Nat} {te ta tb : TE} {i j : Nat} {v : V} {tags : List PyData} {s t : KM.Sheet Str} {u : TS} {D : Ends} {E : XK} {o : Option (List Nat)}
theorem n_cop (hd : σ[1]? = some (some (.ref dk))) (hv : σ[i]? = some (some v)) (hx : Da K F v (sheetD s)) (hT : TagsV tags) (hS : ShN tags s) (hl : s.length ≤ 25) (hm : m ≤ 999980000) :
    EvN K dk cl σ F m (tCall (spCopies K) [] E (tCons (tVar 1) (tCons (tVar i) tNil))) (m + 600) (fun d => ∃ s', d = sheetD s' ∧ ShN tags s' ∧ KM.Same s' s 0 0) := fun G H e1 e2 hD Q q =>
  ⟨.ref dk, hd, v, hv, rfl, dk, cl, v, tags, s.map rowD, G, m, rfl, e2, hD, hm, hx.mono e1, hT, hS.rowsV hl, fun w cs sp G' H' u hD' hC dw => by
    obtain ⟨s', rfl, h1, h2⟩ := copy_sheet hT hS hC
    exact q w _ G' H' u hD' ⟨s', rfl, h1, h2⟩ dw⟩
theorem n_rowsS (hd : σ[1]? = some (some (.ref dk))) (hv : σ[i]? = some (some v)) (hx : Da K F v (.tuple tags)) (hT : TagsV tags) (hm : m ≤ 999990000) :
    EvN K dk cl σ F m (tCall (spRows K) [] E (tCons (tVar 1) (tCons (tVar i) tNil))) (m + 100) (fun d => ∃ s, d = sheetD s ∧ ShN tags s ∧ s.length ≤ 25) := fun G H e1 e2 hD Q q =>
  ⟨.ref dk, hd, v, hv, rfl, dk, cl, v, tags, G, m, rfl, e2, hD, hm, hx.mono e1, hT, fun w rs G' H' u hD' hR dw => by
    obtain ⟨s, rfl, ha, hf⟩ := sheet_of hR.a
    have hRl := hR.l
    have hRp := hR.p
    rw [List.length_map] at hRl hRp
    have hS : ShN tags s := ⟨hRp, by omega, ha, fun r hr x hx => by
      have := hf r hr x hx
      rw [List.length_map] at this
      omega⟩
    exact q w _ G' H' u hD' ⟨s, rfl, hS, hRl⟩ dw⟩
theorem n_changed (hd : σ[1]? = some (some (.ref dk))) (hv : σ[3]? = some (some v)) (hx : Da K F v (.tuple tags)) (hT : TagsV tags) (h : EvN K dk cl σ F m te m1 (fun d => ∃ s, d = sheetD s ∧ ShN tags s ∧ s.length ≤ 25)) (hm : m1 ≤ 999980000) :
    EvN K dk cl σ F m (tCall (spChanged K) [] E (tCons (tVar 1) (tCons (tVar 3) (tCons te tNil)))) (m1 + 10) (fun d => ∃ s, d = sheetD s ∧ ShN tags s ∧ s.length ≤ 25) := fun G H e1 e2 hD Q q =>
  ⟨.ref dk, hd, v, hv, h G H e1 e2 hD _ fun w d G1 H1 u1 hD1 p dw => by
    obtain ⟨s, rfl, hS, hl⟩ := p
    exact ⟨rfl, dk, cl, v, w, tags, s, G1, m1, rfl, u1.h, hD1, hm, (hx.mono e1).mono u1.g, hT, dw, hS, hl, fun x s' G2 H2 u2 hD2 hS' hl' dx => q x _ G2 H2 (u1.tr u2) hD2 ⟨s', rfl, hS', by omega⟩ dx⟩⟩
theorem e_pathA {as : TA} (h : EvA K σ F as [sheetD s, sheetD t]) (W : Two s t) (ls : s.length ≤ 110) (lt : t.length ≤ 110) (ht : KM.Told s t o) : EvE K σ F (tCall (spPath K) [] E as) (pathD o) := fun G H e1 e2 Q q =>
  h G H e1 e2 _ fun vs G1 H1 u1 da => by
    cases da with | cons a1 da => ?_
    cases da with | cons a2 da => ?_
    cases da
    exact path_go (E := E) u1.h a1 a2 W ls lt ht fun v G' H' u dv => q v G' H' (u1.tr u) dv
theorem e_partA {as : TA} (h : EvA K σ F as [sheetD s, sheetD t]) (R : RightP s t o) : EvE K σ F (tCall (spPart K) [] E as) (pathD o) := fun G H e1 e2 Q q =>
  h G H e1 e2 _ fun vs G1 H1 u1 da => by
    cases da with | cons a1 da => ?_
    cases da with | cons a2 da => ?_
    cases da
    exact part_go (E := E) u1.h a1 a2 R fun v G' H' u dv => q v G' H' (u1.tr u) dv
theorem e_notN (h : EvE K σ F te (pathD none)) : EvE K σ F (tOp (fun x y H Q => y = .non ∧ Q (.bl (!decide (x = .non))) H) te (tC .non)) (.bool false) := fun G H e1 e2 Q q =>
  h G H e1 e2 _ fun v G1 H1 u1 dv => by
    cases dv; exact ⟨rfl, q _ G1 H1 u1 (.bl _)⟩
theorem st_lstD {as : TA} {PA : List PyData → Prop} {R : PyData → Prop} {n : Nat} (h : AvN K dk cl σ G m as m' PA) (e : Ex G H) (hD : Deck G H dk cl m) (hn : n ≤ 100000) (hl : ∀ ds, PA ds → ds.length = n ∧ ∀ d ∈ ds, R d)
    (q : ∀ L ds G' H', UpM dk cl G H G' H' → H L = none → PA ds → Lp K dk cl L R n ds G' H' m' → u D (σ.set i (some (.ref L))) H') : tSeq (tAsg (tLst as) (gName i)) u D σ H := by
  refine h G H (Ex.rf _) e hD _ fun vs ds G1 H1 u1 hD1 p d1 => ⟨by rw [d1.length, (hl ds p).1]; exact Nat.le_trans hn (by decide), fun L hL => ?_⟩
  have hLH : H L = none := by
    cases z : H L with
    | none => rfl
    | some o => exact absurd hL (u1.t L (by rw [z]; simp))
  have eu : Ex H1 (upd H1 L (.lst vs)) := Ex.up hL
  exact q L ds G1 _ (u1.put hLH (u1.h.fresh hL)) hLH p ⟨u1.h.tr eu, hD1.up (⟨Ex.rf _, u1.h.tr eu, eu, fun _ _ h => h⟩ : Up G1 H1 G1 _), ⟨u1.h.fresh hL, vs, upd_same, d1⟩, fun z => hD1.dn (by rw [← z]; exact hL), fun z => hD1.cn (by rw [← z]; exact hL), (hl ds p).1, (hl ds p).2⟩
theorem do_app1 {L : Addr} {P R : PyData → Prop} {n : Nat} {ds : List PyData} (hv : σ[i]? = some (some (.ref L))) (I : Lp K dk cl L R n ds G H m) (h : EvN K dk cl σ G m te m' P) (hR : ∀ d, P d → R d) (hn : n ≤ 100000)
    (q : ∀ d G' H1 o, P d → UpM dk cl G H G' H1 → G' L = none → Lp K dk cl L R (n + 1) (ds ++ [d]) G' (upd H1 L o) m' → D.nx σ (upd H1 L o)) : tDrop (tBM K "list" rAppend (tVar i) (tCons te tNil)) D σ H := by
  obtain ⟨acc, ea, _⟩ := I.l.ex
  refine ⟨.ref L, hv, .inl ⟨rfl, acc, SqL.of ea⟩, h G H (Ex.rf _) I.e I.d _ fun v d G1 H1 u1 hD1 p dv => ?_⟩
  have I1 := I.up u1 hD1
  obtain ⟨acc1, ea1, da1⟩ := I1.l.ex
  refine ⟨L, acc1, v, rfl, rfl, ea1, ?_, q d G1 H1 _ p u1 I1.l.gl (I1.put ea1 da1 dv (hR d p))⟩
  rw [da1.length, I.len]
  exact Nat.lt_of_le_of_lt hn (by decide)
end
theorem sn_lay {n : Nat} {x : Str} (h : SN n x) : PyData.canLay0 (.str x) = true := by
  show PyData.strOk x = true
  unfold PyData.strOk
  rw [Array.all_eq_true_iff_forall_mem]
  intro c hc
  exact decide_eq_true (Nat.lt_trans (h.c c (by simpa using hc)) (by decide))
theorem sheet_cln {s : KM.Sheet Str} (hl : s.length ≤ 101) (h : ∀ r ∈ s, r.2.length ≤ 3 ∧ SN 9 r.1 ∧ ∀ x ∈ r.2, x < 1000) : Cln 37269 3 (sheetD s) := by
  refine Cln.tup (w := 368) (k := 2) (n := 101) (fun c hc => ?_) (by rw [List.length_map]; exact hl) (by decide)
  obtain ⟨r, hr, rfl⟩ := List.mem_map.mp hc
  obtain ⟨h3, h9, hx⟩ := h r hr
  have cf : Cln 183 1 (.tuple (r.2.map nD)) := Cln.tup (w := 60) (k := 0) (n := 3) (fun f hf => by
    obtain ⟨x, hm, rfl⟩ := List.mem_map.mp hf
    have := hx x hm
    exact Cln.int (by omega)) (by rw [List.length_map]; exact h3) (by decide)
  exact c_two ((Cln.str h9 (by decide)).mono (by decide) (by decide)) cf
theorem pair_okD {s t : KM.Sheet Str} (hs : Cln 37269 3 (sheetD s)) (ht : Cln 37269 3 (sheetD t)) : okD (.tuple [sheetD s, sheetD t]) = true := smx_ok2 (c_two hs ht).x (by decide) (by decide)
theorem ShN.cln {tags : List PyData} {s : KM.Sheet Str} (hT : TagsV tags) (h : ShN tags s) : Cln 37269 3 (sheetD s) := sheet_cln h.l fun r hr => ⟨((h.a r hr).f3 hT).1, ((h.a r hr).f3 hT).2, fun x hx => by have := h.f r hr x hx; have := h.l; omega⟩
theorem two_of {tags : List PyData} {s t : KM.Sheet Str} (hT : TagsV tags) (hs : ShN tags s) (ht : ShN tags t) : Two s t :=
  ⟨hs.sz hT, ht.sz hT, fun r hr => sn_lay ((hs.a r hr).f3 hT).2, fun r hr => sn_lay ((ht.a r hr).f3 hT).2, _, hs.ok hT, ht.ok hT⟩
theorem bound99 {s t : KM.Sheet Str} {ar : Str → Nat} (hs : KM.Ok ar s) (ht : KM.Ok ar t) (s0 : 0 < s.length) (t0 : 0 < t.length) (hl : s.length + t.length ≤ 99) (h : KM.eqv s t 99 0 0) : KM.Same s t 0 0 := KM.eqv_bound hs ht s0 t0 (eqv_le hl h)
theorem right_of {tags : List PyData} {s t : KM.Sheet Str} (hT : TagsV tags) (hs : ShN tags s) (ht : ShN tags t) (h1 : s.length ≤ 25) (h2 : t.length ≤ 25) : ∃ o, RightP s t o := by
  obtain ⟨o, ho⟩ := KM.told_ex s t
  exact ⟨o, two_of hT hs ht, by omega, by omega, ho, bound99 (hs.ok hT) (ht.ok hT) hs.p ht.p (by omega), pair_okD (hs.cln hT) (ht.cln hT)⟩
theorem right_copy {tags : List PyData} {s t : KM.Sheet Str} (hT : TagsV tags) (hs : ShN tags s) (ht : ShN tags t) (h : KM.Same t s 0 0) : RightP s t none :=
  ⟨two_of hT hs ht, by have := hs.l; omega, by have := ht.l; omega, h.sym, fun _ => h.sym, pair_okD (hs.cln hT) (ht.cln hT)⟩
/-! chains with an end -/
def chainE (many n : Nat) (e : Str × List Nat) : KM.Sheet Str := (List.range n).map (fun k => (("a" : Str), List.replicate many (k + 1))) ++ [e]
theorem ab_ne : ("a" : Str) ≠ "b" := by decide +kernel
theorem ac_ne : ("a" : Str) ≠ "c" := by decide +kernel
theorem bc_ne : ("b" : Str) ≠ "c" := by decide +kernel
def arA (many : Nat) : Str → Nat := fun t => if t = "a" then many else 0
section
variable {many n : Nat} {e e' : Str × List Nat}
theorem chainE_length : (chainE many n e).length = n + 1 := by
  unfold chainE
  rw [List.length_append, List.length_map, List.length_range]; rfl
theorem chainE_lt {k : Nat} (h : k < n) : (chainE many n e)[k]? = some (("a" : Str), List.replicate many (k + 1)) := by
  unfold chainE
  rw [List.getElem?_append_left (by rw [List.length_map, List.length_range]; exact h), List.getElem?_map, List.getElem?_range h]; rfl
theorem chainE_end : (chainE many n e)[n]? = some e := by
  unfold chainE
  rw [List.getElem?_append_right (by rw [List.length_map, List.length_range]; exact Nat.le_refl _), List.length_map, List.length_range, Nat.sub_self]; rfl
theorem chainE_mem {r : Str × List Nat} (h : r ∈ chainE many n e) : (∃ k, k < n ∧ r = (("a" : Str), List.replicate many (k + 1))) ∨ r = e := by
  unfold chainE at h
  rcases List.mem_append.mp h with h | h
  · obtain ⟨k, hk, rfl⟩ := List.mem_map.mp h
    exact .inl ⟨k, List.mem_range.mp hk, rfl⟩
  · exact .inr (List.mem_singleton.mp h)
/-- an end of a chain -/
structure EndOk (many : Nat) (e : Str × List Nat) : Prop where
  a : e.2.length = arA many e.1
  z : ∀ x ∈ e.2, x = 0
  s : SN 9 e.1
theorem chainE_ok (h : EndOk many e) : KM.Ok (arA many) (chainE many n e) := by
  refine ⟨fun r hr => ?_, fun r hr x hx => ?_⟩
  · rcases chainE_mem hr with ⟨k, _, rfl⟩ | rfl
    · show (List.replicate many (k + 1)).length = arA many "a"
      rw [List.length_replicate]; unfold arA; rw [if_pos rfl]
    · exact h.a
  · rw [chainE_length]
    rcases chainE_mem hr with ⟨k, hk, rfl⟩ | rfl
    · have := (List.mem_replicate.mp hx).2
      omega
    · have := h.z x hx
      omega
theorem EndOk.f3 (h : EndOk many e) (h3 : many ≤ 3) : ∀ r ∈ chainE many n e, r.2.length ≤ 3 := fun r hr => by
  rw [(chainE_ok h).a r hr]
  unfold arA; split <;> omega
theorem EndOk.sn (h : EndOk many e) : ∀ r ∈ chainE many n e, SN 9 r.1 := fun r hr => by
  rcases chainE_mem hr with ⟨k, _, rfl⟩ | rfl
  · exact (show SN 9 ("a" : Str) from SN.of (by decide +kernel))
  · exact h.s
theorem chain_two {n' : Nat} (h : EndOk many e) (h' : EndOk many e') (h3 : many ≤ 3) (hn : n ≤ 30) (hn' : n' ≤ 30) : Two (chainE many n e) (chainE many n' e') :=
  ⟨⟨by rw [chainE_length]; omega, by rw [chainE_length]; omega, h.f3 h3, _, chainE_ok h⟩, ⟨by rw [chainE_length]; omega, by rw [chainE_length]; omega, h'.f3 h3, _, chainE_ok h'⟩, fun r hr => sn_lay (h.sn r hr), fun r hr => sn_lay (h'.sn r hr), _, chainE_ok h, chainE_ok h'⟩
theorem chain_cln (h : EndOk many e) (h3 : many ≤ 3) (hn : n ≤ 30) : Cln 37269 3 (sheetD (chainE many n e)) := sheet_cln (by rw [chainE_length]; omega) fun r hr => ⟨h.f3 h3 r hr, h.sn r hr, fun x hx => by
  have := (chainE_ok (n := n) h).f r hr x hx
  rw [chainE_length] at this; omega⟩
theorem chain_right {n' : Nat} (h : EndOk many e) (h' : EndOk many e') (h3 : many ≤ 3) (hn : n ≤ 30) (hn' : n' ≤ 30) : ∃ o, RightP (chainE many n e) (chainE many n' e') o := by
  obtain ⟨o, ho⟩ := KM.told_ex (chainE many n e) (chainE many n' e')
  exact ⟨o, chain_two h h' h3 hn hn', by rw [chainE_length]; omega, by rw [chainE_length]; omega, ho, bound99 (chainE_ok h) (chainE_ok h') (by rw [chainE_length]; omega) (by rw [chainE_length]; omega) (by rw [chainE_length, chainE_length]; omega), pair_okD (chain_cln h h3 hn) (chain_cln h' h3 hn')⟩
theorem chain_agr (hne : e.1 ≠ e'.1) : ∀ {q : List Nat} {k x y : Nat}, k ≤ n → KM.Agr (chainE many n e) (chainE many n e') q k k x y → x = k + q.length ∧ y = k + q.length ∧ k + q.length ≤ n
  | [], k, x, y, hk, ⟨h1, h2⟩ => ⟨h1, h2, hk⟩
  | a :: q, k, x, y, hk, ⟨h0, u, v, h1, h2, h3⟩ => by
    by_cases c : k < n
    · rw [KM.fl_at (chainE_lt c)] at h1 h2
      have e1 := (List.mem_replicate.mp (List.mem_of_getElem? h1)).2
      have e2 := (List.mem_replicate.mp (List.mem_of_getElem? h2)).2
      subst e1 e2
      obtain ⟨g1, g2, g3⟩ := chain_agr hne (k := k + 1) (by omega) h3
      rw [List.length_cons]
      exact ⟨by omega, by omega, by omega⟩
    · have : k = n := by omega
      subst this
      rw [KM.tg_at chainE_end, KM.tg_at chainE_end] at h0
      exact absurd (Option.some.inj h0) hne
theorem agr_zeros (hm : 0 < many) : ∀ (d k : Nat), k + d = n → KM.Agr (chainE many n e) (chainE many n e') (List.replicate d 0) k k n n
  | 0, k, h => ⟨by omega, by omega⟩
  | d + 1, k, h => by
    refine ⟨by rw [KM.tg_at (chainE_lt (by omega)), KM.tg_at (chainE_lt (by omega))], k + 1, k + 1, ?_, ?_, agr_zeros hm d (k + 1) (by omega)⟩
    · rw [KM.fl_at (chainE_lt (by omega)), List.getElem?_replicate, if_pos hm]
    · rw [KM.fl_at (chainE_lt (by omega)), List.getElem?_replicate, if_pos hm]
theorem zeros_lx : ∀ {q : List Nat}, KM.lx (List.replicate q.length 0) q ∨ List.replicate q.length 0 = q
  | [] => .inr rfl
  | a :: q => by
    rw [List.length_cons, List.replicate_succ]
    by_cases c : a = 0
    · subst c
      rcases zeros_lx (q := q) with h | h
      · exact .inl (.inr ⟨rfl, h⟩)
      · exact .inr (by rw [h])
    · exact .inl (.inl (by omega))
theorem chain_told (hm : 0 < many) (hne : e.1 ≠ e'.1) : KM.Told (chainE many n e) (chainE many n e') (some (List.replicate n 0)) := by
  refine ⟨⟨n, n, agr_zeros hm n 0 (by omega), ?_⟩, fun q ⟨x, y, hA, hd⟩ => ?_⟩
  · rw [KM.tg_at chainE_end, KM.tg_at chainE_end]
    exact fun z => hne (Option.some.inj z)
  · obtain ⟨h1, h2, h3⟩ := chain_agr hne (Nat.zero_le _) hA
    have hq : q.length = n := by
      by_cases c : q.length < n
      · rw [h1, h2, Nat.zero_add, KM.tg_at (chainE_lt c), KM.tg_at (chainE_lt c)] at hd
        exact absurd rfl hd
      · omega
    refine .inr ⟨by rw [List.length_replicate, hq], ?_⟩
    have := zeros_lx (q := q)
    rwa [hq] at this
theorem chainED : (chainE many n e).map rowD = ((List.range n).map fun k => PyData.tuple [.str "a", .tuple (List.replicate many (nD (k + 1)))]) ++ [rowD e] := by
  unfold chainE
  rw [List.map_append, List.map_map]
  congr 1
  refine List.map_congr_left fun k _ => ?_
  show PyData.tuple [.str "a", .tuple ((List.replicate many (k + 1)).map nD)] = _
  rw [List.map_replicate]
end
theorem zeros_cmp {n : Nat} : cmpOk (.tuple (List.replicate n (.int 0))) (.tuple (List.replicate n (.int 0))) = true ∧ PyData.eqv (.tuple (List.replicate n (.int 0))) (.tuple (List.replicate n (.int 0))) = true := by
  have e : List.replicate n (PyData.int 0) = (List.replicate n 0).map nD := by rw [List.map_replicate]; rfl
  have h1 : SeqAt.shaped (.tuple (List.replicate n (.int 0))) = true := by
    have g1 : PyData.canLay0 (.tuple (List.replicate n (.int 0))) = true := by
      show PyData.canLayAll0 (List.replicate n (.int 0)) = true
      rw [e]; exact canLay_nats
    have g2 : PyData.depth (.tuple (List.replicate n (.int 0))) ≤ 64 := by
      show PyData.depthAll (List.replicate n (.int 0)) + 1 ≤ 64
      rw [e, depth_nats]; decide
    unfold SeqAt.shaped
    rw [g1, decide_eq_true g2]; rfl
  refine ⟨cmpOk_of h1 h1, ?_⟩
  show PyData.eqvAll (List.replicate n (.int 0)) (List.replicate n (.int 0)) = true
  rw [e, nats_eqv]
  exact decide_eq_true rfl
theorem st_parE {K : PySem.W.Frag} {σ : L2.St} {G H : Hp} {as : TA} {d1 d2 : PyData} {i j : Nat} {u : TS} {D : Ends} (h : EvA K σ G as [d1, d2]) (e : Ex G H)
    (q : ∀ v w G' H', Up G H G' H' → Da K G' v d1 → Da K G' w d2 → u D ((σ.set i (some v)).set j (some w)) H') : tSeq (tPar i j as) u D σ H := h G H (Ex.rf _) e _ fun vs G1 H1 u1 dv => by
  cases dv with | cons a1 dv => ?_
  cases dv with | cons a2 dv => ?_
  cases dv
  exact ⟨_, _, rfl, q _ _ G1 H1 u1 a1 a2⟩
theorem g_last {σ : L2.St} {G H : Hp} {tt : TT} {t : TS} {D : Ends} (h : EvT σ G tt false) (e : Ex G H) (q : ∀ G' H', Up G H G' H' → D.nx σ H') : tIfS tt t tNext D σ H := h G H (Ex.rf _) e _ fun G1 H1 u1 => iteF (q G1 H1 u1)
def sp_law (K : PySem.W.Frag) : Sp := fun vs H Q _ => vs.length = 1 ∧ ∃ (a : Addr) (ns : List Int), vs = [.ref a] ∧ SqL K H a (ns.map V.int) ∧ ns.length ≤ 63 ∧ ∀ H', Q (.bl true) H'
theorem sp_law_go {a : Addr} {ns : List Int} {H : Hp} {E : XK} (hl : ns.length ≤ 63) (hS : SqL K H a (ns.map V.int)) : sp_law K [.ref a] H (fun v _ => v = .bl true) E :=
  ⟨rfl, a, ns, rfl, hS, hl, fun _ => rfl⟩
theorem forT_go {K : PySem.W.Frag} {te : TE} {g : TG} {tb : TS} {D : Ends} {σ : L2.St} {H : Hp} (h : te σ H fun x H1 => ∃ a, x = .ref a ∧ (∃ xs, SqT K H1 a xs) ∧ ∃ W : Nat → Nat → L2.St → Hp → Prop, (∃ m, W 0 m σ H1) ∧ ∀ i m σ' H', W i m σ' H' →
      ((Itt K a).stop i H' ∧ D.nx σ' H') ∨ ((Itt K a).go i H' ∧ ∃ N : L2.St → Hp → Prop, (∀ σ'' H'', N σ'' H'' → ∃ m', m' < m ∧ W (i + 1) m' σ'' H'') ∧ ∀ x H'', (Itt K a).yld i H' x H'' → g x σ' H'' fun σ2 H2 => tb { D with nx := N, ct := N, bk := D.nx } σ2 H2)) : tFor (iTup K te) g tb D σ H := h
theorem ok_law (T : Txt K mg) : FnG P w K mg base CX0 28 T.a_law T.d_law ["_law_script"] (sp_law K) := by
  have G__law_deck := (ok__law_deck (P := P) (w := w) (base := base) T).mono (show 1 ≤ 27 by decide)
  have G__law_draw := (ok__law_draw (P := P) (w := w) (base := base) T).mono (show 1 ≤ 27 by decide)
  have G__law_tags := (ok__law_tags (P := P) (w := w) (base := base) T).mono (show 3 ≤ 27 by decide)
  have G__law_rows := (ok__law_rows (P := P) (w := w) (base := base) T).mono (show 3 ≤ 27 by decide)
  have G__law_copies := (ok__law_copies (P := P) (w := w) (base := base) T).mono (show 3 ≤ 27 by decide)
  have G__law_changed := (ok__law_changed (P := P) (w := w) (base := base) T).mono (show 3 ≤ 27 by decide)
  have G__law_parting := (ok__law_parting (P := P) (w := w) (base := base) T).mono (show 2 ≤ 27 by decide)
  have G_parting_path := (ok_parting_path (P := P) (w := w) (base := base) T).mono (show 7 ≤ 27 by decide)
  have G__law_right := (ok__law_right (P := P) (w := w) (base := base) T).mono (show 8 ≤ 27 by decide)
  refine okG T.F_law sc_law (fun vs H Q E h => h.1) fun cdv A out s H vs Q E hr hq h => ?_
  obtain ⟨_, a, ns, rfl, hS, hl, q⟩ := h
  have hu := hr.units
  refine ⟨_, (pss_cons (ps_set (i := 1) sc_law.nd rfl (.inl rfl) (pe_g G__law_deck hr hq (by rfl) T.g__law_deck T.F__law_deck.kp T.b__law_deck .nil pass0 (pa_cons (pv 0) pa_nil)))
    (pss_cons (ps_for PassesOwn.never rfl (pi_range1 (by rfl) T.m_range (pa_cons pe_int pa_nil)) (pg_name (i := 2) sc_law.nd rfl (.inl rfl))
    (pss_cons (ps_set (i := 3) sc_law.nd rfl (.inl rfl) (pe_g G__law_tags hr hq (by rfl) T.g__law_tags T.F__law_tags.kp T.b__law_tags .nil pass0 (pa_cons (pv 1) pa_nil)))
    (pss_cons (ps_set (i := 4) sc_law.nd rfl (.inr rfl) (pe_g G__law_rows hr hq (by rfl) T.g__law_rows T.F__law_rows.kp T.b__law_rows .nil pass0 (pa_cons (pv 1) (pa_cons (pv 3) pa_nil))))
    (pss_cons (ps_set (i := 5) sc_law.nd rfl (.inl rfl) (pe_lst (pa_cons (pe_g G__law_copies hr hq (by rfl) T.g__law_copies T.F__law_copies.kp T.b__law_copies .nil pass0 (pa_cons (pv 1) (pa_cons (pv 4) pa_nil))) (pa_cons (pe_g G__law_changed hr hq (by rfl) T.g__law_changed T.F__law_changed.kp T.b__law_changed .nil pass0 (pa_cons (pv 1) (pa_cons (pv 3) (pa_cons (pv 4) pa_nil)))) (pa_cons (pe_g G__law_rows hr hq (by rfl) T.g__law_rows T.F__law_rows.kp T.b__law_rows .nil pass0 (pa_cons (pv 1) (pa_cons (pv 3) pa_nil))) pa_nil)))))
    (pss_cons (ps_expr (pe_bm PySem.F.plainAttrs_list PySem.F.slot_list_append PySem.F.type_list_append mt_append (pv 5) (pa_cons (pe_g G__law_changed hr hq (by rfl) T.g__law_changed T.F__law_changed.kp T.b__law_changed .nil pass0 (pa_cons (pv 1) (pa_cons (pv 3) (pa_cons (pe_g G__law_changed hr hq (by rfl) T.g__law_changed T.F__law_changed.kp T.b__law_changed .nil pass0 (pa_cons (pv 1) (pa_cons (pv 3) (pa_cons (pv 4) pa_nil)))) pa_nil)))) pa_nil)))
    (pss_one (ps_if (PW.pt (pw_or (pt_cmpR op_notN (pe_g G__law_parting hr hq (by rfl) T.g__law_parting T.F__law_parting.kp T.b__law_parting .nil pass0 (pa_cons (pv 4) (pa_cons (pe_ix (ix_listK K) (pv 5) pe_int (fun _ _ => rfl)) pa_nil))) pe_non (nomark _)) (pw_or1 (pt_cmpR (op_neDaK K hu) (pe_lc (own := [("_law_far", 10)]) (g := gName 10) rfl sc_law.nd  (pi_listK K (pv 5)) (blkOk_by (N := N_law) (sc := defScope s_law) (by decide +kernel)) (fun _ _ _ _ _ => (pg_name (i := 10) sc_law.nd rfl (.inl rfl))) (fun _ _ _ _ _ => pts_one (pt_not (pt_val (pe_g G__law_right hr hq (by rfl) T.g__law_right T.F__law_right.kp T.b__law_right .nil pass0 (pa_cons (pv 4) (pa_cons (pv 10) pa_nil)))))) (fun _ _ _ _ _ => (pv 10))) (pe_lst pa_nil) (nomark _)))))
    (pss_one (ps_ret pe_bl))
    pss_nil)))))))
    (pss_cons (ps_set (i := 6) sc_law.nd rfl (.inl rfl) (pe_op op_add pe_int (pe_g G__law_draw hr hq (by rfl) T.g__law_draw T.F__law_draw.kp T.b__law_draw .nil pass0 (pa_cons (pv 1) (pa_cons pe_int pa_nil)))))
    (pss_cons (ps_for PassesOwn.never rfl (pi_tupK K (pe_tup (pa_cons pe_int (pa_cons pe_int (pa_cons pe_int pa_nil))))) (pg_name (i := 7) sc_law.nd rfl (.inr rfl))
    (pss_cons (ps_set (i := 4) sc_law.nd rfl (.inr rfl) (pe_callTy (call_tupK K) (by rfl) T.m_tuple (by decide +kernel) (pa_cons (pe_lc (own := [("_law_k", 11)]) (g := gName 11) (tt := tYes) rfl sc_law.nd  (pi_range1 (by rfl) T.m_range (pa_cons (pv 6) pa_nil)) (blkOk_by (N := N_law) (sc := defScope s_law) (by decide +kernel)) (fun _ _ _ _ _ => (pg_name (i := 11) sc_law.nd rfl (.inl rfl))) (fun _ _ _ _ _ => pts_nil) (fun _ _ _ _ _ => (pe_tup (pa_cons pe_str (pa_cons (pe_op (op_repQ K) (pe_tup (pa_cons (pe_op op_add (pv 11) pe_int) pa_nil)) (pv 7)) pa_nil))))) pa_nil)))
    (pss_cons (ps_par (i := 8) (j := 9) (by rfl) sc_law.nd rfl rfl (by decide) rfl rfl (pa_cons (pe_op (op_catAK K) (pv 4) (pe_tup (pa_cons (pe_tup (pa_cons pe_str (pa_cons (pe_tup pa_nil) pa_nil))) pa_nil))) (pa_cons (pe_op (op_catAK K) (pv 4) (pe_tup (pa_cons (pe_tup (pa_cons pe_str (pa_cons (pe_tup pa_nil) pa_nil))) pa_nil))) pa_nil)) (by rfl))
    (pss_cons (ps_if (PW.pt (pw_or (pt_cmpR (op_neDaK K hu) (pe_g G_parting_path hr hq (by rfl) T.g_parting_path T.F_parting_path.kp T.b_parting_path .nil pass0 (pa_cons (pv 8) (pa_cons (pv 9) pa_nil))) (pe_op (op_repQ K) (pe_tup (pa_cons pe_int pa_nil)) (pv 6)) (nomark _)) (pw_or1 (pt_cmpR (op_neDaK K hu) (pe_g G_parting_path hr hq (by rfl) T.g_parting_path T.F_parting_path.kp T.b_parting_path .nil pass0 (pa_cons (pe_op (op_catAK K) (pv 4) (pe_tup (pa_cons (pe_tup (pa_cons pe_str (pa_cons (pe_op (op_repQ K) (pe_tup (pa_cons pe_int pa_nil)) (pv 7)) pa_nil))) pa_nil))) (pa_cons (pv 8) pa_nil))) (pe_op (op_repQ K) (pe_tup (pa_cons pe_int pa_nil)) (pv 6)) (nomark _)))))
    (pss_one (ps_ret pe_bl))
    pss_nil)
    (pss_one (ps_if (PW.pt (pw_or (pt_not (pt_val (pe_g G__law_right hr hq (by rfl) T.g__law_right T.F__law_right.kp T.b__law_right .nil pass0 (pa_cons (pv 8) (pa_cons (pv 9) pa_nil))))) (pw_or1 (pt_not (pt_val (pe_g G__law_right hr hq (by rfl) T.g__law_right T.F__law_right.kp T.b__law_right .nil pass0 (pa_cons (pv 8) (pa_cons (pe_tup (pa_cons (pe_tup (pa_cons pe_str (pa_cons (pe_op (op_repQ K) (pe_tup (pa_cons pe_int pa_nil)) (pv 7)) pa_nil))) pa_nil)) pa_nil))))))))
    (pss_one (ps_ret pe_bl))
    pss_nil))))))
    (pss_one (ps_ret pe_bl)))))), ?_⟩
  refine ⟨.ref a, rfl, rfl, a, ns, fun _ => none, rfl, hS, hl, fun _ _ h => (by cases h), fun dk cl H1 _ _ _ hD1 => ?_⟩
  have e1 : Ex (fun _ => none) H1 := fun _ _ h => (by cases h)
  refine ⟨4, rfl, by decide, by decide, ?_⟩
  refine for_range (lo := 0) (n := 4) (fun k σ H' => ∃ (o2 o3 o4 o5 : Option V) (G' : Hp), σ = [some (V.ref a), some (V.ref dk), o2, o3, o4, o5, none, none, none, none, none, none] ∧ Ex G' H' ∧ Deck G' H' dk cl (2000 * k))
    ⟨_, _, _, _, _, rfl, e1, hD1⟩ (fun k σ H' hk hP => ?_) (fun σ H' hP => ?_)
  · obtain ⟨o2, o3, o4, o5, G1, rfl, e1, hD1⟩ := hP
    refine st_e ?_
    refine ⟨.ref dk, rfl, rfl, dk, cl, G1, 2000 * k, rfl, e1, hD1, by omega, fun vT tags G2 H2 u2 hD2 hT x2 => ?_⟩
    refine st_set (K := K) (n_rowsS (σ := [some (V.ref a), some (V.ref dk), some (.int (0 + (k : Int))), some vT, o4, o5, none, none, none, none, none, none]) (i := 3) rfl rfl x2 hT (by omega)) u2.h hD2 fun v4 d4 G4 H4 u4 hD4 p4 x4 => ?_
    obtain ⟨s0, rfl, hS0, hl0⟩ := p4
    have x24 := x2.mono u4.g
    refine st_lstD (K := K) (n := 3) (R := fun d => ∃ t o, d = sheetD t ∧ RightP s0 t o) (PA := fun ds => ∃ c d2 d3, ds = [sheetD c, d2, d3] ∧ RightP s0 c none ∧ (∃ t o, d2 = sheetD t ∧ RightP s0 t o) ∧ ∃ t o, d3 = sheetD t ∧ RightP s0 t o)
      ((an_cons (n_cop (σ := [some (V.ref a), some (V.ref dk), some (.int (0 + (k : Int))), some vT, some v4, o5, none, none, none, none, none, none]) (i := 4) rfl rfl x4 hT hS0 hl0 (by omega)) fun _ _ => an_cons (n_changed rfl rfl x24 hT ((n_pure (e_var (i := 4) rfl x4)).imp fun _ e => ⟨s0, e, hS0, hl0⟩) (by omega)) fun _ _ => an_cons (n_rowsS (i := 3) rfl rfl x24 hT (by omega)) fun _ _ => an_nil).imp ?_) u4.h hD4 (by decide) ?_ fun L ds G5 H5 u5 hLH p5 I5 => ?_
    · rintro _ ⟨_, _, ⟨c, rfl, hc1, hc2⟩, ⟨_, _, ⟨t2, rfl, h2, l2⟩, ⟨_, _, ⟨t3, rfl, h3, l3⟩, rfl, rfl⟩, rfl⟩, rfl⟩
      obtain ⟨o2, r2⟩ := right_of hT hS0 h2 hl0 l2
      obtain ⟨o3, r3⟩ := right_of hT hS0 h3 hl0 l3
      exact ⟨c, _, _, rfl, right_copy hT hS0 hc1 hc2, ⟨t2, o2, rfl, r2⟩, t3, o3, rfl, r3⟩
    · rintro _ ⟨c, d2, d3, rfl, hc, h2, h3⟩
      refine ⟨rfl, fun d hd => ?_⟩
      rcases List.mem_cons.mp hd with rfl | hd
      · exact ⟨c, none, rfl, hc⟩
      rcases List.mem_cons.mp hd with rfl | hd
      · exact h2
      rcases List.mem_cons.mp hd with rfl | hd
      · exact h3
      · cases hd
    obtain ⟨c, d2, d3, rfl, hc, _, _⟩ := p5
    have x45 := x4.mono u5.g
    have x25 := x24.mono u5.g
    refine tSeq_go ?_
    refine do_app1 (K := K) (i := 5) (P := fun d => ∃ t o, d = sheetD t ∧ RightP s0 t o) rfl I5 ((n_changed (σ := [some (V.ref a), some (V.ref dk), some (.int (0 + (k : Int))), some vT, some v4, some (.ref L), none, none, none, none, none, none]) rfl rfl x25 hT (n_changed rfl rfl x25 hT ((n_pure (e_var (i := 4) rfl x45)).imp fun _ e => ⟨s0, e, hS0, hl0⟩) (by omega)) (by omega)).imp ?_) (fun d h => h) (by decide) fun d4 G6 H6 o6 h4 u6 gl I6 => ?_
    · rintro _ ⟨t4, rfl, h4, l4⟩
      obtain ⟨o4, r4⟩ := right_of hT hS0 h4 hl0 l4
      exact ⟨t4, o4, rfl, r4⟩
    obtain ⟨G7, u7, hD7, dL⟩ := UpM.done ((u5.tr u6).put hLH gl) hLH I6.l I6.n1 I6.n2 I6.d
    have x47 := x4.mono u7.g
    refine do_guardN (K := K) (tn_pure (t_or0 (t_test (e_notN (e_partA (a_cons (e_var (i := 4) rfl x47) (a_cons (e_op (e_var (i := 5) rfl dL) e_int (o_ixL rfl)) a_nil)) hc)))
      ((t_test (e_op ((e_lc1f (p := fun _ => false) (f := fun d => d) (i_list (e_var (i := 5) rfl dL)) (show 4 ≤ 100000 by decide) fun d hd F' v e dv => ⟨?_, fun z => by cases z⟩).is (d' := .list []) (by rw [List.filter_eq_nil_iff.mpr (fun _ _ z => by cases z)]; rfl)) (e_lst a_nil (show 0 ≤ 100000 by decide)) (o_neDa cmpOk_nil))).is rfl))) u7.h hD7 fun G8 H8 u8 hD8 => ?_
    · obtain ⟨t, o, rfl, R⟩ := I6.all d hd
      exact (t_not (t_val (b := true) (e_call (fn := fun _ => .bool true) (a_cons (e_var (i := 4) rfl (x47.mono e)) (a_cons (e_var (i := 10) rfl dv) a_nil)) rfl ⟨s0, t, o, rfl, R⟩))).is rfl
    · exact ⟨_, _, _, _, G8, rfl, u8.h, hD8.mono (by omega)⟩
  · obtain ⟨o2, o3, o4, o5, G1, rfl, e1, hD1⟩ := hP
    dsimp only
    refine st_set (K := K) (n_op (σ := [some (V.ref a), some (V.ref dk), o2, o3, o4, o5, none, none, none, none, none, none]) (f := addD) (P1 := fun d => d = .int 1) (n_pure e_int) (fun _ _ => n_draw (i0 := 1) (lim := 22) rfl e_int (by decide) (by decide) (by omega)) (by rintro _ _ rfl ⟨i, rfl, _, _⟩; exact o_I0 fun _ => .int _)) e1 hD1 fun v6 d6 G2 H2 u2 hD2 p6 x6 => ?_
    obtain ⟨_, _, rfl, ⟨jj, rfl, j0, j1⟩, rfl⟩ := p6
    obtain ⟨n, hn, hn1, hn3⟩ : ∃ n : Nat, (1 + jj) = (n : Int) ∧ 0 < n ∧ n ≤ 22 := ⟨(1 + jj).toNat, by omega, by omega, by omega⟩
    have x6 : Da K G2 v6 (.int (1 + jj)) := x6
    rw [hn] at x6
    cases x6
    have hnl : (nums 0 n).length = n := by unfold nums; rw [List.length_map, List.length_range]
    refine tSeq_go ?_
    refine forT_go ?_
    refine e_tup (K := K) (σ := [some (V.ref a), some (V.ref dk), o2, o3, o4, o5, some (vN n), none, none, none, none, none]) (a_cons e_int (a_cons e_int (a_cons e_int a_nil))) (show 3 ≤ 100000 by decide) G2 H2 (Ex.rf _) u2.h _ fun v3 G3 H3 u3 x3 => ?_
    obtain ⟨at3, rfl, hat⟩ : ∃ at3, v3 = .ref at3 ∧ G3 at3 = some (.tup [.int 1, .int 2, .int 3]) := by
      cases x3 with | tup h1 h2 => ?_
      cases h2 with | cons a1 h2 => ?_
      cases h2 with | cons a2 h2 => ?_
      cases h2 with | cons a3 h2 => ?_
      cases h2; cases a1; cases a2; cases a3
      exact ⟨_, rfl, h1⟩
    refine ⟨at3, rfl, ⟨_, SqT.of (u3.h _ _ hat)⟩, ?_⟩
    refine for_tup (K := K) (a := at3) (xs := [.int 1, .int 2, .int 3]) (fun i σ H' => ∃ (o4 o7 o8 o9 : Option V) (G' : Hp), σ = [some (V.ref a), some (V.ref dk), o2, o3, o4, o5, some (vN n), o7, o8, o9, none, none] ∧ Ex G' H' ∧ Ex G3 G')
      ⟨_, _, _, _, G3, rfl, u3.h, Ex.rf _⟩ (fun i σ H' _ ⟨_, _, _, _, _, _, e, e'⟩ => SqT.of (e _ _ (e' _ _ hat))) (fun i x σ H' hx hP => ?_) (fun σ H' hP => ?_)
    · obtain ⟨o4, o7, o8, o9, G4, rfl, e4, e34⟩ := hP
      have hi : i < 3 := (List.getElem?_eq_some_iff.mp hx).1
      obtain ⟨many, rfl, hm0, hm3⟩ : ∃ many : Nat, x = vN many ∧ 0 < many ∧ many ≤ 3 := by
        match i, hi, hx with
        | 0, _, hx => cases hx; exact ⟨1, rfl, by decide, by decide⟩
        | 1, _, hx => cases hx; exact ⟨2, rfl, by decide, by decide⟩
        | 2, _, hx => cases hx; exact ⟨3, rfl, by decide, by decide⟩
      clear hx
      have sn : ∀ {x : Str}, snB 9 x = true → SN 9 x := fun h => SN.of h
      have eb : EndOk many (("b" : Str), ([] : List Nat)) := ⟨by show 0 = arA many "b"; unfold arA; rw [if_neg (fun z => ab_ne z.symm)], (fun x h => by cases h), SN.of (by decide +kernel)⟩
      have ec : EndOk many (("c" : Str), ([] : List Nat)) := ⟨by show 0 = arA many "c"; unfold arA; rw [if_neg (fun z => ac_ne z.symm)], (fun x h => by cases h), SN.of (by decide +kernel)⟩
      have ea : EndOk many (("a" : Str), List.replicate many 0) := ⟨by show (List.replicate many 0).length = arA many "a"; rw [List.length_replicate]; unfold arA; rw [if_pos rfl], (fun x h => (List.mem_replicate.mp h).2), (show SN 9 ("a" : Str) from SN.of (by decide +kernel))⟩
      obtain ⟨rowsD, hrowsD⟩ : ∃ rowsD, rowsD = (List.range n).map fun k => PyData.tuple [.str "a", .tuple (List.replicate many (nD (k + 1)))] := ⟨_, rfl⟩
      have hrl : rowsD.length = n := by rw [hrowsD, List.length_map, List.length_range]
      have asS : ∀ e : Str × List Nat, PyData.tuple (rowsD ++ [rowD e]) = sheetD (chainE many n e) := fun e => by
        show PyData.tuple _ = .tuple _
        rw [chainED, hrowsD]
      refine st_e ?_
      refine (e_cb (σ := [some (V.ref a), some (V.ref dk), o2, o3, o4, o5, some (vN n), some (vN many), o8, o9, none, none]) (a_cons (e_lc1 (f := fun d => .tuple [.str "a", .tuple (List.replicate (many : Int).toNat [match d with | .int k => .int (k + 1) | _ => .none]).flatten]) (i_range1 (j := (n : Int)) (a_cons (e_var (i := 6) rfl (.int _)) a_nil) (by omega) (by omega)) (by rw [Int.toNat_natCast, hnl]; omega) fun d hd F' v e dv => ?_) a_nil) c_tupL).is (d' := .tuple rowsD) ?_ G4 H' (Ex.rf _) e4 _ fun v4 G5 H5 u5 x4 => ?_
      · obtain ⟨j, hj⟩ := List.mem_iff_getElem?.mp hd
        obtain ⟨_, rfl⟩ := nums_get hj
        exact e_tup (a_cons e_str (a_cons (e_op (e_tup (a_cons (e_op (e_var (i := 11) rfl dv) e_int (o_I0 fun _ => .int _)) a_nil) (show 1 ≤ 100000 by decide)) (e_var (i := 7) rfl (.int _)) (o_repT (by simp) (by omega) (by omega) (show 1 ≤ 1000 by decide))) a_nil)) (show 2 ≤ 100000 by decide)
      · show PyData.tuple _ = .tuple _
        rw [hrowsD]
        congr 1
        unfold nums
        rw [List.map_map, Int.toNat_natCast]
        refine List.map_congr_left fun k _ => ?_
        show PyData.tuple [.str "a", .tuple (List.replicate (many : Int).toNat [.int (0 + (k : Int) + 1)]).flatten] = _
        rw [List.flatten_replicate_singleton, Int.toNat_natCast, Int.zero_add]
        rfl
      have addE : ∀ {σ : L2.St} {F : Hp} {v : V} {te : TE} {e : Str × List Nat}, σ[4]? = some (some v) → Da K F v (.tuple rowsD) → EvE K σ F te (rowD e) → EvE K σ F (tOp (rCatA K) (tVar 4) (tTup (tCons te tNil))) (sheetD (chainE many n e)) := fun {σ F v te e} h x he =>
        (e_op (e_var (i := 4) h x) (e_tup (a_cons he a_nil) (show 1 ≤ 100000 by decide)) (o_catT (by rw [hrl]; show n + 1 ≤ 100000; omega))).is (asS e)
      have zer : ∀ {σ : L2.St} {F : Hp}, σ[6]? = some (some (vN n)) → EvE K σ F (tOp (rRepQ K) (tTup (tCons (tC (.int 0)) tNil)) (tVar 6)) (.tuple (List.replicate n (.int 0))) := fun {σ F} h =>
        (e_op (e_tup (a_cons e_int a_nil) (show 1 ≤ 100000 by decide)) (e_var (i := 6) h (.int _)) (o_repT (by simp) (by omega) (by omega) (show 1 ≤ 1000 by decide))).is (by rw [List.flatten_replicate_singleton, Int.toNat_natCast])
      have selfR : ∀ {σ : L2.St} {F : Hp}, σ[7]? = some (some (vN many)) → EvE K σ F (tTup (tCons (tC (.str "a")) (tCons (tOp (rRepQ K) (tTup (tCons (tC (.int 0)) tNil)) (tVar 7)) tNil))) (rowD (("a" : Str), List.replicate many 0)) := fun {σ F} h =>
        (e_tup (a_cons e_str (a_cons (e_op (e_tup (a_cons e_int a_nil) (show 1 ≤ 100000 by decide)) (e_var (i := 7) h (.int _)) (o_repT (by simp) (by omega) (by omega) (show 1 ≤ 1000 by decide))) a_nil)) (show 2 ≤ 100000 by decide)).is (by
          rw [List.flatten_replicate_singleton, Int.toNat_natCast]
          show _ = PyData.tuple [.str "a", .tuple ((List.replicate many 0).map nD)]
          rw [List.map_replicate]; rfl)
      have pz : pathD (some (List.replicate n 0)) = .tuple (List.replicate n (.int 0)) := by
        show PyData.tuple ((List.replicate n 0).map nD) = _
        rw [List.map_replicate]; rfl
      obtain ⟨z1, z2⟩ := zeros_cmp (n := n)
      refine st_parE (K := K) (a_cons (addE (e := (("b" : Str), ([] : List Nat))) rfl x4 (e_tup (a_cons e_str (a_cons (e_tup a_nil (show 0 ≤ 100000 by decide)) a_nil)) (show 2 ≤ 100000 by decide)))
        (a_cons (addE (e := (("c" : Str), ([] : List Nat))) rfl x4 (e_tup (a_cons e_str (a_cons (e_tup a_nil (show 0 ≤ 100000 by decide)) a_nil)) (show 2 ≤ 100000 by decide))) a_nil)) u5.h fun v8 v9 G6 H6 u6 x8 x9 => ?_
      have x46 := x4.mono u6.g
      have lc : ∀ {e : Str × List Nat}, (chainE many n e).length ≤ 110 := fun {e} => by rw [chainE_length]; omega
      refine st_guard (t_or0 (t_test ((e_op ((e_path (i := 8) (j := 9) rfl rfl x8 x9 (chain_two eb ec hm3 (by omega) (by omega)) lc lc (chain_told hm0 bc_ne)).is pz) (zer rfl) (o_neDa z1)).is (by rw [z2]; rfl)))
        (t_test ((e_op ((e_pathA (a_cons (addE rfl x46 (selfR rfl)) (a_cons (e_var (i := 8) rfl x8) a_nil)) (chain_two ea eb hm3 (by omega) (by omega)) lc lc (chain_told hm0 ab_ne)).is pz) (zer rfl) (o_neDa z1)).is (by rw [z2]; rfl)))) u6.h fun G7 H7 u7 => ?_
      obtain ⟨oA, RA⟩ := chain_right (n := n) (n' := n) eb ec hm3 (by omega) (by omega)
      obtain ⟨oB, RB⟩ := chain_right (n := n) (n' := 0) eb ea hm3 (by omega) (by omega)
      refine g_last (t_or0 ((t_not (t_val (b := true) (e_call (fn := fun _ => .bool true) (a_cons (e_var (i := 8) rfl (x8.mono u7.g)) (a_cons (e_var (i := 9) rfl (x9.mono u7.g)) a_nil)) rfl ⟨_, _, oA, rfl, RA⟩))).is rfl)
        ((t_not (t_val (b := true) (e_call (fn := fun _ => .bool true) (a_cons (e_var (i := 8) rfl (x8.mono u7.g)) (a_cons ((e_tup (a_cons (selfR rfl) a_nil) (show 1 ≤ 100000 by decide)).is (d' := sheetD (chainE many 0 (("a" : Str), List.replicate many 0))) rfl) a_nil)) rfl ⟨_, _, oB, rfl, RB⟩))).is rfl)) u7.h fun G8 H8 u8 => ?_
      exact ⟨_, _, _, _, G8, rfl, u8.h, e34.tr (u5.g.tr (u6.g.tr (u7.g.tr u8.g)))⟩
    · exact q _
end
end L05
set_option Elab.async false
set_option linter.all false
set_option maxRecDepth 100000
set_option maxHeartbeats 1000000
namespace L05
open PySem PySem.Spec PyProof.Rows L2 KD
theorem defAt {K : PySem.W.Frag} {x : Str} {st : Stmt} {h : Heap} {mg : Str → Option Value} (X : K.In h) (G : h.Ns mainGlobals mg) {f : Addr}
    {od an : Option Addr} {sl : Array (Option Value)} {oc kV dc pm cd ct : Value} (a : PySem.W.nsIn K mainGlobals x = some (some (.ref f)))
    (l : K.lookup f = some ⟨oc, od, .func (PySem.W.fnOf x x (defArgs st) (defBody st) (defScope st) .none kV dc pm an cd ct), sl⟩)
    (c : PySem.W.codeIn K cd x = true) (k : PySem.W.keepIn K (.ref f) = true) : ∃ fd, Fun K x x st f fd ∧ mg x = some (.ref f) :=
  ⟨_, fun_mk (st := st) l c k, PySem.W.mg_of X G a⟩
theorem clsAt_Partition {K : PySem.W.Frag} {h : Heap} {mg : Str → Option Value} (X : K.In h) (G : h.Ns mainGlobals mg) {C f0 f1 f2 : Addr} {od0 an0 od1 an1 od2 an2 : Option Addr} {sl0 sl1 sl2 : Array (Option Value)} {oc0 kV0 dc0 pm0 cd0 ct0 oc1 kV1 dc1 pm1 cd1 ct1 oc2 kV2 dc2 pm2 cd2 ct2 : Value}
    (aC : PySem.W.nsIn K mainGlobals "Partition" = some (some (.ref C)))
    (pg : PySem.W.plainGet K C Str.empty = true)
    (hd : PySem.W.hasDictIn K C = true)
    (po : PySem.W.plainOver K C = true)
    (sa : PySem.W.findIn K (.ref C) "__setattr__" = some (some (.builtin "object.__setattr__")))
    (mk : PySem.W.makesIn K C = true)
    (kc : PySem.W.keepIn K (.ref C) = true)
    (a0 : PySem.W.findIn K (.ref C) "__init__" = some (some (.ref f0)))
    (i0 : PySem.W.isFn K (.ref f0) = true)
    (l0 : K.lookup f0 = some ⟨oc0, od0, .func (PySem.W.fnOf "__init__" "Partition.__init__" (defArgs s_Partition___init__) (defBody s_Partition___init__) (defScope s_Partition___init__) .none kV0 dc0 pm0 an0 cd0 ct0), sl0⟩)
    (c0 : PySem.W.codeIn K cd0 "Partition.__init__" = true)
    (k0 : PySem.W.keepIn K (.ref f0) = true)
    (a1 : PySem.W.findIn K (.ref C) "by_class" = some (some (.ref f1)))
    (i1 : PySem.W.isFn K (.ref f1) = true)
    (l1 : K.lookup f1 = some ⟨oc1, od1, .func (PySem.W.fnOf "by_class" "Partition.by_class" (defArgs s_Partition_by_class) (defBody s_Partition_by_class) (defScope s_Partition_by_class) .none kV1 dc1 pm1 an1 cd1 ct1), sl1⟩)
    (c1 : PySem.W.codeIn K cd1 "Partition.by_class" = true)
    (k1 : PySem.W.keepIn K (.ref f1) = true)
    (a2 : PySem.W.findIn K (.ref C) "split_off" = some (some (.ref f2)))
    (i2 : PySem.W.isFn K (.ref f2) = true)
    (l2 : K.lookup f2 = some ⟨oc2, od2, .func (PySem.W.fnOf "split_off" "Partition.split_off" (defArgs s_Partition_split_off) (defBody s_Partition_split_off) (defScope s_Partition_split_off) .none kV2 dc2 pm2 an2 cd2 ct2), sl2⟩)
    (c2 : PySem.W.codeIn K cd2 "Partition.split_off" = true)
    (k2 : PySem.W.keepIn K (.ref f2) = true)
    (n0 : PySem.W.findIn K (.ref C) "class_of" = some none)
    (n1 : PySem.W.findIn K (.ref C) "members" = some none) :
    ∃ (C : Addr) (f0 : Addr) (d0 : FuncData) (f1 : Addr) (d1 : FuncData) (f2 : Addr) (d2 : FuncData), Fun K "__init__" "Partition.__init__" s_Partition___init__ f0 d0 ∧ Fun K "by_class" "Partition.by_class" s_Partition_by_class f1 d1 ∧ Fun K "split_off" "Partition.split_off" s_Partition_split_off f2 d2 ∧ Cls K C ∧ mg "Partition" = some (.ref C) ∧ Mk K C f0 ∧ Meth K C "by_class" f1 ∧ Meth K C "split_off" f2 ∧ NoAttr K C "class_of" ∧ NoAttr K C "members" :=
  ⟨_, _, _, _, _, _, _, fun_mk (st := s_Partition___init__) l0 c0 k0, fun_mk (st := s_Partition_by_class) l1 c1 k1, fun_mk (st := s_Partition_split_off) l2 c2 k2, ⟨pg, hd, po, sa⟩, PySem.W.mg_of X G aC, ⟨mk, a0, i0, kc⟩, ⟨a1, i1, k1⟩, ⟨a2, i2, k2⟩, n0, n1⟩
theorem lawAt {l : PySem.W.OpenLaw} {w : World} {K : PySem.W.Frag} {mg : Str → Option Value} {fa : Addr} (hfa : mg "law" = some (.ref fa)) (hp : l.prog = PySem.Challenge.pw_roundcalls_k05_parting_paths) (T : Txt K mg) :
    ∃ fd : FuncData, (∀ (s : Shared) (v : Value), BindsTo s fd ⟨[v], []⟩ [("_law_script", v)]) ∧ ∀ base : Heap, K.In base → base.Ns mainGlobals mg → FnG l.prog w K mg base CX0 28 fa fd ["_law_script"] (sp_law K) := by
  have e := hfa.symm.trans T.g_law
  cases e
  refine ⟨T.d_law, fun s v => ?_, fun base _ _ => ok_law T⟩
  obtain ⟨oc, od, kV, doc, pm, an, cdv, ct, osl, e, _, _⟩ := T.F_law.ex
  rw [e]
  exact .of_eq rfl
end L05
open PySem PySem.W PyProof.Rows
set_option maxHeartbeats 0 in
theorem PySem.Challenge.cw_roundcalls_k05_parting_paths_holds : PySem.Challenge.rw_roundcalls_k05_parting_paths.Holds := by
  w_on; o_law; k_head; (case hw => w_witness2)
  k_fill
  refine KD.walkG (l := PySem.Challenge.rw_roundcalls_k05_parting_paths) (n := 63) (k := 28) (x := "_law_script") (CX := fun _ => L2.CX0)
    (sp := fun w => L05.sp_law _) rfl (by decide) rfl ⟨rfl, by decide, by decide⟩ (fun w h Y => PySem.W.kIn_of Y) ?F
    (fun _ _ a ns hl _ hS => L05.sp_law_go hl hS) (fun _ _ _ _ _ h => h)
  case F =>
    intro w mg fa h KX G hmg
    obtain ⟨d_row_classes, F_row_classes, g_row_classes⟩ := L05.defAt (x := "row_classes") (st := L05.s_row_classes) KX G (by k_is) (by k_is) (by k_is) (by k_is)
    obtain ⟨d_rows_above, F_rows_above, g_rows_above⟩ := L05.defAt (x := "rows_above") (st := L05.s_rows_above) KX G (by k_is) (by k_is) (by k_is) (by k_is)
    obtain ⟨d_least_sheet, F_least_sheet, g_least_sheet⟩ := L05.defAt (x := "least_sheet") (st := L05.s_least_sheet) KX G (by k_is) (by k_is) (by k_is) (by k_is)
    obtain ⟨d_least_from, F_least_from, g_least_from⟩ := L05.defAt (x := "least_from") (st := L05.s_least_from) KX G (by k_is) (by k_is) (by k_is) (by k_is)
    obtain ⟨d_merged_rows, F_merged_rows, g_merged_rows⟩ := L05.defAt (x := "merged_rows") (st := L05.s_merged_rows) KX G (by k_is) (by k_is) (by k_is) (by k_is)
    obtain ⟨d_rooted, F_rooted, g_rooted⟩ := L05.defAt (x := "rooted") (st := L05.s_rooted) KX G (by k_is) (by k_is) (by k_is) (by k_is)
    obtain ⟨d_renumbered, F_renumbered, g_renumbered⟩ := L05.defAt (x := "renumbered") (st := L05.s_renumbered) KX G (by k_is) (by k_is) (by k_is) (by k_is)
    obtain ⟨d_are_same, F_are_same, g_are_same⟩ := L05.defAt (x := "are_same") (st := L05.s_are_same) KX G (by k_is) (by k_is) (by k_is) (by k_is)
    obtain ⟨d_parting_path, F_parting_path, g_parting_path⟩ := L05.defAt (x := "parting_path") (st := L05.s_parting_path) KX G (by k_is) (by k_is) (by k_is) (by k_is)
    obtain ⟨d_tags_agree, F_tags_agree, g_tags_agree⟩ := L05.defAt (x := "tags_agree") (st := L05.s_tags_agree) KX G (by k_is) (by k_is) (by k_is) (by k_is)
    obtain ⟨d_field_pairs, F_field_pairs, g_field_pairs⟩ := L05.defAt (x := "field_pairs") (st := L05.s_field_pairs) KX G (by k_is) (by k_is) (by k_is) (by k_is)
    obtain ⟨d__law_deck, F__law_deck, g__law_deck⟩ := L05.defAt (x := "_law_deck") (st := L05.s__law_deck) KX G (by k_is) (by k_is) (by k_is) (by k_is)
    obtain ⟨d__law_draw, F__law_draw, g__law_draw⟩ := L05.defAt (x := "_law_draw") (st := L05.s__law_draw) KX G (by k_is) (by k_is) (by k_is) (by k_is)
    obtain ⟨d__law_pick, F__law_pick, g__law_pick⟩ := L05.defAt (x := "_law_pick") (st := L05.s__law_pick) KX G (by k_is) (by k_is) (by k_is) (by k_is)
    obtain ⟨d__law_names, F__law_names, g__law_names⟩ := L05.defAt (x := "_law_names") (st := L05.s__law_names) KX G (by k_is) (by k_is) (by k_is) (by k_is)
    obtain ⟨d__law_tags, F__law_tags, g__law_tags⟩ := L05.defAt (x := "_law_tags") (st := L05.s__law_tags) KX G (by k_is) (by k_is) (by k_is) (by k_is)
    obtain ⟨d__law_rows, F__law_rows, g__law_rows⟩ := L05.defAt (x := "_law_rows") (st := L05.s__law_rows) KX G (by k_is) (by k_is) (by k_is) (by k_is)
    obtain ⟨d__law_copies, F__law_copies, g__law_copies⟩ := L05.defAt (x := "_law_copies") (st := L05.s__law_copies) KX G (by k_is) (by k_is) (by k_is) (by k_is)
    obtain ⟨d__law_distances, F__law_distances, g__law_distances⟩ := L05.defAt (x := "_law_distances") (st := L05.s__law_distances) KX G (by k_is) (by k_is) (by k_is) (by k_is)
    obtain ⟨d__law_parting, F__law_parting, g__law_parting⟩ := L05.defAt (x := "_law_parting") (st := L05.s__law_parting) KX G (by k_is) (by k_is) (by k_is) (by k_is)
    obtain ⟨d__law_changed, F__law_changed, g__law_changed⟩ := L05.defAt (x := "_law_changed") (st := L05.s__law_changed) KX G (by k_is) (by k_is) (by k_is) (by k_is)
    obtain ⟨d__law_right, F__law_right, g__law_right⟩ := L05.defAt (x := "_law_right") (st := L05.s__law_right) KX G (by k_is) (by k_is) (by k_is) (by k_is)
    obtain ⟨d_law, F_law, g_law⟩ := L05.defAt (x := "law") (st := L05.s_law) KX G (by k_is) (by k_is) (by k_is) (by k_is)
    obtain ⟨C_Partition, f_Partition___init__, d_Partition___init__, f_Partition_by_class, d_Partition_by_class, f_Partition_split_off, d_Partition_split_off, F_Partition___init__, F_Partition_by_class, F_Partition_split_off, cl_Partition, mgc_Partition, mm_Partition___init__, mm_Partition_by_class, mm_Partition_split_off, na_Partition_class_of, na_Partition_members⟩ := L05.clsAt_Partition KX G (by k_is) (by k_is) (by k_is) (by k_is) (by k_is) (by k_is) (by k_is) (by k_is) (by k_is) (by k_is) (by k_is) (by k_is) (by k_is) (by k_is) (by k_is) (by k_is) (by k_is) (by k_is) (by k_is) (by k_is) (by k_is) (by k_is) (by k_is) (by k_is)
    have m_isinstance := PySem.W.mg_none_of (n := "isinstance") KX G (by k_is)
    have m_len := PySem.W.mg_none_of (n := "len") KX G (by k_is)
    have m_all := PySem.W.mg_none_of (n := "all") KX G (by k_is)
    have m_range := PySem.W.mg_none_of (n := "range") KX G (by k_is)
    have m_repr := PySem.W.mg_none_of (n := "repr") KX G (by k_is)
    have m_sorted := PySem.W.mg_none_of (n := "sorted") KX G (by k_is)
    have m_tuple := PySem.W.mg_none_of (n := "tuple") KX G (by k_is)
    have m_list := PySem.W.mg_none_of (n := "list") KX G (by k_is)
    have m_dict := PySem.W.mg_none_of (n := "dict") KX G (by k_is)
    have m_str := PySem.W.mg_none_of (n := "str") KX G (by k_is)
    have m_int := PySem.W.mg_none_of (n := "int") KX G (by k_is)
    have m_bool := PySem.W.mg_none_of (n := "bool") KX G (by k_is)
    have m_enumerate := PySem.W.mg_none_of (n := "enumerate") KX G (by k_is)
    have m_zip := PySem.W.mg_none_of (n := "zip") KX G (by k_is)
    have m_max := PySem.W.mg_none_of (n := "max") KX G (by k_is)
    have m_min := PySem.W.mg_none_of (n := "min") KX G (by k_is)
    exact L05.lawAt hmg rfl ⟨f_Partition___init__, d_Partition___init__, F_Partition___init__,
      f_Partition_by_class, d_Partition_by_class, F_Partition_by_class,
      f_Partition_split_off, d_Partition_split_off, F_Partition_split_off,
      _, d_row_classes, F_row_classes, g_row_classes,
      _, d_rows_above, F_rows_above, g_rows_above,
      _, d_least_sheet, F_least_sheet, g_least_sheet,
      _, d_least_from, F_least_from, g_least_from,
      _, d_merged_rows, F_merged_rows, g_merged_rows,
      _, d_rooted, F_rooted, g_rooted,
      _, d_renumbered, F_renumbered, g_renumbered,
      _, d_are_same, F_are_same, g_are_same,
      _, d_parting_path, F_parting_path, g_parting_path,
      _, d_tags_agree, F_tags_agree, g_tags_agree,
      _, d_field_pairs, F_field_pairs, g_field_pairs,
      _, d__law_deck, F__law_deck, g__law_deck,
      _, d__law_draw, F__law_draw, g__law_draw,
      _, d__law_pick, F__law_pick, g__law_pick,
      _, d__law_names, F__law_names, g__law_names,
      _, d__law_tags, F__law_tags, g__law_tags,
      _, d__law_rows, F__law_rows, g__law_rows,
      _, d__law_copies, F__law_copies, g__law_copies,
      _, d__law_distances, F__law_distances, g__law_distances,
      _, d__law_parting, F__law_parting, g__law_parting,
      _, d__law_changed, F__law_changed, g__law_changed,
      _, d__law_right, F__law_right, g__law_right,
      _, d_law, F_law, g_law,
      C_Partition, cl_Partition, mgc_Partition, mm_Partition___init__, mm_Partition_by_class, mm_Partition_split_off, na_Partition_class_of, na_Partition_members,
      m_isinstance,
      m_len,
      m_all,
      m_range,
      m_repr,
      m_sorted,
      m_tuple,
      m_list,
      m_dict,
      m_str,
      m_int,
      m_bool,
      m_enumerate,
      m_zip,
      m_max,
      m_min⟩
