import PyProof.Rows.All
import Wide.All
import OpenK.AllK
import Wide.FinOn
import HandS.ForMost
import HandS.Wide
import HandS.Style
import HandS.TupAny
import HandS.IsInst
import HandS.Evl
import PySem.Challenge.RW_roundcalls_k01_names_and_signatures
set_option Elab.async false
set_option linter.all false
set_option maxRecDepth 100000
set_option maxHeartbeats 4000000
namespace KD
open PySem PySem.Spec PyProof.Rows L2

/-! A def's promise where it is known that no repr runs around the call. -/
abbrev Quiet (A : Around) : Prop := A.guards = some []

structure FnG (P : Program) (w : World) (K : PySem.W.Frag) (mg : Str → Option Value) (base : Heap) (CX : CXT)
    (k : Nat) (f : Addr) (fd : FuncData) (ps : List Str) (sp : Sp) : Prop where
  len : ∀ vs H Q E, sp vs H Q E → vs.length = ps.length
  run : ∀ (A : Around) (out : List Env) (s : Shared) (H : Hp) (args : Args) (us : List Value) (vs : List V) (Q : VK) (E : XK),
    Room k A → Quiet A → Env0 P w K mg base A out s H → BindsTo s fd args (ps.zip us) → Vals vs us →
    sp vs H Q E → codeAny (model P w) A (.call (.ref f) args) (CR CX out P w H s Q E) s

section
variable {P : Program} {w : World} {K : PySem.W.Frag} {mg : Str → Option Value} {base : Heap} {CX : CXT}
theorem FnG.mono {i k : Nat} {f : Addr} {fd : FuncData} {ps : List Str} {sp : Sp}
    (F : FnG P w K mg base CX i f fd ps sp) (le : i ≤ k) : FnG P w K mg base CX k f fd ps sp :=
  ⟨F.len, fun A out s H args us vs Q E hr => F.run A out s H args us vs Q E (hr.mono le)⟩
/-- a def that needs no quiet -/
theorem FnG.of {k : Nat} {f : Addr} {fd : FuncData} {ps : List Str} {sp : Sp}
    (F : FnOk P w K mg base CX k f fd ps sp) : FnG P w K mg base CX k f fd ps sp :=
  ⟨F.len, fun A out s H args us vs Q E hr _ => F.run A out s H args us vs Q E hr⟩
theorem FnG.imp {k : Nat} {f : Addr} {fd : FuncData} {ps : List Str} {sp sp' : Sp}
    (F : FnG P w K mg base CX k f fd ps sp) (h : ∀ vs H Q E, sp' vs H Q E → sp vs H Q E) :
    FnG P w K mg base CX k f fd ps sp' :=
  ⟨fun vs H Q E q => F.len vs H Q E (h _ _ _ _ q),
   fun A out s H args us vs Q E hr hq he hb hv hs => F.run A out s H args us vs Q E hr hq he hb hv (h _ _ _ _ hs)⟩

/-- a def of the text, by its body -/
theorem fnG_of {k : Nat} {f : Addr} {name qual : Str} {params : Arguments} {body : List Stmt} {scope : Scope}
    {dV kV doc pm cdv ct oc : Value} {an od : Option Addr} {osl : Array (Option Value)} {N ps : List Str} {sp : Sp}
    (lk : K.lookup f = some ⟨oc, od, .func (PySem.W.fnOf name qual params body scope dV kV doc pm an cdv ct), osl⟩)
    (hcd : PySem.W.codeIn K cdv qual = true) (S : FnScope N ps scope)
    (hlen : ∀ vs H Q E, sp vs H Q E → vs.length = ps.length)
    (hbody : ∀ (A : Around) (out : List Env) (s : Shared) (H : Hp) (vs : List V) (Q : VK) (E : XK),
      Room k (A.deeper (envOfC qual scope s.heap.objs.size f cdv)) →
      Quiet (A.deeper (envOfC qual scope s.heap.objs.size f cdv)) → sp vs H Q E →
      ∃ t, PSs (cxOf CX P w K mg base N qual scope f cdv A out s H E) body t ∧
        t { nx := fun _ H' => Q .non H', rt := Q } (start N vs) H) :
    FnG P w K mg base CX (k + 1) f (PySem.W.fnOf name qual params body scope dV kV doc pm an cdv ct) ps sp := by
  refine ⟨hlen, fun A out s H args us vs Q E hr hq e0 hb rv hsp => ?_⟩
  have lv := hlen _ _ _ _ hsp
  have inK : K.In s.heap := e0.mod.kin.keeps fun c u z => (e0.bs c u z).1
  have noLim : s.heap.NoLimit := e0.mod.nolimit.keeps fun c u z => (e0.bs c u z).1
  have kinds : ∀ y ∈ ps.zip us, scope.names.lookup y.1 = some .local ∨
      (scope.names.lookup y.1 = some .cell ∧
        ((cellsFrom (s.heap.objs.size + 1) scope.names []).lookup y.1).isSome = true) := by
    rintro ⟨n, v⟩ hy
    rcases S.par n (List.of_mem_zip hy).1 with z | z
    · exact .inl z
    · exact .inr ⟨z, PySem.W.cellsFrom_some _ _ _ (.inl z)⟩
  refine codeAny_call_function hr.depth (inK _ _ lk) rfl S.co S.gen rfl
    (PySem.W.codeRec_of inK hcd) (hb _ _ _ _ ?_)
  refine wpAny_newFunctionEnv_cells S.kind kinds fun env he s1 x => ?_
  subst he
  refine ⟨noLim.keeps x.toInCall.keep, codeAny_func ?_⟩
  obtain ⟨t, ht, hq'⟩ := hbody A out s H vs Q E (hr.deeper _) hq hsp
  have I := inv_start (CX := CX) (E := E) (w := w) S hr.hd e0 lv rv x
  refine wpAny_mono (ht.run [] s1 (start N vs) H _ I hq') (fun fl s' hs => ?_) fun _ _ z => z
  cases fl with
  | brk => obtain ⟨_, _, _, z⟩ := hs; exact False.elim z
  | cont => obtain ⟨_, _, _, z⟩ := hs; exact False.elim z
  | next =>
    obtain ⟨σ', H', J, z⟩ := hs
    exact ⟨V.non, H', J.os, J.bare, J.base, J.hok, rfl, z⟩
  | ret u =>
    obtain ⟨v, σ', H', J, rv', z⟩ := hs
    exact ⟨v, H', J.os, J.bare, J.base, J.hok, rv', z⟩

/-- no exception leaves it -/
theorem okG {x qual : Str} {st : Stmt} {f : Addr} {fd : FuncData} {N ps : List Str} {k : Nat} {sp : Sp}
    (F : Fun K x qual st f fd) (S : FnScope N ps (defScope st)) (hlen : ∀ vs H Q E, sp vs H Q E → vs.length = ps.length)
    (hbody : ∀ (cdv : Value) (A : Around) (out : List Env) (s : Shared) (H : Hp) (vs : List V) (Q : VK) (E : XK),
      Room k (A.deeper (envOfC qual (defScope st) s.heap.objs.size f cdv)) →
      Quiet (A.deeper (envOfC qual (defScope st) s.heap.objs.size f cdv)) → sp vs H Q E →
      ∃ t, PSs (cxOf CX0 P w K mg base N qual (defScope st) f cdv A out s H E).nox (defBody st) t ∧
        t { nx := fun _ H' => Q .non H', rt := Q } (start N vs) H) : FnG P w K mg base CX0 (k + 1) f fd ps sp := by
  obtain ⟨oc, od, kV, doc, pm, an, cdv, ct, osl, rfl, lk, hcd⟩ := F.ex
  refine fnG_of lk hcd S hlen fun A out s H vs Q E hr hg hsp => ?_
  obtain ⟨t, h, q⟩ := hbody cdv A out s H vs Q E hr hg hsp
  exact ⟨t, h.nox, q⟩
end

section
variable {X : Cx} {CX : CXT} {k : Nat} {f C : Addr} {fd : FuncData} {ps : List Str} {sp : Sp} {dvs : List V}
  {ds : List Value} {E : XK} {x m : Str} {p pos apos : Pos} {e o : Expr} {es : List Expr} {ta : TE} {t : TA}
theorem run_g {pins : List (Addr × Obj)} {σ : L2.St} {H : Hp} {s : Shared} {Q : VK} {us : List Value} {vs : List V}
    (F : FnG X.prog X.w X.K X.mg X.base CX k f fd ps sp) (hr : Room k X.A) (hq : Quiet X.A) (hb : Binds X.K fd ps ds)
    (hd : Vals dvs ds) (hx : Passes CX X E) (I : Inv X pins σ H s) (r : Vals vs us) (h : sp (vs ++ dvs) H Q E) :
    wpAny (model X.prog X.w) X.A (call (.ref f) us) (EP X pins σ Q) X.xe s := by
  have rr : Vals (vs ++ dvs) (us ++ ds) := r.append hd
  have ll : (us ++ ds).length = ps.length := by rw [← rr.length]; exact F.len _ _ _ _ h
  have run := F.run X.A X.stack s H ⟨us, []⟩ (us ++ ds) (vs ++ dvs) Q E hr hq I.env0 (hb s us I.kIn ll) rr h
  refine wpAny_call (codeAny_mono run fun r s' hq' => ?_)
  match r, hq' with
  | .error e, z => exact hx pins σ H s e s' I z
  | .ok (.ret u), z => exact I.after z
  | .ok .next, z => exact False.elim z
  | .ok .brk, z => exact False.elim z
  | .ok .cont, z => exact False.elim z
theorem pe_g (F : FnG X.prog X.w X.K X.mg X.base CX k f fd ps sp) (hr : Room k X.A) (hq : Quiet X.A) (hg : Gl X x)
    (hm : X.mg x = some (.ref f)) (hk : PySem.W.keepIn X.K (.ref f) = true) (hb : Binds X.K fd ps ds) (hd : Vals dvs ds)
    (hx : Passes CX X E) (ha : PA X (e :: es) t) (hdb : (x == ("__debug__" : Str)) = false := by decide)
    (he : starEach (e :: es) X.env = (false, eval e X.env) :: starEach es X.env := by rfl)
    (hpl : (backTo pos (starEach es X.env)).any (·.1) = false := by rfl) :
    PE X (.Call (.Name x p) (e :: es) [] pos) (tCall sp dvs E t) := by
  constructor
  intro pins s σ H Q I h
  refine wpAny_Call_Name_kw (ld_glob I hg hm ?_ hdb)
  have args := ha.run pos pins s σ H _ I h
  refine PySem.W.callWith_K (h₀ := X.base) I.ok.mod.kin hk (thn args ?_) he hpl
  rintro us s1 ⟨vs, H1, I1, r, q⟩
  exact ⟨I1.kIn, run_g F hr hq hb hd hx I1 r q⟩
theorem pe_g0 (F : FnG X.prog X.w X.K X.mg X.base CX k f fd ps sp) (hr : Room k X.A) (hq : Quiet X.A) (hg : Gl X x)
    (hm : X.mg x = some (.ref f)) (hk : PySem.W.keepIn X.K (.ref f) = true) (hb : Binds X.K fd ps ds) (hd : Vals dvs ds)
    (hx : Passes CX X E) (hdb : (x == ("__debug__" : Str)) = false := by decide) :
    PE X (.Call (.Name x p) [] [] pos) (tCall sp dvs E tNil) := by
  constructor
  intro pins s σ H Q I h
  refine wpAny_Call_Name_kw (ld_glob I hg hm ?_ hdb)
  exact PySem.W.callWith_K0 I.kIn hk (run_g (us := []) F hr hq hb hd hx I .nil h)
end
end KD
set_option Elab.async false
set_option linter.all false
set_option maxRecDepth 100000
set_option maxHeartbeats 4000000
namespace KD
open PySem PySem.Spec PyProof.Rows L2

/-! ### data that stands in the abstract heap, dicts (keys: ints, texts) among it -/
def keyD : Key → PyData
  | .inl i => .int i
  | .inr x => .str x
mutual
inductive Da (K : PySem.W.Frag) (H : Hp) : V → PyData → Prop
  | non : Da K H .non .none
  | bl (b : Bool) : Da K H (.bl b) (.bool b)
  | int (i : Int) : Da K H (.int i) (.int i)
  | str (x : Str) : Da K H (.str x) (.str x)
  | lst {a : Addr} {xs : List V} {ds : List PyData} : H a = some (.lst xs) → DaAll K H xs ds → Da K H (.ref a) (.list ds)
  | tup {a : Addr} {xs : List V} {ds : List PyData} : H a = some (.tup xs) → DaAll K H xs ds → Da K H (.ref a) (.tuple ds)
  | dic {a : Addr} {kvs : List (Key × V)} {ds : List (PyData × PyData)} :
      H a = some (.dK kvs) → DaKv K H kvs ds → Da K H (.ref a) (.dict ds)
inductive DaAll (K : PySem.W.Frag) (H : Hp) : List V → List PyData → Prop
  | nil : DaAll K H [] []
  | cons {v : V} {vs : List V} {d : PyData} {ds : List PyData} : Da K H v d → DaAll K H vs ds → DaAll K H (v :: vs) (d :: ds)
inductive DaKv (K : PySem.W.Frag) (H : Hp) : List (Key × V) → List (PyData × PyData) → Prop
  | nil : DaKv K H [] []
  | cons {k : Key} {v : V} {vs : List (Key × V)} {d : PyData} {ds : List (PyData × PyData)} :
      Da K H v d → DaKv K H vs ds → DaKv K H ((k, v) :: vs) ((keyD k, d) :: ds)
end

mutual
theorem Da.mono {K : PySem.W.Frag} {H H' : Hp} (e : ∀ a o, H a = some o → H' a = some o) : ∀ (d : PyData) {v : V}, Da K H v d → Da K H' v d
  | .none, _, h => by cases h; exact .non
  | .bool b, _, h => by cases h; exact .bl b
  | .int i, _, h => by cases h; exact .int i
  | .str x, _, h => by cases h; exact .str x
  | .list ds, _, h => by
    cases h with
    | lst h1 h2 => exact .lst (e _ _ h1) (DaAll.mono e ds h2)
  | .tuple ds, _, h => by
    cases h with
    | tup h1 h2 => exact .tup (e _ _ h1) (DaAll.mono e ds h2)
  | .dict ds, _, h => by
    cases h with
    | dic h1 h2 => exact .dic (e _ _ h1) (DaKv.mono e ds h2)
theorem DaAll.mono {K : PySem.W.Frag} {H H' : Hp} (e : ∀ a o, H a = some o → H' a = some o) : ∀ (ds : List PyData) {vs : List V}, DaAll K H vs ds → DaAll K H' vs ds
  | [], _, h => by cases h; exact .nil
  | d :: ds, _, h => by
    cases h with
    | cons h1 h2 => exact .cons (Da.mono e d h1) (DaAll.mono e ds h2)
theorem DaKv.mono {K : PySem.W.Frag} {H H' : Hp} (e : ∀ a o, H a = some o → H' a = some o) : ∀ (ds : List (PyData × PyData)) {vs : List (Key × V)}, DaKv K H vs ds → DaKv K H' vs ds
  | [], _, h => by cases h; exact .nil
  | (_, d) :: ds, _, h => by
    cases h with
    | cons h1 h2 => exact .cons (Da.mono e d h1) (DaKv.mono e ds h2)
end

section
variable {K : PySem.W.Frag} {H : Hp}
theorem DaAll.length : ∀ {vs : List V} {ds : List PyData}, DaAll K H vs ds → vs.length = ds.length
  | [], _, h => by cases h; rfl
  | _ :: vs, _, h => by
    cases h with
    | cons h1 h2 => rw [List.length_cons, List.length_cons, DaAll.length h2]
theorem DaAll.get : ∀ {vs : List V} {ds : List PyData} {i : Nat} {v : V}, DaAll K H vs ds → vs[i]? = some v → ∃ d, ds[i]? = some d ∧ Da K H v d
  | [], _, _, _, h, e => by simp at e
  | v :: vs, _, 0, w, h, e => by
    cases h with
    | cons h1 h2 =>
      simp at e; subst e
      exact ⟨_, rfl, h1⟩
  | v :: vs, _, i + 1, w, h, e => by
    cases h with
    | cons h1 h2 =>
      obtain ⟨d, q, r⟩ := DaAll.get (i := i) (v := w) h2 (by simpa using e)
      exact ⟨d, by simpa using q, r⟩
theorem DaAll.at : ∀ {vs : List V} {ds : List PyData} {i : Nat} {d : PyData}, DaAll K H vs ds → ds[i]? = some d → ∃ v, vs[i]? = some v ∧ Da K H v d
  | [], _, _, _, h, e => by cases h; simp at e
  | v :: vs, _, 0, w, h, e => by
    cases h with
    | cons h1 h2 =>
      simp at e; subst e
      exact ⟨_, rfl, h1⟩
  | v :: vs, _, i + 1, w, h, e => by
    cases h with
    | cons h1 h2 =>
      obtain ⟨d, q, r⟩ := DaAll.at (i := i) (d := w) h2 (by simpa using e)
      exact ⟨d, by simpa using q, r⟩
theorem DaAll.append : ∀ {vs ws : List V} {ds es : List PyData}, DaAll K H vs ds → DaAll K H ws es → DaAll K H (vs ++ ws) (ds ++ es)
  | [], _, _, _, h, h' => by cases h; exact h'
  | _ :: vs, _, _, _, h, h' => by
    cases h with
    | cons h1 h2 => exact .cons h1 (DaAll.append h2 h')
theorem DaAll.take : ∀ {vs : List V} {ds : List PyData} (n : Nat), DaAll K H vs ds → DaAll K H (vs.take n) (ds.take n)
  | _, _, 0, _ => .nil
  | [], _, _ + 1, h => by cases h; exact .nil
  | _ :: vs, _, n + 1, h => by
    cases h with
    | cons h1 h2 => exact .cons h1 (DaAll.take n h2)
theorem DaAll.drop : ∀ {vs : List V} {ds : List PyData} (n : Nat), DaAll K H vs ds → DaAll K H (vs.drop n) (ds.drop n)
  | _, _, 0, h => h
  | [], _, _ + 1, h => by cases h; exact .nil
  | _ :: vs, _, n + 1, h => by
    cases h with
    | cons h1 h2 => exact DaAll.drop n h2
theorem DaAll.rev : ∀ {vs : List V} {ds : List PyData}, DaAll K H vs ds → DaAll K H vs.reverse ds.reverse
  | [], _, h => by cases h; exact .nil
  | _ :: vs, _, h => by
    cases h with
    | cons h1 h2 =>
      rw [List.reverse_cons, List.reverse_cons]
      exact DaAll.append (DaAll.rev h2) (.cons h1 .nil)
end

/-! ### to the library's reading of a value -/
mutual
def noList : PyData → Bool
  | .none | .bool _ | .int _ | .str _ => true
  | .list _ => false
  | .tuple xs => noListAll xs
  | .dict kvs => noListKv kvs
def noListAll : List PyData → Bool
  | [] => true
  | x :: xs => noList x && noListAll xs
def noListKv : List (PyData × PyData) → Bool
  | [] => true
  | (_, v) :: r => noList v && noListKv r
end
section
variable {X : Cx} {pins : List (Addr × Obj)} {σ : L2.St} {H : Hp} {s : Shared}
theorem keyD_reads {h : Heap} : ∀ {k : Key} {v : Value}, keyIs k v = true → Reads h v (keyD k) []
  | .inl i, v, e => by
    obtain ⟨t, rfl⟩ := Value.isInt_shape (k := i) (v := v) e
    exact .int i t
  | .inr x, v, e => by
    obtain ⟨t, rfl⟩ := Value.isStrOf_shape (x := x) (v := v) e
    exact .str x t
/-! the addresses of the reading: none of them sysModules where no list is in it -/
mutual
theorem Da.reads (I : Inv X pins σ H s) : ∀ (d : PyData) (v : V) (u : Value), Da X.K H v d → RelV v u →
    ∃ as, Reads s.heap u d as ∧ (noList d = true → sysModules ∉ as)
  | .none, _, _, h, r => by
    cases h; cases r
    exact ⟨_, Reads.none, fun _ => by simp⟩
  | .bool b, _, _, h, r => by
    cases h; cases r
    exact ⟨_, Reads.bool b, fun _ => by simp⟩
  | .int i, _, _, h, r => by
    cases h
    obtain ⟨t, rfl⟩ := r
    exact ⟨_, Reads.int i t, fun _ => by simp⟩
  | .str x, _, _, h, r => by
    cases h
    obtain ⟨t, rfl⟩ := r
    exact ⟨_, Reads.str x t, fun _ => by simp⟩
  | .list ds, _, _, h, r => by
    cases h with
    | lst hs ha =>
      cases r
      obtain ⟨_, its, n, rv, ho⟩ := I.hok _ _ hs
      obtain ⟨as, hr, _⟩ := Da.readsAll I ds _ its ha rv
      exact ⟨_, Reads.list ho rfl rfl hr, fun z => by simp [noList] at z⟩
  | .tuple ds, _, _, h, r => by
    cases h with
    | tup hs ha =>
      cases r
      obtain ⟨_, its, rv, o, ho, hc, n, hd⟩ := I.hok _ _ hs
      obtain ⟨as, hr, hz⟩ := Da.readsAll I ds _ its ha rv
      exact ⟨_, Reads.tuple ho hc hd hr, fun z => hz (by simpa [noList] using z)⟩
  | .dict ds, _, _, h, r => by
    cases h with
    | dic hs ha =>
      cases r
      obtain ⟨_, hsys, vs, rv, o, es, ep, ho, hex, hd, _, hp, _⟩ := I.hok _ _ hs
      obtain ⟨bs, h1, h2, hz⟩ := Da.readsKv I ds _ vs es.toList ha rv hp
      refine ⟨_, Reads.dict ho hex.1 hd h1 h2, fun z => ?_⟩
      have hz' := hz (by simpa [noList] using z)
      intro hm
      rcases List.mem_append.mp hm with hm | hm
      · have e := List.mem_singleton.mp hm
        rw [← e] at hsys; simp at hsys
      · exact hz' hm
theorem Da.readsAll (I : Inv X pins σ H s) : ∀ (ds : List PyData) (vs : List V) (us : List Value), DaAll X.K H vs ds → Vals vs us →
    ∃ as, ReadsAll s.heap us ds as ∧ (noListAll ds = true → sysModules ∉ as)
  | [], _, _, h, r => by
    cases h; cases r
    exact ⟨_, ReadsAll.nil, fun _ => by simp⟩
  | d :: ds, _, _, h, r => by
    cases h with
    | cons h1 h2 =>
      cases r with
      | cons r1 r2 =>
        obtain ⟨as, q1, z1⟩ := Da.reads I d _ _ h1 r1
        obtain ⟨bs, q2, z2⟩ := Da.readsAll I ds _ _ h2 r2
        refine ⟨_, ReadsAll.cons q1 q2, fun z => ?_⟩
        have zz : noList d = true ∧ noListAll ds = true := by simpa [noListAll] using z
        simp only [List.mem_append, not_or]
        exact ⟨z1 zz.1, z2 zz.2⟩
theorem Da.readsKv (I : Inv X pins σ H s) : ∀ (ds : List (PyData × PyData)) (kvs : List (Key × V)) (vs : List (Key × Value)) (es : List DictEntry),
    DaKv X.K H kvs ds → KV kvs vs → PySem.Pairs (mixKind X.prog X.w) es vs →
    ∃ bs, ReadsAll s.heap (es.map (·.key)) (ds.map (·.1)) [] ∧ ReadsAll s.heap (es.map (·.val)) (ds.map (·.2)) bs ∧ (noListKv ds = true → sysModules ∉ bs)
  | [], _, _, _, h, r, p => by
    cases h; cases r; cases p
    exact ⟨_, ReadsAll.nil, ReadsAll.nil, fun _ => by simp⟩
  | d :: ds, _, _, _, h, r, p => by
    cases h with
    | cons h1 h2 =>
      cases r with
      | cons r1 r2 =>
        cases p with
        | cons p1 p2 p3 =>
          obtain ⟨as, q1, z1⟩ := Da.reads I _ _ _ h1 r1.2
          obtain ⟨bs, q2, q3, z2⟩ := Da.readsKv I ds _ _ _ h2 r2 p3
          refine ⟨_, ReadsAll.cons (as := []) ?_ q2, ReadsAll.cons (by show Reads _ (DictEntry.val _) _ _; rw [p2]; exact q1) q3, fun z => ?_⟩
          · have e := r1.1
            simp only at e
            rw [← e] at p1
            exact keyD_reads p1
          · have zz := Bool.and_eq_true_iff.mp (show (noList _ && noListKv ds) = true from z)
            simp only [List.mem_append, not_or]
            exact ⟨z1 zz.1, z2 zz.2⟩
end
end

/-! ### repr(x) -/
/-- what repr may be asked of -/
def repOk (d : PyData) : Bool := d.showable && (noList d || !d.hasDict) && decide (d.depth ≤ 40) && decide (d.shown.length ≤ 16000000)
def rRepr (K : PySem.W.Frag) : List V → Hp → VK → Prop := fun vs H Q => ∃ x d, vs = [x] ∧ Da K H x d ∧ repOk d = true ∧ Q (.str d.shown) H
section
variable {X : Cx}
theorem call_repr (hq : Quiet X.A) (hu : X.A.units + 64 < cLine) : CallR X (.builtin "repr") (rRepr X.K) := by
  intro pins s σ H xs us Q I r h
  obtain ⟨x, d, rfl, hd, hok, q⟩ := h
  obtain ⟨u, rfl, rx⟩ := vals1 r
  simp only [repOk, Bool.and_eq_true, decide_eq_true_eq, Bool.or_eq_true] at hok
  obtain ⟨⟨⟨hs, hnl⟩, hdp⟩, hsz⟩ := hok
  have hsz' : d.shown.length ≤ sizeLine := Nat.le_trans hsz (by decide)
  have key : ∀ a, u = .ref a → wpAny (model X.prog X.w) X.A (call (.builtin "repr") [u]) (EP X pins σ Q) X.xe s := by
    rintro a rfl
    obtain ⟨as, hr, hz⟩ := Da.reads I d _ _ hd rx
    refine repr_of_reads' (h₀ := s.heap) hr hs (fun hh hm => ?_) hq (by omega) (fun b o e => e) (fun h' u' tk hk => ?_) hsz'
    · rcases hnl with z | z
      · exact hz z hm
      · rw [hh] at z; simp at z
    · exact ⟨.str d.shown, H, I.kept hk, ⟨u', rfl⟩, q⟩
  cases hd with
  | non => cases rx; exact PySem.P.repr_of_none ⟨.str _, H, I.tok _, ⟨_, rfl⟩, q⟩
  | bl b => cases rx; exact PySem.P.repr_of_bool ⟨.str _, H, I.tok _, ⟨_, rfl⟩, by cases b <;> exact q⟩
  | int i =>
    obtain ⟨t, rfl⟩ := rx
    exact PySem.P.repr_of_int (by simpa [PyData.showable] using hs) ⟨.str _, H, I.tok _, ⟨_, rfl⟩, q⟩
  | str y =>
    obtain ⟨t, rfl⟩ := rx
    exact PySem.P.repr_of_str ⟨.str _, H, I.tok _, ⟨_, rfl⟩, q⟩ hsz'
  | lst _ _ => exact key _ rx
  | tup _ _ => exact key _ rx
  | dic _ _ => exact key _ rx
end
end KD
set_option Elab.async false
set_option linter.all false
set_option maxRecDepth 100000
set_option maxHeartbeats 4000000
namespace KD
open PySem PySem.Spec PyProof.Rows L2
/-! ### t[::-1] of a tuple -/
section
variable {prog : Program} {w : World} {A : Around} {E : Value → Shared → Prop} {s : Shared}
theorem applied_back {sl : Addr} {vk : Value} {n : Nat} {Q : Int × Int × Nat → Shared → Prop}
    (hs : s.heap.IsSliceOf sl .none .none vk) (pk : IsPart vk (some (-1))) (h : Q ((n : Int) - 1, -1, n) s) :
    wpAny (model prog w) A (Builtin.Slice.sliceApplied (.ref sl) (pure (n : Int))) Q E s := by
  obtain ⟨os, hos, hcs, hds⟩ := id hs
  unfold Builtin.Slice.sliceApplied Builtin.Slice.sliceFields
  refine wpAny_bind (wpAny_bind (wpAny_field hos hds (x := .none) rfl ?_))
  refine wpAny_bind (wpAny_field hos hds (x := .none) rfl ?_)
  refine wpAny_bind (wpAny_field hos hds (x := vk) rfl (wpAny_pure ?_))
  refine wpAny_bind (HT.slicePart_ pk ?_)
  show wpAny _ _ (if ((-1 : Int) == 0) = true then _ else _) _ _ s
  rw [if_neg (by decide)]
  refine wpAny_bind (HT.slicePart_ .none (wpAny_bind (HT.slicePart_ .none (wpAny_bind (wpAny_pure ?_)))))
  have e : Builtin.Slice.sliceAdjust none none (-1) (n : Int) = ((n : Int) - 1, -1) := by
    unfold Builtin.Slice.sliceAdjust
    simp
  have e2 : Builtin.Slice.slicePlaces ((n : Int) - 1) (-1) (-1) = n := by
    unfold Builtin.Slice.slicePlaces
    have h1 : ¬ ((-1 : Int) > 0) := by decide
    simp only [h1, if_false]
    split
    · rw [show (- -1 : Int) = 1 by decide, Int.ediv_one]; omega
    · omega
  show wpAny _ _ (match Builtin.Slice.sliceAdjust none none (-1) (n : Int) with
    | (lo, hi) => pure (lo, (-1 : Int), Builtin.Slice.slicePlaces lo hi (-1))) _ _ s
  rw [e]
  show wpAny _ _ (pure ((n : Int) - 1, (-1 : Int), Builtin.Slice.slicePlaces ((n : Int) - 1) (-1) (-1))) _ _ s
  rw [e2]
  exact wpAny_pure h
theorem pick_back (xs : Array Value) :
    ((List.range xs.size).filterMap fun (m : Nat) => xs[(((xs.size : Int) - 1) + (m : Int) * (-1)).toNat]?).toArray = xs.toList.reverse.toArray := by
  have e : ((List.range xs.size).filterMap fun (m : Nat) => xs[(((xs.size : Int) - 1) + (m : Int) * (-1)).toNat]?) =
      ((List.range xs.size).map fun k => xs.size - 1 - k).filterMap (xs[·]?) := by
    rw [List.filterMap_map]
    have go : ∀ l : List Nat, (∀ m ∈ l, m < xs.size) →
        (l.filterMap fun (m : Nat) => xs[(((xs.size : Int) - 1) + (m : Int) * (-1)).toNat]?) = l.filterMap ((fun x => xs[x]?) ∘ fun k => xs.size - 1 - k) := by
      intro l
      induction l with
      | nil => intro _; rfl
      | cons m r ih =>
        intro hm
        have h1 := hm m List.mem_cons_self
        have h2 : (((xs.size : Int) - 1) + (m : Int) * (-1)).toNat = xs.size - 1 - m := by omega
        rw [List.filterMap_cons, List.filterMap_cons, ih fun b hb => hm b (List.mem_cons_of_mem _ hb), h2]
        rfl
    exact go _ fun m hm => List.mem_range.mp hm
  rw [e, PySem.W.krv_range, List.filterMap_reverse, PySem.W.krv_all]
theorem getItem_tuple_back {t sl : Addr} {items : Array Value} {vk : Value} {Q : Value → Shared → Prop} (ht : IsTup s.heap t items)
    (hs : s.heap.IsSliceOf sl .none .none vk) (pk : IsPart vk (some (-1)))
    (h : Q (.ref s.heap.objs.size) { s with heap := s.heap.push { cls := .type "tuple", data := .seq items.toList.reverse.toArray } })
    (hsz : items.size ≤ sizeLine) : wpAny (model prog w) A (getItem (.ref t) (.ref sl)) Q E s := by
  have hok : sizeOk (.seq items.toList.reverse.toArray) := by
    show items.toList.reverse.toArray.size ≤ sizeLine
    rw [List.size_toArray, List.length_reverse, Array.length_toList]; exact hsz
  have isSlice : s.TypeIs (.ref sl) "slice" := hs.elim fun o e => ⟨o, e.1, e.2.1⟩
  have isTuple := ht.typeIs
  unfold getItem
  first
    | refine wpAny_bind (wpAny_sequenceKey isTuple (by decide) ?_)
    | refine wpAny_holding (wpAny_bind (wpAny_sequenceKey isTuple (by decide) ?_))
    | refine wpAny_bind (wpAny_pure (wpAny_bind (wpAny_sequenceKey isTuple (by decide) ?_)))
  refine wpAny_bind (wpAny_callSpecial?_slot (name := Str.ofString "__getitem__") isTuple PyProof.Rows.slot_tuple_getitem
    (wpAny_call_entry PyProof.Rows.slot_tuple_getitem isTuple entry_tuple_getitem ?_ (args_tuple_getitem _ _)))
  change wpAny _ _ (Builtin.Tuple.tupleItemsOf _ >>= _) _ _ _
  apply wpAny_bind
  apply tupleItemsOf_ ht
  apply wpAny_bind
  refine wpAny_typeOf isSlice ?_
  rw [if_pos (by decide)]
  apply wpAny_bind
  refine applied_back (n := items.size) hs pk ?_
  have hno : ¬ ((((items.size : Int) - 1) == 0 && (-1 : Int) == 1 && items.size == items.size) = true) := by
    simp
  show wpAny _ _ (if (((items.size : Int) - 1) == 0 && (-1 : Int) == 1 && items.size == items.size) = true then _ else _) _ _ s
  rw [if_neg hno, pick_back]
  first
    | exact wpAny_bind (m := Builtin.Tuple.tupleExact _) (wpAny_newObj_type (wpAny_pure ⟨_, rfl, wpAny_pure h⟩) hok)
    | exact wpAny_bind (m := Builtin.Tuple.tupleExact _) (wpAny_newObj_type (wpAny_bind (wpAny_pure (wpAny_pure ⟨_, rfl, wpAny_pure h⟩))) hok)
    | exact wpAny_bind (wpAny_bind (m := Builtin.Tuple.tupleExact _) (wpAny_newObj_type (wpAny_pure (wpAny_pure ⟨_, rfl, wpAny_pure h⟩)) hok))
    | exact wpAny_bind (wpAny_bind (m := Builtin.Tuple.tupleExact _) (wpAny_newObj_type (wpAny_pure ⟨_, rfl, wpAny_pure h⟩) hok))
end
section
variable {X : Cx}
def tRevT (K : PySem.W.Frag) (te : TE) : TE := fun σ H Q => te σ H fun x H1 => ∃ a xs, x = .ref a ∧ SqT K H1 a xs ∧
  ∀ p, H1 p = none → Q (.ref p) (upd H1 p (.tup xs.reverse))
theorem pe_revT {e : Expr} {te : TE} {k : Nat} {p1 p2 p3 pos : Pos} (he : PE X e te) :
    PE X (.Subscript e (.Slice none none (some (.UnaryOp .USub (.Constant (.int 1) k p1) p2)) p3) pos) (tRevT X.K te) := by
  constructor
  intro pins s σ H Q I h
  refine Subscript_ (thn (he.run pins s σ H _ I h) ?_)
  rintro v s1 ⟨x, H1, I1, r1, a, xs, rfl, hx, q⟩
  cases r1
  have hst := po_some (pe_un un_neg (pe_int (X := X) (i := 1) (j := k) (pos := p1)) (pos := p2))
  refine wpAny_Slice (thn (po_none.run pins s1 σ H1 (fun o H2 => o = none ∧ H2 = H1) I1 ⟨rfl, rfl⟩) ?_)
  rintro vl s2 ⟨l, H2, I2, pl, rfl, rfl⟩
  refine thn (po_none.run pins s2 σ H2 (fun o H3 => o = none ∧ H3 = H2) I2 ⟨rfl, rfl⟩) ?_
  rintro vu s3 ⟨u, H3, I3, pu, rfl, rfl⟩
  refine thn (hst.run pins s3 σ H3 (fun o H4 => o = some (-1) ∧ H4 = H3) I3 ⟨1, rfl, -1, rfl, rfl, rfl⟩) ?_
  rintro vk s4 ⟨o, H4, I4, ps, rfl, rfl⟩
  have I5 := I4.kept (h' := s4.heap.push { cls := .type "slice", data := .fields #[vl, vu, vk] }) (t' := s4.toks)
    fun b ob q => Heap.get?_push_of_some _ q
  obtain ⟨its, r, ht, hz⟩ := I5.tuple hx
  have hlen := r.length
  have evl : vl = .none := by cases pl; rfl
  have evu : vu = .none := by cases pu; rfl
  subst evl evu
  show wpAny (model X.prog X.w) X.A (subscriptTail e (.Slice none none (some (.UnaryOp .USub (.Constant (.int 1) k p1) p2)) p3) (.ref a)
    (.ref s4.heap.objs.size)) (EP X pins σ Q) X.xe { s4 with heap := s4.heap.push { cls := .type "slice", data := .fields #[.none, .none, vk] } }
  refine tail_any (ops := [.ref a, .ref s4.heap.objs.size]) ht.typeIs PyProof.Rows.slot_tuple_getitem.lookup ?_ (by with_unfolding_all rfl)
  refine getItem_tuple_back ht (Heap.IsSliceOf.new _ _ _ vk) ps ?_ (by rw [List.size_toArray]; omega)
  refine ⟨.ref _, _, I5.laid (t' := s4.toks) (o := .tup xs.reverse) (fun b ob q => Heap.get?_push_of_some _ q) (Nat.le_refl _) ?_, rfl,
    q _ (I5.hok.fresh (Nat.le_refl _))⟩
  exact ⟨by rw [List.length_reverse]; exact hz, _, r.reverse, IsTup.new _ _⟩

/-! ### text * int -/
def rMulS : R2 := fun x y H Q => ∃ (z : Str) (n : Int), x = .str z ∧ y = .int n ∧ MulOk z n ∧ Q (.str (Txt.mul z n)) H
theorem op_mulS : OpR X (binaryOp .Mult) rMulS := by
  intro pins s σ H x y v u Q I rx ry h
  obtain ⟨z, n, rfl, rfl, hok, q⟩ := h
  obtain ⟨t, rfl⟩ := rx
  obtain ⟨t', rfl⟩ := ry
  exact SB.mul hok fun t2 k => ⟨.str _, H, I.tok _, ⟨_, rfl⟩, q⟩

/-! ### == of data: of any shape without dicts, or of two lists of unlike lengths -/
def flatD : PyData → Bool
  | .none | .bool _ | .int _ | .str _ => true
  | _ => false
def cmpOk : PyData → PyData → Bool
  | .list xs, .list ys => ((SeqAt.shaped (.list xs) && SeqAt.shaped (.list ys)) || xs.length != ys.length) || (xs.all flatD && ys.all flatD)
  | d, e => SeqAt.shaped d && SeqAt.shaped e
theorem cmpOk_of {d e : PyData} (h1 : SeqAt.shaped d = true) (h2 : SeqAt.shaped e = true) : cmpOk d e = true := by
  unfold cmpOk
  split <;> simp [h1, h2]
theorem cmpOk_cases {d e : PyData} (h : cmpOk d e = true) : (SeqAt.shaped d = true ∧ SeqAt.shaped e = true) ∨
    ∃ xs ys, d = .list xs ∧ e = .list ys ∧ (xs.length ≠ ys.length ∨ (xs.length = ys.length ∧ xs.all flatD = true ∧ ys.all flatD = true)) := by
  unfold cmpOk at h
  split at h
  · rename_i xs ys
    by_cases hl : xs.length = ys.length
    · rcases Bool.or_eq_true_iff.mp h with h | h
      · rcases Bool.or_eq_true_iff.mp h with h | h
        · exact .inl (Bool.and_eq_true_iff.mp h)
        · exact absurd hl (by simpa using h)
      · have := Bool.and_eq_true_iff.mp h
        exact .inr ⟨_, _, rfl, rfl, .inr ⟨hl, this.1, this.2⟩⟩
    · exact .inr ⟨_, _, rfl, rfl, .inl hl⟩
  · exact .inl (Bool.and_eq_true_iff.mp h)
def rEqDa (K : PySem.W.Frag) : R2 := fun x y H Q => ∃ d e, Da K H x d ∧ Da K H y e ∧ cmpOk d e = true ∧ Q (.bl (PyData.eqv d e)) H
def rNeDa (K : PySem.W.Frag) : R2 := fun x y H Q => ∃ d e, Da K H x d ∧ Da K H y e ∧ cmpOk d e = true ∧ Q (.bl (!PyData.eqv d e)) H
theorem eqv_lengths {xs ys : List PyData} (h : xs.length ≠ ys.length) : PyData.eqv (.list xs) (.list ys) = false := by
  show PyData.eqvAll xs ys = false
  exact SeqAt.eqvAll_other_length h
theorem eqAt_flat {A : Around} {K : PySem.W.Frag} {H : Hp} {s : Shared} {x y : V} {u v : Value} {d e : PyData} (hd : Da K H x d) (he : Da K H y e) (fd : flatD d = true) (fe : flatD e = true)
    (rx : RelV x u) (ry : RelV y v) : SeqAt.EqAt A s u v (PyData.eqv d e) := by
  cases hd <;> first | (cases fd; done) | skip
  all_goals (cases he <;> first | (cases fe; done) | skip)
  all_goals first
    | (obtain ⟨t, rfl⟩ := rx)
    | (cases rx)
  all_goals first
    | (obtain ⟨t', rfl⟩ := ry)
    | (cases ry)
  · exact SeqAt.EqAt.same _
  · exact SeqAt.EqAt.none_bool _
  · exact SeqAt.EqAt.none_int _ _
  · exact SeqAt.EqAt.none_str _ _
  · exact SeqAt.EqAt.bool_none _
  · exact SeqAt.EqAt.bool_bool _ _
  · exact SeqAt.EqAt.bool_int _ _ _
  · exact SeqAt.EqAt.bool_str _ _ _
  · exact SeqAt.EqAt.int_none _ _
  · exact SeqAt.EqAt.int_bool _ _ _
  · exact SeqAt.EqAt.int_int _ _ _ _
  · exact SeqAt.EqAt.int_str _ _ _ _
  · exact SeqAt.EqAt.str_none _ _
  · exact SeqAt.EqAt.str_bool _ _ _
  · exact SeqAt.EqAt.str_int _ _ _ _
  · exact SeqAt.EqAt.str_str _ _ _ _
theorem eqAt_items {A : Around} {K : PySem.W.Frag} {H : Hp} {s : Shared} : ∀ {xs ys : List V} {us vs : List Value} {ds es : List PyData}, DaAll K H xs ds → DaAll K H ys es → ds.all flatD = true → es.all flatD = true →
    Vals xs us → Vals ys vs → ∀ j (h1 : j < us.length) (h2 : j < vs.length), SeqAt.EqAt A s us[j] vs[j] (SeqAt.pairEq ds es j) := by
  intro xs ys us vs ds es hd he fd fe rx ry j h1 h2
  have l1 := rx.length; have l2 := ry.length; have l3 := hd.length; have l4 := he.length
  have j1 : j < ds.length := by omega
  have j2 : j < es.length := by omega
  obtain ⟨x, hx, dx⟩ := hd.at (List.getElem?_eq_getElem j1)
  obtain ⟨y, hy, dy⟩ := he.at (List.getElem?_eq_getElem j2)
  obtain ⟨u, hu, ru⟩ := rx.get hx
  obtain ⟨v, hv, rv⟩ := ry.get hy
  rw [List.getElem?_eq_getElem h1] at hu; cases hu
  rw [List.getElem?_eq_getElem h2] at hv; cases hv
  have e : SeqAt.pairEq ds es j = PyData.eqv ds[j] es[j] := by
    unfold SeqAt.pairEq
    simp [List.getElem?_eq_getElem j1, List.getElem?_eq_getElem j2, j1, j2]
  rw [e]
  exact eqAt_flat dx dy (List.all_eq_true.mp fd _ (List.getElem_mem j1)) (List.all_eq_true.mp fe _ (List.getElem_mem j2)) ru rv
theorem op_eqDa (hu : X.A.units + 64 < cLine) : OpR X (compareOp .Eq) (rEqDa X.K) := by
  intro pins s σ H x y v u Q I rx ry h
  obtain ⟨d, e, hd, he, hc, q⟩ := h
  rcases cmpOk_cases hc with ⟨sd, se⟩ | ⟨xs, ys, rfl, rfl, hne | ⟨hl, fd, fe⟩⟩
  · obtain ⟨as, r1, _⟩ := Da.reads I d x v hd rx
    obtain ⟨bs, r2, _⟩ := Da.reads I e y u he ry
    exact SeqAt.compareEq_shaped r1 r2 sd se hu ⟨.bl _, H, I, rfl, q⟩
  · cases hd with
    | lst h1 a1 => cases he with
      | lst h2 a2 =>
        cases rx; cases ry
        obtain ⟨_, its, n, rv, ho⟩ := I.hok _ _ h1
        obtain ⟨_, its2, n2, rv2, ho2⟩ := I.hok _ _ h2
        refine SeqAt.eq_list_lengthsAt ⟨_, ho, rfl, _, rfl⟩ ⟨_, ho2, rfl, _, rfl⟩ ?_ (by omega) ⟨.bl _, H, I, rfl, ?_⟩
        · have e1 := rv.length; have e2 := rv2.length; have e3 := a1.length; have e4 := a2.length
          simp only [List.size_toArray, bne_iff_ne, ne_eq]
          omega
        · rw [eqv_lengths hne] at q; exact q
  · cases hd with
    | lst h1 a1 => cases he with
      | lst h2 a2 =>
        cases rx; cases ry
        obtain ⟨_, its, n, rv, ho⟩ := I.hok _ _ h1
        obtain ⟨_, its2, n2, rv2, ho2⟩ := I.hok _ _ h2
        have e1 := rv.length; have e2 := rv2.length; have e3 := a1.length; have e4 := a2.length
        refine SeqAt.eq_listAt ⟨_, ho, rfl, _, rfl⟩ ⟨_, ho2, rfl, _, rfl⟩ (by simp only [List.size_toArray]; omega) (by omega) (e := SeqAt.pairEq xs ys) (fun j j1 j2 => ?_) ⟨.bl _, H, I, rfl, ?_⟩
        · simpa using eqAt_items (A := X.A.in1) (s := s) a1 a2 fd fe rv rv2 j (by simpa using j1) (by simpa using j2)
        · rw [List.size_toArray, show its.length = xs.length by omega, SeqAt.eqvAll_same_length hl]; exact q
theorem op_neDa (hu : X.A.units + 64 < cLine) : OpR X (compareOp .NotEq) (rNeDa X.K) := by
  intro pins s σ H x y v u Q I rx ry h
  obtain ⟨d, e, hd, he, hc, q⟩ := h
  rcases cmpOk_cases hc with ⟨sd, se⟩ | ⟨xs, ys, rfl, rfl, hne | ⟨hl, fd, fe⟩⟩
  · obtain ⟨as, r1, _⟩ := Da.reads I d x v hd rx
    obtain ⟨bs, r2, _⟩ := Da.reads I e y u he ry
    exact SeqAt.compareNe_shaped r1 r2 sd se hu ⟨.bl _, H, I, rfl, q⟩
  · cases hd with
    | lst h1 a1 => cases he with
      | lst h2 a2 =>
        cases rx; cases ry
        obtain ⟨_, its, n, rv, ho⟩ := I.hok _ _ h1
        obtain ⟨_, its2, n2, rv2, ho2⟩ := I.hok _ _ h2
        have hz : (its.toArray.size != its2.toArray.size) = true := by
          have e1 := rv.length; have e2 := rv2.length; have e3 := a1.length; have e4 := a2.length
          simp only [List.size_toArray, bne_iff_ne, ne_eq]
          omega
        refine SeqAt.RcNeAt.lists_lengths ⟨_, ho, rfl, _, rfl⟩ ⟨_, ho2, rfl, _, rfl⟩ hz (by omega) X.prog X.w X.xe _ ⟨.bl _, H, I, rfl, ?_⟩
        rw [eqv_lengths hne] at q; exact q
  · cases hd with
    | lst h1 a1 => cases he with
      | lst h2 a2 =>
        cases rx; cases ry
        obtain ⟨_, its, n, rv, ho⟩ := I.hok _ _ h1
        obtain ⟨_, its2, n2, rv2, ho2⟩ := I.hok _ _ h2
        have e1 := rv.length; have e2 := rv2.length; have e3 := a1.length; have e4 := a2.length
        refine SeqAt.RcNeAt.lists (e := SeqAt.pairEq xs ys) ⟨_, ho, rfl, _, rfl⟩ ⟨_, ho2, rfl, _, rfl⟩ (by simp only [List.size_toArray]; omega) (by omega) (fun j j1 j2 => ?_) X.prog X.w X.xe _ ⟨.bl _, H, I, rfl, ?_⟩
        · simpa using eqAt_items (A := X.A.in1) (s := s) a1 a2 fd fe rv rv2 j (by simpa using j1) (by simpa using j2)
        · rw [List.size_toArray, show its.length = xs.length by omega, SeqAt.eqvAll_same_length hl]; exact q

/-! ### f(k = v, ..) -/
variable {CX : CXT} {k : Nat} {f C : Addr} {fd : FuncData} {ps ks : List Str} {sp : Sp} {E : XK} {x m : Str} {p pos : Pos} {kws : List Keyword} {tk : TA}
  {g : List Value → List Value → List Value} {gV : List V → List V → List V}
theorem pe_kw (F : FnG X.prog X.w X.K X.mg X.base CX k f fd ps sp) (hr : Room k X.A) (hq : Quiet X.A) (hg : Gl X x)
    (hm : X.mg x = some (.ref f)) (hk : PySem.W.keepIn X.K (.ref f) = true) (hb : KBinds X.K fd ps ks g gV) (hx : Passes CX X E)
    (hkw : PK X kws tk) (hall : (backToKw pos (keywordEach kws X.env)).all (·.1.isSome) = true := by rfl)
    (hks : (backToKw pos (keywordEach kws X.env)).filterMap (·.1) = ks := by rfl)
    (hdb : (x == ("__debug__" : Str)) = false := by decide)
    (hpl : ((backTo pos (starEach [] X.env)).any (·.1) || (backToKw pos (keywordEach kws X.env)).any (·.1.isNone)) = false := by rfl) :
    PE X (.Call (.Name x p) [] kws pos) (tCallK sp gV E tNil tk) := by
  constructor
  intro pins s σ H Q I h
  refine wpAny_Call_Name_kw (ld_glob I hg hm ?_ hdb)
  refine PySem.W.callWith_KW0 (h₀ := X.base) I.ok.mod.kin hk hall (thn (hkw.run pos pins s σ H _ I h) ?_) hpl
  rintro ws s2 ⟨zs, H2, I2, rz, q2⟩
  refine ⟨I2.kIn, ?_⟩
  rw [hks]
  have r2 := hb.rel (.nil : Vals [] []) rz
  have hl : (g [] ws).length = ps.length := by rw [← r2.length]; exact F.len _ _ _ _ q2
  have run := F.run X.A X.stack s2 H2 ⟨[], ks.zip ws⟩ (g [] ws) (gV [] zs) Q E hr hq I2.env0 (hb.to s2 [] ws I2.kIn hl) r2 q2
  refine wpAny_call (codeAny_mono run fun r s' hq' => ?_)
  match r, hq' with
  | .error e, z => exact hx pins σ H2 s2 e s' I2 z
  | .ok (.ret u), z => exact I2.after z
  | .ok .next, z => exact False.elim z
  | .ok .brk, z => exact False.elim z
  | .ok .cont, z => exact False.elim z
end
/-- every parameter by its name, in their order, none by place -/
def kwG {α : Type} : List α → List α → List α
  | [], ws => ws
  | _ :: _, _ => []
theorem kb_all {K : PySem.W.Frag} {fd : FuncData} {p0 : Str} {ps : List Str}
    (h : ∀ ws : List Value, ws.length = (p0 :: ps).length → bindArgs fd ⟨[], (p0 :: ps).zip ws⟩ = pure ((p0 :: ps).zip ws)) :
    KBinds K fd (p0 :: ps) (p0 :: ps) kwG kwG := by
  refine ⟨fun s us ws _ hl => ?_, fun {vs us zs ws} r1 r2 => ?_⟩
  · cases us with
    | nil => exact .of_eq (h ws hl)
    | cons u r => exact absurd hl (by simp [kwG])
  · cases r1 with
    | nil => exact r2
    | cons _ _ => exact .nil
end KD
set_option Elab.async false
set_option linter.all false
set_option maxRecDepth 100000
set_option maxHeartbeats 4000000
namespace KD
open PySem PySem.Spec PyProof.Rows L2
/-! ### the law's own call: quiet around it -/
theorem callG {P : Program} {w : World} {K : PySem.W.Frag} {mg mb : Str → Option Value} {CX : CXT} {k : Nat} {fa a : Addr} {fd : FuncData} {x : Str}
    {sp : Sp} {s1 : Shared} {vs : List Value} {ns : List Int} (KX : K.In s1.heap) (hns : s1.heap.Ns mainGlobals mg) (hb : s1.heap.Ns builtinsNs mb)
    (hbb : ∀ x : Str, x ≠ "__name__" → mb x = bootBuiltins x) (hlim : s1.heap.NoLimit) (hg : s1.gens = #[])
    (ha : s1.heap.get? a = some { cls := .type "list", data := .seq vs.toArray }) (hi : IntsAre vs ns) (hl : ns.length ≤ sizeLine) (hr : Room k callerA)
    (F : ∀ base : Heap, K.In base → base.Ns mainGlobals mg → FnG P w K mg base CX k fa fd [x] sp)
    (hbind : ∀ (s : Shared) (u : Value), BindsTo s fd ⟨[u], []⟩ [(x, u)])
    (hsp : ∀ H : Hp, Only H → SqL K H a (ns.map V.int) → sp [.ref a] H (fun v _ => v = .bl true) fun _ _ _ => False)
    (hCX : ∀ H e s', CX [] H s1 (fun _ _ _ => False) e s' → False) :
    codeAny (model P w) callerA (.call (.ref fa) ⟨[.ref a], []⟩)
      (fun r s' => r = .ok (.ret (.bool true)) ∧ OldK s1.heap s'.heap ∧ s'.os = s1.os ∧ AllBare s'.gens) s1 := by
  have rv := vals_ints hi
  have lenV := hi.length
  have core : ∀ H : Hp, Only H → SqL K H a (ns.map V.int) → HOk P w H s1.heap → (∀ b, H b ≠ none → b = a) → (H a ≠ none → K.lookup a = none) →
      codeAny (model P w) callerA (.call (.ref fa) ⟨[.ref a], []⟩)
        (fun r s' => r = .ok (.ret (.bool true)) ∧ OldK s1.heap s'.heap ∧ s'.os = s1.os ∧ AllBare s'.gens) s1 := by
    intro H hO hS hok hA hK
    have some_a : ∀ {b : Addr} {u : HO}, H b = some u → b = a := fun {b u} q => hA b (by rw [q]; simp)
    have stays : ∀ {b : Addr} {m : Str → Option Value}, s1.heap.Ns b m → (hidT s1.heap H).Ns b m := by
      rintro b m ⟨o, es, ep, e, d, r⟩
      refine ⟨o, es, ep, hidT_get e ?_, d, r⟩
      cases q : H b with
      | none => rfl
      | some u =>
        have z := some_a q
        subst z
        rw [ha] at e; cases e
        cases (show Data.seq vs.toArray _ = Data.dict es ep from d)
    have inb : K.In (hidT s1.heap H) := by
      intro b o e
      refine hidT_get (KX b o e) ?_
      cases q : H b with
      | none => rfl
      | some u =>
        have z := some_a q
        subst z
        rw [hK (by rw [q]; simp)] at e; cases e
    have hM : Mod K mg (hidT s1.heap H) :=
      ⟨inb, stays hns, ⟨mb, stays hb, hbb⟩, let ⟨mc, h1, h2⟩ := hlim; ⟨mc, stays h1, h2⟩⟩
    have e0 : Env0 P w K mg (hidT s1.heap H) callerA [] s1 H :=
      ⟨rfl, hM, fun b o e => of_hidT e, Nat.le_of_eq (hidT_size _ _), trivial,
        fun b z => absurd (show b ∈ ([] : List Addr) from z) (by simp), hok, .of_eq hg⟩
    have run := (F _ inb (stays hns)).run callerA [] s1 H ⟨[.ref a], []⟩ [.ref a] [.ref a] _ _ hr rfl e0
      (hbind s1 (.ref a)) (.cons rfl .nil) (hsp H hO hS)
    refine codeAny_mono run fun r s' h => ?_
    match r, h with
    | .error e, h => exact (hCX H e s' h).elim
    | .ok .next, h => exact False.elim h
    | .ok .brk, h => exact False.elim h
    | .ok .cont, h => exact False.elim h
    | .ok (.ret u), ⟨v, H', os, bare, un, hok', r', q⟩ =>
      obtain rfl : v = .bl true := q
      obtain rfl : u = Value.bool true := r'
      have lasts : ∀ b o, s1.heap.get? b = some o → s'.heap.get? b = some o := fun b o at_b => by
        rcases hO b with free | ⟨ob, xs, held⟩
        · exact un.keep b o at_b free (fun z => nomatch (show b ∈ ([] : List Addr) from z)) (List.not_mem_nil)
        · have before := (hok b _ held).1
          rw [at_b] at before
          rw [Option.some.inj before]
          exact (hok' b _ (un.frzs b ob _ held)).1
      exact ⟨rfl, OldK.of_keep lasts, os, bare⟩
  cases hk : K.lookup a with
  | some o =>
    have e := KX a o hk
    rw [ha] at e
    cases e
    refine core (fun _ => none) (fun _ => .inl rfl) (.inr ⟨_, vs.toArray, _, hk, rfl, rfl, rfl, ?_, by simpa using rv⟩)
      (fun b u z => nomatch (show (none : Option HO) = some u from z)) (fun b z => absurd rfl z) fun z => absurd rfl z
    rw [List.size_toArray, lenV]; exact hl
  | none =>
    have at_a : ∀ {b : Addr} {u : HO}, (if b = a then some (HO.frz { cls := .type "list", data := .seq vs.toArray } (.lst (ns.map V.int))) else none) = some u →
        b = a ∧ u = HO.frz { cls := .type "list", data := .seq vs.toArray } (.lst (ns.map V.int)) := by
      intro b u z
      by_cases h : b = a
      · rw [if_pos h] at z; exact ⟨h, (Option.some.inj z).symm⟩
      · rw [if_neg h] at z; cases z
    refine core (fun b => if b = a then some (.frz { cls := .type "list", data := .seq vs.toArray } (.lst (ns.map V.int))) else none)
      (fun b => ?_) (.inl (.inr ⟨{ cls := .type "list", data := .seq vs.toArray }, if_pos rfl⟩)) (fun b u z => ?_) (fun b z => ?_) fun _ => hk
    · by_cases h : b = a
      · exact .inr ⟨_, _, if_pos h⟩
      · exact .inl (if_neg h)
    · obtain ⟨h, e⟩ := at_a z
      subst h e
      exact ⟨ha, by rw [List.length_map]; exact hl, vs, _, rv, ha⟩
    · by_cases h : b = a
      · exact h
      · exact absurd (if_neg h) z
theorem walkG {l : PySem.W.OpenLaw} {n k : Nat} {q : Program} {loose : List Str} {XP : (Str → Option Value) → Heap → Prop} {YP : World → Heap → Prop}
    {d : DefRec} {K : Params → PySem.W.Frag} {CX : World → CXT} {sp : World → Sp} {x : Str}
    (hn : l.most = some n) (hn2 : n ≤ sizeLine) (hdf : d.params.defaults = []) (hr : Room k callerA)
    (hY : ∀ (w : World) (h : Heap), YP w h → (K w.params).In h)
    (F : ∀ (w : World) (mg : Str → Option Value) (fa : Addr) (h : Heap), (K w.params).In h → h.Ns mainGlobals mg → mg d.name = some (.ref fa) →
      ∃ fd : FuncData, (∀ (s : Shared) (u : Value), BindsTo s fd ⟨[u], []⟩ [(x, u)]) ∧
        ∀ base : Heap, (K w.params).In base → base.Ns mainGlobals mg → FnG l.prog w (K w.params) mg base (CX w) k fa fd [x] (sp w))
    (hsp : ∀ (w : World) (H : Hp) (a : Addr) (ns : List Int), ns.length ≤ n → Only H → SqL (K w.params) H a (ns.map V.int) →
      sp w [.ref a] H (fun v _ => v = .bl true) fun _ _ _ => False)
    (hCX : ∀ (w : World) (H : Hp) (s : Shared) (e : Value) (s' : Shared), CX w [] H s (fun _ _ _ => False) e s' → False) :
    PySem.W.WalkO q loose XP YP l.row.toRowW d [] (fun f vs => PySem.call f vs) := by
  refine Att.attach_call hn hdf ?_
  intro w s0 s1 mg mb fa o pm cd doc a vs ns G Y ho hd hcd hmg hobj hints hlen hg
  have KX := hY w _ Y
  obtain ⟨fd, hb, hF⟩ := F w mg fa _ KX G.T.g hmg
  exact callG KX G.T.g G.T.b G.T.builtins G.T.nolimit hg hobj hints (Nat.le_trans hlen hn2) hr hF hb
    (fun H hO hS => hsp w H a ns hlen hO hS) fun H e s' => hCX w H s1 e s'
end KD
set_option Elab.async false
set_option linter.all false
set_option maxRecDepth 100000
set_option maxHeartbeats 4000000
namespace KD
open PySem PySem.Spec PyProof.Rows L2

/-! ### pure pieces: a frozen part G of the heap H bears the data; what is new is laid on both -/
abbrev Ex (H H' : Hp) : Prop := ∀ a o, H a = some o → H' a = some o
theorem Ex.rf (H : Hp) : Ex H H := fun _ _ h => h
theorem Ex.tr {H H1 H2 : Hp} (a : Ex H H1) (b : Ex H1 H2) : Ex H H2 := fun x o h => b x o (a x o h)
theorem Ex.fresh {G H : Hp} (e : Ex G H) {p : Addr} (h : H p = none) : G p = none := by
  cases q : G p with
  | none => rfl
  | some o => rw [e p o q] at h; cases h
theorem Ex.up {G : Hp} {p : Addr} {o : HO} (h : G p = none) : Ex G (upd G p o) := fun a u e => by
  rw [upd_ne (ne_of_none e h)]; exact e
theorem Ex.both {G H : Hp} (e : Ex G H) (p : Addr) (o : HO) : Ex (upd G p o) (upd H p o) := fun a u q => by
  by_cases h : a = p
  · subst h; rw [upd_same] at q ⊢; exact q
  · rw [upd_ne h] at q ⊢; exact e a u q
structure Up (G H G' H' : Hp) : Prop where
  g : Ex G G'
  h : Ex G' H'
  m : Ex H H'
  n : ∀ b, H b ≠ none → G b = none → G' b = none
theorem Up.rf {G H : Hp} (e : Ex G H) : Up G H G H := ⟨Ex.rf G, e, Ex.rf H, fun _ _ h => h⟩
theorem Up.tr {G H G1 H1 G2 H2 : Hp} (a : Up G H G1 H1) (b : Up G1 H1 G2 H2) : Up G H G2 H2 where
  g := a.g.tr b.g
  h := b.h
  m := a.m.tr b.m
  n := fun c h1 h2 => b.n c (fun z => by
    cases q : H c with
    | none => exact h1 q
    | some o => rw [a.m c o q] at z; cases z) (a.n c h1 h2)
theorem Up.new {G H : Hp} (e : Ex G H) {p : Addr} (hp : H p = none) (o : HO) : Up G H (upd G p o) (upd H p o) :=
  ⟨Ex.up (e.fresh hp), e.both p o, Ex.up hp, fun b h1 h2 => by rw [upd_ne (fun z => h1 (by rw [z]; exact hp))]; exact h2⟩

def EvE (K : PySem.W.Frag) (σ : L2.St) (F : Hp) (te : TE) (d : PyData) : Prop :=
  ∀ G H, Ex F G → Ex G H → ∀ Q : VK, (∀ v G' H', Up G H G' H' → Da K G' v d → Q v H') → te σ H Q
def EvA (K : PySem.W.Frag) (σ : L2.St) (F : Hp) (ta : TA) (ds : List PyData) : Prop :=
  ∀ G H, Ex F G → Ex G H → ∀ Q : List V → Hp → Prop, (∀ vs G' H', Up G H G' H' → DaAll K G' vs ds → Q vs H') → ta σ H Q
def EvT (σ : L2.St) (F : Hp) (tt : TT) (b : Bool) : Prop :=
  ∀ G H, Ex F G → Ex G H → ∀ Q : Bool → Hp → Prop, (∀ G' H', Up G H G' H' → Q b H') → tt σ H Q
def EvO (σ : L2.St) (F : Hp) (to : TO) (o : Option Int) : Prop :=
  ∀ G H, Ex F G → Ex G H → ∀ Q : Option Int → Hp → Prop, (∀ G' H', Up G H G' H' → Q o H') → to σ H Q
/-- an operation on values -/
def OpD (K : PySem.W.Frag) (r : R2) (x y z : PyData) : Prop :=
  ∀ (G H : Hp) (v u : V), Ex G H → Da K G v x → Da K G u y → ∀ Q : VK, (∀ w G' H', Up G H G' H' → Da K G' w z → Q w H') → r v u H Q
/-- a call on values -/
def CaD (K : PySem.W.Frag) (r : List V → Hp → VK → Prop) (xs : List PyData) (z : PyData) : Prop :=
  ∀ (G H : Hp) (vs : List V), Ex G H → DaAll K G vs xs → ∀ Q : VK, (∀ w G' H', Up G H G' H' → Da K G' w z → Q w H') → r vs H Q

section
variable {K : PySem.W.Frag} {σ : L2.St} {F F' : Hp} {ta tb tc te to : TE} {tt tu : TT} {x y z d : PyData} {r r' : R2} {v : V} {as : TA} {ds : List PyData}
theorem EvE.mono (e : Ex F F') (h : EvE K σ F te d) : EvE K σ F' te d := fun G H a b Q q => h G H (e.tr a) b Q q
theorem EvT.mono {b : Bool} (e : Ex F F') (h : EvT σ F tt b) : EvT σ F' tt b := fun G H a c Q q => h G H (e.tr a) c Q q
theorem EvA.mono (e : Ex F F') (h : EvA K σ F as ds) : EvA K σ F' as ds := fun G H a b Q q => h G H (e.tr a) b Q q
theorem EvE.is {d' : PyData} (h : EvE K σ F te d) (e : d = d') : EvE K σ F te d' := e ▸ h
theorem EvT.is {b b' : Bool} (h : EvT σ F tt b) (e : b = b') : EvT σ F tt b' := e ▸ h
theorem e_var {i : Nat} (h : σ[i]? = some (some v)) (hd : Da K F v d) : EvE K σ F (tVar i) d :=
  fun G H a b Q q => ⟨v, h, q v G H (Up.rf b) (hd.mono a)⟩
theorem e_int {i : Int} : EvE K σ F (tC (.int i)) (.int i) := fun G H _ b Q q => q _ G H (Up.rf b) (.int i)
theorem e_str {s : Str} : EvE K σ F (tC (.str s)) (.str s) := fun G H _ b Q q => q _ G H (Up.rf b) (.str s)
theorem e_bl {b : Bool} : EvE K σ F (tC (.bl b)) (.bool b) := fun G H _ e Q q => q _ G H (Up.rf e) (.bl b)
theorem e_non : EvE K σ F (tC .non) .none := fun G H _ b Q q => q _ G H (Up.rf b) .non
theorem e_op (ha : EvE K σ F ta x) (hb : EvE K σ F tb y) (ho : OpD K r x y z) : EvE K σ F (tOp r ta tb) z :=
  fun G H a b Q q => ha G H a b _ fun v G1 H1 u1 d1 => hb G1 H1 (a.tr u1.g) u1.h _ fun u G2 H2 u2 d2 =>
    ho G2 H2 v u u2.h (d1.mono u2.g) d2 Q fun w G3 H3 u3 d3 => q w G3 H3 ((u1.tr u2).tr u3) d3
theorem e_un {ru : V → Hp → VK → Prop} (ha : EvE K σ F ta x)
    (ho : ∀ (G H : Hp) (v : V), Ex G H → Da K G v x → ∀ Q : VK, (∀ w G' H', Up G H G' H' → Da K G' w z → Q w H') → ru v H Q) : EvE K σ F (tUn ru ta) z :=
  fun G H a b Q q => ha G H a b _ fun v G1 H1 u1 d1 => ho G1 H1 v u1.h d1 Q fun w G3 H3 u3 d3 => q w G3 H3 (u1.tr u3) d3
theorem a_nil : EvA K σ F tNil [] := fun G H _ b Q q => q [] G H (Up.rf b) .nil
theorem a_cons (h : EvE K σ F te d) (hr : EvA K σ F as ds) : EvA K σ F (tCons te as) (d :: ds) :=
  fun G H a b Q q => h G H a b _ fun v G1 H1 u1 d1 => hr G1 H1 (a.tr u1.g) u1.h _ fun vs G2 H2 u2 d2 =>
    q (v :: vs) G2 H2 (u1.tr u2) (.cons (d1.mono u2.g) d2)
theorem e_tup (h : EvA K σ F as ds) (hl : ds.length ≤ 100000) : EvE K σ F (tTup as) (.tuple ds) :=
  fun G H a b Q q => h G H a b _ fun vs G1 H1 u1 d1 => ⟨by rw [d1.length]; exact Nat.le_trans hl (by decide), fun p hp =>
    q _ _ _ (u1.tr (Up.new u1.h hp _)) (.tup upd_same (d1.mono (Ex.up (u1.h.fresh hp))))⟩
theorem e_lst (h : EvA K σ F as ds) (hl : ds.length ≤ 100000) : EvE K σ F (tLst as) (.list ds) :=
  fun G H a b Q q => h G H a b _ fun vs G1 H1 u1 d1 => ⟨by rw [d1.length]; exact Nat.le_trans hl (by decide), fun p hp =>
    q _ _ _ (u1.tr (Up.new u1.h hp _)) (.lst upd_same (d1.mono (Ex.up (u1.h.fresh hp))))⟩
theorem e_cb {rc : List V → Hp → VK → Prop} (h : EvA K σ F as ds) (hc : CaD K rc ds z) : EvE K σ F (tCB rc as) z :=
  fun G H a b Q q => h G H a b _ fun vs G1 H1 u1 d1 => hc G1 H1 vs u1.h d1 Q fun w G3 H3 u3 d3 => q w G3 H3 (u1.tr u3) d3
theorem e_and {a b : Bool} (h1 : EvE K σ F ta (.bool a)) (h2 : a = true → EvE K σ F tb (.bool b)) : EvE K σ F (tAndV ta tb) (.bool (a && b)) :=
  fun G H e1 e2 Q q => h1 G H e1 e2 _ fun v G1 H1 u1 d1 => by
    cases d1
    refine ⟨a, rfl, ?_⟩
    cases a with
    | true => exact iteT (h2 rfl G1 H1 (e1.tr u1.g) u1.h Q fun w G2 H2 u2 d2 => q w G2 H2 (u1.tr u2) d2)
    | false => exact iteF (q _ G1 H1 u1 (.bl false))
theorem e_or {a b : Bool} (h1 : EvE K σ F ta (.bool a)) (h2 : a = false → EvE K σ F tb (.bool b)) : EvE K σ F (tOrV ta tb) (.bool (a || b)) :=
  fun G H e1 e2 Q q => h1 G H e1 e2 _ fun v G1 H1 u1 d1 => by
    cases d1
    refine ⟨a, rfl, ?_⟩
    cases a with
    | true => exact iteT (q _ G1 H1 u1 (.bl true))
    | false => exact iteF (h2 rfl G1 H1 (e1.tr u1.g) u1.h Q fun w G2 H2 u2 d2 => q w G2 H2 (u1.tr u2) d2)
theorem e_not {a : Bool} (h1 : EvE K σ F ta (.bool a)) : EvE K σ F (tNotV ta) (.bool (!a)) :=
  fun G H e1 e2 Q q => h1 G H e1 e2 _ fun v G1 H1 u1 d1 => by
    cases d1
    exact ⟨a, rfl, q _ G1 H1 u1 (.bl _)⟩
theorem e_if {b : Bool} (h : EvT σ F tt b) (h1 : b = true → EvE K σ F ta x) (h2 : b = false → EvE K σ F tb y) : EvE K σ F (tIf tt ta tb) (bif b then x else y) :=
  fun G H e1 e2 Q q => h G H e1 e2 _ fun G1 H1 u1 => by
    cases b with
    | true => exact iteT (h1 rfl G1 H1 (e1.tr u1.g) u1.h Q fun w G2 H2 u2 d2 => q w G2 H2 (u1.tr u2) d2)
    | false => exact iteF (h2 rfl G1 H1 (e1.tr u1.g) u1.h Q fun w G2 H2 u2 d2 => q w G2 H2 (u1.tr u2) d2)
theorem e_chain {a b : Bool} (ha : EvE K σ F ta x) (hb : EvE K σ F tb y) (h1 : OpD K r x y (.bool a)) (hc : a = true → EvE K σ F tc z)
    (h2 : a = true → OpD K r' y z (.bool b)) : EvE K σ F (tChain r r' ta tb tc) (.bool (a && b)) :=
  fun G H e1 e2 Q q => ha G H e1 e2 _ fun v G1 H1 u1 d1 => hb G1 H1 (e1.tr u1.g) u1.h _ fun u G2 H2 u2 d2 =>
    h1 G2 H2 v u u2.h (d1.mono u2.g) d2 _ fun w G3 H3 u3 d3 => by
      cases d3
      refine ⟨a, rfl, ?_⟩
      cases a with
      | false => exact iteF (q _ G3 H3 ((u1.tr u2).tr u3) (.bl false))
      | true => exact iteT (hc rfl G3 H3 (((e1.tr u1.g).tr u2.g).tr u3.g) u3.h _ fun w' G4 H4 u4 d4 =>
          h2 rfl G4 H4 u w' u4.h ((d2.mono u3.g).mono u4.g) d4 Q fun w2 G5 H5 u5 d5 => q w2 G5 H5 ((((u1.tr u2).tr u3).tr u4).tr u5) d5)
/-! tests -/
theorem t_test {b : Bool} (h : EvE K σ F te (.bool b)) : EvT σ F (tTest te) b :=
  fun G H e1 e2 Q q => h G H e1 e2 _ fun v G1 H1 u1 d1 => by cases d1; exact ⟨b, rfl, q G1 H1 u1⟩
theorem t_val {b : Bool} (h : EvE K σ F te (.bool b)) : EvT σ F (tB te) b :=
  fun G H e1 e2 Q q => h G H e1 e2 _ fun v G1 H1 u1 d1 => by cases d1; exact ⟨b, rfl, q G1 H1 u1⟩
theorem t_not {b : Bool} (h : EvT σ F tt b) : EvT σ F (tNot tt) (!b) := fun G H e1 e2 Q q => h G H e1 e2 _ fun G1 H1 u1 => q G1 H1 u1
theorem t_and {a b : Bool} (h1 : EvT σ F tt a) (h2 : a = true → EvT σ F tu b) : EvT σ F (tAnd tt tu) (a && b) :=
  fun G H e1 e2 Q q => h1 G H e1 e2 _ fun G1 H1 u1 => by
    cases a with
    | true => exact iteT (h2 rfl G1 H1 (e1.tr u1.g) u1.h Q fun G2 H2 u2 => q G2 H2 (u1.tr u2))
    | false => exact iteF (q G1 H1 u1)
theorem t_or {a b : Bool} (h1 : EvT σ F tt a) (h2 : a = false → EvT σ F tu b) : EvT σ F (tOr tt tu) (a || b) :=
  fun G H e1 e2 Q q => h1 G H e1 e2 _ fun G1 H1 u1 => by
    cases a with
    | true => exact iteT (q G1 H1 u1)
    | false => exact iteF (h2 rfl G1 H1 (e1.tr u1.g) u1.h Q fun G2 H2 u2 => q G2 H2 (u1.tr u2))
theorem t_yes : EvT σ F tYes true := fun G H _ e2 Q q => q G H (Up.rf e2)

/-! operations on data -/
theorem o_I0 {g : Int → Int → V} {i j : Int} (hz : ∀ G, Da K G (g i j) z) : OpD K (rI0 g) (.int i) (.int j) z := fun G H v u e d1 d2 Q q => by
  cases d1; cases d2
  exact ⟨i, j, rfl, rfl, q _ G H (Up.rf e) (hz G)⟩
theorem o_I {C : Int → Int → Prop} {g : Int → Int → V} {i j : Int} (hc : C i j) (hz : ∀ G, Da K G (g i j) z) : OpD K (rI C g) (.int i) (.int j) z := fun G H v u e d1 d2 Q q => by
  cases d1; cases d2
  exact ⟨i, j, rfl, rfl, hc, q _ G H (Up.rf e) (hz G)⟩
theorem o_addS {a b : Str} (hz : a.length + b.length ≤ 1000000) :
    OpD K (fun x y H Q => ∃ i j, x = .str i ∧ y = .str j ∧ i.length + j.length ≤ sizeLine ∧ Q (.str (i ++ j)) H) (.str a) (.str b) (.str (a ++ b)) := fun G H v u e d1 d2 Q q => by
  cases d1; cases d2
  exact ⟨a, b, rfl, rfl, Nat.le_trans hz (by decide), q _ G H (Up.rf e) (.str _)⟩
theorem o_mulS {a : Str} {n : Int} (h : MulOk a n) : OpD K rMulS (.str a) (.int n) (.str (Txt.mul a n)) := fun G H v u e d1 d2 Q q => by
  cases d1; cases d2
  exact ⟨a, n, rfl, rfl, h, q _ G H (Up.rf e) (.str _)⟩
theorem o_cat {xs ys : List PyData} (hz : xs.length + ys.length ≤ 100000) : OpD K rCat (.list xs) (.list ys) (.list (xs ++ ys)) := fun G H v u e d1 d2 Q q => by
  cases d1 with
  | lst h1 a1 =>
    cases d2 with
    | lst h2 a2 =>
      refine ⟨_, _, _, _, rfl, rfl, e _ _ h1, e _ _ h2, ?_, fun p hp => ?_⟩
      · rw [a1.length, a2.length]; exact Nat.le_trans hz (by decide)
      · exact q _ _ _ (Up.new e hp _) (.lst upd_same ((a1.append a2).mono (Ex.up (e.fresh hp))))
theorem o_catT {xs ys : List PyData} (hz : xs.length + ys.length ≤ 100000) : OpD K (rCatA K) (.tuple xs) (.tuple ys) (.tuple (xs ++ ys)) := fun G H v u e d1 d2 Q q => by
  cases d1 with
  | tup h1 a1 =>
    cases d2 with
    | tup h2 a2 =>
      refine ⟨_, _, _, _, rfl, rfl, SqT.of (e _ _ h1), SqT.of (e _ _ h2), ?_, fun e0 => ?_, fun n0 e0 => ?_, fun n0 n1 p hp => ?_⟩
      · rw [a1.length, a2.length]; exact Nat.le_trans hz (by decide)
      · subst e0
        cases a1
        exact q _ G H (Up.rf e) (.tup h2 a2)
      · subst e0
        cases a2
        refine q _ G H (Up.rf e) (.tup h1 ?_)
        rw [List.append_nil]; exact a1
      · exact q _ _ _ (Up.new e hp _) (.tup upd_same ((a1.append a2).mono (Ex.up (e.fresh hp))))
theorem o_rep {xs : List PyData} {n : Nat} (hz : xs.length * n ≤ 100000) (hn : n ≤ 100000) :
    OpD K rRep (.list xs) (.int n) (.list (List.replicate n xs).flatten) := fun G H v u e d1 d2 Q q => by
  cases d1 with
  | lst h1 a1 =>
    cases d2
    refine ⟨_, _, _, rfl, rfl, e _ _ h1, by omega, by omega, ?_, ?_⟩
    · rw [a1.length]; exact Nat.le_trans (by simpa using hz) (by decide)
    · have rep : ∀ k, ∀ G : Hp, ∀ ws : List V, DaAll K G ws xs → DaAll K G (List.replicate k ws).flatten (List.replicate k xs).flatten := by
        intro k G ws h
        induction k with
        | zero => exact .nil
        | succ k ih =>
          rw [List.replicate_succ, List.replicate_succ, List.flatten_cons, List.flatten_cons]
          exact h.append ih
      intro p hp
      refine q _ _ _ (Up.new e hp _) (.lst upd_same ?_)
      exact (rep n G _ a1).mono (Ex.up (e.fresh hp))
theorem atI_map {α β : Type} {xs : List α} {ys : List β} (hl : xs.length = ys.length) {i : Int} {y : β} (h : atI ys i = some y) :
    ∃ k : Nat, ys[k]? = some y ∧ ∀ x, xs[k]? = some x → atI xs i = some x := by
  unfold atI at h ⊢
  rw [hl]
  cases q : ixN ys.length i with
  | none => rw [q] at h; cases h
  | some k => rw [q] at h; exact ⟨k, h, fun x hx => hx⟩
theorem o_ixL {xs : List PyData} {i : Int} (h : atI xs i = some z) : OpD K (rIxL K) (.list xs) (.int i) z := fun G H v u e d1 d2 Q q => by
  cases d1 with
  | lst h1 a1 =>
    cases d2
    obtain ⟨k, hk, hx⟩ := atI_map a1.length h
    obtain ⟨w, hw, dw⟩ := a1.at hk
    exact ⟨_, _, i, w, rfl, rfl, SqL.of (e _ _ h1), hx w hw, q w G H (Up.rf e) dw⟩
theorem o_ixT {xs : List PyData} {i : Int} (h : atI xs i = some z) : OpD K (rIxT K) (.tuple xs) (.int i) z := fun G H v u e d1 d2 Q q => by
  cases d1 with
  | tup h1 a1 =>
    cases d2
    obtain ⟨k, hk, hx⟩ := atI_map a1.length h
    obtain ⟨w, hw, dw⟩ := a1.at hk
    exact ⟨_, _, i, w, rfl, rfl, SqT.of (e _ _ h1), hx w hw, q w G H (Up.rf e) dw⟩
theorem o_ixS {a : Str} {i : Int} {c : Nat} (hl : a.length ≤ 1000000) (h : atI a.cps.toList i = some c) : OpD K rIxS (.str a) (.int i) (.str ⟨#[c]⟩) := fun G H v u e d1 d2 Q q => by
  cases d1; cases d2
  exact ⟨a, i, c, rfl, rfl, Nat.le_trans hl (by decide), h, q _ G H (Up.rf e) (.str _)⟩
def scalD : PyData → PyData → Bool
  | .none, .none | .none, .int _ | .int _, .none | .none, .bool _ | .bool _, .none | .none, .str _ | .str _, .none | .int _, .int _ | .bool _, .bool _ | .str _, .str _ => true
  | _, _ => false
def eqD : PyData → PyData → Bool
  | .none, .none => true
  | .int i, .int j => decide (i = j)
  | .bool a, .bool b => decide (a = b)
  | .str a, .str b => decide (a = b)
  | _, _ => false
theorem o_eq (h : scalD x y = true) : OpD K rEq x y (.bool (eqD x y)) := fun G H v u e d1 d2 Q q => by
  have := q (.bl (eqD x y)) G H (Up.rf e) (.bl _)
  cases d1 <;> cases d2 <;> first | (simp [scalD] at h; done) | (refine ⟨rfl, ?_⟩; simpa [eqD] using this)
theorem o_ne (h : scalD x y = true) : OpD K rNe x y (.bool (!eqD x y)) := fun G H v u e d1 d2 Q q => by
  have := q (.bl (!eqD x y)) G H (Up.rf e) (.bl _)
  cases d1 <;> cases d2 <;> first | (simp [scalD] at h; done) | (refine ⟨rfl, ?_⟩; simpa [eqD] using this)
theorem o_eqDa (h1 : cmpOk x y = true) : OpD K (rEqDa K) x y (.bool (PyData.eqv x y)) :=
  fun G H v u e d1 d2 Q q => ⟨x, y, d1.mono e, d2.mono e, h1, q _ G H (Up.rf e) (.bl _)⟩
theorem o_neDa (h1 : cmpOk x y = true) : OpD K (rNeDa K) x y (.bool (!PyData.eqv x y)) :=
  fun G H v u e d1 d2 Q q => ⟨x, y, d1.mono e, d2.mono e, h1, q _ G H (Up.rf e) (.bl _)⟩
theorem o_ltS {a b : Str} : OpD K (fun x y H Q => ∃ i j, x = .str i ∧ y = .str j ∧ Q (.bl (decide (i.cps.toList < j.cps.toList))) H) (.str a) (.str b) (.bool (decide (a.cps.toList < b.cps.toList))) :=
  fun G H v u e d1 d2 Q q => by cases d1; cases d2; exact ⟨a, b, rfl, rfl, q _ G H (Up.rf e) (.bl _)⟩
theorem o_inS {c : Nat} {b : Str} : OpD K (fun x y H Q => ∃ (c : Nat) (z : Str), x = .str ⟨#[c]⟩ ∧ y = .str z ∧ Q (.bl (decide (c ∈ z.cps.toList))) H) (.str ⟨#[c]⟩) (.str b) (.bool (decide (c ∈ b.cps.toList))) :=
  fun G H v u e d1 d2 Q q => by cases d1; cases d2; exact ⟨c, b, rfl, rfl, q _ G H (Up.rf e) (.bl _)⟩
/-! calls -/
theorem c_lenS {a : Str} (h : a.length ≤ 1000000) : CaD K (fun xs H Q => ∃ z, xs = [.str z] ∧ z.length ≤ sizeLine ∧ Q (.int z.length) H) [.str a] (.int a.length) :=
  fun G H vs e d Q q => by
    cases d with
    | cons d1 d2 => cases d1; cases d2; exact ⟨a, rfl, Nat.le_trans h (by decide), q _ G H (Up.rf e) (.int _)⟩
theorem c_lenL {xs : List PyData} : CaD K (fun ws H Q => ∃ p ys, ws = [.ref p] ∧ (SqL K H p ys ∨ SqT K H p ys) ∧ Q (.int ys.length) H) [.list xs] (.int xs.length) :=
  fun G H vs e d Q q => by
    cases d with
    | cons d1 d2 =>
      cases d2
      cases d1 with
      | lst h1 a1 => exact ⟨_, _, rfl, .inl (SqL.of (e _ _ h1)), by rw [a1.length]; exact q _ G H (Up.rf e) (.int _)⟩
theorem c_lenT {xs : List PyData} : CaD K (fun ws H Q => ∃ p ys, ws = [.ref p] ∧ (SqL K H p ys ∨ SqT K H p ys) ∧ Q (.int ys.length) H) [.tuple xs] (.int xs.length) :=
  fun G H vs e d Q q => by
    cases d with
    | cons d1 d2 =>
      cases d2
      cases d1 with
      | tup h1 a1 => exact ⟨_, _, rfl, .inr (SqT.of (e _ _ h1)), by rw [a1.length]; exact q _ G H (Up.rf e) (.int _)⟩
theorem c_repr (h : repOk x = true) : CaD K (rRepr K) [x] (.str x.shown) := fun G H vs e d Q q => by
  cases d with
  | cons d1 d2 => cases d2; exact ⟨_, x, rfl, d1.mono e, h, q _ G H (Up.rf e) (.str _)⟩
/-- a datum's class -/
def clsD : PyData → String
  | .none => "NoneType"
  | .bool _ => "bool"
  | .int _ => "int"
  | .str _ => "str"
  | .list _ => "list"
  | .tuple _ => "tuple"
  | .dict _ => "dict"
theorem tyX_of {G H : Hp} (e : Ex G H) {v : V} {d : PyData} (h : Da K G v d) : TyX K H v (.type (clsD d)) := by
  cases h with
  | non => exact .base .non
  | bl b => exact .base (.bl b)
  | int i => exact .base (.int i)
  | str a => exact .base (.str a)
  | lst h1 _ => exact .base (.lst (e _ _ h1))
  | tup h1 _ => exact .base (.tup (e _ _ h1))
  | dic h1 _ => exact .base (.dK (e _ _ h1))
/-- isinstance(x, T) -/
theorem e_isi {T : String} {b : Bool} (h : EvE K σ F ta x) (hk : kitB (clsD x) T = some b) : EvE K σ F (tCB (rIsi K) (tCons ta (tCons (tC (.ty T)) tNil))) (.bool b) :=
  fun G H e1 e2 Q q => h G H e1 e2 _ fun v G1 H1 u1 d1 => ⟨v, .ty T, .type (clsD x), .type T, b, rfl, .ty T, tyX_of u1.h d1, kit_ty hk, q _ G1 H1 u1 (.bl b)⟩
theorem c_all {bs : List Bool} : CaD K (rAll K) [.list (bs.map .bool)] (.bool (bs.all id)) := fun G H vs e d Q q => by
  cases d with
  | cons d1 d2 =>
    cases d2
    cases d1 with
    | lst h1 a1 =>
      have ev : ∀ (bs : List Bool) (xs : List V), DaAll K G xs (bs.map .bool) → xs = bs.map V.bl := by
        intro bs
        induction bs with
        | nil => intro xs h; cases h; rfl
        | cons b r ih =>
          intro xs h
          cases h with
          | cons h2 h3 => cases h2; rw [ih _ h3]; rfl
      rw [ev bs _ a1] at h1
      exact ⟨_, bs, rfl, SqL.of (e _ _ h1), q _ G H (Up.rf e) (.bl _)⟩
theorem c_any {bs : List Bool} : CaD K (rAny K) [.list (bs.map .bool)] (.bool (bs.any id)) := fun G H vs e d Q q => by
  cases d with
  | cons d1 d2 =>
    cases d2
    cases d1 with
    | lst h1 a1 =>
      have ev : ∀ (bs : List Bool) (xs : List V), DaAll K G xs (bs.map .bool) → xs = bs.map V.bl := by
        intro bs
        induction bs with
        | nil => intro xs h; cases h; rfl
        | cons b r ih =>
          intro xs h
          cases h with
          | cons h2 h3 => cases h2; rw [ih _ h3]; rfl
      rw [ev bs _ a1] at h1
      exact ⟨_, bs, rfl, SqL.of (e _ _ h1), q _ G H (Up.rf e) (.bl _)⟩
theorem c_listL {xs : List PyData} : CaD K (fun ws H Q => ∃ p ys, ws = [.ref p] ∧ (SqL K H p ys ∨ SqT K H p ys) ∧ ∀ l, H l = none → Q (.ref l) (upd H l (.lst ys))) [.list xs] (.list xs) := fun G H vs e d Q q => by
  cases d with
  | cons d1 d2 =>
    cases d2
    cases d1 with
    | lst h1 a1 => exact ⟨_, _, rfl, .inl (SqL.of (e _ _ h1)), fun l hl => q _ _ _ (Up.new e hl _) (.lst upd_same (a1.mono (Ex.up (e.fresh hl))))⟩
theorem c_listT {xs : List PyData} : CaD K (fun ws H Q => ∃ p ys, ws = [.ref p] ∧ (SqL K H p ys ∨ SqT K H p ys) ∧ ∀ l, H l = none → Q (.ref l) (upd H l (.lst ys))) [.tuple xs] (.list xs) := fun G H vs e d Q q => by
  cases d with
  | cons d1 d2 =>
    cases d2
    cases d1 with
    | tup h1 a1 => exact ⟨_, _, rfl, .inr (SqT.of (e _ _ h1)), fun l hl => q _ _ _ (Up.new e hl _) (.lst upd_same (a1.mono (Ex.up (e.fresh hl))))⟩
theorem c_tupL {xs : List PyData} : CaD K (fun ws H Q => ∃ p ys, ws = [.ref p] ∧ ((SqL K H p ys ∧ ∀ l, H l = none → Q (.ref l) (upd H l (.tup ys))) ∨ (SqT K H p ys ∧ Q (.ref p) H))) [.list xs] (.tuple xs) := fun G H vs e d Q q => by
  cases d with
  | cons d1 d2 =>
    cases d2
    cases d1 with
    | lst h1 a1 => exact ⟨_, _, rfl, .inl ⟨SqL.of (e _ _ h1), fun l hl => q _ _ _ (Up.new e hl _) (.tup upd_same (a1.mono (Ex.up (e.fresh hl))))⟩⟩
theorem c_tupT {xs : List PyData} : CaD K (fun ws H Q => ∃ p ys, ws = [.ref p] ∧ ((SqL K H p ys ∧ ∀ l, H l = none → Q (.ref l) (upd H l (.tup ys))) ∨ (SqT K H p ys ∧ Q (.ref p) H))) [.tuple xs] (.tuple xs) := fun G H vs e d Q q => by
  cases d with
  | cons d1 d2 =>
    cases d2
    cases d1 with
    | tup h1 a1 => exact ⟨_, _, rfl, .inr ⟨SqT.of (e _ _ h1), q _ G H (Up.rf e) (.tup h1 a1)⟩⟩
theorem c_strI {i : Int} (h : i.natAbs.log2 < 1920) : CaD K (fun xs H Q => ∃ i, xs = [.int i] ∧ i.natAbs.log2 < 1920 ∧ Q (.str (toString i)) H) [.int i] (.str (toString i)) := fun G H vs e d Q q => by
  cases d with
  | cons d1 d2 => cases d2; cases d1; exact ⟨i, rfl, h, q _ G H (Up.rf e) (.str _)⟩
/-! texts' methods -/
theorem e_m1 {rm : V → List V → Hp → VK → Prop} {a : Str} (h1 : EvE K σ F to (.str a)) (h2 : EvE K σ F te y)
    (hr : ∀ (G H : Hp) (u : V), Ex G H → Da K G u y → ∀ Q : VK, (∀ w G' H', Up G H G' H' → Da K G' w z → Q w H') → rm (.str a) [u] H Q) : EvE K σ F (tM1 rm to te) z :=
  fun G H e1 e2 Q q => h1 G H e1 e2 _ fun v G1 H1 u1 d1 => by
    cases d1
    exact ⟨⟨a, rfl⟩, h2 G1 H1 (e1.tr u1.g) u1.h _ fun u G2 H2 u2 d2 => hr G2 H2 u u2.h d2 Q fun w G3 H3 u3 d3 => q w G3 H3 ((u1.tr u2).tr u3) d3⟩
theorem e_m0 {rm : V → List V → Hp → VK → Prop} {a : Str} (h1 : EvE K σ F to (.str a))
    (hr : ∀ (G H : Hp), Ex G H → ∀ Q : VK, (∀ w G' H', Up G H G' H' → Da K G' w z → Q w H') → rm (.str a) [] H Q) : EvE K σ F (tM0 rm to) z :=
  fun G H e1 e2 Q q => h1 G H e1 e2 _ fun v G1 H1 u1 d1 => by
    cases d1
    exact ⟨⟨a, rfl⟩, hr G1 H1 u1.h Q fun w G3 H3 u3 d3 => q w G3 H3 (u1.tr u3) d3⟩
theorem e_find {a b : Str} (h1 : EvE K σ F to (.str a)) (h2 : EvE K σ F te (.str b)) :
    EvE K σ F (tM1 (fun x xs H Q => ∃ a b, x = .str a ∧ xs = [.str b] ∧ Q (.int (Txt.find a b)) H) to te) (.int (Txt.find a b)) :=
  e_m1 h1 h2 fun G H u e d Q q => by cases d; exact ⟨a, b, rfl, rfl, q _ G H (Up.rf e) (.int _)⟩
theorem e_upper {a : Str} (h1 : EvE K σ F to (.str a)) (hl : a.length ≤ 1000000) :
    EvE K σ F (tM0 (fun x xs H Q => ∃ a, x = .str a ∧ xs = [] ∧ a.length ≤ 5592405 ∧ Q (.str (Txt.upper a)) H) to) (.str (Txt.upper a)) :=
  e_m0 h1 fun G H e Q q => ⟨a, rfl, rfl, by omega, q _ G H (Up.rf e) (.str _)⟩
theorem daAll_strs {G : Hp} : ∀ ys : List Str, DaAll K G (ys.map V.str) (ys.map .str)
  | [] => .nil
  | y :: ys => .cons (.str y) (daAll_strs ys)
theorem e_split {a b : Str} (h1 : EvE K σ F to (.str a)) (h2 : EvE K σ F te (.str b)) (hb : (b.length == 0) = false) (ha : a.length ≤ 1000000) :
    EvE K σ F (tM1 (fun x xs H Q => ∃ a b, x = .str a ∧ xs = [.str b] ∧ (b.length == 0) = false ∧ a.length + 2 ≤ sizeLine ∧ rNewStrs (Txt.split a b) H Q) to te) (.list ((Txt.split a b).map .str)) :=
  e_m1 h1 h2 fun G H u e d Q q => by
    cases d
    exact ⟨a, b, rfl, rfl, hb, Nat.le_trans (Nat.add_le_add_right ha 2) (by decide), fun p hp => q _ _ _ (Up.new e hp _) (.lst upd_same (daAll_strs _))⟩
/-! slices -/
theorem oo_none : EvO σ F tNoPart none := fun G H _ e2 Q q => q G H (Up.rf e2)
theorem oo_some {i : Int} (h : EvE K σ F te (.int i)) : EvO σ F (tPart te) (some i) := fun G H e1 e2 Q q => h G H e1 e2 _ fun v G1 H1 u1 d1 => by
  cases d1; exact ⟨i, rfl, q G1 H1 u1⟩
def cutD (xs : List PyData) (lo hi : Option Int) : List PyData := (xs.drop (HT.sIx xs.length 0 lo)).take (HT.sIx xs.length xs.length hi - HT.sIx xs.length 0 lo)
theorem DaAll.cut {G : Hp} {vs : List V} {xs : List PyData} (h : DaAll K G vs xs) (lo hi : Option Int) : DaAll K G (cutV vs lo hi) (cutD xs lo hi) := by
  unfold cutV cutD
  rw [h.length]
  exact (h.drop _).take _
theorem e_slL {tl th : TO} {xs : List PyData} {lo hi : Option Int} (h : EvE K σ F te (.list xs)) (h1 : EvO σ F tl lo) (h2 : EvO σ F th hi) :
    EvE K σ F (tSl (rSlL K) te tl th) (.list (cutD xs lo hi)) := fun G H e1 e2 Q q => h G H e1 e2 _ fun v G1 H1 u1 d1 =>
  h1 G1 H1 (e1.tr u1.g) u1.h _ fun G2 H2 u2 => h2 G2 H2 ((e1.tr u1.g).tr u2.g) u2.h _ fun G3 H3 u3 => by
    cases d1 with
    | lst h1 a1 =>
      exact ⟨_, _, rfl, SqL.of (u3.h _ _ (u3.g _ _ (u2.g _ _ h1))), fun p hp =>
        q _ _ _ (((u1.tr u2).tr u3).tr (Up.new u3.h hp _)) (.lst upd_same ((((a1.cut lo hi).mono u2.g).mono u3.g).mono (Ex.up (u3.h.fresh hp))))⟩
theorem e_slT {tl th : TO} {xs : List PyData} {lo hi : Option Int} (h : EvE K σ F te (.tuple xs)) (h1 : EvO σ F tl lo) (h2 : EvO σ F th hi) :
    EvE K σ F (tSl (rSlA K) te tl th) (.tuple (cutD xs lo hi)) := fun G H e1 e2 Q q => h G H e1 e2 _ fun v G1 H1 u1 d1 =>
  h1 G1 H1 (e1.tr u1.g) u1.h _ fun G2 H2 u2 => h2 G2 H2 ((e1.tr u1.g).tr u2.g) u2.h _ fun G3 H3 u3 => by
    cases d1 with
    | tup h1 a1 =>
      refine ⟨_, _, rfl, SqT.of (u3.h _ _ (u3.g _ _ (u2.g _ _ h1))), fun hw => ?_, fun _ p hp => ?_⟩
      · refine q _ G3 H3 ((u1.tr u2).tr u3) (.tup (u3.g _ _ (u2.g _ _ h1)) ?_)
        have := ((a1.cut lo hi).mono u2.g).mono u3.g
        have e : cutD xs lo hi = xs := by
          unfold cutD
          rw [a1.length] at hw
          rw [hw.1, hw.2, List.drop_zero, Nat.sub_zero, List.take_length]
        rw [e]
        exact ((a1.mono u2.g)).mono u3.g
      · exact q _ _ _ (((u1.tr u2).tr u3).tr (Up.new u3.h hp _)) (.tup upd_same ((((a1.cut lo hi).mono u2.g).mono u3.g).mono (Ex.up (u3.h.fresh hp))))
theorem e_slS {tl th : TO} {a : Str} {lo hi : Option Int} (h : EvE K σ F te (.str a)) (h1 : EvO σ F tl lo) (h2 : EvO σ F th hi) (hl : a.length ≤ 1000000) :
    EvE K σ F (tSl rSlS te tl th) (.str (cutS a lo hi)) := fun G H e1 e2 Q q => h G H e1 e2 _ fun v G1 H1 u1 d1 =>
  h1 G1 H1 (e1.tr u1.g) u1.h _ fun G2 H2 u2 => h2 G2 H2 ((e1.tr u1.g).tr u2.g) u2.h _ fun G3 H3 u3 => by
    cases d1
    exact ⟨a, rfl, Nat.le_trans hl (by decide), q _ G3 H3 ((u1.tr u2).tr u3) (.str _)⟩
theorem e_revL {xs : List PyData} (h : EvE K σ F te (.list xs)) : EvE K σ F (tRevL K te) (.list xs.reverse) := fun G H e1 e2 Q q => h G H e1 e2 _ fun v G1 H1 u1 d1 => by
  cases d1 with
  | lst h1 a1 => exact ⟨_, _, rfl, SqL.of (u1.h _ _ h1), fun p hp => q _ _ _ (u1.tr (Up.new u1.h hp _)) (.lst upd_same (a1.rev.mono (Ex.up (u1.h.fresh hp))))⟩
theorem e_revT {xs : List PyData} (h : EvE K σ F te (.tuple xs)) : EvE K σ F (tRevT K te) (.tuple xs.reverse) := fun G H e1 e2 Q q => h G H e1 e2 _ fun v G1 H1 u1 d1 => by
  cases d1 with
  | tup h1 a1 => exact ⟨_, _, rfl, SqT.of (u1.h _ _ h1), fun p hp => q _ _ _ (u1.tr (Up.new u1.h hp _)) (.tup upd_same (a1.rev.mono (Ex.up (u1.h.fresh hp))))⟩
end
end KD
set_option Elab.async false
set_option linter.all false
set_option maxRecDepth 100000
set_option maxHeartbeats 4000000
namespace KD
open PySem PySem.Spec PyProof.Rows L2

/-! ### what is walked, as data -/
def Wk (K : PySem.W.Frag) (J : It) (G : Hp) (ds : List PyData) : Prop := ∀ (i : Nat) (G1 H1 : Hp), Ex G G1 → Ex G1 H1 →
  (∀ d, ds[i]? = some d → J.go i H1 ∧ ∀ x H', J.yld i H1 x H' → ∃ G', Up G1 H1 G' H' ∧ Da K G' x d) ∧ (i = ds.length → J.stop i H1)
def EvI (K : PySem.W.Frag) (σ : L2.St) (F : Hp) (wi : TI) (ds : List PyData) : Prop :=
  ∀ G H, Ex F G → Ex G H → ∀ R : It → Hp → Prop, (∀ J G' H', Up G H G' H' → Wk K J G' ds → R J H') → wi σ H R
section
variable {K : PySem.W.Frag} {σ : L2.St} {F F' : Hp} {ta tb tl te : TE} {ds es : List PyData} {as : TA} {d : PyData}
theorem EvI.is {wi : TI} {ds' : List PyData} (h : EvI K σ F wi ds) (e : ds = ds') : EvI K σ F wi ds' := e ▸ h
theorem i_list (h : EvE K σ F tl (.list ds)) : EvI K σ F (iList K tl) ds := fun G H e1 e2 R q => h G H e1 e2 _ fun v G1 H1 u1 d1 => by
  cases d1 with
  | @lst a xs _ h1 a1 =>
    refine ⟨a, rfl, ⟨xs, SqL.of (u1.h _ _ h1)⟩, q _ G1 H1 u1 fun i G2 H2 e3 e4 => ⟨fun d hd => ?_, fun hi => ?_⟩⟩
    · obtain ⟨x, hx, dx⟩ := a1.at hd
      have hs : SqL K H2 a xs := SqL.of (e4 _ _ (e3 _ _ h1))
      refine ⟨⟨xs, x, hs, hx⟩, ?_⟩
      rintro y H' ⟨rfl, hy⟩
      have e := hy xs hs
      rw [hx] at e; cases e
      exact ⟨G2, Up.rf e4, dx.mono e3⟩
    · have hi := Nat.le_of_eq hi.symm
      exact ⟨xs, SqL.of (e4 _ _ (e3 _ _ h1)), by rw [a1.length]; exact hi⟩
theorem i_tup (h : EvE K σ F tl (.tuple ds)) : EvI K σ F (iTup K tl) ds := fun G H e1 e2 R q => h G H e1 e2 _ fun v G1 H1 u1 d1 => by
  cases d1 with
  | @tup a xs _ h1 a1 =>
    refine ⟨a, rfl, ⟨xs, SqT.of (u1.h _ _ h1)⟩, q _ G1 H1 u1 fun i G2 H2 e3 e4 => ⟨fun d hd => ?_, fun hi => ?_⟩⟩
    · obtain ⟨x, hx, dx⟩ := a1.at hd
      have hs : SqT K H2 a xs := SqT.of (e4 _ _ (e3 _ _ h1))
      refine ⟨⟨xs, x, hs, hx⟩, ?_⟩
      rintro y H' ⟨rfl, hy⟩
      have e := hy xs hs
      rw [hx] at e; cases e
      exact ⟨G2, Up.rf e4, dx.mono e3⟩
    · have hi := Nat.le_of_eq hi.symm
      exact ⟨xs, SqT.of (e4 _ _ (e3 _ _ h1)), by rw [a1.length]; exact hi⟩
def sgns (z : Str) : List PyData := z.cps.toList.map fun c => .str ⟨#[c]⟩
theorem i_str {z : Str} (h : EvE K σ F tl (.str z)) : EvI K σ F (iStr tl) (sgns z) := fun G H e1 e2 R q => h G H e1 e2 _ fun v G1 H1 u1 d1 => by
  cases d1
  refine ⟨z, rfl, q _ G1 H1 u1 fun i G2 H2 e3 e4 => ⟨fun d hd => ?_, fun hi => ?_⟩⟩
  · unfold sgns at hd
    rw [List.getElem?_map] at hd
    obtain ⟨c, hc, rfl⟩ := Option.map_eq_some_iff.mp hd
    have hc' : z.cps[i]? = some c := by rw [← Array.getElem?_toList]; exact hc
    refine ⟨?_, ?_⟩
    · obtain ⟨hi, _⟩ := Array.getElem?_eq_some_iff.mp hc'
      exact hi
    · rintro y H' ⟨rfl, c', hy, rfl⟩
      rw [hc'] at hy; cases hy
      exact ⟨G2, Up.rf e4, .str _⟩
  · have hi := Nat.le_of_eq hi.symm
    show z.cps.size ≤ i
    simpa [sgns] using hi
def nums (lo : Int) (n : Nat) : List PyData := (List.range n).map fun i => .int (lo + (i : Nat))
theorem nums_get {lo : Int} {n i : Nat} {d : PyData} (h : (nums lo n)[i]? = some d) : i < n ∧ d = .int (lo + (i : Nat)) := by
  unfold nums at h
  rw [List.getElem?_map] at h
  obtain ⟨c, hc, rfl⟩ := Option.map_eq_some_iff.mp h
  obtain ⟨hi, e⟩ := List.getElem?_eq_some_iff.mp hc
  rw [List.getElem_range] at e
  subst e
  exact ⟨by simpa using hi, rfl⟩
theorem wk_range {lo : Int} {n : Nat} {G : Hp} : Wk K (Itr lo n) G (nums lo n) := fun i G2 H2 e3 e4 => ⟨fun d hd => by
    obtain ⟨hi, rfl⟩ := nums_get hd
    refine ⟨hi, ?_⟩
    rintro y H' ⟨rfl, rfl⟩
    exact ⟨G2, Up.rf e4, .int _⟩, fun hi => by
    have hi := Nat.le_of_eq hi.symm
    show n ≤ i
    simpa [nums] using hi⟩
theorem i_range1 {j : Int} (h : EvA K σ F as [.int j]) (h1 : -(2 ^ 62) ≤ j) (h2 : j < 2 ^ 62) : EvI K σ F (iRng1 as) (nums 0 j.toNat) := fun G H e1 e2 R q => h G H e1 e2 _ fun vs G1 H1 u1 d1 => by
  cases d1 with
  | cons da db => cases db; cases da; exact ⟨j, rfl, h1, h2, q _ G1 H1 u1 wk_range⟩
theorem i_range2 {i j : Int} (h : EvA K σ F as [.int i, .int j]) (h1 : -(2 ^ 62) ≤ i ∧ i < 2 ^ 62 ∧ -(2 ^ 62) ≤ j ∧ j < 2 ^ 62) : EvI K σ F (iRng2 as) (nums i (j - i).toNat) :=
  fun G H e1 e2 R q => h G H e1 e2 _ fun vs G1 H1 u1 d1 => by
    cases d1 with
    | cons da db => cases db with
      | cons db dc => cases dc; cases da; cases db; exact ⟨i, j, rfl, h1, q _ G1 H1 u1 wk_range⟩
def enumD (ds : List PyData) : List PyData := ds.zipIdx.map fun p => .tuple [.int (p.2 : Nat), p.1]
theorem enumD_get {i : Nat} {d : PyData} (h : (enumD ds)[i]? = some d) : ∃ x, ds[i]? = some x ∧ d = .tuple [.int (i : Nat), x] := by
  unfold enumD at h
  rw [List.getElem?_map, List.getElem?_zipIdx] at h
  obtain ⟨c, hc, rfl⟩ := Option.map_eq_some_iff.mp h
  obtain ⟨x, hx, rfl⟩ := Option.map_eq_some_iff.mp hc
  exact ⟨x, hx, by simp⟩
theorem enumD_length : (enumD ds).length = ds.length := by simp [enumD]
theorem i_enum (h : EvA K σ F as [.list ds]) : EvI K σ F (iEnum K as) (enumD ds) := fun G H e1 e2 R q => h G H e1 e2 _ fun vs G1 H1 u1 d1 => by
  cases d1 with
  | cons da db =>
    cases db
    cases da with
    | @lst a xs _ h1 a1 =>
      refine ⟨a, xs, rfl, SqL.of (u1.h _ _ h1), q _ G1 H1 u1 fun i G2 H2 e3 e4 => ⟨fun d hd => ?_, fun hi => ?_⟩⟩
      · obtain ⟨x0, h0, rfl⟩ := enumD_get hd
        obtain ⟨x, hx, dx⟩ := a1.at h0
        have hs : SqL K H2 a xs := SqL.of (e4 _ _ (e3 _ _ h1))
        refine ⟨⟨xs, x, hs, hx⟩, ?_⟩
        rintro y H' ⟨T, x', rfl, nT, rfl, hy⟩
        have e := hy xs hs
        rw [hx] at e; cases e
        exact ⟨_, Up.new e4 nT _, .tup upd_same (.cons (.int _) (.cons ((dx.mono e3).mono (Ex.up (e4.fresh nT))) .nil))⟩
      · have hi := Nat.le_of_eq hi.symm
        exact ⟨xs, SqL.of (e4 _ _ (e3 _ _ h1)), by rw [a1.length]; rw [enumD_length] at hi; exact hi⟩
def zipD (ds es : List PyData) : List PyData := (ds.zip es).map fun p => .tuple [p.1, p.2]
theorem zipD_get {i : Nat} {d : PyData} (h : (zipD ds es)[i]? = some d) : ∃ x y, ds[i]? = some x ∧ es[i]? = some y ∧ d = .tuple [x, y] := by
  unfold zipD at h
  rw [List.getElem?_map] at h
  obtain ⟨c, hc, rfl⟩ := Option.map_eq_some_iff.mp h
  obtain ⟨h1, h2⟩ := List.getElem?_zip_eq_some.mp hc
  exact ⟨c.1, c.2, h1, h2, rfl⟩
theorem i_zip (h : EvA K σ F as [.list ds, .list es]) : EvI K σ F (iZip K as) (zipD ds es) := fun G H e1 e2 R q => h G H e1 e2 _ fun vs G1 H1 u1 d1 => by
  cases d1 with
  | cons da db =>
    cases db with
    | cons db dc =>
      cases dc
      cases da with
      | @lst a xs _ h1 a1 =>
        cases db with
        | @lst b ys _ h2 a2 =>
          refine ⟨a, b, xs, ys, rfl, SqL.of (u1.h _ _ h1), SqL.of (u1.h _ _ h2), q _ G1 H1 u1 fun i G2 H2 e3 e4 => ⟨fun d hd => ?_, fun hi => ?_⟩⟩
          · obtain ⟨x0, y0, hx0, hy0, rfl⟩ := zipD_get hd
            obtain ⟨x, hx, dx⟩ := a1.at hx0
            obtain ⟨y, hy, dy⟩ := a2.at hy0
            have hs : SqL K H2 a xs := SqL.of (e4 _ _ (e3 _ _ h1))
            have ht : SqL K H2 b ys := SqL.of (e4 _ _ (e3 _ _ h2))
            refine ⟨⟨xs, ys, x, y, hs, ht, hx, hy⟩, ?_⟩
            rintro z H' ⟨T, x', y', rfl, nT, rfl, hx', hy'⟩
            have e := hx' xs hs
            rw [hx] at e; cases e
            have e := hy' ys ht
            rw [hy] at e; cases e
            exact ⟨_, Up.new e4 nT _, .tup upd_same (.cons ((dx.mono e3).mono (Ex.up (e4.fresh nT))) (.cons ((dy.mono e3).mono (Ex.up (e4.fresh nT))) .nil))⟩
          · have hi := Nat.le_of_eq hi.symm
            refine ⟨xs, ys, SqL.of (e4 _ _ (e3 _ _ h1)), SqL.of (e4 _ _ (e3 _ _ h2)), ?_⟩
            rw [a1.length, a2.length]
            simp [zipD] at hi
            omega
end

/-! ### targets -/
def Tg (K : PySem.W.Frag) (g : TG) (σ : L2.St) (d : PyData) (P : Hp → L2.St → Prop) : Prop :=
  ∀ (G H : Hp) (x : V), Ex G H → Da K G x d → ∀ Q : L2.St → Hp → Prop, (∀ σ', P G σ' → Q σ' H) → g x σ H Q
section
variable {K : PySem.W.Frag} {σ : L2.St} {F F' : Hp} {d d1 d2 d3 : PyData} {i j l : Nat}
theorem g_name : Tg K (gName i) σ d (fun G σ' => ∃ v, Da K G v d ∧ σ' = σ.set i (some v)) := fun G H x e h Q q => q _ ⟨x, h, rfl⟩
theorem g_tup2 : Tg K (gTup K 2 (gCons (gName i) (gCons (gName j) gNil))) σ (.tuple [d1, d2])
    (fun G σ' => ∃ v w, Da K G v d1 ∧ Da K G w d2 ∧ σ' = (σ.set i (some v)).set j (some w)) := fun G H x e h Q q => by
  cases h with
  | tup h1 a1 =>
    cases a1 with
    | cons da a2 => cases a2 with
      | cons db a3 => cases a3; exact ⟨_, _, rfl, SqT.of (e _ _ h1), rfl, _, _, rfl, _, _, rfl, rfl, q _ ⟨_, _, da, db, rfl⟩⟩
theorem g_tup12 : Tg K (gTup K 2 (gCons (gName i) (gCons (gTup K 2 (gCons (gName j) (gCons (gName l) gNil))) gNil))) σ (.tuple [d1, .tuple [d2, d3]])
    (fun G σ' => ∃ v w z, Da K G v d1 ∧ Da K G w d2 ∧ Da K G z d3 ∧ σ' = ((σ.set i (some v)).set j (some w)).set l (some z)) := fun G H x e h Q q => by
  cases h with
  | tup h1 a1 =>
    cases a1 with
    | cons da a2 => cases a2 with
      | cons db a3 =>
        cases a3
        cases db with
        | tup h2 b1 =>
          cases b1 with
          | cons db b2 => cases b2 with
            | cons dc b3 =>
              cases b3
              exact ⟨_, _, rfl, SqT.of (e _ _ h1), rfl, _, _, rfl, _, _, rfl, ⟨_, _, rfl, SqT.of (e _ _ h2), rfl, _, _, rfl, _, _, rfl, rfl, rfl, q _ ⟨_, _, _, da, db, dc, rfl⟩⟩⟩
end

/-! ### list comprehensions -/
section
variable {K : PySem.W.Frag} {σ : L2.St} {F : Hp}
theorem e_lc {wi : TI} {g : TG} {tt : TT} {te : TE} {vs : List Nat} {ds : List PyData} {p : PyData → Bool} {f : PyData → PyData} (hi : EvI K σ F wi ds) (hz : ds.length ≤ 100000)
    (ht : ∀ d ∈ ds, ∃ P, Tg K g (wipe σ vs) d P ∧ ∀ F' σ', Ex F F' → P F' σ' →
      wipe σ' vs = wipe σ vs ∧ EvT σ' F' tt (p d) ∧ (p d = true → EvE K σ' F' te (f d))) :
    EvE K σ F (tLc wi g tt te vs) (.list ((ds.filter p).map f)) := fun G H e1 e2 Q q => hi G H e1 e2 _ fun J G1 H1 u1 wk => by
  intro D hD
  refine ⟨fun i m H2 => m = ds.length - i ∧ i ≤ ds.length ∧ ∃ (G2 : Hp) (acc : List V), Ex G1 G2 ∧ Ex G2 H2 ∧ Ex H1 H2 ∧ (∀ b, H1 b ≠ none → G1 b = none → G2 b = none) ∧
      H2 D = some (.lst acc) ∧ G2 D = none ∧ DaAll K G2 acc (((ds.take i).filter p).map f),
    ⟨_, rfl, Nat.zero_le _, G1, [], Ex.rf _, u1.h.tr (Ex.up hD), Ex.up hD, fun _ _ h => h, upd_same, u1.h.fresh hD, .nil⟩, ?_⟩
  rintro i m H2 ⟨rfl, hi', G2, acc, eg, eh, em, en, hd, gd, ha⟩
  obtain ⟨w1, w2⟩ := wk i G2 H2 eg eh
  by_cases hlt : i < ds.length
  · obtain ⟨hgo, hy⟩ := w1 _ (List.getElem?_eq_getElem hlt)
    have hm : ds[i] ∈ ds := List.getElem_mem hlt
    have tk : (ds.take (i + 1)) = ds.take i ++ [ds[i]] := by rw [List.take_add_one, List.getElem?_eq_getElem hlt]; rfl
    refine .inr ⟨hgo, fun H3 => ∃ (G3 : Hp) (acc : List V), Ex G1 G3 ∧ Ex G3 H3 ∧ Ex H1 H3 ∧ (∀ b, H1 b ≠ none → G1 b = none → G3 b = none) ∧
      H3 D = some (.lst acc) ∧ G3 D = none ∧ DaAll K G3 acc (((ds.take (i + 1)).filter p).map f), ?_, ?_⟩
    · rintro H3 ⟨G3, acc3, r⟩
      exact ⟨ds.length - (i + 1), by omega, rfl, hlt, G3, acc3, r⟩
    · intro x H3 hyl
      obtain ⟨G3, u3, dx⟩ := hy x H3 hyl
      obtain ⟨P, tg, body⟩ := ht _ hm
      refine tg G3 H3 x u3.h dx _ fun σ' hP => ?_
      obtain ⟨hw, hT, hE⟩ := body G3 σ' ((e1.tr u1.g).tr (eg.tr u3.g)) hP
      refine ⟨hw, hT G3 H3 (Ex.rf _) u3.h _ fun G4 H4 u4 => ?_⟩
      have u34 := u3.tr u4
      have ne : H2 D ≠ none := by rw [hd]; simp
      by_cases hp : p ds[i] = true
      · rw [hp]
        refine iteT (hE hp G4 H4 u4.g u4.h _ fun y G5 H5 u5 dy => ?_)
        have u := u34.tr u5
        refine ⟨acc, u.m _ _ hd, ?_, G5, acc ++ [y], eg.tr u.g, ?_, ?_, fun b h1 h2 => u.n b (fun z => ?_) (en b h1 h2), upd_same, u.n D ne gd, ?_⟩
        · have := ha.length
          rw [List.length_map] at this
          have l2 : ((ds.take i).filter p).length ≤ ds.length := Nat.le_trans (List.length_filter_le _ _) (by rw [List.length_take]; omega)
          exact Nat.lt_of_le_of_lt (by omega : acc.length ≤ 100000) (by decide)
        · intro a o e
          rw [upd_ne (ne_of_none e (u.n D ne gd))]
          exact u.h a o e
        · intro a o e
          rw [upd_ne (ne_of_none e hD)]
          exact u.m a o (em a o e)
        · cases e : H1 b with
          | none => exact h1 e
          | some o => rw [em b o e] at z; cases z
        · rw [tk, List.filter_append, List.map_append]
          refine (ha.mono u.g).append ?_
          rw [List.filter_cons, if_pos hp]
          exact .cons dy .nil
      · have hp' : p ds[i] = false := by simpa using hp
        rw [hp']
        refine iteF ⟨G4, acc, eg.tr u34.g, u34.h, em.tr u34.m, fun b h1 h2 => u34.n b (fun z => ?_) (en b h1 h2), u34.m _ _ hd, u34.n D ne gd, ?_⟩
        · cases e : H1 b with
          | none => exact h1 e
          | some o => rw [em b o e] at z; cases z
        · rw [tk, List.filter_append, List.filter_cons, if_neg (by rw [hp']; simp), List.filter_nil, List.append_nil]
          exact ha.mono u34.g
  · have hle : ds.length ≤ i := by omega
    refine .inl ⟨w2 (by omega), q _ (upd G2 D (.lst acc)) H2 (u1.tr ⟨eg.tr (Ex.up gd), ?_, em, fun b h1 h2 => ?_⟩) (.lst upd_same ?_)⟩
    · intro a o e
      by_cases h : a = D
      · subst h; rw [upd_same] at e; rw [hd]; exact e
      · rw [upd_ne h] at e; exact eh a o e
    · rw [upd_ne (fun z => h1 (by rw [z]; exact hD))]; exact en b h1 h2
    · rw [List.take_of_length_le hle] at ha
      exact ha.mono (Ex.up gd)
end

/-! ### statements -/
def RetE (K : PySem.W.Frag) (σ : L2.St) (F : Hp) (t : TS) (d : PyData) : Prop :=
  ∀ G H, Ex F G → Ex G H → ∀ D : Ends, (∀ v G' H', Up G H G' H' → Da K G' v d → D.rt v H') → t D σ H
section
variable {K : PySem.W.Frag} {σ : L2.St} {F : Hp} {te : TE} {tt : TT} {t u : TS} {d x y d1 d2 d3 : PyData} {i j l : Nat} {as : TA}
theorem RetE.is {d' : PyData} (h : RetE K σ F t d) (e : d = d') : RetE K σ F t d' := e ▸ h
theorem r_ret (h : EvE K σ F te d) : RetE K σ F (tRet te) d := fun G H e1 e2 D q => h G H e1 e2 _ q
theorem r_if {b : Bool} (h : EvT σ F tt b) (h1 : b = true → RetE K σ F t x) (h2 : b = false → RetE K σ F u y) : RetE K σ F (tIfS tt t u) (bif b then x else y) :=
  fun G H e1 e2 D q => h G H e1 e2 _ fun G1 H1 u1 => by
    cases b with
    | true => exact iteT (h1 rfl G1 H1 (e1.tr u1.g) u1.h D fun w G2 H2 u2 d2 => q w G2 H2 (u1.tr u2) d2)
    | false => exact iteF (h2 rfl G1 H1 (e1.tr u1.g) u1.h D fun w G2 H2 u2 d2 => q w G2 H2 (u1.tr u2) d2)
/-- if c: return .. ahead of the rest -/
theorem r_guard {b : Bool} (h : EvT σ F tt b) (h1 : b = true → RetE K σ F t x) (h2 : b = false → RetE K σ F u y) : RetE K σ F (tSeq (tIfS tt t tNext) u) (bif b then x else y) :=
  fun G H e1 e2 D q => h G H e1 e2 _ fun G1 H1 u1 => by
    cases b with
    | true => exact iteT (h1 rfl G1 H1 (e1.tr u1.g) u1.h _ fun w G2 H2 u2 d2 => q w G2 H2 (u1.tr u2) d2)
    | false => exact iteF (h2 rfl G1 H1 (e1.tr u1.g) u1.h _ fun w G2 H2 u2 d2 => q w G2 H2 (u1.tr u2) d2)
theorem r_set (h : EvE K σ F te d) (hu : ∀ v F', Ex F F' → Da K F' v d → RetE K (σ.set i (some v)) F' u y) : RetE K σ F (tSeq (tAsg te (gName i)) u) y :=
  fun G H e1 e2 D q => h G H e1 e2 _ fun v G1 H1 u1 dv => hu v G1 (e1.tr u1.g) dv G1 H1 (Ex.rf _) u1.h _ fun w G2 H2 u2 d2 => q w G2 H2 (u1.tr u2) d2
theorem r_tup2 (h : EvE K σ F te (.tuple [d1, d2])) (hu : ∀ v w F', Ex F F' → Da K F' v d1 → Da K F' w d2 → RetE K ((σ.set i (some v)).set j (some w)) F' u y) :
    RetE K σ F (tSeq (tAsg te (gTup K 2 (gCons (gName i) (gCons (gName j) gNil)))) u) y :=
  fun G H e1 e2 D q => h G H e1 e2 _ fun v G1 H1 u1 dv => g_tup2 G1 H1 v u1.h dv _ fun σ' ⟨v, w, da, db, e⟩ => by
    subst e
    exact hu v w G1 (e1.tr u1.g) da db G1 H1 (Ex.rf _) u1.h _ fun w G2 H2 u2 d2 => q w G2 H2 (u1.tr u2) d2
theorem r_par (h : EvA K σ F as [d1, d2]) (hu : ∀ v w F', Ex F F' → Da K F' v d1 → Da K F' w d2 → RetE K ((σ.set i (some v)).set j (some w)) F' u y) :
    RetE K σ F (tSeq (tPar i j as) u) y :=
  fun G H e1 e2 D q => h G H e1 e2 _ fun vs G1 H1 u1 dv => by
    cases dv with
    | cons da dv => cases dv with
      | cons db dv =>
        cases dv
        exact ⟨_, _, rfl, hu _ _ G1 (e1.tr u1.g) da db G1 H1 (Ex.rf _) u1.h _ fun w G2 H2 u2 d2 => q w G2 H2 (u1.tr u2) d2⟩
end

/-! ### a pure def: the answer is fn of the arguments -/
def spP (K : PySem.W.Frag) (n : Nat) (pre : List PyData → Prop) (fn : List PyData → PyData) : Sp := fun vs H Q _ => vs.length = n ∧
  ∃ G ds, Ex G H ∧ DaAll K G vs ds ∧ pre ds ∧ ∀ v G' H', Up G H G' H' → Da K G' v (fn ds) → Q v H'
section
variable {P : Program} {w : World} {K : PySem.W.Frag} {mg : Str → Option Value} {base : Heap}
theorem okP {x qual : Str} {st : Stmt} {f : Addr} {fd : FuncData} {N ps : List Str} {k n : Nat} {pre : List PyData → Prop} {fn : List PyData → PyData}
    (F : Fun K x qual st f fd) (S : FnScope N ps (defScope st)) (hn : ps.length = n)
    (hbody : ∀ (cdv : Value) (A : Around) (out : List Env) (s : Shared) (H : Hp) (vs : List V) (E : XK) (G : Hp) (ds : List PyData),
      Room k (A.deeper (envOfC qual (defScope st) s.heap.objs.size f cdv)) →
      Quiet (A.deeper (envOfC qual (defScope st) s.heap.objs.size f cdv)) → vs.length = n → DaAll K G vs ds → pre ds →
      ∃ t, PSs (cxOf CX0 P w K mg base N qual (defScope st) f cdv A out s H E).nox (defBody st) t ∧ RetE K (start N vs) G t (fn ds)) :
    FnG P w K mg base CX0 (k + 1) f fd ps (spP K n pre fn) := by
  refine okG F S (fun vs H Q E h => h.1.trans hn.symm) fun cdv A out s H vs Q E hr hq h => ?_
  obtain ⟨hl, G, ds, eg, da, hp, q⟩ := h
  obtain ⟨t, ht, hR⟩ := hbody cdv A out s H vs E G ds hr hq hl da hp
  exact ⟨t, ht, hR G H (Ex.rf _) eg _ q⟩
variable {σ : L2.St} {F : Hp} {as : TA} {ds : List PyData} {n : Nat} {pre : List PyData → Prop} {fn : List PyData → PyData} {E : XK}
theorem e_call (h : EvA K σ F as ds) (hn : ds.length = n) (hp : pre ds) : EvE K σ F (tCall (spP K n pre fn) [] E as) (fn ds) :=
  fun G H e1 e2 Q q => h G H e1 e2 _ fun vs G1 H1 u1 d1 =>
    ⟨by rw [List.append_nil, d1.length]; exact hn, G1, ds, u1.h, by rw [List.append_nil]; exact d1, hp, fun v G2 H2 u2 d2 => q v G2 H2 (u1.tr u2) d2⟩
theorem e_kw (h : EvA K σ F as ds) (hn : ds.length = n) (hp : pre ds) : EvE K σ F (tCallK (spP K n pre fn) kwG E tNil as) (fn ds) :=
  fun G H e1 e2 Q q => h G H e1 e2 _ fun vs G1 H1 u1 d1 =>
    ⟨by show vs.length = n; rw [d1.length]; exact hn, G1, ds, u1.h, d1, hp, fun v G2 H2 u2 d2 => q v G2 H2 (u1.tr u2) d2⟩
end
end KD
set_option Elab.async false
set_option linter.all false
set_option maxRecDepth 100000
set_option maxHeartbeats 4000000
namespace KD
open PySem PySem.Spec PyProof.Rows L2
/-! ### isinstance of data -/
def isStrD : PyData → Bool | .str _ => true | _ => false
def isTupD : PyData → Bool | .tuple _ => true | _ => false
def isListD : PyData → Bool | .list _ => true | _ => false
def isDictD : PyData → Bool | .dict _ => true | _ => false
def isBoolD : PyData → Bool | .bool _ => true | _ => false
def isIntD : PyData → Bool | .int _ | .bool _ => true | _ => false
def isNumD : PyData → Bool | .int _ => true | _ => false
theorem k_str (d : PyData) : kitB (clsD d) "str" = some (isStrD d) := by
  cases d <;> simp only [clsD, isStrD, isTupD, isListD, isDictD, isBoolD, isIntD] <;> decide +kernel
theorem k_tuple (d : PyData) : kitB (clsD d) "tuple" = some (isTupD d) := by
  cases d <;> simp only [clsD, isStrD, isTupD, isListD, isDictD, isBoolD, isIntD] <;> decide +kernel
theorem k_list (d : PyData) : kitB (clsD d) "list" = some (isListD d) := by
  cases d <;> simp only [clsD, isStrD, isTupD, isListD, isDictD, isBoolD, isIntD] <;> decide +kernel
theorem k_dict (d : PyData) : kitB (clsD d) "dict" = some (isDictD d) := by
  cases d <;> simp only [clsD, isStrD, isTupD, isListD, isDictD, isBoolD, isIntD] <;> decide +kernel
theorem k_bool (d : PyData) : kitB (clsD d) "bool" = some (isBoolD d) := by
  cases d <;> simp only [clsD, isStrD, isTupD, isListD, isDictD, isBoolD, isIntD] <;> decide +kernel
theorem k_int (d : PyData) : kitB (clsD d) "int" = some (isIntD d) := by
  cases d <;> simp only [clsD, isStrD, isTupD, isListD, isDictD, isBoolD, isIntD] <;> decide +kernel
theorem of_isStr {d : PyData} (h : isStrD d = true) : ∃ s, d = .str s := by cases d <;> first | exact ⟨_, rfl⟩ | cases h
theorem of_isTup {d : PyData} (h : isTupD d = true) : ∃ s, d = .tuple s := by cases d <;> first | exact ⟨_, rfl⟩ | cases h
theorem of_isNum {d : PyData} (h : isNumD d = true) : ∃ s, d = .int s := by cases d <;> first | exact ⟨_, rfl⟩ | cases h
/-! ### sizes -/
mutual
def fit : PyData → Bool
  | .str x => decide (x.length ≤ 100000)
  | .list xs | .tuple xs => decide (xs.length ≤ 10000) && fitAll xs
  | _ => true
def fitAll : List PyData → Bool
  | [] => true
  | x :: xs => fit x && fitAll xs
end
theorem fit_of_mem : ∀ {xs : List PyData} {x : PyData}, fitAll xs = true → x ∈ xs → fit x = true
  | y :: ys, x, h, hm => by
    have hh := Bool.and_eq_true_iff.mp (show (fit y && fitAll ys) = true from h)
    rcases List.mem_cons.mp hm with rfl | hm
    · exact hh.1
    · exact fit_of_mem hh.2 hm
theorem fit_tuple {xs : List PyData} (h : fit (.tuple xs) = true) : xs.length ≤ 10000 ∧ fitAll xs = true := by
  have := Bool.and_eq_true_iff.mp (show (decide (xs.length ≤ 10000) && fitAll xs) = true from by simpa [fit] using h)
  exact ⟨of_decide_eq_true this.1, this.2⟩
theorem fit_str {s : Str} (h : fit (.str s) = true) : s.length ≤ 100000 := by simpa [fit] using h
/-! one item of each sign -/
theorem mem_sgns {z : Str} {d : PyData} (h : d ∈ sgns z) : ∃ c, c ∈ z.cps.toList ∧ d = .str ⟨#[c]⟩ := by
  unfold sgns at h
  obtain ⟨c, hc, rfl⟩ := List.mem_map.mp h
  exact ⟨c, hc, rfl⟩
theorem sgns_length {z : Str} : (sgns z).length = z.length := by
  unfold sgns
  rw [List.length_map, Array.length_toList]; rfl
/-- a wiped slot, stored and wiped -/
theorem wipe1 {σ : L2.St} {i : Nat} {v : Option V} : wipe ((wipe σ [i]).set i v) [i] = wipe σ [i] := by
  show ((σ.set i none).set i v).set i none = σ.set i none
  rw [List.set_set, List.set_set]
/-! ### what is known already -/
section
variable {K : PySem.W.Frag} {σ : L2.St} {F : Hp} {te ta tb : TE} {tt tu : TT} {t u : TS} {d x y : PyData}
theorem t_or1 (h : EvT σ F tt true) : EvT σ F (tOr tt tu) true := fun G H e1 e2 Q q => h G H e1 e2 _ fun G1 H1 u1 => iteT (q G1 H1 u1)
theorem t_or0 {b : Bool} (h : EvT σ F tt false) (h2 : EvT σ F tu b) : EvT σ F (tOr tt tu) b := (t_or h fun _ => h2).is (by simp)
theorem t_and0 (h : EvT σ F tt false) : EvT σ F (tAnd tt tu) false := fun G H e1 e2 Q q => h G H e1 e2 _ fun G1 H1 u1 => iteF (q G1 H1 u1)
theorem t_and1 {b : Bool} (h : EvT σ F tt true) (h2 : EvT σ F tu b) : EvT σ F (tAnd tt tu) b := (t_and h fun _ => h2).is (by simp)
theorem e_and0 (h : EvE K σ F ta (.bool false)) : EvE K σ F (tAndV ta tb) (.bool false) := (e_and (b := false) h fun z => nomatch z).is (by simp)
theorem e_and1 {b : Bool} (h : EvE K σ F ta (.bool true)) (h2 : EvE K σ F tb (.bool b)) : EvE K σ F (tAndV ta tb) (.bool b) := (e_and h fun _ => h2).is (by simp)
theorem r_guard1 (h : EvT σ F tt true) (h1 : RetE K σ F t x) : RetE K σ F (tSeq (tIfS tt t tNext) u) x := (r_guard (y := x) h (fun _ => h1) fun z => nomatch z).is rfl
theorem r_guard0 (h : EvT σ F tt false) (h1 : RetE K σ F u x) : RetE K σ F (tSeq (tIfS tt t tNext) u) x := (r_guard (x := x) h (fun z => nomatch z) fun _ => h1).is rfl
/-- [e for x in ..], x in slot i, e pure -/
theorem e_lc1 {wi : TI} {i : Nat} {ds : List PyData} {f : PyData → PyData} (hi : EvI K σ F wi ds) (hz : ds.length ≤ 100000)
    (ht : ∀ d ∈ ds, ∀ F' v, Ex F F' → Da K F' v d → EvE K ((wipe σ [i]).set i (some v)) F' te (f d)) :
    EvE K σ F (tLc wi (gName i) tYes te [i]) (.list (ds.map f)) :=
  (e_lc (p := fun _ => true) (f := f) hi hz fun d hd => ⟨_, g_name, fun F' σ' ef hP => by
    obtain ⟨v, dv, rfl⟩ := hP
    exact ⟨wipe1, t_yes, fun _ => ht d hd F' v ef dv⟩⟩).is (by rw [List.filter_eq_self.mpr (fun _ _ => rfl)])
/-- [e for x in .. if t] -/
theorem e_lc1f {wi : TI} {i : Nat} {ds : List PyData} {p : PyData → Bool} {f : PyData → PyData} (hi : EvI K σ F wi ds) (hz : ds.length ≤ 100000)
    (ht : ∀ d ∈ ds, ∀ F' v, Ex F F' → Da K F' v d → EvT ((wipe σ [i]).set i (some v)) F' tt (p d) ∧ (p d = true → EvE K ((wipe σ [i]).set i (some v)) F' te (f d))) :
    EvE K σ F (tLc wi (gName i) tt te [i]) (.list ((ds.filter p).map f)) :=
  e_lc hi hz fun d hd => ⟨_, g_name, fun F' σ' ef hP => by
    obtain ⟨v, dv, rfl⟩ := hP
    exact ⟨wipe1, ht d hd F' v ef dv⟩⟩
/-- all([b for x in ..]) -/
theorem e_all1 {wi : TI} {i : Nat} {ds : List PyData} {f : PyData → Bool} (hi : EvI K σ F wi ds) (hz : ds.length ≤ 100000)
    (ht : ∀ d ∈ ds, ∀ F' v, Ex F F' → Da K F' v d → EvE K ((wipe σ [i]).set i (some v)) F' te (.bool (f d))) :
    EvE K σ F (tCB (rAll K) (tCons (tLc wi (gName i) tYes te [i]) tNil)) (.bool (ds.all f)) := by
  have h := e_lc1 (f := fun d => .bool (f d)) hi hz ht
  have e : ds.map (fun d => PyData.bool (f d)) = (ds.map f).map .bool := by rw [List.map_map]; rfl
  rw [e] at h
  refine (e_cb (a_cons h a_nil) c_all).is ?_
  rw [List.all_map]; rfl
end
theorem eqv_nil {xs : List PyData} : PyData.eqv (.list xs) (.list []) = xs.isEmpty := by
  cases xs <;> rfl
theorem cmpOk_nil {xs : List PyData} : cmpOk (.list xs) (.list []) = true := by
  cases xs with
  | nil => rfl
  | cons x r => simp [cmpOk]
end KD
set_option Elab.async false
set_option linter.all false
set_option maxRecDepth 100000
set_option maxHeartbeats 4000000
namespace KD
open PySem PySem.Spec PyProof.Rows L2
/-! ### the rules that speak of the written part, by its name (so that they serve within a comprehension's block) -/
section
variable (K : PySem.W.Frag) {X : Cx}
theorem ix_listK (h : X.K = K := by rfl) : IxR X (rIxL K) := h ▸ ix_list
theorem ix_tupK (h : X.K = K := by rfl) : IxR X (rIxT K) := h ▸ ix_tup
theorem call_isiK' (h : X.K = K := by rfl) : CallR X (.builtin "isinstance") (rIsi K) := h ▸ call_isi
theorem cr_allK (hc : X.calm = true) (h : X.K = K := by rfl) : CallR X (.builtin "all") (rAll K) := h ▸ cr_all hc
theorem cr_anyK (hc : X.calm = true) (h : X.K = K := by rfl) : CallR X (.builtin "any") (rAny K) := h ▸ cr_any hc
theorem call_reprK (hq : Quiet X.A) (hu : X.A.units + 64 < cLine) (h : X.K = K := by rfl) : CallR X (.builtin "repr") (rRepr K) := h ▸ call_repr hq hu
theorem op_eqDaK (hu : X.A.units + 64 < cLine) (h : X.K = K := by rfl) : OpR X (compareOp .Eq) (rEqDa K) := h ▸ op_eqDa hu
theorem op_neDaK (hu : X.A.units + 64 < cLine) (h : X.K = K := by rfl) : OpR X (compareOp .NotEq) (rNeDa K) := h ▸ op_neDa hu
theorem sl_listK (h : X.K = K := by rfl) : SlR X (rSlL K) := h ▸ sl_list
theorem sl_tupAK (h : X.K = K := by rfl) : SlR X (rSlA K) := h ▸ sl_tupA
theorem op_catAK (h : X.K = K := by rfl) : OpR X (binaryOp .Add) (rCatA K) := h ▸ op_catA
theorem cr_sortedSK (h : X.K = K := by rfl) : CallR X (.builtin "sorted") (rSortedS K) := h ▸ cr_sortedS
def rLenQ : List V → Hp → VK → Prop := fun xs H Q => ∃ p ys, xs = [.ref p] ∧ (SqL K H p ys ∨ SqT K H p ys) ∧ Q (.int ys.length) H
def rListQ : List V → Hp → VK → Prop := fun xs H Q => ∃ p ys, xs = [.ref p] ∧ (SqL K H p ys ∨ SqT K H p ys) ∧ ∀ l, H l = none → Q (.ref l) (upd H l (.lst ys))
def rTupQ : List V → Hp → VK → Prop := fun xs H Q => ∃ p ys, xs = [.ref p] ∧ ((SqL K H p ys ∧ ∀ l, H l = none → Q (.ref l) (upd H l (.tup ys))) ∨ (SqT K H p ys ∧ Q (.ref p) H))
theorem call_lenK (h : X.K = K := by rfl) : CallR X (.builtin "len") (rLenQ K) := h ▸ call_len_seq
theorem call_listK (h : X.K = K := by rfl) : CallR X (.type "list") (rListQ K) := h ▸ call_list_of
theorem call_tupK (h : X.K = K := by rfl) : CallR X (.type "tuple") (rTupQ K) := h ▸ call_tuple_of
def rDictQ : List V → Hp → VK → Prop := fun xs H Q => ∃ (a : Addr) (ps : List Addr) (kvs : List (Key × V)), xs = [.ref a] ∧ SqL K H a (ps.map V.ref) ∧
  Paired (fun p kv => SqT K H p [kV kv.1, kv.2]) ps kvs ∧ ∀ p, H p = none → Q (.ref p) (upd H p (.dK (mergeK [] kvs)))
theorem call_dictK (hc : X.calm = true) (h : X.K = K := by rfl) : CallR X (.type "dict") (rDictQ K) := h ▸ call_dictP hc
theorem pe_revLK {e : Expr} {te : TE} {k : Nat} {p1 p2 p3 pos : Pos} (he : PE X e te) (h : X.K = K := by rfl) :
    PE X (.Subscript e (.Slice none none (some (.UnaryOp .USub (.Constant (.int 1) k p1) p2)) p3) pos) (tRevL K te) := h ▸ pe_revL he
theorem pe_revTK {e : Expr} {te : TE} {k : Nat} {p1 p2 p3 pos : Pos} (he : PE X e te) (h : X.K = K := by rfl) :
    PE X (.Subscript e (.Slice none none (some (.UnaryOp .USub (.Constant (.int 1) k p1) p2)) p3) pos) (tRevT K te) := h ▸ pe_revT he
theorem pi_listK {tg l : Expr} {tl : TE} (hl : PE X l tl) (h : X.K = K := by rfl) : PI X tg l (iList K tl) := h ▸ pi_list hl
theorem pi_tupK {tg l : Expr} {tl : TE} (hl : PE X l tl) (h : X.K = K := by rfl) : PI X tg l (iTup K tl) := h ▸ pi_tup hl
theorem pi_enumK {e : Expr} {ta : TA} {p pos tpos : Pos} {elts : List Expr} {kk : Nat} (hg : Gl X "enumerate") (hm : X.mg "enumerate" = none) (ha : PA X [e] ta)
    (h : X.K = K := by rfl) (hs : starEach [e] X.env = [(false, eval e X.env)] := by rfl) :
    PI X (.Tuple elts kk tpos) (.Call (.Name "enumerate" p) [e] [] pos) (iEnum K ta) := h ▸ pi_enum hg hm ha hs
theorem pi_zipK {e e2 : Expr} {ta : TA} {p pos tpos : Pos} {elts : List Expr} {kk : Nat} (hg : Gl X "zip") (hm : X.mg "zip" = none) (ha : PA X [e, e2] ta)
    (h : X.K = K := by rfl) (hs : starEach [e, e2] X.env = (false, eval e X.env) :: starEach [e2] X.env := by rfl)
    (hpl : (backTo pos (starEach [e2] X.env)).any (·.1) = false := by rfl) :
    PI X (.Tuple elts kk tpos) (.Call (.Name "zip" p) [e, e2] [] pos) (iZip K ta) := h ▸ pi_zip hg hm ha hs hpl
theorem pg_tupK {es : List Expr} {k : Nat} {pos : Pos} {n : Nat} {t : TGs} (hc : X.calm = true) (hs : PGs X es t) (h : X.K = K := by rfl)
    (hn : (assignEach es X.env).length = n := by rfl) (hst : (assignEach es X.env).findIdx? (·.1) = none := by rfl) :
    PG X (.Tuple es k pos) (gTup K n t) := h ▸ pg_tup hc hs hn hst
theorem pt_truthK {a : Expr} {ta : TE} (ha : PE X a ta) (he : ∀ whole, isTrue a X.env whole = (do let v ← whole; standAt a.pos; holding [v] (truthy v))) (h : X.K = K := by rfl) :
    PT X a (fun σ H Q => ta σ H fun x H' => ∃ k, TruV K x H' k ∧ Q k H') := h ▸ pt_truth ha he
end
section
variable {K : PySem.W.Frag}
theorem q_lenL {xs : List PyData} : CaD K (rLenQ K) [.list xs] (.int xs.length) := c_lenL
theorem q_lenT {xs : List PyData} : CaD K (rLenQ K) [.tuple xs] (.int xs.length) := c_lenT
theorem q_listL {xs : List PyData} : CaD K (rListQ K) [.list xs] (.list xs) := c_listL
theorem q_listT {xs : List PyData} : CaD K (rListQ K) [.tuple xs] (.list xs) := c_listT
theorem q_tupL {xs : List PyData} : CaD K (rTupQ K) [.list xs] (.tuple xs) := c_tupL
theorem q_tupT {xs : List PyData} : CaD K (rTupQ K) [.tuple xs] (.tuple xs) := c_tupT
end
end KD
set_option Elab.async false
set_option linter.all false
set_option maxRecDepth 100000
set_option maxHeartbeats 4000000
namespace KD
open PySem PySem.Spec PyProof.Rows L2
/-! ### the deck: the law's source of draws, a list that changes -/
structure Deck (G H : Hp) (dk cl : Addr) (m : Nat) : Prop where
  ne : dk ≠ cl
  gd : G dk = none
  gc : G cl = none
  ex : ∃ (cs : List Int) (t n : Int), H dk = some (.lst [.ref cl, .int t, .int n]) ∧ H cl = some (.lst (cs.map V.int)) ∧ cs.length ≤ 63 ∧
    0 ≤ n ∧ n ≤ m ∧ 0 ≤ t ∧ t < 4294967296
/-- what was tracked stays, but for the deck; what is new in G was not tracked -/
structure UpM (dk cl : Addr) (G H G' H' : Hp) : Prop where
  g : Ex G G'
  h : Ex G' H'
  m : ∀ b o, b ≠ dk → b ≠ cl → H b = some o → H' b = some o
  n : ∀ b, H b ≠ none → G b = none → G' b = none
  t : ∀ b, H b ≠ none → H' b ≠ none
section
variable {dk cl : Addr} {G H G1 H1 G2 H2 : Hp} {m k : Nat}
theorem UpM.tr (a : UpM dk cl G H G1 H1) (b : UpM dk cl G1 H1 G2 H2) : UpM dk cl G H G2 H2 where
  g := a.g.tr b.g
  h := b.h
  m := fun c o h1 h2 e => b.m c o h1 h2 (a.m c o h1 h2 e)
  n := fun c h1 h2 => b.n c (a.t c h1) (a.n c h1 h2)
  t := fun c h => b.t c (a.t c h)
theorem Up.toM (a : Up G H G1 H1) : UpM dk cl G H G1 H1 where
  g := a.g
  h := a.h
  m := fun c o _ _ e => a.m c o e
  n := a.n
  t := fun c h z => by
    cases q : H c with
    | none => exact h q
    | some o => rw [a.m c o q] at z; cases z
theorem UpM.rf (e : Ex G H) : UpM dk cl G H G H := (Up.rf e).toM
theorem Deck.dn (d : Deck G H dk cl m) : H dk ≠ none := by
  obtain ⟨_, _, _, e, _⟩ := d.ex
  rw [e]; simp
theorem Deck.cn (d : Deck G H dk cl m) : H cl ≠ none := by
  obtain ⟨_, _, _, _, e, _⟩ := d.ex
  rw [e]; simp
theorem Deck.up (d : Deck G H dk cl m) (u : Up G H G1 H1) : Deck G1 H1 dk cl m := by
  obtain ⟨cs, t, n, e1, e2, r⟩ := d.ex
  exact ⟨d.ne, u.n _ d.dn d.gd, u.n _ d.cn d.gc, cs, t, n, u.m _ _ e1, u.m _ _ e2, r⟩
theorem Deck.mono (d : Deck G H dk cl m) (h : m ≤ k) : Deck G H dk cl k := by
  obtain ⟨cs, t, n, e1, e2, h1, h2, h3, r⟩ := d.ex
  exact ⟨d.ne, d.gd, d.gc, cs, t, n, e1, e2, h1, h2, by omega, r⟩
end
/-- a list that is being made: at L, not yet in G -/
structure ListAt (K : PySem.W.Frag) (L : Addr) (ds : List PyData) (G H : Hp) : Prop where
  gl : G L = none
  ex : ∃ acc, H L = some (.lst acc) ∧ DaAll K G acc ds
section
variable {K : PySem.W.Frag} {L dk cl : Addr} {ds : List PyData} {G H G1 H1 : Hp}
theorem ListAt.ln (l : ListAt K L ds G H) : H L ≠ none := by
  obtain ⟨_, e, _⟩ := l.ex
  rw [e]; simp
theorem ListAt.up (l : ListAt K L ds G H) (u : Up G H G1 H1) : ListAt K L ds G1 H1 := by
  obtain ⟨acc, e, a⟩ := l.ex
  exact ⟨u.n _ l.ln l.gl, acc, u.m _ _ e, a.mono u.g⟩
theorem ListAt.upM (l : ListAt K L ds G H) (h1 : L ≠ dk) (h2 : L ≠ cl) (u : UpM dk cl G H G1 H1) : ListAt K L ds G1 H1 := by
  obtain ⟨acc, e, a⟩ := l.ex
  exact ⟨u.n _ l.ln l.gl, acc, u.m _ _ h1 h2 e, a.mono u.g⟩
/-- it is finished: it joins G -/
theorem ListAt.done (l : ListAt K L ds G H) (e : Ex G H) : ∃ G', Ex G G' ∧ Ex G' H ∧ Da K G' (.ref L) (.list ds) ∧ (∀ b, b ≠ L → G' b = G b) := by
  obtain ⟨acc, h, a⟩ := l.ex
  refine ⟨upd G L (.lst acc), Ex.up l.gl, fun b o q => ?_, .lst upd_same (a.mono (Ex.up l.gl)), fun b hb => upd_ne hb⟩
  by_cases hb : b = L
  · subst hb; rw [upd_same] at q; rw [h]; exact q
  · rw [upd_ne hb] at q; exact e b o q
end

/-! ### what draws -/
def spDraw : Sp := fun vs H Q _ => vs.length = 2 ∧ ∃ (dk cl : Addr) (lim : Int) (G : Hp) (m : Nat), vs = [.ref dk, .int lim] ∧ Ex G H ∧ Deck G H dk cl m ∧ m ≤ 1000000000 ∧ 0 < lim ∧ lim < 1000000000 ∧
  ∀ (i : Int) (H' : Hp), 0 ≤ i → i < lim → UpM dk cl G H G H' → Deck G H' dk cl (m + 1) → Q (.int i) H'
def spPick (K : PySem.W.Frag) : Sp := fun vs H Q _ => vs.length = 2 ∧ ∃ (dk cl a : Addr) (ds : List PyData) (G : Hp) (m : Nat), vs = [.ref dk, .ref a] ∧ Ex G H ∧ Deck G H dk cl m ∧ m ≤ 1000000000 ∧
  Da K G (.ref a) (.list ds) ∧ 0 < ds.length ∧ ds.length < 100000 ∧ ∀ (v : V) (d : PyData) (H' : Hp), d ∈ ds → Da K G v d → UpM dk cl G H G H' → Deck G H' dk cl (m + 1) → Q v H'
def EvN (K : PySem.W.Frag) (dk cl : Addr) (σ : L2.St) (F : Hp) (m : Nat) (te : TE) (m' : Nat) (P : PyData → Prop) : Prop :=
  ∀ G H, Ex F G → Ex G H → Deck G H dk cl m → ∀ Q : VK, (∀ v d G' H', UpM dk cl G H G' H' → Deck G' H' dk cl m' → P d → Da K G' v d → Q v H') → te σ H Q
def AvN (K : PySem.W.Frag) (dk cl : Addr) (σ : L2.St) (F : Hp) (m : Nat) (ta : TA) (m' : Nat) (P : List PyData → Prop) : Prop :=
  ∀ G H, Ex F G → Ex G H → Deck G H dk cl m → ∀ Q : List V → Hp → Prop, (∀ vs ds G' H', UpM dk cl G H G' H' → Deck G' H' dk cl m' → P ds → DaAll K G' vs ds → Q vs H') → ta σ H Q
section
variable {K : PySem.W.Frag} {dk cl : Addr} {σ : L2.St} {F : Hp} {m m1 m2 m' : Nat} {ta tb te : TE} {as : TA} {r : R2} {P P1 : PyData → Prop} {P2 : PyData → PyData → Prop} {PA : List PyData → Prop}
theorem n_pure {d : PyData} (h : EvE K σ F te d) : EvN K dk cl σ F m te m (fun x => x = d) := fun G H e1 e2 hD Q q =>
  h G H e1 e2 Q fun v G' H' u dv => q v d G' H' u.toM (hD.up u) rfl dv
theorem EvN.imp {P' : PyData → Prop} (h : EvN K dk cl σ F m te m' P) (hi : ∀ d, P d → P' d) : EvN K dk cl σ F m te m' P' := fun G H e1 e2 hD Q q =>
  h G H e1 e2 hD Q fun v d G' H' u hD' p dv => q v d G' H' u hD' (hi d p) dv
theorem n_draw {i0 : Nat} {E : XK} {lim : Int} (hs : σ[i0]? = some (some (.ref dk))) (hl : EvE K σ F te (.int lim)) (h0 : 0 < lim) (h1 : lim < 1000000000) (hm : m ≤ 1000000000) :
    EvN K dk cl σ F m (tCall spDraw [] E (tCons (tVar i0) (tCons te tNil))) (m + 1) (fun d => ∃ i, d = .int i ∧ 0 ≤ i ∧ i < lim) := fun G H e1 e2 hD Q q => by
  refine ⟨.ref dk, hs, hl G H e1 e2 _ fun v G1 H1 u1 d1 => ?_⟩
  cases d1
  refine ⟨rfl, dk, cl, lim, G1, m, rfl, u1.h, hD.up u1, hm, h0, h1, fun i H' hi0 hi1 u hD' => ?_⟩
  exact q _ _ _ _ (u1.toM.tr u) hD' ⟨i, rfl, hi0, hi1⟩ (.int i)
theorem n_pick {i0 : Nat} {E : XK} {ds : List PyData} (hs : σ[i0]? = some (some (.ref dk))) (hl : EvE K σ F te (.list ds)) (h0 : 0 < ds.length) (h1 : ds.length < 100000) (hm : m ≤ 1000000000) :
    EvN K dk cl σ F m (tCall (spPick K) [] E (tCons (tVar i0) (tCons te tNil))) (m + 1) (fun d => d ∈ ds) := fun G H e1 e2 hD Q q => by
  refine ⟨.ref dk, hs, hl G H e1 e2 _ fun v G1 H1 u1 d1 => ?_⟩
  obtain ⟨a, rfl⟩ : ∃ a, v = .ref a := by cases d1 with | lst h _ => exact ⟨_, rfl⟩
  refine ⟨rfl, dk, cl, a, ds, G1, m, rfl, u1.h, hD.up u1, hm, d1, h0, h1, fun v d H' hd dv u hD' => ?_⟩
  exact q _ _ _ _ (u1.toM.tr u) hD' hd dv
theorem n_op {f : PyData → PyData → PyData} (ha : EvN K dk cl σ F m ta m1 P1) (hb : ∀ x, P1 x → EvN K dk cl σ F m1 tb m2 (P2 x)) (ho : ∀ x y, P1 x → P2 x y → OpD K r x y (f x y)) :
    EvN K dk cl σ F m (tOp r ta tb) m2 (fun z => ∃ x y, P1 x ∧ P2 x y ∧ z = f x y) := fun G H e1 e2 hD Q q =>
  ha G H e1 e2 hD _ fun v x G1 H1 u1 hD1 p1 d1 => hb x p1 G1 H1 (e1.tr u1.g) u1.h hD1 _ fun w y G2 H2 u2 hD2 p2 d2 =>
    ho x y p1 p2 G2 H2 v w u2.h (d1.mono u2.g) d2 Q fun z G3 H3 u3 d3 => q z _ G3 H3 ((u1.tr u2).tr u3.toM) (hD2.up u3) ⟨x, y, p1, p2, rfl⟩ d3
theorem an_nil : AvN K dk cl σ F m tNil m (fun ds => ds = []) := fun G H e1 e2 hD Q q => q [] [] G H (UpM.rf e2) hD rfl .nil
theorem an_cons {PA : PyData → List PyData → Prop} (h : EvN K dk cl σ F m te m1 P1) (hr : ∀ x, P1 x → AvN K dk cl σ F m1 as m2 (PA x)) :
    AvN K dk cl σ F m (tCons te as) m2 (fun ds => ∃ x r, P1 x ∧ PA x r ∧ ds = x :: r) := fun G H e1 e2 hD Q q =>
  h G H e1 e2 hD _ fun v x G1 H1 u1 hD1 p1 d1 => hr x p1 G1 H1 (e1.tr u1.g) u1.h hD1 _ fun vs xs G2 H2 u2 hD2 p2 d2 =>
    q (v :: vs) (x :: xs) G2 H2 (u1.tr u2) hD2 ⟨x, xs, p1, p2, rfl⟩ (.cons (d1.mono u2.g) d2)
theorem an_pure {ds : List PyData} (h : EvA K σ F as ds) : AvN K dk cl σ F m as m (fun x => x = ds) := fun G H e1 e2 hD Q q =>
  h G H e1 e2 Q fun v G' H' u dv => q v ds G' H' u.toM (hD.up u) rfl dv
theorem AvN.imp {P' : List PyData → Prop} (h : AvN K dk cl σ F m as m' PA) (hi : ∀ d, PA d → P' d) : AvN K dk cl σ F m as m' P' := fun G H e1 e2 hD Q q =>
  h G H e1 e2 hD Q fun v d G' H' u hD' p dv => q v d G' H' u hD' (hi d p) dv
theorem n_tup (h : AvN K dk cl σ F m as m' PA) (hl : ∀ ds, PA ds → ds.length ≤ 100000) : EvN K dk cl σ F m (tTup as) m' (fun d => ∃ ds, PA ds ∧ d = .tuple ds) := fun G H e1 e2 hD Q q =>
  h G H e1 e2 hD _ fun vs ds G1 H1 u1 hD1 p d1 => ⟨by rw [d1.length]; exact Nat.le_trans (hl ds p) (by decide), fun a ha =>
    q _ _ _ _ (u1.tr (Up.new u1.h ha _).toM) (hD1.up (Up.new u1.h ha _)) ⟨ds, p, rfl⟩ (.tup upd_same (d1.mono (Ex.up (u1.h.fresh ha))))⟩
theorem n_lst (h : AvN K dk cl σ F m as m' PA) (hl : ∀ ds, PA ds → ds.length ≤ 100000) : EvN K dk cl σ F m (tLst as) m' (fun d => ∃ ds, PA ds ∧ d = .list ds) := fun G H e1 e2 hD Q q =>
  h G H e1 e2 hD _ fun vs ds G1 H1 u1 hD1 p d1 => ⟨by rw [d1.length]; exact Nat.le_trans (hl ds p) (by decide), fun a ha =>
    q _ _ _ _ (u1.tr (Up.new u1.h ha _).toM) (hD1.up (Up.new u1.h ha _)) ⟨ds, p, rfl⟩ (.lst upd_same (d1.mono (Ex.up (u1.h.fresh ha))))⟩
theorem n_cb {rc : List V → Hp → VK → Prop} {f : List PyData → PyData} (h : AvN K dk cl σ F m as m' PA) (hc : ∀ ds, PA ds → CaD K rc ds (f ds)) :
    EvN K dk cl σ F m (tCB rc as) m' (fun d => ∃ ds, PA ds ∧ d = f ds) := fun G H e1 e2 hD Q q =>
  h G H e1 e2 hD _ fun vs ds G1 H1 u1 hD1 p d1 => hc ds p G1 H1 vs u1.h d1 Q fun w G3 H3 u3 d3 => q w _ G3 H3 (u1.tr u3.toM) (hD1.up u3) ⟨ds, p, rfl⟩ d3
/-- a pure def with drawn arguments -/
theorem n_call {n : Nat} {pre : List PyData → Prop} {fn : List PyData → PyData} {E : XK} (h : AvN K dk cl σ F m as m' PA) (hn : ∀ ds, PA ds → ds.length = n) (hp : ∀ ds, PA ds → pre ds) :
    EvN K dk cl σ F m (tCall (spP K n pre fn) [] E as) m' (fun d => ∃ ds, PA ds ∧ d = fn ds) := fun G H e1 e2 hD Q q =>
  h G H e1 e2 hD _ fun vs ds G1 H1 u1 hD1 p d1 =>
    ⟨by rw [List.append_nil, d1.length]; exact hn ds p, G1, ds, u1.h, by rw [List.append_nil]; exact d1, hp ds p, fun v G2 H2 u2 d2 => q v _ _ _ (u1.tr u2.toM) (hD1.up u2) ⟨ds, p, rfl⟩ d2⟩
/-- [e for x in ..], e draws c times at most -/
theorem n_lc1 {wi : TI} {i c : Nat} {ds : List PyData} {P : PyData → PyData → Prop} (hi : EvI K σ F wi ds) (hz : ds.length ≤ 100000)
    (ht : ∀ (k : Nat) (d : PyData), ds[k]? = some d → ∀ F' v, Ex F F' → Da K F' v d → EvN K dk cl ((wipe σ [i]).set i (some v)) F' (m + c * k) te (m + c * k + c) (P d)) :
    EvN K dk cl σ F m (tLc wi (gName i) tYes te [i]) (m + c * ds.length) (fun x => ∃ rs : List PyData, x = .list rs ∧ rs.length = ds.length ∧ ∀ (k : Nat) (d r : PyData), ds[k]? = some d → rs[k]? = some r → P d r) := fun G H e1 e2 hD Q q =>
  hi G H e1 e2 _ fun J G1 H1 u1 wk => by
  intro D hD0
  have hDk := hD.up u1
  have nd : D ≠ dk := fun z => hDk.dn (by rw [← z]; exact hD0)
  have nc : D ≠ cl := fun z => hDk.cn (by rw [← z]; exact hD0)
  refine ⟨fun k μ H2 => μ = ds.length - k ∧ k ≤ ds.length ∧ ∃ (G2 : Hp) (rs : List PyData), UpM dk cl G1 H1 G2 H2 ∧ Deck G2 H2 dk cl (m + c * k) ∧ ListAt K D rs G2 H2 ∧ rs.length = k ∧
      ∀ (j : Nat) (d r : PyData), ds[j]? = some d → rs[j]? = some r → P d r, ⟨_, rfl, Nat.zero_le _, G1, [], ?_, ?_, ?_, rfl, ?_⟩, ?_⟩
  · exact ⟨Ex.rf _, u1.h.tr (Ex.up hD0), fun b o _ _ e => Ex.up hD0 b o e, fun _ _ h => h, fun b h => by
      rw [upd_ne (fun z => h (by rw [z]; exact hD0))]; exact h⟩
  · have := hDk
    obtain ⟨cs, t, n, a1, a2, a3⟩ := this.ex
    exact ⟨this.ne, this.gd, this.gc, cs, t, n, by rw [upd_ne (ne_of_none a1 hD0)]; exact a1, by rw [upd_ne (ne_of_none a2 hD0)]; exact a2, by simpa using a3⟩
  · exact ⟨u1.h.fresh hD0, [], upd_same, .nil⟩
  · intro j d r _ hr; simp at hr
  rintro k μ H2 ⟨rfl, hk, G2, rs, u2, hD2, hL, hlen, hP⟩
  obtain ⟨w1, w2⟩ := wk k G2 H2 u2.g u2.h
  by_cases hlt : k < ds.length
  · obtain ⟨hgo, hy⟩ := w1 _ (List.getElem?_eq_getElem hlt)
    refine .inr ⟨hgo, fun H3 => ∃ (G3 : Hp) (rs : List PyData), UpM dk cl G1 H1 G3 H3 ∧ Deck G3 H3 dk cl (m + c * (k + 1)) ∧ ListAt K D rs G3 H3 ∧ rs.length = k + 1 ∧
      ∀ (j : Nat) (d r : PyData), ds[j]? = some d → rs[j]? = some r → P d r, ?_, ?_⟩
    · rintro H3 ⟨G3, rs3, r⟩
      exact ⟨ds.length - (k + 1), by omega, rfl, hlt, G3, rs3, r⟩
    · intro x H3 hyl
      obtain ⟨G3, u3, dx⟩ := hy x H3 hyl
      refine ⟨wipe1, ?_⟩
      unfold tYes
      dsimp only
      rw [if_pos rfl]
      refine ht k _ (List.getElem?_eq_getElem hlt) G3 x ((e1.tr u1.g).tr (u2.g.tr u3.g)) dx G3 H3 (Ex.rf _) u3.h (hD2.up u3) _ fun y dy G4 H4 u4 hD4 py dvy => ?_
      have hL4 := (hL.up u3).upM nd nc u4
      obtain ⟨acc, ea, ha⟩ := hL4.ex
      have gl := hL4.gl
      have up4 := (u2.tr u3.toM).tr u4
      refine ⟨acc, ea, ?_, G4, rs ++ [dy], ⟨up4.g, fun a o e => ?_, fun b o hb1 hb2 e => ?_, up4.n, fun b hb => ?_⟩, ?_, ⟨gl, acc ++ [y], upd_same, ha.append (.cons dvy .nil)⟩, by simp [hlen], ?_⟩
      · have := ha.length
        exact Nat.lt_of_le_of_lt (by omega : acc.length ≤ 100000) (by decide)
      · rw [upd_ne (ne_of_none e gl)]; exact up4.h a o e
      · have hbD : b ≠ D := fun z => by rw [z, hD0] at e; cases e
        rw [upd_ne hbD]; exact up4.m b o hb1 hb2 e
      · by_cases hbD : b = D
        · subst hbD; rw [upd_same]; simp
        · rw [upd_ne hbD]; exact up4.t b hb
      · obtain ⟨cs, t, n, a1, a2, a3⟩ := hD4.ex
        exact ⟨hD4.ne, hD4.gd, hD4.gc, cs, t, n, by rw [upd_ne nd.symm]; exact a1, by rw [upd_ne nc.symm]; exact a2, by
          rw [Nat.mul_add, Nat.mul_one, ← Nat.add_assoc]; exact a3⟩
      · intro j d r hd hr
        by_cases hj : j < k
        · exact hP j d r hd (by rw [List.getElem?_append_left (by omega)] at hr; exact hr)
        · have hjk : j = k := by
            have := (List.getElem?_eq_some_iff.mp hr).1
            simp [hlen] at this
            omega
          subst hjk
          rw [List.getElem?_append_right (by omega), hlen] at hr
          simp at hr
          subst hr
          rw [List.getElem?_eq_getElem hlt] at hd; cases hd
          exact py
  · have hle : ds.length ≤ k := by omega
    have hkk : k = ds.length := by omega
    obtain ⟨G3, g1, g2, g3, g4⟩ := hL.done u2.h
    refine .inl ⟨w2 (by omega), q _ (.list rs) G3 H2 (u1.toM.tr ⟨u2.g.tr g1, g2, u2.m, fun b h1 h2 => ?_, u2.t⟩) ?_ ⟨rs, rfl, by omega, hP⟩ g3⟩
    · have hbD : b ≠ D := fun z => h1 (by rw [z]; exact hD0)
      rw [g4 b hbD]
      exact u2.n b h1 h2
    · obtain ⟨cs, t, n, a1, a2, a3⟩ := hD2.ex
      exact ⟨hD2.ne, by rw [g4 _ nd.symm]; exact hD2.gd, by rw [g4 _ nc.symm]; exact hD2.gc, cs, t, n, a1, a2, by rw [← hkk]; exact a3⟩
end
end KD
set_option Elab.async false
set_option linter.all false
set_option maxRecDepth 100000
set_option maxHeartbeats 4000000
namespace KD
open PySem PySem.Spec PyProof.Rows L2
/-! ### the deck's own defs, whatever their written numbers are -/
abbrev oAdd : TE → TE → TE := tOp (rI0 fun i j => .int (i + j))
abbrev oMul : TE → TE → TE := tOp (rI CMul fun i j => .int (i * j))
abbrev oMod : TE → TE → TE := tOp (rI (fun _ j => 0 < j) fun i j => .int (i % j))
abbrev oDiv : TE → TE → TE := tOp (rI CDiv fun i j => .int (i / j))
abbrev nI (i : Int) : TE := tC (.int i)
def spDeck (K : PySem.W.Frag) : Sp := fun vs H Q _ => vs.length = 1 ∧ ∃ (a : Addr) (ns : List Int) (G : Hp), vs = [.ref a] ∧ SqL K H a (ns.map V.int) ∧ ns.length ≤ 63 ∧ Ex G H ∧
  ∀ dk cl H', Ex H H' → H dk = none → H cl = none → Deck G H' dk cl 0 → Q (.ref dk) H'
section
variable {K : PySem.W.Frag}
theorem pos64 {b : Int} (h : 0 ≤ b) (h2 : b < 2 ^ 64) : -(2 ^ 64) < b ∧ b < 2 ^ 64 := ⟨by omega, h2⟩
theorem tSeq_def (t u : TS) (D : Ends) (σ : L2.St) (H : Hp) : tSeq t u D σ H = t { D with nx := u D } σ H := rfl
/-- cells, total = list(script[:63]), A; for cell in cells: total = (total * B + cell % C + E) % M; return [cells[::-1], total, 0] -/
abbrev tsDeck (K : PySem.W.Frag) (A B C E M : Int) : TS :=
  tSeq (tPar 1 2 (tCons (tCB (rListQ K) (tCons (tSl (rSlL K) (tVar 0) tNoPart (tPart (nI 63))) tNil)) (tCons (nI A) tNil)))
    (tSeq (tFor (iList K (tVar 1)) (gName 3) (tAsg (oMod (oAdd (oAdd (oMul (tVar 2) (nI B)) (oMod (tVar 3) (nI C))) (nI E)) (nI M)) (gName 2)))
      (tRet (tLst (tCons (tRevL K (tVar 1)) (tCons (tVar 2) (tCons (nI 0) tNil))))))
theorem deck_read {A B C E M : Int} (hA : 0 ≤ A ∧ A < 4294967296) (hB : -(2 ^ 64) < B ∧ B < 2 ^ 64) (hC : 0 < C) (hM : 0 < M ∧ M < 4294967296) {vs : List V} {H : Hp} {Q : VK} {E0 : XK} (h : spDeck K vs H Q E0) :
    tsDeck K A B C E M { nx := fun _ H' => Q .non H', rt := Q } (vs.map some ++ [none, none, none]) H := by
  obtain ⟨_, a, ns, G, rfl, hS, hl, eg, q⟩ := h
  show tsDeck K A B C E M { nx := fun _ H' => Q .non H', rt := Q } [some (.ref a), none, none, none] H
  refine ⟨.ref a, rfl, 63, rfl, a, ns.map V.int, rfl, hS, fun p hp => ⟨p, _, rfl, .inl (SqL.of upd_same), fun l hl' => ⟨_, _, rfl, ?_⟩⟩⟩
  have nlp : l ≠ p := fun e => by rw [e, upd_same] at hl'; cases hl'
  have hl0 : H l = none := by rw [upd_ne nlp] at hl'; exact hl'
  have cut : cutV (ns.map V.int) none (some 63) = ns.map V.int := by
    unfold cutV
    show List.take (min 63 (ns.map V.int).length - 0) _ = _
    rw [HT.sIx_none, List.drop_zero, Nat.sub_zero, Nat.min_eq_right (by rw [List.length_map]; exact hl), List.take_length]
  rw [cut] at hl' ⊢
  generalize hH1 : upd (upd H p (.lst (ns.map V.int))) l (.lst (ns.map V.int)) = H1
  have eH1 : Ex H H1 := by rw [← hH1]; exact (Ex.up hp).tr (Ex.up hl')
  have hl1 : H1 l = some (.lst (ns.map V.int)) := by rw [← hH1]; exact upd_same
  show tSeq _ _ _ [some (.ref a), some (.ref l), some (.int A), none] H1
  refine ⟨.ref l, rfl, l, rfl, ⟨_, SqL.of hl1⟩, ?_⟩
  refine for_list (K := K) (a := l) (xs := ns.map V.int) (fun _ σ H2 => ∃ t v3, σ = [some (.ref a), some (.ref l), some (.int t), v3] ∧ 0 ≤ t ∧ t < 4294967296 ∧ H2 = H1)
    ⟨A, none, rfl, hA.1, hA.2, rfl⟩ (fun i σ H2 _ ⟨_, _, _, _, _, e⟩ => by rw [e]; exact SqL.of hl1) (fun i x σ H2 hx ⟨t, v3, e, h1, h2, e2⟩ => ?_) (fun σ H2 ⟨t, v3, e, h1, h2, e2⟩ => ?_)
  · subst e e2
    obtain ⟨n, _, rfl⟩ : ∃ n, ns[i]? = some n ∧ V.int n = x := by
      rw [List.getElem?_map] at hx
      exact Option.map_eq_some_iff.mp hx
    refine ⟨_, rfl, _, _, rfl, rfl, .inr hB, _, rfl, _, _, rfl, rfl, hC, _, _, rfl, rfl, _, _, rfl, rfl, _, _, rfl, rfl, hM.1, ?_⟩
    exact ⟨_, _, rfl, Int.emod_nonneg _ (by omega), Int.lt_trans (Int.emod_lt_of_pos _ hM.1) hM.2, rfl⟩
  · subst e e2
    refine ⟨.ref l, rfl, l, _, rfl, SqL.of hl1, fun c hc => ⟨_, rfl, by show 3 ≤ sizeLine; decide, fun d hd => ?_⟩⟩
    have ndc : d ≠ c := fun z => by rw [z, upd_same] at hd; cases hd
    have hd0 : H2 d = none := by rw [upd_ne ndc] at hd; exact hd
    have nc : H c = none := eH1.fresh hc
    have nd : H d = none := eH1.fresh hd0
    refine q d c _ (eH1.tr ((Ex.up hc).tr (Ex.up hd))) nd nc ⟨ndc, eg.fresh nd, eg.fresh nc, ns.reverse, t, 0, upd_same, ?_, by rw [List.length_reverse]; exact hl, by omega, by omega, h1, h2⟩
    rw [upd_ne ndc.symm, upd_same, List.map_reverse]
abbrev oPow : TE → TE → TE := tOp (rI CPow fun i j => .int (i ^ j.toNat))
abbrev dAt (K : PySem.W.Frag) (i : Int) : TE := tOp (rIxL K) (tVar 0) (nI i)
/-- the draw, whatever comes last -/
abbrev tsDraw (K : PySem.W.Frag) (rest : TS) : TS :=
  tSeq (tAsg (oAdd (dAt K 2) (nI 1)) (gSub (tVar 0) (nI 2) rSetL)) (tSeq (tAsg (dAt K 1) (gName 2))
    (tSeq (tIfS (tTest (tOp (rNeDa K) (dAt K 0) (tLst tNil)))
      (tSeq (tAsg (tBM0 K "list" rPop (dAt K 0)) (gName 2))
        (tSeq (tIfS (tTest (tOp (rI0 fun i j => .bl (decide (j ≤ i))) (tVar 2) (oPow (nI 10) (nI 18))))
          (tSeq (tDrop (tBM K "list" rAppend (dAt K 0) (tCons (oDiv (tVar 2) (tVar 1)) tNil))) (tRet (oMod (tVar 2) (tVar 1)))) tNext)
          (tAsg (oAdd (tVar 2) (dAt K 1)) (gName 2)))) tNext) rest))
abbrev tsLast1 (K : PySem.W.Frag) (a b c d e f g h i j k : Int) : TS :=
  tSeq (tAsg (oMod (oMul (oAdd (oAdd (oMod (tVar 2) (nI a)) (oMul (oMul (nI b) (dAt K 2)) (dAt K 2))) (nI c)) (nI d)) (nI e)) (gName 3))
    (tSeq (tAsg (oMod (oAdd (oAdd (oMul (tVar 3) (tVar 3)) (oMul (nI f) (dAt K 2))) (nI g)) (nI h)) (gName 3))
      (tRet (oMod (oDiv (oMod (oAdd (oMul (tVar 3) (tVar 3)) (oMul (nI i) (tVar 3))) (nI j)) (nI k)) (tVar 1))))
abbrev tsLast2 (K : PySem.W.Frag) (a b c d e f g h i j k : Int) : TS :=
  tSeq (tAsg (oMod (oMul (oAdd (oAdd (oMod (tVar 2) (nI a)) (oMul (oMul (nI b) (dAt K 2)) (dAt K 2))) (nI c)) (nI d)) (nI e)) (gName 3))
    (tSeq (tAsg (oMod (oAdd (oAdd (oMul (tVar 3) (tVar 3)) (oMul (nI f) (dAt K 2))) (nI g)) (nI h)) (gName 3))
      (tRet (oMod (oDiv (oMod (oMul (tVar 3) (nI i)) (nI j)) (nI k)) (tVar 1))))
/-- what the last rows must do: give a number below the limit, from any cell -/
def LastOk (K : PySem.W.Frag) (rest : TS) : Prop := ∀ (dk cl : Addr) (lim t n c : Int) (x3 : Option V) (H : Hp) (D : Ends), 0 < lim → lim < 1000000000 → 0 ≤ n → n < 2 ^ 40 →
  H dk = some (.lst [.ref cl, .int t, .int n]) → (∀ i, 0 ≤ i → i < lim → D.rt (.int i) H) → rest D [some (.ref dk), some (.int lim), some (.int c), x3] H
theorem at2 {a b c : V} : atI [a, b, c] 2 = some c := rfl
theorem at1 {a b c : V} : atI [a, b, c] 1 = some b := rfl
theorem at0 {a b c : V} : atI [a, b, c] 0 = some a := rfl
theorem last1 {a b c d e f g h i j k : Int} (ha : 0 < a) (hb : -(2 ^ 64) < b ∧ b < 2 ^ 64) (hd : -(2 ^ 64) < d ∧ d < 2 ^ 64) (he : 0 < e ∧ e < 2 ^ 32) (hf : -(2 ^ 64) < f ∧ f < 2 ^ 64) (hh : 0 < h ∧ h < 2 ^ 32)
    (hi : -(2 ^ 64) < i ∧ i < 2 ^ 64) (hj : 0 < j) (hk : 0 < k ∧ k < 1073741824) : LastOk K (tsLast1 K a b c d e f g h i j k) := by
  intro dk cl lim t n cell x3 H D h0 h1 n0 n1 hd0 q
  have hs := SqL.of (K := K) hd0
  have nb : -(2 ^ 64) < n ∧ n < 2 ^ 64 := ⟨by omega, by omega⟩
  refine ⟨_, rfl, _, _, rfl, rfl, ha, .ref dk, rfl, dk, _, 2, _, rfl, rfl, hs, at2, _, _, rfl, rfl, .inl hb, .ref dk, rfl, dk, _, 2, _, rfl, rfl, hs, at2, _, _, rfl, rfl, .inr nb, _, _, rfl, rfl, _, _, rfl, rfl,
    _, _, rfl, rfl, .inr hd, _, _, rfl, rfl, he.1, ?_⟩
  show tSeq _ _ D [some (.ref dk), some (.int lim), some (.int cell), some (.int (((cell % a + b * n * n + c) * d) % e))] H
  generalize hv : (((cell % a + b * n * n + c) * d) % e : Int) = v
  have v0 : 0 ≤ v := by rw [← hv]; exact Int.emod_nonneg _ (by omega)
  have v1 : v < 2 ^ 32 := by rw [← hv]; exact Int.lt_trans (Int.emod_lt_of_pos _ he.1) he.2
  refine ⟨.int v, rfl, .int v, rfl, _, _, rfl, rfl, .inl ⟨by omega, by omega⟩, .ref dk, rfl, dk, _, 2, _, rfl, rfl, hs, at2, _, _, rfl, rfl, .inl hf, _, _, rfl, rfl, _, _, rfl, rfl, _, _, rfl, rfl, hh.1, ?_⟩
  show tRet (oMod (oDiv (oMod (oAdd (oMul (tVar 3) (tVar 3)) (oMul (nI i) (tVar 3))) (nI j)) (nI k)) (tVar 1)) D [some (.ref dk), some (.int lim), some (.int cell), some (.int ((v * v + f * n + g) % h))] H
  generalize hw : ((v * v + f * n + g) % h : Int) = w
  have w0 : 0 ≤ w := by rw [← hw]; exact Int.emod_nonneg _ (by omega)
  have w1 : w < 2 ^ 32 := by rw [← hw]; exact Int.lt_trans (Int.emod_lt_of_pos _ hh.1) hh.2
  refine ⟨.int w, rfl, .int w, rfl, _, _, rfl, rfl, .inl ⟨by omega, by omega⟩, .int w, rfl, _, _, rfl, rfl, .inl hi, _, _, rfl, rfl, _, _, rfl, rfl, hj, _, _, rfl, rfl, hk, .int lim, rfl, _, _, rfl, rfl, h0, ?_⟩
  exact q _ (Int.emod_nonneg _ (by omega)) (Int.emod_lt_of_pos _ h0)
theorem last2 {a b c d e f g h i j k : Int} (ha : 0 < a) (hb : -(2 ^ 64) < b ∧ b < 2 ^ 64) (hd : -(2 ^ 64) < d ∧ d < 2 ^ 64) (he : 0 < e ∧ e < 2 ^ 32) (hf : -(2 ^ 64) < f ∧ f < 2 ^ 64) (hh : 0 < h ∧ h < 2 ^ 32)
    (hi : -(2 ^ 64) < i ∧ i < 2 ^ 64) (hj : 0 < j) (hk : 0 < k ∧ k < 1073741824) : LastOk K (tsLast2 K a b c d e f g h i j k) := by
  intro dk cl lim t n cell x3 H D h0 h1 n0 n1 hd0 q
  have hs := SqL.of (K := K) hd0
  have nb : -(2 ^ 64) < n ∧ n < 2 ^ 64 := ⟨by omega, by omega⟩
  refine ⟨_, rfl, _, _, rfl, rfl, ha, .ref dk, rfl, dk, _, 2, _, rfl, rfl, hs, at2, _, _, rfl, rfl, .inl hb, .ref dk, rfl, dk, _, 2, _, rfl, rfl, hs, at2, _, _, rfl, rfl, .inr nb, _, _, rfl, rfl, _, _, rfl, rfl,
    _, _, rfl, rfl, .inr hd, _, _, rfl, rfl, he.1, ?_⟩
  show tSeq _ _ D [some (.ref dk), some (.int lim), some (.int cell), some (.int (((cell % a + b * n * n + c) * d) % e))] H
  generalize hv : (((cell % a + b * n * n + c) * d) % e : Int) = v
  have v0 : 0 ≤ v := by rw [← hv]; exact Int.emod_nonneg _ (by omega)
  have v1 : v < 2 ^ 32 := by rw [← hv]; exact Int.lt_trans (Int.emod_lt_of_pos _ he.1) he.2
  refine ⟨.int v, rfl, .int v, rfl, _, _, rfl, rfl, .inl ⟨by omega, by omega⟩, .ref dk, rfl, dk, _, 2, _, rfl, rfl, hs, at2, _, _, rfl, rfl, .inl hf, _, _, rfl, rfl, _, _, rfl, rfl, _, _, rfl, rfl, hh.1, ?_⟩
  show tRet (oMod (oDiv (oMod (oMul (tVar 3) (nI i)) (nI j)) (nI k)) (tVar 1)) D [some (.ref dk), some (.int lim), some (.int cell), some (.int ((v * v + f * n + g) % h))] H
  generalize hw : ((v * v + f * n + g) % h : Int) = w
  have w0 : 0 ≤ w := by rw [← hw]; exact Int.emod_nonneg _ (by omega)
  have w1 : w < 2 ^ 32 := by rw [← hw]; exact Int.lt_trans (Int.emod_lt_of_pos _ hh.1) hh.2
  refine ⟨.int w, rfl, _, _, rfl, rfl, .inr hi, _, _, rfl, rfl, hj, _, _, rfl, rfl, hk, .int lim, rfl, _, _, rfl, rfl, h0, ?_⟩
  exact q _ (Int.emod_nonneg _ (by omega)) (Int.emod_lt_of_pos _ h0)
theorem daAll_ints {G : Hp} : ∀ ns : List Int, DaAll K G (ns.map V.int) (ns.map .int)
  | [] => .nil
  | n :: ns => .cons (.int n) (daAll_ints ns)
theorem draw_read {rest : TS} (hr : LastOk K rest) {vs : List V} {H : Hp} {Q : VK} {E0 : XK} (h : spDraw vs H Q E0) :
    tsDraw K rest { nx := fun _ H' => Q .non H', rt := Q } (vs.map some ++ [none, none]) H := by
  obtain ⟨_, dk, cl, lim, G, m, rfl, eg, hD, hm, h0, h1, q⟩ := h
  obtain ⟨cs, t, n, e1, e2, hcs, n0, n1, t0, t1⟩ := hD.ex
  show tsDraw K rest { nx := fun _ H' => Q .non H', rt := Q } [some (.ref dk), some (.int lim), none, none] H
  refine ⟨.ref dk, rfl, dk, _, 2, _, rfl, rfl, SqL.of e1, at2, _, _, rfl, rfl, .ref dk, rfl, dk, _, 2, 2, rfl, rfl, e1, rfl, ?_⟩
  generalize hH1 : upd H dk (.lst (([V.ref cl, V.int t, V.int n] : List V).set 2 (V.int (n + 1)))) = H1
  have f1 : H1 dk = some (.lst [.ref cl, .int t, .int (n + 1)]) := by rw [← hH1]; exact upd_same
  have f2 : H1 cl = some (.lst (cs.map V.int)) := by rw [← hH1, upd_ne hD.ne.symm]; exact e2
  have f3 : ∀ b, b ≠ dk → H1 b = H b := fun b hb => by rw [← hH1, upd_ne hb]
  -- what any later heap must show
  have fin : ∀ (cs' : List Int) (H2 : Hp) (i : Int), H2 dk = some (.lst [.ref cl, .int t, .int (n + 1)]) → H2 cl = some (.lst (cs'.map V.int)) → cs'.length ≤ 63 →
      (∀ b o, b ≠ dk → b ≠ cl → H1 b = some o → H2 b = some o) → 0 ≤ i → i < lim → Q (.int i) H2 := by
    intro cs' H2 i g1 g2 g3 g4 i0 i1
    refine q i H2 i0 i1 ⟨Ex.rf _, fun b o e => ?_, fun b o hb1 hb2 e => g4 b o hb1 hb2 (by rw [f3 b hb1]; exact e), fun _ _ h => h, fun b hb => ?_⟩
      ⟨hD.ne, hD.gd, hD.gc, cs', t, n + 1, g1, g2, g3, by omega, by omega, t0, t1⟩
    · have hb1 : b ≠ dk := fun z => by rw [z, hD.gd] at e; cases e
      have hb2 : b ≠ cl := fun z => by rw [z, hD.gc] at e; cases e
      exact g4 b o hb1 hb2 (by rw [f3 b hb1]; exact eg b o e)
    · by_cases hb1 : b = dk
      · rw [hb1, g1]; simp
      · by_cases hb2 : b = cl
        · rw [hb2, g2]; simp
        · cases e : H b with
          | none => exact absurd e hb
          | some o => rw [g4 b o hb1 hb2 (by rw [f3 b hb1]; exact e)]; simp
  refine ⟨.ref dk, rfl, dk, _, 1, _, rfl, rfl, SqL.of f1, at1, ?_⟩
  refine ⟨.ref dk, rfl, dk, _, 0, _, rfl, rfl, SqL.of f1, at0, Nat.zero_le _, fun p hp => ?_⟩
  have np1 : dk ≠ p := fun z => by rw [← z, f1] at hp; cases hp
  have np2 : cl ≠ p := fun z => by rw [← z, f2] at hp; cases hp
  generalize hH2 : upd H1 p (.lst []) = H2
  have k1 : H2 dk = some (.lst [.ref cl, .int t, .int (n + 1)]) := by rw [← hH2, upd_ne np1]; exact f1
  have k2 : H2 cl = some (.lst (cs.map V.int)) := by rw [← hH2, upd_ne np2]; exact f2
  have k3 : ∀ b o, b ≠ dk → b ≠ cl → H1 b = some o → H2 b = some o := fun b o _ _ e => by rw [← hH2, upd_ne (ne_of_none e hp)]; exact e
  refine ⟨.list (cs.map .int), .list [], .lst k2 (daAll_ints cs), .lst (by rw [← hH2]; exact upd_same) .nil, cmpOk_nil, _, rfl, ?_⟩
  rw [eqv_nil]
  cases hc : cs with
  | nil =>
    refine iteF ?_
    refine hr dk cl lim t (n + 1) t none H2 _ h0 h1 (by omega) (by omega) k1 fun i i0 i1 => ?_
    exact fin cs H2 i k1 k2 hcs k3 i0 i1
  | cons x r =>
    refine iteT ?_
    rw [hc] at k2
    obtain ⟨y, hy⟩ : ∃ y, (x :: r)[(x :: r).length - 1]? = some y := ⟨_, List.getElem?_eq_getElem (by simp)⟩
    refine ⟨.ref dk, rfl, dk, _, 0, _, rfl, rfl, SqL.of k1, at0, .inl ⟨rfl, _, SqL.of k2⟩, cl, _, V.int y, rfl, rfl, k2, ?_, ?_⟩
    · rw [List.length_map, List.getElem?_map, hy]; rfl
    have dl : ((x :: r).map V.int).dropLast = (x :: r).dropLast.map V.int := List.map_dropLast.symm
    rw [dl]
    generalize hH3 : upd H2 cl (.lst ((x :: r).dropLast.map V.int)) = H3
    have l1 : H3 dk = some (.lst [.ref cl, .int t, .int (n + 1)]) := by rw [← hH3, upd_ne hD.ne]; exact k1
    have l2 : H3 cl = some (.lst ((x :: r).dropLast.map V.int)) := by rw [← hH3]; exact upd_same
    have l3 : ∀ b o, b ≠ dk → b ≠ cl → H1 b = some o → H3 b = some o := fun b o h1 h2 e => by rw [← hH3, upd_ne h2]; exact k3 b o h1 h2 e
    have len : (x :: r).dropLast.length + 1 ≤ 63 := by
      rw [List.length_dropLast]
      rw [hc] at hcs
      simp only [List.length_cons] at hcs ⊢
      omega
    refine ⟨.int y, rfl, _, _, rfl, rfl, ⟨by decide, by decide, by decide⟩, _, _, rfl, rfl, _, rfl, ite2 (fun e => ?_) (fun e => ?_)⟩
    · refine ⟨.ref dk, rfl, dk, _, 0, _, rfl, rfl, SqL.of l1, at0, .inl ⟨rfl, _, SqL.of l2⟩, .int y, rfl, .int lim, rfl, _, _, rfl, rfl, ⟨h0, by omega⟩, cl, _, _, rfl, rfl, l2, ?_, ?_⟩
      · rw [List.length_map]
        exact Nat.lt_of_lt_of_le (by omega : _ < 64) (by decide)
      refine ⟨.int y, rfl, .int lim, rfl, _, _, rfl, rfl, h0, ?_⟩
      refine fin ((x :: r).dropLast ++ [y / lim]) _ _ (by rw [upd_ne hD.ne]; exact l1) (by rw [upd_same, List.map_append]; rfl) (by rw [List.length_append]; exact len)
        (fun b o h1 h2 e => by rw [upd_ne h2]; exact l3 b o h1 h2 e) (Int.emod_nonneg _ (by omega)) (Int.emod_lt_of_pos _ h0)
    · refine ⟨.int y, rfl, .ref dk, rfl, dk, _, 1, _, rfl, rfl, SqL.of l1, at1, _, _, rfl, rfl, ?_⟩
      refine hr dk cl lim t (n + 1) (y + t) none H3 _ h0 h1 (by omega) (by omega) l1 fun i i0 i1 => ?_
      exact fin _ H3 i l1 l2 (by omega) l3 i0 i1
/-- items[draw(deck, len(items))] -/
abbrev tsPick (K : PySem.W.Frag) (E : XK) : TS := tRet (tOp (rIxL K) (tVar 1) (tCall spDraw [] E (tCons (tVar 0) (tCons (tCB (rLenQ K) (tCons (tVar 1) tNil)) tNil))))
theorem pick_read {E E0 : XK} {vs : List V} {H : Hp} {Q : VK} (h : spPick K vs H Q E0) : tsPick K E { nx := fun _ H' => Q .non H', rt := Q } (vs.map some) H := by
  obtain ⟨_, dk, cl, a, ds, G, m, rfl, eg, hD, hm, hda, h0, h1, q⟩ := h
  obtain ⟨xs, ha, ax⟩ : ∃ xs, G a = some (.lst xs) ∧ DaAll K G xs ds := by cases hda with | lst h1 h2 => exact ⟨_, h1, h2⟩
  have hl := ax.length
  show tsPick K E _ [some (.ref dk), some (.ref a)] H
  refine ⟨.ref a, rfl, .ref dk, rfl, .ref a, rfl, a, xs, rfl, .inl (SqL.of (eg _ _ ha)), rfl, dk, cl, xs.length, G, m, rfl, eg, hD, hm, by omega, by omega, fun i H' i0 i1 u hD' => ?_⟩
  have hx : i.toNat < xs.length := by omega
  obtain ⟨d, hd, dd⟩ := ax.get (List.getElem?_eq_getElem hx)
  refine ⟨a, xs, i, xs[i.toNat], rfl, rfl, SqL.of (u.h _ _ ha), ?_, q _ d H' (List.mem_of_getElem? hd) dd u hD'⟩
  have e := atI_nat (List.getElem?_eq_getElem hx)
  rw [Int.toNat_of_nonneg i0] at e
  exact e
end
end KD
set_option Elab.async false
set_option linter.all false
set_option maxRecDepth 100000
set_option maxHeartbeats 4000000
namespace KD
open PySem PySem.Spec PyProof.Rows L2
/-! ### sizes: what is small enough to be shown -/
/-- w: weight, k: depth -/
def sml (w k : Nat) (d : PyData) : Bool := (((d.leavesShort 60 && d.showable) && (!d.hasDict && fit d)) && decide (d.depth ≤ k)) && decide (d.weight ≤ w)
structure Sml (w k : Nat) (d : PyData) : Prop where
  s : d.leavesShort 60 = true
  h : d.showable = true
  n : d.hasDict = false
  f : fit d = true
  p : d.depth ≤ k
  w : d.weight ≤ w
theorem sml_iff {w k : Nat} {d : PyData} : sml w k d = true ↔ Sml w k d := by
  unfold sml
  simp only [Bool.and_eq_true, decide_eq_true_eq, Bool.not_eq_true']
  exact ⟨fun ⟨⟨⟨⟨a, b⟩, c, e⟩, f⟩, g⟩ => ⟨a, b, c, e, f, g⟩, fun h => ⟨⟨⟨⟨h.s, h.h⟩, h.n, h.f⟩, h.p⟩, h.w⟩⟩
theorem Sml.mono {w k w' k' : Nat} {d : PyData} (h : Sml w k d) (hw : w ≤ w') (hk : k ≤ k') : Sml w' k' d := ⟨h.s, h.h, h.n, h.f, Nat.le_trans h.p hk, Nat.le_trans h.w hw⟩
theorem Sml.repOk {w k : Nat} {d : PyData} (h : Sml w k d) (hw : w ≤ 100000) (hk : k ≤ 40) : repOk d = true := by
  unfold KD.repOk
  have hs := PyData.shown_le 60 (by decide) d h.s
  have := h.w
  have hd := h.p
  simp only [Bool.and_eq_true, decide_eq_true_eq, Bool.or_eq_true, h.h, h.n, Bool.not_false, or_true, true_and, and_true]
  refine ⟨by omega, Nat.le_trans hs ?_⟩
  have : (60 + 2) * d.weight ≤ 62 * 100000 := Nat.mul_le_mul (by decide) (by omega)
  omega
theorem sml_all {w k : Nat} : ∀ {xs : List PyData}, (∀ x ∈ xs, Sml w k x) → PyData.leavesShortAll 60 xs = true ∧ PyData.showableAll xs = true ∧ PyData.hasDictAll xs = false ∧ fitAll xs = true ∧
    PyData.depthAll xs ≤ k ∧ PyData.weightAll xs ≤ (w + 1) * xs.length
  | [], _ => ⟨rfl, rfl, rfl, rfl, Nat.zero_le _, Nat.zero_le _⟩
  | x :: xs, h => by
    obtain ⟨a, b, c, d, e, f⟩ := sml_all (xs := xs) fun y hy => h y (List.mem_cons_of_mem _ hy)
    have hx := h x List.mem_cons_self
    refine ⟨?_, ?_, ?_, ?_, ?_, ?_⟩
    · show (x.leavesShort 60 && _) = true
      rw [hx.s, a]; rfl
    · show (x.showable && _) = true
      rw [hx.h, b]; rfl
    · show (x.hasDict || _) = false
      rw [hx.n, c]; rfl
    · show (fit x && _) = true
      rw [hx.f, d]; rfl
    · show max x.depth _ ≤ k
      exact Nat.max_le.mpr ⟨hx.p, e⟩
    · show x.weight + 1 + PyData.weightAll xs ≤ _
      have := hx.w
      rw [List.length_cons, Nat.mul_add, Nat.mul_one]
      omega
theorem Sml.tup {w k n : Nat} {xs : List PyData} (h : ∀ x ∈ xs, Sml w k x) (hl : xs.length ≤ n) (hn : n ≤ 10000) : Sml ((w + 1) * n) (k + 1) (.tuple xs) := by
  obtain ⟨a, b, c, d, e, f⟩ := sml_all h
  refine ⟨a, by simpa [PyData.showable] using b, by simpa [PyData.hasDict] using c, ?_, ?_, ?_⟩
  · show (decide (xs.length ≤ 10000) && fitAll xs) = true
    rw [d, decide_eq_true (by omega : xs.length ≤ 10000)]; rfl
  · show PyData.depthAll xs + 1 ≤ k + 1
    omega
  · exact Nat.le_trans f (Nat.mul_le_mul_left _ hl)
theorem Sml.lst {w k n : Nat} {xs : List PyData} (h : ∀ x ∈ xs, Sml w k x) (hl : xs.length ≤ n) (hn : n ≤ 10000) : Sml ((w + 1) * n) (k + 1) (.list xs) := by
  obtain ⟨a, b, c, d, e, f⟩ := sml_all h
  refine ⟨a, by simpa [PyData.showable] using b, by simpa [PyData.hasDict] using c, ?_, ?_, ?_⟩
  · show (decide (xs.length ≤ 10000) && fitAll xs) = true
    rw [d, decide_eq_true (by omega : xs.length ≤ 10000)]; rfl
  · show PyData.depthAll xs + 1 ≤ k + 1
    omega
  · exact Nat.le_trans f (Nat.mul_le_mul_left _ hl)
theorem sml_str {s : Str} {n : Nat} (hl : s.length ≤ n) (hn : n ≤ 100000) (hc : ∀ c ∈ s.cps.toList, c < 16 ^ 8) : Sml n 0 (.str s) :=
  ⟨by show (s.cps.toList.all fun c => decide (c < 16 ^ 8)) = true
      exact List.all_eq_true.mpr fun c h => decide_eq_true (hc c h),
   rfl, rfl, by simp [fit]; omega, Nat.le_refl _, hl⟩
theorem sml_none : Sml 1 0 .none := ⟨rfl, rfl, rfl, rfl, by decide, by decide⟩
theorem sml_bool (b : Bool) : Sml 1 0 (.bool b) := ⟨rfl, rfl, rfl, rfl, Nat.le_refl _, Nat.zero_le _⟩
theorem log2_small {n : Nat} (h : n < 2 ^ 40) : n.log2 < 40 := by
  by_cases h0 : n = 0
  · subst h0; decide
  · exact (Nat.log2_lt h0).mpr h
theorem sml_int {i : Int} (h : i.natAbs < 10 ^ 12) : Sml 60 0 (.int i) := by
  have hl : i.natAbs.log2 < 40 := log2_small (Nat.lt_trans h (by decide))
  refine ⟨?_, ?_, rfl, rfl, Nat.le_refl _, ?_⟩
  · show decide ((PyData.shown (.int i)).length ≤ 60) = true
    exact decide_eq_true (Nat.le_trans (PyData.shown_int_le h) (by decide))
  · show decide (i.natAbs.log2 < 1920) = true
    exact decide_eq_true (by omega)
  · show (if i == 0 then 0 else i.natAbs.log2 + 1) ≤ 60
    split <;> omega
end KD
set_option Elab.async false
set_option linter.all false
set_option maxRecDepth 100000
set_option maxHeartbeats 4000000
namespace L01
open PySem PySem.Spec PyProof.Rows L2 KD
def topS (i : Nat) : Stmt :=
  PySem.Challenge.pw_roundcalls_k01_names_and_signatures.main.body.getD i (.Pass ⟨0, 0, 0, 0⟩)
abbrev s_is_number : Stmt := topS 1
abbrev N_is_number : List Str := ["thing"]
theorem sc_is_number : FnScope N_is_number ["thing"] (defScope s_is_number) :=
  ⟨rfl, rfl, rfl, by decide +kernel, rfl, by decide +kernel, by decide +kernel⟩
abbrev s_is_natural : Stmt := topS 2
abbrev N_is_natural : List Str := ["thing"]
theorem sc_is_natural : FnScope N_is_natural ["thing"] (defScope s_is_natural) :=
  ⟨rfl, rfl, rfl, by decide +kernel, rfl, by decide +kernel, by decide +kernel⟩
abbrev s_is_index : Stmt := topS 3
abbrev N_is_index : List Str := ["thing", "size"]
theorem sc_is_index : FnScope N_is_index ["thing", "size"] (defScope s_is_index) :=
  ⟨rfl, rfl, rfl, by decide +kernel, rfl, by decide +kernel, by decide +kernel⟩
abbrev s_is_row_of : Stmt := topS 4
abbrev N_is_row_of : List Str := ["thing", "size"]
theorem sc_is_row_of : FnScope N_is_row_of ["thing", "size"] (defScope s_is_row_of) :=
  ⟨rfl, rfl, rfl, by decide +kernel, rfl, by decide +kernel, by decide +kernel⟩
abbrev s_is_pair : Stmt := topS 5
abbrev N_is_pair : List Str := ["thing"]
theorem sc_is_pair : FnScope N_is_pair ["thing"] (defScope s_is_pair) :=
  ⟨rfl, rfl, rfl, by decide +kernel, rfl, by decide +kernel, by decide +kernel⟩
abbrev s_is_ascending : Stmt := topS 6
abbrev N_is_ascending : List Str := ["items", "at"]
theorem sc_is_ascending : FnScope N_is_ascending ["items"] (defScope s_is_ascending) :=
  ⟨rfl, rfl, rfl, by decide +kernel, rfl, by decide +kernel, by decide +kernel⟩
abbrev s_is_name : Stmt := topS 12
abbrev N_is_name : List Str := ["thing", "letter"]
theorem sc_is_name : FnScope N_is_name ["thing"] (defScope s_is_name) :=
  ⟨rfl, rfl, rfl, by decide +kernel, rfl, by decide +kernel, by decide +kernel⟩
abbrev s_is_signature : Stmt := topS 13
abbrev N_is_signature : List Str := ["thing", "item", "tag", "_"]
theorem sc_is_signature : FnScope N_is_signature ["thing"] (defScope s_is_signature) :=
  ⟨rfl, rfl, rfl, by decide +kernel, rfl, by decide +kernel, by decide +kernel⟩
abbrev s_is_tag_count : Stmt := topS 14
abbrev N_is_tag_count : List Str := ["thing", "tag", "count"]
theorem sc_is_tag_count : FnScope N_is_tag_count ["thing"] (defScope s_is_tag_count) :=
  ⟨rfl, rfl, rfl, by decide +kernel, rfl, by decide +kernel, by decide +kernel⟩
abbrev s__law_deck : Stmt := topS 16
abbrev N__law_deck : List Str := ["_law_script", "_law_cells", "_law_total", "_law_cell"]
theorem sc__law_deck : FnScope N__law_deck ["_law_script"] (defScope s__law_deck) :=
  ⟨rfl, rfl, rfl, by decide +kernel, rfl, by decide +kernel, by decide +kernel⟩
abbrev s__law_draw : Stmt := topS 17
abbrev N__law_draw : List Str := ["_law_deck_here", "_law_limit", "_law_cell", "_law_number"]
theorem sc__law_draw : FnScope N__law_draw ["_law_deck_here", "_law_limit"] (defScope s__law_draw) :=
  ⟨rfl, rfl, rfl, by decide +kernel, rfl, by decide +kernel, by decide +kernel⟩
abbrev s__law_pick : Stmt := topS 18
abbrev N__law_pick : List Str := ["_law_deck_here", "_law_items"]
theorem sc__law_pick : FnScope N__law_pick ["_law_deck_here", "_law_items"] (defScope s__law_pick) :=
  ⟨rfl, rfl, rfl, by decide +kernel, rfl, by decide +kernel, by decide +kernel⟩
abbrev s__law_names : Stmt := topS 19
abbrev N__law_names : List Str := ["_law_deck_here", "_law_many", "_law_letters", "_law_way", "_law_first", "_law_words", "_law_found", "_law_k", "_law_letter"]
theorem sc__law_names : FnScope N__law_names ["_law_deck_here", "_law_many"] (defScope s__law_names) :=
  ⟨rfl, rfl, rfl, by decide +kernel, rfl, by decide +kernel, by decide +kernel⟩
abbrev s__law_tags : Stmt := topS 20
abbrev N__law_tags : List Str := ["_law_deck_here", "_law_names_here", "_law_name"]
theorem sc__law_tags : FnScope N__law_tags ["_law_deck_here"] (defScope s__law_tags) :=
  ⟨rfl, rfl, rfl, by decide +kernel, rfl, by decide +kernel, by decide +kernel⟩
abbrev s__law_is_name : Stmt := topS 21
abbrev N__law_is_name : List Str := ["_law_it", "_law_sign"]
theorem sc__law_is_name : FnScope N__law_is_name ["_law_it"] (defScope s__law_is_name) :=
  ⟨rfl, rfl, rfl, by decide +kernel, rfl, by decide +kernel, by decide +kernel⟩
abbrev s__law_is_entry : Stmt := topS 22
abbrev N__law_is_entry : List Str := ["_law_it"]
theorem sc__law_is_entry : FnScope N__law_is_entry ["_law_it"] (defScope s__law_is_entry) :=
  ⟨rfl, rfl, rfl, by decide +kernel, rfl, by decide +kernel, by decide +kernel⟩
abbrev s__law_is_signature : Stmt := topS 23
abbrev N__law_is_signature : List Str := ["_law_it", "_law_names_here", "_law_one", "_law_k"]
theorem sc__law_is_signature : FnScope N__law_is_signature ["_law_it"] (defScope s__law_is_signature) :=
  ⟨rfl, rfl, rfl, by decide +kernel, rfl, by decide +kernel, by decide +kernel⟩
abbrev s__law_bent : Stmt := topS 24
abbrev N__law_bent : List Str := ["_law_deck_here", "_law_it", "_law_way", "_law_at", "_law_name", "_law_many", "_law_odd", "_law_some"]
theorem sc__law_bent : FnScope N__law_bent ["_law_deck_here", "_law_it"] (defScope s__law_bent) :=
  ⟨rfl, rfl, rfl, by decide +kernel, rfl, by decide +kernel, by decide +kernel⟩
abbrev s__law_signature_right : Stmt := topS 25
abbrev N__law_signature_right : List Str := ["_law_it", "_law_kept", "_law_due"]
theorem sc__law_signature_right : FnScope N__law_signature_right ["_law_it"] (defScope s__law_signature_right) :=
  ⟨rfl, rfl, rfl, by decide +kernel, rfl, by decide +kernel, by decide +kernel⟩
abbrev s__law_name_right : Stmt := topS 26
abbrev N__law_name_right : List Str := ["_law_it", "_law_kept", "_law_due"]
theorem sc__law_name_right : FnScope N__law_name_right ["_law_it"] (defScope s__law_name_right) :=
  ⟨rfl, rfl, rfl, by decide +kernel, rfl, by decide +kernel, by decide +kernel⟩
abbrev s_law : Stmt := topS 27
abbrev N_law : List Str := ["_law_script", "_law_deck_here", "_law_some", "_law_wide", "_law_turn", "_law_tags_here", "_law_again", "_law_name", "_law_many", "_law_it", "_law_sign"]
theorem sc_law : FnScope N_law ["_law_script"] (defScope s_law) :=
  ⟨rfl, rfl, rfl, by decide +kernel, rfl, by decide +kernel, by decide +kernel⟩
/-! what the top has left -/
structure Txt (K : PySem.W.Frag) (mg : Str → Option Value) where
  a_is_number : Addr
  d_is_number : FuncData
  F_is_number : Fun K "is_number" "is_number" s_is_number a_is_number d_is_number
  g_is_number : mg "is_number" = some (.ref a_is_number)
  a_is_natural : Addr
  d_is_natural : FuncData
  F_is_natural : Fun K "is_natural" "is_natural" s_is_natural a_is_natural d_is_natural
  g_is_natural : mg "is_natural" = some (.ref a_is_natural)
  a_is_index : Addr
  d_is_index : FuncData
  F_is_index : Fun K "is_index" "is_index" s_is_index a_is_index d_is_index
  g_is_index : mg "is_index" = some (.ref a_is_index)
  a_is_row_of : Addr
  d_is_row_of : FuncData
  F_is_row_of : Fun K "is_row_of" "is_row_of" s_is_row_of a_is_row_of d_is_row_of
  g_is_row_of : mg "is_row_of" = some (.ref a_is_row_of)
  a_is_pair : Addr
  d_is_pair : FuncData
  F_is_pair : Fun K "is_pair" "is_pair" s_is_pair a_is_pair d_is_pair
  g_is_pair : mg "is_pair" = some (.ref a_is_pair)
  a_is_ascending : Addr
  d_is_ascending : FuncData
  F_is_ascending : Fun K "is_ascending" "is_ascending" s_is_ascending a_is_ascending d_is_ascending
  g_is_ascending : mg "is_ascending" = some (.ref a_is_ascending)
  a_is_name : Addr
  d_is_name : FuncData
  F_is_name : Fun K "is_name" "is_name" s_is_name a_is_name d_is_name
  g_is_name : mg "is_name" = some (.ref a_is_name)
  a_is_signature : Addr
  d_is_signature : FuncData
  F_is_signature : Fun K "is_signature" "is_signature" s_is_signature a_is_signature d_is_signature
  g_is_signature : mg "is_signature" = some (.ref a_is_signature)
  a_is_tag_count : Addr
  d_is_tag_count : FuncData
  F_is_tag_count : Fun K "is_tag_count" "is_tag_count" s_is_tag_count a_is_tag_count d_is_tag_count
  g_is_tag_count : mg "is_tag_count" = some (.ref a_is_tag_count)
  a__law_deck : Addr
  d__law_deck : FuncData
  F__law_deck : Fun K "_law_deck" "_law_deck" s__law_deck a__law_deck d__law_deck
  g__law_deck : mg "_law_deck" = some (.ref a__law_deck)
  a__law_draw : Addr
  d__law_draw : FuncData
  F__law_draw : Fun K "_law_draw" "_law_draw" s__law_draw a__law_draw d__law_draw
  g__law_draw : mg "_law_draw" = some (.ref a__law_draw)
  a__law_pick : Addr
  d__law_pick : FuncData
  F__law_pick : Fun K "_law_pick" "_law_pick" s__law_pick a__law_pick d__law_pick
  g__law_pick : mg "_law_pick" = some (.ref a__law_pick)
  a__law_names : Addr
  d__law_names : FuncData
  F__law_names : Fun K "_law_names" "_law_names" s__law_names a__law_names d__law_names
  g__law_names : mg "_law_names" = some (.ref a__law_names)
  a__law_tags : Addr
  d__law_tags : FuncData
  F__law_tags : Fun K "_law_tags" "_law_tags" s__law_tags a__law_tags d__law_tags
  g__law_tags : mg "_law_tags" = some (.ref a__law_tags)
  a__law_is_name : Addr
  d__law_is_name : FuncData
  F__law_is_name : Fun K "_law_is_name" "_law_is_name" s__law_is_name a__law_is_name d__law_is_name
  g__law_is_name : mg "_law_is_name" = some (.ref a__law_is_name)
  a__law_is_entry : Addr
  d__law_is_entry : FuncData
  F__law_is_entry : Fun K "_law_is_entry" "_law_is_entry" s__law_is_entry a__law_is_entry d__law_is_entry
  g__law_is_entry : mg "_law_is_entry" = some (.ref a__law_is_entry)
  a__law_is_signature : Addr
  d__law_is_signature : FuncData
  F__law_is_signature : Fun K "_law_is_signature" "_law_is_signature" s__law_is_signature a__law_is_signature d__law_is_signature
  g__law_is_signature : mg "_law_is_signature" = some (.ref a__law_is_signature)
  a__law_bent : Addr
  d__law_bent : FuncData
  F__law_bent : Fun K "_law_bent" "_law_bent" s__law_bent a__law_bent d__law_bent
  g__law_bent : mg "_law_bent" = some (.ref a__law_bent)
  a__law_signature_right : Addr
  d__law_signature_right : FuncData
  F__law_signature_right : Fun K "_law_signature_right" "_law_signature_right" s__law_signature_right a__law_signature_right d__law_signature_right
  g__law_signature_right : mg "_law_signature_right" = some (.ref a__law_signature_right)
  a__law_name_right : Addr
  d__law_name_right : FuncData
  F__law_name_right : Fun K "_law_name_right" "_law_name_right" s__law_name_right a__law_name_right d__law_name_right
  g__law_name_right : mg "_law_name_right" = some (.ref a__law_name_right)
  a_law : Addr
  d_law : FuncData
  F_law : Fun K "law" "law" s_law a_law d_law
  g_law : mg "law" = some (.ref a_law)
  m_isinstance : mg "isinstance" = none
  m_len : mg "len" = none
  m_all : mg "all" = none
  m_range : mg "range" = none
  m_repr : mg "repr" = none
  m_sorted : mg "sorted" = none
  m_tuple : mg "tuple" = none
  m_list : mg "list" = none
  m_dict : mg "dict" = none
  m_str : mg "str" = none
  m_int : mg "int" = none
  m_bool : mg "bool" = none
  u_LETTERS : Value
  c_LETTERS : mg "LETTERS" = some u_LETTERS ∧ RelV (.str "abcdefghijklmnopqrstuvwxyz") u_LETTERS
  u_LONGEST_NAME : Value
  c_LONGEST_NAME : mg "LONGEST_NAME" = some u_LONGEST_NAME ∧ RelV (.int 8) u_LONGEST_NAME
  u_MOST_FIELDS : Value
  c_MOST_FIELDS : mg "MOST_FIELDS" = some u_MOST_FIELDS ∧ RelV (.int 3) u_MOST_FIELDS
  u_VOID : Value
  c_VOID : mg "VOID" = some u_VOID ∧ RelV (.str "void") u_VOID
section
variable {K : PySem.W.Frag} {mg : Str → Option Value} (T : Txt K mg)
include T
theorem Txt.b_is_number : Binds K T.d_is_number ["thing"] [] :=
  T.F_is_number.binds fun _ _ _ _ _ _ us hl => match us, hl with | [_], _ => rfl
theorem Txt.b_is_natural : Binds K T.d_is_natural ["thing"] [] :=
  T.F_is_natural.binds fun _ _ _ _ _ _ us hl => match us, hl with | [_], _ => rfl
theorem Txt.b_is_index : Binds K T.d_is_index ["thing", "size"] [] :=
  T.F_is_index.binds fun _ _ _ _ _ _ us hl => match us, hl with | [_, _], _ => rfl
theorem Txt.b_is_row_of : Binds K T.d_is_row_of ["thing", "size"] [] :=
  T.F_is_row_of.binds fun _ _ _ _ _ _ us hl => match us, hl with | [_, _], _ => rfl
theorem Txt.b_is_pair : Binds K T.d_is_pair ["thing"] [] :=
  T.F_is_pair.binds fun _ _ _ _ _ _ us hl => match us, hl with | [_], _ => rfl
theorem Txt.b_is_ascending : Binds K T.d_is_ascending ["items"] [] :=
  T.F_is_ascending.binds fun _ _ _ _ _ _ us hl => match us, hl with | [_], _ => rfl
theorem Txt.b_is_name : Binds K T.d_is_name ["thing"] [] :=
  T.F_is_name.binds fun _ _ _ _ _ _ us hl => match us, hl with | [_], _ => rfl
theorem Txt.kb_is_name : KBinds K T.d_is_name ["thing"] ["thing"] kwG kwG := by
  obtain ⟨oc, od, kV, doc, pm, an, cdv, ct, osl, e, _, _⟩ := T.F_is_name.ex
  rw [e]
  exact kb_all fun us hl => match us, hl with | [_], _ => rfl
theorem Txt.b_is_signature : Binds K T.d_is_signature ["thing"] [] :=
  T.F_is_signature.binds fun _ _ _ _ _ _ us hl => match us, hl with | [_], _ => rfl
theorem Txt.kb_is_signature : KBinds K T.d_is_signature ["thing"] ["thing"] kwG kwG := by
  obtain ⟨oc, od, kV, doc, pm, an, cdv, ct, osl, e, _, _⟩ := T.F_is_signature.ex
  rw [e]
  exact kb_all fun us hl => match us, hl with | [_], _ => rfl
theorem Txt.b_is_tag_count : Binds K T.d_is_tag_count ["thing"] [] :=
  T.F_is_tag_count.binds fun _ _ _ _ _ _ us hl => match us, hl with | [_], _ => rfl
theorem Txt.b__law_deck : Binds K T.d__law_deck ["_law_script"] [] :=
  T.F__law_deck.binds fun _ _ _ _ _ _ us hl => match us, hl with | [_], _ => rfl
theorem Txt.b__law_draw : Binds K T.d__law_draw ["_law_deck_here", "_law_limit"] [] :=
  T.F__law_draw.binds fun _ _ _ _ _ _ us hl => match us, hl with | [_, _], _ => rfl
theorem Txt.b__law_pick : Binds K T.d__law_pick ["_law_deck_here", "_law_items"] [] :=
  T.F__law_pick.binds fun _ _ _ _ _ _ us hl => match us, hl with | [_, _], _ => rfl
theorem Txt.b__law_names : Binds K T.d__law_names ["_law_deck_here", "_law_many"] [] :=
  T.F__law_names.binds fun _ _ _ _ _ _ us hl => match us, hl with | [_, _], _ => rfl
theorem Txt.b__law_tags : Binds K T.d__law_tags ["_law_deck_here"] [] :=
  T.F__law_tags.binds fun _ _ _ _ _ _ us hl => match us, hl with | [_], _ => rfl
theorem Txt.b__law_is_name : Binds K T.d__law_is_name ["_law_it"] [] :=
  T.F__law_is_name.binds fun _ _ _ _ _ _ us hl => match us, hl with | [_], _ => rfl
theorem Txt.b__law_is_entry : Binds K T.d__law_is_entry ["_law_it"] [] :=
  T.F__law_is_entry.binds fun _ _ _ _ _ _ us hl => match us, hl with | [_], _ => rfl
theorem Txt.b__law_is_signature : Binds K T.d__law_is_signature ["_law_it"] [] :=
  T.F__law_is_signature.binds fun _ _ _ _ _ _ us hl => match us, hl with | [_], _ => rfl
theorem Txt.b__law_bent : Binds K T.d__law_bent ["_law_deck_here", "_law_it"] [] :=
  T.F__law_bent.binds fun _ _ _ _ _ _ us hl => match us, hl with | [_, _], _ => rfl
theorem Txt.b__law_signature_right : Binds K T.d__law_signature_right ["_law_it"] [] :=
  T.F__law_signature_right.binds fun _ _ _ _ _ _ us hl => match us, hl with | [_], _ => rfl
theorem Txt.b__law_name_right : Binds K T.d__law_name_right ["_law_it"] [] :=
  T.F__law_name_right.binds fun _ _ _ _ _ _ us hl => match us, hl with | [_], _ => rfl
theorem Txt.b_law : Binds K T.d_law ["_law_script"] [] :=
  T.F_law.binds fun _ _ _ _ _ _ us hl => match us, hl with | [_], _ => rfl
end
end L01
set_option Elab.async false
set_option linter.all false
set_option maxRecDepth 100000
set_option maxHeartbeats 1000000
namespace L01
open PySem PySem.Spec PyProof.Rows L2 KD
section
variable {P : Program} {w : World} {K : PySem.W.Frag} {mg : Str → Option Value} {base : Heap}
/-! ### mirrors -/
abbrev letters : Str := "abcdefghijklmnopqrstuvwxyz"
def inLet : PyData → Bool
  | .str s => s.cps.toList.all fun c => decide (c ∈ letters.cps.toList)
  | _ => false
def nameS (s : Str) : Bool := (decide ((1 : Int) ≤ s.length) && decide ((s.length : Int) ≤ 8)) && (sgns s).all inLet
def isNameD : PyData → Bool
  | .str s => nameS s
  | _ => false
def isIndexD (n : Int) : PyData → Bool
  | .int i => decide (0 ≤ i) && decide (i < n)
  | _ => false
def isPairD : PyData → Bool
  | .tuple xs => decide ((xs.length : Int) = 2)
  | _ => false
def isCountD : PyData → Bool
  | .tuple [t, c] => isNameD t && (!(eqD t (.str "void")) && isIndexD 4 c)
  | _ => false
def tagS : PyData → Str
  | .tuple (.str s :: _) => s
  | _ => ""
def ltS (a b : Str) : Bool := decide (a.cps.toList < b.cps.toList)
def risesAt (xs : List PyData) (i : Nat) : Bool := match xs[i]?, xs[i + 1]? with
  | some a, some b => ltS (tagS a) (tagS b)
  | _, _ => true
def isSigD : PyData → Bool
  | .tuple xs => xs.all isCountD && (List.range (xs.length - 1)).all (risesAt xs)
  | _ => false

theorem find_neg (z : Str) (c : Nat) : decide (Txt.find z ⟨#[c]⟩ < 0) = !decide (c ∈ z.cps.toList) := by
  have h := PySem.StrLaws.found_one z c
  unfold Txt.find
  cases e : Builtin.Str.occurrences z ⟨#[c]⟩ 0 z.length 1 with
  | nil => rw [e] at h; rw [← h]; rfl
  | cons i r =>
    rw [e] at h; rw [← h]
    simp
theorem empty_filter {α : Type} (p : α → Bool) : ∀ xs : List α, (xs.filter fun x => !(p x)).isEmpty = xs.all p
  | [] => rfl
  | x :: xs => by
    rw [List.filter_cons, List.all_cons, ← empty_filter p xs]
    cases p x <;> simp
theorem of_count {d : PyData} (h : isCountD d = true) : ∃ a c, d = .tuple [.str a, c] := by
  cases d with
  | tuple ys => match ys, h with
    | [t, c], h1 =>
      have h2 := (Bool.and_eq_true_iff.mp (show (isNameD t && (!(eqD t (.str "void")) && isIndexD 4 c)) = true from h1)).1
      cases t <;> first | exact ⟨_, _, rfl⟩ | cases h2
    | [], h1 => cases h1
    | [_], h1 => cases h1
    | _ :: _ :: _ :: _, h1 => cases h1
  | _ => cases h
theorem ok_is_number (T : Txt K mg) : FnG P w K mg base CX0 1 T.a_is_number T.d_is_number ["thing"]
    (spP K 1 (fun _ => True) fun ds => .bool (ds.all isNumD)) := by
  refine okP T.F_is_number sc_is_number rfl fun cdv A out s H vs E G ds hr hq hl da _ => ?_
  cases da with | nil => cases hl | cons x0 da => ?_
  cases da with | cons _ _ => cases hl | nil => ?_
  rename_i v d
  refine ⟨_, (pss_one (ps_ret (pe_and (pe_callB (call_isiK' K) (by rfl) T.m_isinstance (by decide +kernel) (pa_cons (pv 0) (pa_cons (pe_bltn (v := .ty "int") (u := .type "int") (by rfl) T.m_int (by decide +kernel) rfl) pa_nil))) (pe_one (pe_not (pe_callB (call_isiK' K) (by rfl) T.m_isinstance (by decide +kernel) (pa_cons (pv 0) (pa_cons (pe_bltn (v := .ty "bool") (u := .type "bool") (by rfl) T.m_bool (by decide +kernel) rfl) pa_nil)))))))), ?_⟩
  refine (r_ret (e_and (e_isi (e_var rfl x0) (k_int _)) fun _ => e_not (e_isi (e_var rfl x0) (k_bool _)))).is ?_
  cases d <;> rfl
def isNatD : PyData → Bool
  | .int i => decide (0 ≤ i)
  | _ => false
def isRowOfD (n : Int) : PyData → Bool
  | .tuple xs => decide ((xs.length : Int) = n)
  | _ => false
theorem ok_is_natural (T : Txt K mg) : FnG P w K mg base CX0 2 T.a_is_natural T.d_is_natural ["thing"]
    (spP K 1 (fun _ => True) fun ds => .bool (ds.all isNatD)) := by
  have G_is_number := ok_is_number (P := P) (w := w) (base := base) T
  refine okP T.F_is_natural sc_is_natural rfl fun cdv A out s H vs E G ds hr hq hl da _ => ?_
  cases da with | nil => cases hl | cons x0 da => ?_
  cases da with | cons _ _ => cases hl | nil => ?_
  rename_i v d
  refine ⟨_, (pss_one (ps_ret (pe_and (pe_g G_is_number hr hq (by rfl) T.g_is_number T.F_is_number.kp T.b_is_number .nil pass0 (pa_cons (pv 0) pa_nil)) (pe_one (pe_cmpR op_ge (pv 0) pe_int (nomark _)))))), ?_⟩
  refine (r_ret (e_and (a := isNumD d) (b := isNatD d) ((e_call (a_cons (e_var rfl x0) a_nil) rfl trivial).is (by simp)) fun h => ?_)).is ?_
  · obtain ⟨i, rfl⟩ := of_isNum h
    exact e_op (e_var rfl x0) e_int (o_I0 fun _ => .bl _)
  · cases d <;> simp [isNatD, isNumD]
theorem ok_is_index (T : Txt K mg) : FnG P w K mg base CX0 3 T.a_is_index T.d_is_index ["thing", "size"]
    (spP K 2 (fun ds => ∃ d n, ds = [d, .int n]) fun ds => match ds with | [d, .int n] => .bool (isIndexD n d) | _ => .none) := by
  have G_is_natural := ok_is_natural (P := P) (w := w) (base := base) T
  refine okP T.F_is_index sc_is_index rfl fun cdv A out s H vs E G ds hr hq hl da hp => ?_
  obtain ⟨d, n, rfl⟩ := hp
  cases da with | cons x0 da => ?_
  cases da with | cons x1 da => ?_
  cases da
  refine ⟨_, (pss_one (ps_ret (pe_and (pe_g G_is_natural hr hq (by rfl) T.g_is_natural T.F_is_natural.kp T.b_is_natural .nil pass0 (pa_cons (pv 0) pa_nil)) (pe_one (pe_cmpR op_lt (pv 0) (pv 1) (nomark _)))))), ?_⟩
  refine (r_ret (e_and (a := isNatD d) (b := isIndexD n d) ((e_call (a_cons (e_var rfl x0) a_nil) rfl trivial).is (by simp)) fun h => ?_)).is ?_
  · obtain ⟨i, rfl⟩ : ∃ i, d = .int i := by cases d <;> first | exact ⟨_, rfl⟩ | cases h
    have h0 : 0 ≤ i := of_decide_eq_true h
    exact (e_op (e_var rfl x0) (e_var rfl x1) (o_I0 fun _ => .bl _)).is (by simp [isIndexD, h0])
  · cases d <;> simp [isIndexD, isNatD]
    try (intro h1 h2; exact h1)
theorem ok_is_row_of (T : Txt K mg) : FnG P w K mg base CX0 1 T.a_is_row_of T.d_is_row_of ["thing", "size"]
    (spP K 2 (fun ds => ∃ d n, ds = [d, .int n]) fun ds => match ds with | [d, .int n] => .bool (isRowOfD n d) | _ => .none) := by
  refine okP T.F_is_row_of sc_is_row_of rfl fun cdv A out s H vs E G ds hr hq hl da hp => ?_
  obtain ⟨d, n, rfl⟩ := hp
  cases da with | cons x0 da => ?_
  cases da with | cons x1 da => ?_
  cases da
  refine ⟨_, (pss_one (ps_ret (pe_and (pe_callB (call_isiK' K) (by rfl) T.m_isinstance (by decide +kernel) (pa_cons (pv 0) (pa_cons (pe_bltn (v := .ty "tuple") (u := .type "tuple") (by rfl) T.m_tuple (by decide +kernel) rfl) pa_nil))) (pe_one (pe_cmpR op_eq (pe_callB (call_lenK K) (by rfl) T.m_len PySem.boot_len (pa_cons (pv 0) pa_nil)) (pv 1) (nomark _)))))), ?_⟩
  refine (r_ret (e_and (a := isTupD d) (b := isRowOfD n d) (e_isi (e_var rfl x0) (k_tuple _)) fun h => ?_)).is ?_
  · obtain ⟨xs, rfl⟩ := of_isTup h
    exact e_op (e_cb (a_cons (e_var rfl x0) a_nil) q_lenT) (e_var rfl x1) (o_eq rfl)
  · cases d <;> simp [isRowOfD, isTupD]
theorem ok_is_pair (T : Txt K mg) : FnG P w K mg base CX0 2 T.a_is_pair T.d_is_pair ["thing"]
    (spP K 1 (fun _ => True) fun ds => .bool (ds.all isPairD)) := by
  have G_is_row_of := ok_is_row_of (P := P) (w := w) (base := base) T
  refine okP T.F_is_pair sc_is_pair rfl fun cdv A out s H vs E G ds hr hq hl da _ => ?_
  cases da with | nil => cases hl | cons x0 da => ?_
  cases da with | cons _ _ => cases hl | nil => ?_
  rename_i v d
  refine ⟨_, (pss_one (ps_ret (pe_g G_is_row_of hr hq (by rfl) T.g_is_row_of T.F_is_row_of.kp T.b_is_row_of .nil pass0 (pa_cons (pv 0) (pa_cons pe_int pa_nil))))), ?_⟩
  refine (r_ret (e_call (a_cons (e_var rfl x0) (a_cons e_int a_nil)) rfl ⟨_, _, rfl⟩)).is ?_
  show PyData.bool (isRowOfD 2 d) = _
  cases d <;> simp [isRowOfD, isPairD]
theorem ok_is_name (T : Txt K mg) : FnG P w K mg base CX0 1 T.a_is_name T.d_is_name ["thing"]
    (spP K 1 (fun ds => ds.all fit = true) fun ds => .bool (ds.all isNameD)) := by
  refine okP T.F_is_name sc_is_name rfl fun cdv A out s H vs E G ds hr hq hl da hp => ?_
  cases da with | nil => cases hl | cons x0 da => ?_
  cases da with | cons _ _ => cases hl | nil => ?_
  rename_i v d
  refine ⟨_, (pss_cons (ps_if (PW.pt (pw_or (pt_not (pt_val (pe_callB (call_isiK' K) (by rfl) T.m_isinstance (by decide +kernel) (pa_cons (pv 0) (pa_cons (pe_bltn (v := .ty "str") (u := .type "str") (by rfl) T.m_str (by decide +kernel) rfl) pa_nil))))) (pw_or1 (pt_not (pt_chain op_le op_le pe_int (pe_callB call_len_str (by rfl) T.m_len PySem.boot_len (pa_cons (pv 0) pa_nil)) (pe_glob (by rfl) T.c_LONGEST_NAME.1 T.c_LONGEST_NAME.2))))))
    (pss_one (ps_ret pe_bl))
    pss_nil)
    (pss_one (ps_ret (pe_callB (cr_allK K rfl) (by rfl) T.m_all (by decide +kernel) (pa_cons (pe_lc (own := [("letter", 1)]) (g := gName 1) (tt := tYes) rfl sc_is_name.nd  (pi_str (pv 0)) (blkOk_by (N := N_is_name) (sc := defScope s_is_name) (by decide +kernel)) (fun _ _ _ _ _ => (pg_name (i := 1) sc_is_name.nd rfl (.inl rfl))) (fun _ _ _ _ _ => pts_nil) (fun _ _ _ _ _ => (pe_cmpR op_in_sign (pv 1) (pe_glob (by rfl) T.c_LETTERS.1 T.c_LETTERS.2) rfl))) pa_nil))))), ?_⟩
  cases hs : isStrD d with
  | false =>
    refine (r_guard1 (t_or1 ((t_not (t_val (e_isi (e_var rfl x0) (k_str _)))).is (by rw [hs]; rfl))) (r_ret e_bl)).is ?_
    cases d <;> first | rfl | cases hs
  | true =>
    obtain ⟨z, rfl⟩ := of_isStr hs
    have hz : z.length ≤ 100000 := fit_str (by simpa using hp)
    refine (r_guard (t_or0 (t_not (t_val (e_isi (e_var rfl x0) (k_str _)))) (t_not (t_test (e_chain e_int (e_cb (a_cons (e_var rfl x0) a_nil) (c_lenS (by omega)))
      (o_I0 fun _ => .bl _) (fun _ => e_int) fun _ => o_I0 fun _ => .bl _)))) (fun _ => r_ret e_bl) fun _ => r_ret (e_all1 (f := inLet) (i_str (e_var rfl x0)) (by rw [sgns_length]; exact hz)
        fun d hd F' v' ef dv => ?_)).is ?_
    · obtain ⟨c, _, rfl⟩ := mem_sgns hd
      refine (e_op (e_var rfl dv) e_str o_inS).is ?_
      simp [inLet]
    · simp only [List.all_cons, List.all_nil, Bool.and_true, isNameD, nameS]
      cases (decide ((1 : Int) ≤ z.length) && decide ((z.length : Int) ≤ 8)) <;> rfl
theorem ok_is_tag_count (T : Txt K mg) : FnG P w K mg base CX0 4 T.a_is_tag_count T.d_is_tag_count ["thing"]
    (spP K 1 (fun ds => ds.all fit = true) fun ds => .bool (ds.all isCountD)) := by
  have G_is_pair := (ok_is_pair (P := P) (w := w) (base := base) T).mono (show 2 ≤ 3 by decide)
  have G_is_name := (ok_is_name (P := P) (w := w) (base := base) T).mono (show 1 ≤ 3 by decide)
  have G_is_index := ok_is_index (P := P) (w := w) (base := base) T
  refine okP T.F_is_tag_count sc_is_tag_count rfl fun cdv A out s H vs E G ds hr hq hl da hp => ?_
  cases da with | nil => cases hl | cons x0 da => ?_
  cases da with | cons _ _ => cases hl | nil => ?_
  rename_i v d
  have hu := hr.units
  refine ⟨_, (pss_cons (ps_if (pt_not (pt_val (pe_g G_is_pair hr hq (by rfl) T.g_is_pair T.F_is_pair.kp T.b_is_pair .nil pass0 (pa_cons (pv 0) pa_nil))))
    (pss_one (ps_ret pe_bl))
    pss_nil)
    (pss_cons (ps_asg (pv 0) (pg_tupK K rfl (pgs_cons (pg_name (i := 1) sc_is_tag_count.nd rfl (.inl rfl)) (pgs_cons (pg_name (i := 2) sc_is_tag_count.nd rfl (.inl rfl)) pgs_nil))))
    (pss_one (ps_ret (pe_and (pe_g G_is_name hr hq (by rfl) T.g_is_name T.F_is_name.kp T.b_is_name .nil pass0 (pa_cons (pv 1) pa_nil)) (pe_and (pe_cmpR op_ne (pv 1) (pe_glob (by rfl) T.c_VOID.1 T.c_VOID.2) (nomark _)) (pe_one (pe_g G_is_index hr hq (by rfl) T.g_is_index T.F_is_index.kp T.b_is_index .nil pass0 (pa_cons (pv 2) (pa_cons (pe_op op_add (pe_glob (by rfl) T.c_MOST_FIELDS.1 T.c_MOST_FIELDS.2) pe_int) pa_nil)))))))))), ?_⟩
  have hpair : EvE K (L2.start N_is_tag_count [v]) G (tCall (spP K 1 (fun _ => True) fun ds => .bool (ds.all isPairD)) [] E0 (tCons (tVar 0) tNil)) (.bool (isPairD d)) :=
    (e_call (a_cons (e_var rfl x0) a_nil) rfl trivial).is (by simp)
  cases hs : isPairD d with
  | false =>
    refine (r_guard1 ((t_not (t_val hpair)).is (by rw [hs]; rfl)) (r_ret e_bl)).is ?_
    simp only [List.all_cons, List.all_nil, Bool.and_true]
    cases d with
    | tuple xs => match xs with
      | [_, _] => cases hs
      | [] => rfl
      | [_] => rfl
      | _ :: _ :: _ :: _ => rfl
    | _ => rfl
  | true =>
    obtain ⟨t, c, rfl⟩ : ∃ t c, d = .tuple [t, c] := by
      cases d with
      | tuple xs =>
        have h2 : (xs.length : Int) = 2 := of_decide_eq_true hs
        match xs, h2 with
        | [a, b], _ => exact ⟨a, b, rfl⟩
        | [], h => simp at h
        | [_], h => simp at h
        | _ :: _ :: _ :: r, h => simp at h; omega
      | _ => cases hs
    have hfit := fit_tuple (by simpa using hp : fit (.tuple [t, c]) = true)
    have ft : fit t = true := fit_of_mem hfit.2 (by simp)
    refine (r_guard0 ((t_not (t_val hpair)).is (by rw [hs]; rfl)) (r_tup2 (e_var rfl x0) fun v1 v2 F1 e1 x1 x2 =>
      r_ret (e_and (a := isNameD t) (b := !(eqD t (.str "void")) && isIndexD 4 c) ((e_call (a_cons (e_var rfl x1) a_nil) rfl (by simpa using ft)).is (by simp)) fun h => ?_))).is ?_
    · obtain ⟨z, rfl⟩ : ∃ z, t = .str z := by cases t <;> first | exact ⟨_, rfl⟩ | cases h
      refine e_and (e_op (e_var rfl x1) e_str (o_ne rfl)) fun _ => ?_
      exact (e_call (a_cons (e_var rfl x2) (a_cons (e_op e_int e_int (o_I0 fun _ => .int _)) a_nil)) rfl ⟨_, _, rfl⟩).is rfl
    · simp [isCountD]
theorem eqRise {xs : List PyData} (h : xs.all isCountD = true) {i : Nat} (hi : i + 1 < xs.length) :
    ∃ a b c d, xs[i]? = some (.tuple [.str a, c]) ∧ xs[i + 1]? = some (.tuple [.str b, d]) ∧ risesAt xs i = ltS a b := by
  have go : ∀ j, j < xs.length → ∃ a c, xs[j]? = some (.tuple [.str a, c]) := by
    intro j hj
    have h1 := List.all_eq_true.mp h xs[j] (List.getElem_mem hj)
    rw [List.getElem?_eq_getElem hj]
    generalize xs[j] = d at h1
    cases d with
    | tuple ys => match ys, h1 with
      | [t, c], h1 =>
        have h2 := (Bool.and_eq_true_iff.mp (show (isNameD t && (!(eqD t (.str "void")) && isIndexD 4 c)) = true from h1)).1
        cases t <;> first | exact ⟨_, _, rfl⟩ | cases h2
      | [], h1 => cases h1
      | [_], h1 => cases h1
      | _ :: _ :: _ :: _, h1 => cases h1
    | _ => cases h1
  obtain ⟨a, c, h1⟩ := go i (by omega)
  obtain ⟨b, d, h2⟩ := go (i + 1) hi
  refine ⟨a, b, c, d, h1, h2, ?_⟩
  unfold risesAt
  rw [h1, h2]
  rfl
theorem all_same {α : Type} {f g : α → Bool} : ∀ {ns : List α}, (∀ i ∈ ns, f i = g i) → ns.all f = ns.all g
  | [], _ => rfl
  | n :: ns, h => by rw [List.all_cons, List.all_cons, h n List.mem_cons_self, all_same fun i hi => h i (List.mem_cons_of_mem _ hi)]
def ascD (xs : List Str) : Bool := (List.range (xs.length - 1)).all fun i => match xs[i]?, xs[i + 1]? with
  | some a, some b => ltS a b
  | _, _ => true
theorem ok_is_ascending (T : Txt K mg) : FnG P w K mg base CX0 1 T.a_is_ascending T.d_is_ascending ["items"]
    (spP K 1 (fun ds => ∃ ss : List Str, ds = [.list (ss.map .str)] ∧ ss.length ≤ 10000) fun ds => match ds with | [.list xs] => .bool (ascD (xs.map fun d => match d with | .str s => s | _ => "")) | _ => .none) := by
  refine okP T.F_is_ascending sc_is_ascending rfl fun cdv A out s H vs E G ds hr hq hl da hp => ?_
  obtain ⟨ss, rfl, hz⟩ := hp
  cases da with | cons x0 da => ?_
  cases da
  have hu := hr.units
  refine ⟨_, (pss_one (ps_ret (pe_callB (cr_allK K rfl) (by rfl) T.m_all (by decide +kernel) (pa_cons (pe_lc (own := [("at", 1)]) (g := gName 1) (tt := tYes) rfl sc_is_ascending.nd  (pi_range1 (by rfl) T.m_range (pa_cons (pe_op op_sub (pe_callB (call_lenK K) (by rfl) T.m_len PySem.boot_len (pa_cons (pv 0) pa_nil)) pe_int) pa_nil)) (blkOk_by (N := N_is_ascending) (sc := defScope s_is_ascending) (by decide +kernel)) (fun _ _ _ _ _ => (pg_name (i := 1) sc_is_ascending.nd rfl (.inl rfl))) (fun _ _ _ _ _ => pts_nil) (fun _ _ _ _ _ => (pe_cmpR op_lt_str (pe_ix (ix_listK K) (pv 0) (pv 1) (fun _ _ => rfl)) (pe_ix (ix_listK K) (pv 0) (pe_op op_add (pv 1) pe_int) (fun _ _ => rfl)) (nomark _)))) pa_nil)))), ?_⟩
  have at_ : ∀ {i : Nat}, i < ss.length → (ss.map PyData.str)[i]? = some (.str (ss[i]?.getD "")) := fun {i} hi => by
    rw [List.getElem?_map, List.getElem?_eq_getElem hi]; rfl
  refine (r_ret (e_all1 (f := fun d => match d with | .int i => (match ss[i.toNat]?, ss[i.toNat + 1]? with | some a, some b => ltS a b | _, _ => true) | _ => true)
        (i_range1 (a_cons (e_op (e_cb (a_cons (e_var rfl x0) a_nil) q_lenL) e_int (o_I0 fun _ => .int _)) a_nil) (by rw [List.length_map]; omega) (by rw [List.length_map]; omega)) (by simp [nums]; omega) fun d hd F' v' ef dv => ?_)).is ?_
  · obtain ⟨i, hi⟩ := List.mem_iff_getElem?.mp hd
    obtain ⟨hlt, rfl⟩ := nums_get hi
    rw [List.length_map] at hlt
    have h1 : i < ss.length := by omega
    have h2 : i + 1 < ss.length := by omega
    refine (e_op (x := .str (ss[i]?.getD "")) (y := .str (ss[i + 1]?.getD "")) (e_op (e_var rfl (x0.mono ef)) (e_var rfl dv) (o_ixL ?_)) (e_op (e_var rfl (x0.mono ef)) (e_op (e_var rfl dv) e_int (o_I0 fun _ => .int _)) (o_ixL ?_)) o_ltS).is ?_
    · simp only [Int.zero_add]; exact atI_nat (at_ h1)
    · rw [show (0 : Int) + (i : Int) + 1 = ((i + 1 : Nat) : Int) by omega]; exact atI_nat (at_ h2)
    · simp only [Int.zero_add, Int.toNat_natCast]
      rw [List.getElem?_eq_getElem h1, List.getElem?_eq_getElem h2]
      rfl
  · have e1 : (((ss.map PyData.str).length : Int) - 1).toNat = ss.length - 1 := by rw [List.length_map]; omega
    have e3 : (ss.map PyData.str).map (fun d => match d with | .str s => s | _ => "") = ss := by
      rw [List.map_map]
      exact List.map_id' ss
    show PyData.bool _ = PyData.bool (ascD ((ss.map PyData.str).map fun d => match d with | .str s => s | _ => ""))
    rw [e3, e1]
    congr 1
    unfold nums ascD
    rw [List.all_map]
    congr 1
    funext i
    simp
theorem asc_rises {xs : List PyData} (h : xs.all isCountD = true) : ascD (xs.map tagS) = (List.range (xs.length - 1)).all (risesAt xs) := by
  unfold ascD
  rw [List.length_map]
  refine all_same fun i hi => ?_
  have hi := List.mem_range.mp hi
  obtain ⟨a, b, c, d, h1, h2, h3⟩ := eqRise (i := i) h (by omega)
  rw [h3, List.getElem?_map, List.getElem?_map, h1, h2]
  rfl
theorem ok_is_signature (T : Txt K mg) : FnG P w K mg base CX0 5 T.a_is_signature T.d_is_signature ["thing"]
    (spP K 1 (fun ds => ds.all fit = true) fun ds => .bool (ds.all isSigD)) := by
  have G_is_tag_count := ok_is_tag_count (P := P) (w := w) (base := base) T
  have G_is_ascending := (ok_is_ascending (P := P) (w := w) (base := base) T).mono (show 1 ≤ 4 by decide)
  refine okP T.F_is_signature sc_is_signature rfl fun cdv A out s H vs E G ds hr hq hl da hp => ?_
  cases da with | nil => cases hl | cons x0 da => ?_
  cases da with | cons _ _ => cases hl | nil => ?_
  rename_i v d
  have hu := hr.units
  refine ⟨_, (pss_cons (ps_if (PW.pt (pw_or (pt_not (pt_val (pe_callB (call_isiK' K) (by rfl) T.m_isinstance (by decide +kernel) (pa_cons (pv 0) (pa_cons (pe_bltn (v := .ty "tuple") (u := .type "tuple") (by rfl) T.m_tuple (by decide +kernel) rfl) pa_nil))))) (pw_or1 (pt_not (pt_val (pe_callB (cr_allK K rfl) (by rfl) T.m_all (by decide +kernel) (pa_cons (pe_lc (own := [("item", 1)]) (g := gName 1) (tt := tYes) rfl sc_is_signature.nd  (pi_tupK K (pv 0)) (blkOk_by (N := N_is_signature) (sc := defScope s_is_signature) (by decide +kernel)) (fun _ _ _ _ _ => (pg_name (i := 1) sc_is_signature.nd rfl (.inl rfl))) (fun _ _ _ _ _ => pts_nil) (fun _ _ _ _ _ => (pe_g G_is_tag_count hr hq (by rfl) T.g_is_tag_count T.F_is_tag_count.kp T.b_is_tag_count .nil pass0 (pa_cons (pv 1) pa_nil)))) pa_nil)))))))
    (pss_one (ps_ret pe_bl))
    pss_nil)
    (pss_one (ps_ret (pe_g G_is_ascending hr hq (by rfl) T.g_is_ascending T.F_is_ascending.kp T.b_is_ascending .nil pass0 (pa_cons (pe_lc (own := [("tag", 2), ("_", 3)]) (g := gTup _ 2 (gCons (gName 2) (gCons (gName 3) gNil))) (tt := tYes) rfl sc_is_signature.nd  (pi_tupK K (pv 0)) (blkOk_by (N := N_is_signature) (sc := defScope s_is_signature) (by decide +kernel)) (fun _ _ _ _ _ => (pg_tupK K rfl (pgs_cons (pg_name (i := 2) sc_is_signature.nd rfl (.inl rfl)) (pgs_cons (pg_name (i := 3) sc_is_signature.nd rfl (.inl rfl)) pgs_nil)))) (fun _ _ _ _ _ => pts_nil) (fun _ _ _ _ _ => (pv 2))) pa_nil))))), ?_⟩
  cases hs : isTupD d with
  | false =>
    refine (r_guard1 (t_or1 ((t_not (t_val (e_isi (e_var rfl x0) (k_tuple _)))).is (by rw [hs]; rfl))) (r_ret e_bl)).is ?_
    cases d <;> first | rfl | cases hs
  | true =>
    obtain ⟨xs, rfl⟩ := of_isTup hs
    have hfit := fit_tuple (by simpa using hp : fit (.tuple xs) = true)
    refine (r_guard (b := !(xs.all isCountD)) (t_or0 (t_not (t_val (e_isi (e_var rfl x0) (k_tuple _)))) (t_not (t_val (e_all1 (f := isCountD) (i_tup (e_var rfl x0)) (by omega)
      fun d hd F' v' ef dv => ?_)))) (fun _ => r_ret e_bl) (y := .bool (ascD (xs.map tagS))) fun h => ?_).is ?_
    · exact (e_call (a_cons (e_var rfl dv) a_nil) rfl (by simpa using fit_of_mem hfit.2 hd)).is (by simp)
    · have hall : xs.all isCountD = true := by simpa using h
      have lst : EvE K (L2.start N_is_signature [v]) G (tLc (iTup K (tVar 0)) (gTup K 2 (gCons (gName 1) (gCons (gName 2) gNil))) tYes (tVar 1) [1, 2]) (.list ((xs.map tagS).map .str)) := by
        refine (e_lc (p := fun _ => true) (f := fun d => .str (tagS d)) (i_tup (e_var rfl x0)) (by omega) fun d hd => ?_).is ?_
        · obtain ⟨a, c, rfl⟩ := of_count (List.all_eq_true.mp hall d hd)
          refine ⟨_, g_tup2, fun F' σ' ef hP => ?_⟩
          obtain ⟨v1, w1, dv, dw, rfl⟩ := hP
          exact ⟨rfl, t_yes, fun _ => e_var rfl dv⟩
        · rw [List.filter_eq_self.mpr (fun _ _ => rfl), List.map_map]; rfl
      refine (r_ret (e_call (a_cons lst a_nil) rfl ⟨xs.map tagS, rfl, by rw [List.length_map]; omega⟩)).is ?_
      show PyData.bool (ascD (((xs.map tagS).map PyData.str).map fun d => match d with | .str s => s | _ => "")) = _
      rw [List.map_map]
      congr 2
      exact List.map_id' _
    · simp only [List.all_cons, List.all_nil, Bool.and_true, isSigD]
      cases e : xs.all isCountD
      · rfl
      · rw [asc_rises e]; rfl
/-! ### the law's own looks -/
theorem ok__law_is_name (T : Txt K mg) : FnG P w K mg base CX0 1 T.a__law_is_name T.d__law_is_name ["_law_it"]
    (spP K 1 (fun ds => ds.all fit = true) fun ds => .bool (ds.all isNameD)) := by
  refine okP T.F__law_is_name sc__law_is_name rfl fun cdv A out s H vs E G ds hr hq hl da hp => ?_
  cases da with | nil => cases hl | cons x0 da => ?_
  cases da with | cons _ _ => cases hl | nil => ?_
  rename_i v d
  have hu := hr.units
  refine ⟨_, (pss_cons (ps_if (PW.pt (pw_or (pt_not (pt_val (pe_callB (call_isiK' K) (by rfl) T.m_isinstance (by decide +kernel) (pa_cons (pv 0) (pa_cons (pe_bltn (v := .ty "str") (u := .type "str") (by rfl) T.m_str (by decide +kernel) rfl) pa_nil))))) (pw_or1 (pt_not (pt_chain op_lt op_lt pe_int (pe_callB call_len_str (by rfl) T.m_len PySem.boot_len (pa_cons (pv 0) pa_nil)) pe_int)))))
    (pss_one (ps_ret pe_bl))
    pss_nil)
    (pss_one (ps_ret (pe_cmpR (op_eqDaK K hu) (pe_lc (own := [("_law_sign", 1)]) (g := gName 1) rfl sc__law_is_name.nd  (pi_str (pv 0)) (blkOk_by (N := N__law_is_name) (sc := defScope s__law_is_name) (by decide +kernel)) (fun _ _ _ _ _ => (pg_name (i := 1) sc__law_is_name.nd rfl (.inl rfl))) (fun _ _ _ _ _ => pts_one (pt_cmpR op_lt (pe_m1 PySem.F.slot_str_find PySem.F.type_str_find mt_find pe_str (pv 1)) pe_int (nomark _))) (fun _ _ _ _ _ => (pv 1))) (pe_lst pa_nil) (nomark _))))), ?_⟩
  cases hs : isStrD d with
  | false =>
    refine (r_guard1 (t_or1 ((t_not (t_val (e_isi (e_var rfl x0) (k_str _)))).is (by rw [hs]; rfl))) (r_ret e_bl)).is ?_
    cases d <;> first | rfl | cases hs
  | true =>
    obtain ⟨z, rfl⟩ := of_isStr hs
    have hz : z.length ≤ 100000 := fit_str (by simpa using hp)
    refine (r_guard (t_or0 (t_not (t_val (e_isi (e_var rfl x0) (k_str _)))) (t_not (t_test (e_chain e_int (e_cb (a_cons (e_var rfl x0) a_nil) (c_lenS (by omega)))
      (o_I0 fun _ => .bl _) (fun _ => e_int) fun _ => o_I0 fun _ => .bl _)))) (fun _ => r_ret e_bl) fun _ => r_ret (e_op (e_lc1f (p := fun d => !(inLet d)) (f := fun d => d)
        (i_str (e_var rfl x0)) (by rw [sgns_length]; exact hz) fun d hd F' v' ef dv => ?_) (e_lst a_nil (by simp)) (o_eqDa cmpOk_nil))).is ?_
    · obtain ⟨c, _, rfl⟩ := mem_sgns hd
      refine ⟨(t_test (e_op (e_find e_str (e_var rfl dv)) e_int (o_I0 fun _ => .bl _))).is ?_, fun _ => e_var rfl dv⟩
      rw [find_neg]
      simp [inLet]
    · rw [eqv_nil, List.map_id']
      simp only [List.all_cons, List.all_nil, Bool.and_true, isNameD, nameS, empty_filter]
      have e1 : decide ((0 : Int) < z.length) = decide ((1 : Int) ≤ z.length) := by congr 1
      have e2 : decide ((z.length : Int) < 9) = decide ((z.length : Int) ≤ 8) := by
        have : ((z.length : Int) < 9) ↔ ((z.length : Int) ≤ 8) := by omega
        simp [this]
      rw [e1, e2]
      cases (decide ((1 : Int) ≤ z.length) && decide ((z.length : Int) ≤ 8)) <;> rfl
def isEntryD : PyData → Bool := isCountD
theorem ok__law_is_entry (T : Txt K mg) : FnG P w K mg base CX0 2 T.a__law_is_entry T.d__law_is_entry ["_law_it"]
    (spP K 1 (fun ds => ds.all fit = true) fun ds => .bool (ds.all isCountD)) := by
  have G__law_is_name := ok__law_is_name (P := P) (w := w) (base := base) T
  refine okP T.F__law_is_entry sc__law_is_entry rfl fun cdv A out s H vs E G ds hr hq hl da hp => ?_
  cases da with | nil => cases hl | cons x0 da => ?_
  cases da with | cons _ _ => cases hl | nil => ?_
  rename_i v d
  have hu := hr.units
  refine ⟨_, (pss_cons (ps_if (PW.pt (pw_or (pt_not (pt_val (pe_callB (call_isiK' K) (by rfl) T.m_isinstance (by decide +kernel) (pa_cons (pv 0) (pa_cons (pe_bltn (v := .ty "tuple") (u := .type "tuple") (by rfl) T.m_tuple (by decide +kernel) rfl) pa_nil))))) (pw_or (pt_cmpR op_ne (pe_callB (call_lenK K) (by rfl) T.m_len PySem.boot_len (pa_cons (pv 0) pa_nil)) pe_int (nomark _)) (pw_or (pt_not (pt_val (pe_g G__law_is_name hr hq (by rfl) T.g__law_is_name T.F__law_is_name.kp T.b__law_is_name .nil pass0 (pa_cons (pe_ix (ix_tupK K) (pv 0) pe_int (fun _ _ => rfl)) pa_nil)))) (pw_or1 (pt_cmpR op_eq (pe_ix (ix_tupK K) (pv 0) pe_int (fun _ _ => rfl)) pe_str (nomark _)))))))
    (pss_one (ps_ret pe_bl))
    pss_nil)
    (pss_one (ps_ret (pe_and (pe_callB (call_isiK' K) (by rfl) T.m_isinstance (by decide +kernel) (pa_cons (pe_ix (ix_tupK K) (pv 0) pe_int (fun _ _ => rfl)) (pa_cons (pe_bltn (v := .ty "int") (u := .type "int") (by rfl) T.m_int (by decide +kernel) rfl) pa_nil))) (pe_and (pe_not (pe_callB (call_isiK' K) (by rfl) T.m_isinstance (by decide +kernel) (pa_cons (pe_ix (ix_tupK K) (pv 0) pe_int (fun _ _ => rfl)) (pa_cons (pe_bltn (v := .ty "bool") (u := .type "bool") (by rfl) T.m_bool (by decide +kernel) rfl) pa_nil)))) (pe_one (pe_chain op_le op_le pe_int (pe_ix (ix_tupK K) (pv 0) pe_int (fun _ _ => rfl)) pe_int))))))), ?_⟩
  cases hs : isTupD d with
  | false =>
    refine (r_guard1 (t_or1 ((t_not (t_val (e_isi (e_var rfl x0) (k_tuple _)))).is (by rw [hs]; rfl))) (r_ret e_bl)).is ?_
    cases d <;> first | rfl | cases hs
  | true =>
    obtain ⟨xs, rfl⟩ := of_isTup hs
    by_cases h2 : xs.length = 2
    · obtain ⟨t, c, rfl⟩ : ∃ t c, xs = [t, c] := by
        match xs, h2 with
        | [a, b], _ => exact ⟨a, b, rfl⟩
      have hfit := fit_tuple (by simpa using hp : fit (.tuple [t, c]) = true)
      have ft : fit t = true := fit_of_mem hfit.2 (by simp)
      have en : EvE K (L2.start N__law_is_entry [v]) G _ (.bool (isNameD t)) := (e_call (E := E0) (pre := fun ds => ds.all fit = true) (fn := fun ds => .bool (ds.all isNameD)) (n := 1)
        (a_cons (e_op (e_var (i := 0) rfl x0) (e_int (i := 0)) (o_ixT (z := t) rfl)) a_nil) rfl (by simpa using ft)).is (by simp)
      refine (r_guard (b := !(isNameD t && !(eqD t (.str "void")))) (t_or0 (t_not (t_val (e_isi (e_var rfl x0) (k_tuple _)))) (t_or0 (t_test (e_op (e_cb (a_cons (e_var rfl x0) a_nil) q_lenT) e_int (o_ne rfl)))
        ((t_or (a := !(isNameD t)) (b := eqD t (.str "void")) (t_not (t_val en)) fun h => ?_).is (by cases isNameD t <;> cases eqD t (.str "void") <;> rfl)))) (fun _ => r_ret e_bl)
        fun h => r_ret (e_and (b := !(isBoolD c) && isIndexD 4 c) (e_isi (e_op (e_var rfl x0) e_int (o_ixT rfl)) (k_int c)) fun hi => e_and (b := isIndexD 4 c) (e_not (e_isi (e_op (e_var rfl x0) e_int (o_ixT rfl)) (k_bool c))) fun hb => ?_)).is ?_
      · obtain ⟨z, rfl⟩ : ∃ z, t = .str z := by cases t <;> first | exact ⟨_, rfl⟩ | cases h
        exact t_test (e_op (e_op (e_var rfl x0) e_int (o_ixT rfl)) e_str (o_eq rfl))
      · obtain ⟨i, rfl⟩ : ∃ i, c = .int i := by cases c <;> first | exact ⟨_, rfl⟩ | (simp [isBoolD] at hb; done) | (simp [isIntD] at hi; done)
        refine (e_chain e_int (e_op (e_var rfl x0) e_int (o_ixT rfl)) (o_I0 fun _ => .bl _) (fun _ => e_int) fun _ => o_I0 fun _ => .bl _).is ?_
        have : ((i : Int) ≤ 3) ↔ (i < 4) := by omega
        simp [isIndexD, this]
      · simp only [List.all_cons, List.all_nil, Bool.and_true, isCountD]
        cases isNameD t <;> cases eqD t (.str "void") <;> cases c <;> simp [isIntD, isBoolD, isIndexD]
    · refine (r_guard1 (t_or0 (t_not (t_val (e_isi (e_var rfl x0) (k_tuple _)))) (t_or1 ((t_test (e_op (e_cb (a_cons (e_var rfl x0) a_nil) q_lenT) e_int (o_ne rfl))).is ?_))) (r_ret e_bl)).is ?_
      · simp [eqD]; omega
      · simp only [List.all_cons, List.all_nil, Bool.and_true]
        match xs, h2 with
        | [], _ => rfl
        | [_], _ => rfl
        | [_, _], h => exact absurd rfl h
        | _ :: _ :: _ :: _, _ => rfl
theorem ok__law_is_signature (T : Txt K mg) : FnG P w K mg base CX0 3 T.a__law_is_signature T.d__law_is_signature ["_law_it"]
    (spP K 1 (fun ds => ds.all fit = true) fun ds => .bool (ds.all isSigD)) := by
  have G__law_is_entry := ok__law_is_entry (P := P) (w := w) (base := base) T
  refine okP T.F__law_is_signature sc__law_is_signature rfl fun cdv A out s H vs E G ds hr hq hl da hp => ?_
  cases da with | nil => cases hl | cons x0 da => ?_
  cases da with | cons _ _ => cases hl | nil => ?_
  rename_i v d
  have hu := hr.units
  refine ⟨_, (pss_cons (ps_if (PW.pt (pw_or (pt_not (pt_val (pe_callB (call_isiK' K) (by rfl) T.m_isinstance (by decide +kernel) (pa_cons (pv 0) (pa_cons (pe_bltn (v := .ty "tuple") (u := .type "tuple") (by rfl) T.m_tuple (by decide +kernel) rfl) pa_nil))))) (pw_or1 (pt_cmpR (op_neDaK K hu) (pe_lc (own := [("_law_one", 2)]) (g := gName 2) rfl sc__law_is_signature.nd  (pi_tupK K (pv 0)) (blkOk_by (N := N__law_is_signature) (sc := defScope s__law_is_signature) (by decide +kernel)) (fun _ _ _ _ _ => (pg_name (i := 2) sc__law_is_signature.nd rfl (.inl rfl))) (fun _ _ _ _ _ => pts_one (pt_not (pt_val (pe_g G__law_is_entry hr hq (by rfl) T.g__law_is_entry T.F__law_is_entry.kp T.b__law_is_entry .nil pass0 (pa_cons (pv 2) pa_nil))))) (fun _ _ _ _ _ => (pv 2))) (pe_lst pa_nil) (nomark _)))))
    (pss_one (ps_ret pe_bl))
    pss_nil)
    (pss_cons (ps_set (i := 1) sc__law_is_signature.nd rfl (.inr rfl) (pe_lc (own := [("_law_one", 2)]) (g := gName 2) (tt := tYes) rfl sc__law_is_signature.nd  (pi_tupK K (pv 0)) (blkOk_by (N := N__law_is_signature) (sc := defScope s__law_is_signature) (by decide +kernel)) (fun _ _ _ _ _ => (pg_name (i := 2) sc__law_is_signature.nd rfl (.inl rfl))) (fun _ _ _ _ _ => pts_nil) (fun _ _ _ _ _ => (pe_ix (ix_tupK K) (pv 2) pe_int (fun _ _ => rfl)))))
    (pss_one (ps_ret (pe_cmpR (op_eqDaK K hu) (pe_lc (own := [("_law_k", 3)]) (g := gName 3) rfl sc__law_is_signature.nd  (pi_range2 (by rfl) T.m_range (pa_cons pe_int (pa_cons (pe_callB (call_lenK K) (by rfl) T.m_len PySem.boot_len (pa_cons (pv 1) pa_nil)) pa_nil))) (blkOk_by (N := N__law_is_signature) (sc := defScope s__law_is_signature) (by decide +kernel)) (fun _ _ _ _ _ => (pg_name (i := 3) sc__law_is_signature.nd rfl (.inl rfl))) (fun _ _ _ _ _ => pts_one (pt_not (pt_cmpR op_lt_str (pe_ix (ix_listK K) (pv 1) (pe_op op_sub (pv 3) pe_int) (fun _ _ => rfl)) (pe_ix (ix_listK K) (pv 1) (pv 3) (fun _ _ => rfl)) (nomark _)))) (fun _ _ _ _ _ => pe_int)) (pe_lst pa_nil) (nomark _)))))), ?_⟩
  cases hs : isTupD d with
  | false =>
    refine (r_guard1 (t_or1 ((t_not (t_val (e_isi (e_var rfl x0) (k_tuple _)))).is (by rw [hs]; rfl))) (r_ret e_bl)).is ?_
    cases d <;> first | rfl | cases hs
  | true =>
    obtain ⟨xs, rfl⟩ := of_isTup hs
    have hfit := fit_tuple (by simpa using hp : fit (.tuple xs) = true)
    refine (r_guard (b := !(xs.all isCountD)) (t_or0 (t_not (t_val (e_isi (e_var rfl x0) (k_tuple _)))) ((t_test (e_op (e_lc1f (p := fun d => !(isCountD d)) (f := fun d => d)
        (i_tup (e_var rfl x0)) (by omega) fun d hd F' v' ef dv => ⟨?_, fun _ => e_var rfl dv⟩) (e_lst a_nil (by simp)) (o_neDa cmpOk_nil))).is ?_))
      (fun _ => r_ret e_bl) fun h => r_set (e_lc1 (f := fun d => .str (tagS d)) (i_tup (e_var rfl x0)) (by omega) fun d hd F' v' ef dv => ?_) fun v1 F1 e1 x1 =>
        r_ret (e_op (e_lc1f (p := fun d => match d with | .int i => !(risesAt xs (i - 1).toNat) | _ => true) (f := fun _ => .int 1)
          (i_range2 (a_cons e_int (a_cons (e_cb (a_cons (e_var rfl x1) a_nil) q_lenL) a_nil)) (by rw [List.length_map]; omega)) (by simp [nums]; omega)
            fun d hd F' v' ef dv => ⟨?_, fun _ => e_int⟩) (e_lst a_nil (by simp)) (o_eqDa cmpOk_nil))).is ?_
    · exact t_not (t_val ((e_call (a_cons (e_var rfl dv) a_nil) rfl (by simpa using fit_of_mem hfit.2 hd)).is (by simp)))
    · rw [eqv_nil, List.map_id', empty_filter]
    · have hall : xs.all isCountD = true := by simpa using h
      obtain ⟨a, c, rfl⟩ := of_count (List.all_eq_true.mp hall d hd)
      exact (e_op (e_var rfl dv) e_int (o_ixT rfl))
    · have hall : xs.all isCountD = true := by simpa using h
      obtain ⟨i, hi⟩ := List.mem_iff_getElem?.mp hd
      obtain ⟨hlt, rfl⟩ := nums_get hi
      rw [List.length_map] at hlt
      obtain ⟨a, b, c, e, h1, h2, h3⟩ := eqRise (i := i) hall (by omega)
      refine t_not ((t_test (e_op (e_op (z := .str a) (e_var rfl (x1.mono ef)) (e_op (e_var rfl dv) e_int (o_I0 fun _ => .int _)) (o_ixL ?_))
        (e_op (z := .str b) (e_var rfl (x1.mono ef)) (e_var rfl dv) (o_ixL ?_)) o_ltS)).is ?_)
      · rw [show (1 : Int) + (i : Int) - 1 = ((i : Nat) : Int) by omega]
        exact atI_nat (by rw [List.getElem?_map, h1]; rfl)
      · rw [show (1 : Int) + (i : Int) = ((i + 1 : Nat) : Int) by omega]
        exact atI_nat (by rw [List.getElem?_map, h2]; rfl)
      · show _ = risesAt xs ((1 : Int) + (i : Int) - 1).toNat
        rw [show ((1 : Int) + (i : Int) - 1).toNat = i by omega, h3]
        rfl
    · have e2 : ((nums 1 (((xs.map fun d => PyData.str (tagS d)).length : Int) - 1).toNat).filter fun d => match d with | .int i => !(risesAt xs (i - 1).toNat) | _ => true).isEmpty
          = (List.range (xs.length - 1)).all (risesAt xs) := by
        rw [List.length_map, show ((xs.length : Int) - 1).toNat = xs.length - 1 by omega]
        have e3 : (fun d : PyData => match d with | .int i => !(risesAt xs (i - 1).toNat) | _ => true) = fun d => !(match d with | .int i => risesAt xs (i - 1).toNat | _ => false) := by
          funext d; cases d <;> rfl
        rw [e3, empty_filter]
        unfold nums
        rw [List.all_map]
        congr 1
        funext i
        show risesAt xs ((1 : Int) + (i : Int) - 1).toNat = _
        rw [show ((1 : Int) + (i : Int) - 1).toNat = i by omega]
      rw [eqv_nil]
      simp only [List.all_cons, List.all_nil, Bool.and_true, isSigD]
      rw [← e2, List.isEmpty_map]
      cases xs.all isCountD <;> rfl
end
end L01
set_option Elab.async false
set_option linter.all false
set_option maxRecDepth 100000
set_option maxHeartbeats 1000000
namespace L01
open PySem PySem.Spec PyProof.Rows L2 KD
section
variable {P : Program} {w : World} {K : PySem.W.Frag} {mg : Str → Option Value} {base : Heap}
/-! ### the comparisons of the law -/
def okD (d : PyData) : Bool := fit d && repOk d
theorem boolOk (b : Bool) : repOk (.bool b) = true := by cases b <;> decide +kernel
theorem eqv_three (a b : Str) : PyData.eqv (.list [.str a, .str a, .str b]) (.list [.str a, .str a, .str b]) = true := by
  simp [PyData.eqv, PyData.eqvAll]
theorem ok__law_name_right (T : Txt K mg) : FnG P w K mg base CX0 2 T.a__law_name_right T.d__law_name_right ["_law_it"]
    (spP K 1 (fun ds => ds.all okD = true) fun _ => .bool true) := by
  have G__law_is_name := ok__law_is_name (P := P) (w := w) (base := base) T
  have G_is_name := ok_is_name (P := P) (w := w) (base := base) T
  refine okP T.F__law_name_right sc__law_name_right rfl fun cdv A out s H vs E G ds hr hq hl da hp => ?_
  cases da with | nil => cases hl | cons x0 da => ?_
  cases da with | cons _ _ => cases hl | nil => ?_
  rename_i v d
  have hu := hr.units
  have hok := Bool.and_eq_true_iff.mp (show (fit d && repOk d) = true from by simpa [okD] using hp)
  have hf : ([d] : List PyData).all fit = true := by simpa using hok.1
  refine ⟨_, (pss_cons (ps_par (i := 1) (j := 2) (by rfl) sc__law_name_right.nd rfl rfl (by decide) rfl rfl (pa_cons (pe_callB (call_reprK K hq hu) (by rfl) T.m_repr (by decide +kernel) (pa_cons (pv 0) pa_nil)) (pa_cons (pe_callB (call_reprK K hq hu) (by rfl) T.m_repr (by decide +kernel) (pa_cons (pe_g G__law_is_name hr hq (by rfl) T.g__law_is_name T.F__law_is_name.kp T.b__law_is_name .nil pass0 (pa_cons (pv 0) pa_nil)) pa_nil)) pa_nil)) (by rfl))
    (pss_one (ps_ret (pe_cmpR (op_eqDaK K hu) (pe_lst (pa_cons (pe_callB (call_reprK K hq hu) (by rfl) T.m_repr (by decide +kernel) (pa_cons (pe_g G_is_name hr hq (by rfl) T.g_is_name T.F_is_name.kp T.b_is_name .nil pass0 (pa_cons (pv 0) pa_nil)) pa_nil)) (pa_cons (pe_callB (call_reprK K hq hu) (by rfl) T.m_repr (by decide +kernel) (pa_cons (pe_kw G_is_name hr hq (by rfl) T.g_is_name T.F_is_name.kp T.kb_is_name pass0 (pk_cons (pv 0) pk_nil)) pa_nil)) (pa_cons (pe_callB (call_reprK K hq hu) (by rfl) T.m_repr (by decide +kernel) (pa_cons (pv 0) pa_nil)) pa_nil)))) (pe_lst (pa_cons (pv 2) (pa_cons (pv 2) (pa_cons (pv 1) pa_nil)))) (nomark _))))), ?_⟩
  refine (r_par (d1 := .str d.shown) (d2 := .str (PyData.bool (isNameD d)).shown) (a_cons (e_cb (a_cons (e_var rfl x0) a_nil) (c_repr hok.2)) (a_cons (e_cb (a_cons ((e_call (a_cons (e_var rfl x0) a_nil) rfl hf).is (by simp)) a_nil) (c_repr (boolOk _))) a_nil))
    fun v1 v2 F1 e1 x1 x2 => r_ret (e_op (e_lst (a_cons (e_cb (a_cons ((e_call (a_cons (e_var rfl (x0.mono e1)) a_nil) rfl hf).is (d' := .bool (isNameD d)) (by simp)) a_nil) (c_repr (boolOk _)))
      (a_cons (e_cb (a_cons ((e_kw (a_cons (e_var rfl (x0.mono e1)) a_nil) rfl hf).is (d' := .bool (isNameD d)) (by simp)) a_nil) (c_repr (boolOk _)))
      (a_cons (e_cb (a_cons (e_var rfl (x0.mono e1)) a_nil) (c_repr hok.2)) a_nil))) (by simp))
      (e_lst (a_cons (e_var rfl x2) (a_cons (e_var rfl x2) (a_cons (e_var rfl x1) a_nil))) (by simp)) (o_eqDa (by simp [cmpOk, flatD])))).is ?_
  rw [eqv_three]
theorem ok__law_signature_right (T : Txt K mg) : FnG P w K mg base CX0 6 T.a__law_signature_right T.d__law_signature_right ["_law_it"]
    (spP K 1 (fun ds => ds.all okD = true) fun _ => .bool true) := by
  have G__law_is_signature := (ok__law_is_signature (P := P) (w := w) (base := base) T).mono (show 3 ≤ 5 by decide)
  have G_is_signature := ok_is_signature (P := P) (w := w) (base := base) T
  refine okP T.F__law_signature_right sc__law_signature_right rfl fun cdv A out s H vs E G ds hr hq hl da hp => ?_
  cases da with | nil => cases hl | cons x0 da => ?_
  cases da with | cons _ _ => cases hl | nil => ?_
  rename_i v d
  have hu := hr.units
  have hok := Bool.and_eq_true_iff.mp (show (fit d && repOk d) = true from by simpa [okD] using hp)
  have hf : ([d] : List PyData).all fit = true := by simpa using hok.1
  refine ⟨_, (pss_cons (ps_par (i := 1) (j := 2) (by rfl) sc__law_signature_right.nd rfl rfl (by decide) rfl rfl (pa_cons (pe_callB (call_reprK K hq hu) (by rfl) T.m_repr (by decide +kernel) (pa_cons (pv 0) pa_nil)) (pa_cons (pe_callB (call_reprK K hq hu) (by rfl) T.m_repr (by decide +kernel) (pa_cons (pe_g G__law_is_signature hr hq (by rfl) T.g__law_is_signature T.F__law_is_signature.kp T.b__law_is_signature .nil pass0 (pa_cons (pv 0) pa_nil)) pa_nil)) pa_nil)) (by rfl))
    (pss_one (ps_ret (pe_cmpR (op_eqDaK K hu) (pe_lst (pa_cons (pe_callB (call_reprK K hq hu) (by rfl) T.m_repr (by decide +kernel) (pa_cons (pe_g G_is_signature hr hq (by rfl) T.g_is_signature T.F_is_signature.kp T.b_is_signature .nil pass0 (pa_cons (pv 0) pa_nil)) pa_nil)) (pa_cons (pe_callB (call_reprK K hq hu) (by rfl) T.m_repr (by decide +kernel) (pa_cons (pe_kw G_is_signature hr hq (by rfl) T.g_is_signature T.F_is_signature.kp T.kb_is_signature pass0 (pk_cons (pv 0) pk_nil)) pa_nil)) (pa_cons (pe_callB (call_reprK K hq hu) (by rfl) T.m_repr (by decide +kernel) (pa_cons (pv 0) pa_nil)) pa_nil)))) (pe_lst (pa_cons (pv 2) (pa_cons (pv 2) (pa_cons (pv 1) pa_nil)))) (nomark _))))), ?_⟩
  refine (r_par (d1 := .str d.shown) (d2 := .str (PyData.bool (isSigD d)).shown) (a_cons (e_cb (a_cons (e_var rfl x0) a_nil) (c_repr hok.2)) (a_cons (e_cb (a_cons ((e_call (a_cons (e_var rfl x0) a_nil) rfl hf).is (by simp)) a_nil) (c_repr (boolOk _))) a_nil))
    fun v1 v2 F1 e1 x1 x2 => r_ret (e_op (e_lst (a_cons (e_cb (a_cons ((e_call (a_cons (e_var rfl (x0.mono e1)) a_nil) rfl hf).is (d' := .bool (isSigD d)) (by simp)) a_nil) (c_repr (boolOk _)))
      (a_cons (e_cb (a_cons ((e_kw (a_cons (e_var rfl (x0.mono e1)) a_nil) rfl hf).is (d' := .bool (isSigD d)) (by simp)) a_nil) (c_repr (boolOk _)))
      (a_cons (e_cb (a_cons (e_var rfl (x0.mono e1)) a_nil) (c_repr hok.2)) a_nil))) (by simp))
      (e_lst (a_cons (e_var rfl x2) (a_cons (e_var rfl x2) (a_cons (e_var rfl x1) a_nil))) (by simp)) (o_eqDa (by simp [cmpOk, flatD])))).is ?_
  rw [eqv_three]
end
end L01
set_option Elab.async false
set_option linter.all false
set_option maxRecDepth 100000
set_option maxHeartbeats 1000000
namespace L01
open PySem PySem.Spec PyProof.Rows L2 KD
section
variable {P : Program} {w : World} {K : PySem.W.Frag} {mg : Str → Option Value} {base : Heap}
/-! ### the draws -/
theorem ok__law_deck (T : Txt K mg) : FnG P w K mg base CX0 1 T.a__law_deck T.d__law_deck ["_law_script"] (spDeck K) := by
  refine okG T.F__law_deck sc__law_deck (fun vs H Q E h => h.1) fun cdv A out s H vs Q E hr hq h => ?_
  obtain ⟨hl, a, ns, G, rfl, _⟩ := id h
  refine ⟨_, (pss_cons (ps_par (i := 1) (j := 2) (by rfl) sc__law_deck.nd rfl rfl (by decide) rfl rfl (pa_cons (pe_callTy (call_listK K) (by rfl) T.m_list (by decide +kernel) (pa_cons (pe_slice (sl_listK K) (pv 0) po_none (po_some pe_int)) pa_nil)) (pa_cons pe_int pa_nil)) (by rfl))
    (pss_cons (ps_for PassesOwn.never rfl (pi_listK K (pv 1)) (pg_name (i := 3) sc__law_deck.nd rfl (.inl rfl))
    (pss_one (ps_set (i := 2) sc__law_deck.nd rfl (.inl rfl) (pe_op op_mod (pe_op op_add (pe_op op_add (pe_op op_mul (pv 2) pe_int) (pe_op op_mod (pv 3) pe_int)) pe_int) pe_int))))
    (pss_one (ps_ret (pe_lst (pa_cons (pe_revLK K (pv 1)) (pa_cons (pv 2) (pa_cons pe_int pa_nil)))))))), ?_⟩
  exact deck_read (E0 := E) (by decide) (by decide) (by decide) (by decide) h
theorem ok__law_draw (T : Txt K mg) : FnG P w K mg base CX0 1 T.a__law_draw T.d__law_draw ["_law_deck_here", "_law_limit"] spDraw := by
  refine okG T.F__law_draw sc__law_draw (fun vs H Q E h => h.1) fun cdv A out s H vs Q E hr hq h => ?_
  obtain ⟨hl, dk, cl, lim, G, m, rfl, _⟩ := id h
  have hu := hr.units
  refine ⟨_, (pss_cons (ps_asg (pe_op op_add (pe_ix (ix_listK K) (pv 0) pe_int (fun _ _ => rfl)) pe_int) (pg_sub (pv 0) pe_int set_list))
    (pss_cons (ps_set (i := 2) sc__law_draw.nd rfl (.inl rfl) (pe_ix (ix_listK K) (pv 0) pe_int (fun _ _ => rfl)))
    (pss_cons (ps_if (pt_cmpR (op_neDaK K hu) (pe_ix (ix_listK K) (pv 0) pe_int (fun _ _ => rfl)) (pe_lst pa_nil) (nomark _))
    (pss_cons (ps_set (i := 2) sc__law_draw.nd rfl (.inl rfl) (pe_bm0 PySem.F.plainAttrs_list PySem.F.slot_list_pop PySem.F.type_list_pop mt_pop (pe_ix (ix_listK K) (pv 0) pe_int (fun _ _ => rfl))))
    (pss_cons (ps_if (pt_cmpR op_ge (pv 2) (pe_op op_pow pe_int pe_int) (nomark _))
    (pss_cons (ps_expr (pe_bm PySem.F.plainAttrs_list PySem.F.slot_list_append PySem.F.type_list_append mt_append (pe_ix (ix_listK K) (pv 0) pe_int (fun _ _ => rfl)) (pa_cons (pe_op op_fdiv (pv 2) (pv 1)) pa_nil)))
    (pss_one (ps_ret (pe_op op_mod (pv 2) (pv 1)))))
    pss_nil)
    (pss_one (ps_set (i := 2) sc__law_draw.nd rfl (.inl rfl) (pe_op op_add (pv 2) (pe_ix (ix_listK K) (pv 0) pe_int (fun _ _ => rfl)))))))
    pss_nil)
    (pss_cons (ps_set (i := 3) sc__law_draw.nd rfl (.inl rfl) (pe_op op_mod (pe_op op_mul (pe_op op_add (pe_op op_add (pe_op op_mod (pv 2) pe_int) (pe_op op_mul (pe_op op_mul pe_int (pe_ix (ix_listK K) (pv 0) pe_int (fun _ _ => rfl))) (pe_ix (ix_listK K) (pv 0) pe_int (fun _ _ => rfl)))) pe_int) pe_int) pe_int))
    (pss_cons (ps_set (i := 3) sc__law_draw.nd rfl (.inl rfl) (pe_op op_mod (pe_op op_add (pe_op op_add (pe_op op_mul (pv 3) (pv 3)) (pe_op op_mul pe_int (pe_ix (ix_listK K) (pv 0) pe_int (fun _ _ => rfl)))) pe_int) pe_int))
    (pss_one (ps_ret (pe_op op_mod (pe_op op_fdiv (pe_op op_mod (pe_op op_add (pe_op op_mul (pv 3) (pv 3)) (pe_op op_mul pe_int (pv 3))) pe_int) pe_int) (pv 1))))))))), ?_⟩
  exact draw_read (E0 := E) (last1 (by decide) (by decide) (by decide) (by decide) (by decide) (by decide) (by decide) (by decide) (by decide)) h
theorem ok__law_pick (T : Txt K mg) : FnG P w K mg base CX0 2 T.a__law_pick T.d__law_pick ["_law_deck_here", "_law_items"] (spPick K) := by
  have G__law_draw := ok__law_draw (P := P) (w := w) (base := base) T
  refine okG T.F__law_pick sc__law_pick (fun vs H Q E h => h.1) fun cdv A out s H vs Q E hr hq h => ?_
  obtain ⟨hl, dk, cl, a, ds, G, m, rfl, _⟩ := id h
  refine ⟨_, (pss_one (ps_ret (pe_ix (ix_listK K) (pv 1) (pe_g G__law_draw hr hq (by rfl) T.g__law_draw T.F__law_draw.kp T.b__law_draw .nil pass0 (pa_cons (pv 0) (pa_cons (pe_callB (call_lenK K) (by rfl) T.m_len PySem.boot_len (pa_cons (pv 1) pa_nil)) pa_nil))) (fun _ _ => rfl)))), ?_⟩
  exact pick_read (E0 := E) h
end
end L01
set_option Elab.async false
set_option linter.all false
set_option maxRecDepth 100000
set_option maxHeartbeats 1000000
namespace L01
open PySem PySem.Spec PyProof.Rows L2 KD
section
variable {P : Program} {w : World} {K : PySem.W.Frag} {mg : Str → Option Value} {base : Heap}
/-! ### drawn names and signatures -/
structure SN (n : Nat) (s : Str) : Prop where
  l : s.length ≤ n
  c : ∀ c ∈ s.cps.toList, c < 128
theorem SN.mono {n m : Nat} {s : Str} (h : SN n s) (hm : n ≤ m) : SN m s := ⟨Nat.le_trans h.l hm, h.c⟩
theorem SN.app {n m : Nat} {s t : Str} (h : SN n s) (h2 : SN m t) : SN (n + m) (s ++ t) := by
  refine ⟨by rw [strLen_append]; exact Nat.add_le_add h.l h2.l, fun c hc => ?_⟩
  have e : (s ++ t).cps.toList = s.cps.toList ++ t.cps.toList := by
    show (s.cps ++ t.cps).toList = _
    rw [Array.toList_append]
  rw [e] at hc
  rcases List.mem_append.mp hc with hc | hc
  · exact h.c c hc
  · exact h2.c c hc
def snB (n : Nat) (s : Str) : Bool := decide (s.length ≤ n) && s.cps.toList.all fun c => decide (c < 128)
theorem SN.of {n : Nat} {s : Str} (h : snB n s = true) : SN n s := by
  have := Bool.and_eq_true_iff.mp h
  exact ⟨of_decide_eq_true this.1, fun c hc => of_decide_eq_true (List.all_eq_true.mp this.2 c hc)⟩
theorem SN.cut {n : Nat} {s : Str} (h : SN n s) (lo hi : Option Int) : SN n (cutS s lo hi) := by
  refine ⟨?_, fun c hc => h.c c ?_⟩
  · show (Array.size _) ≤ n
    rw [show (cutS s lo hi).cps = ((s.cps.toList.drop (HT.sIx s.length 0 lo)).take (HT.sIx s.length s.length hi - HT.sIx s.length 0 lo)).toArray from rfl, List.size_toArray, List.length_take, List.length_drop, Array.length_toList]
    have := h.l
    have e : s.cps.size = s.length := rfl
    omega
  · have e : (cutS s lo hi).cps.toList = (s.cps.toList.drop (HT.sIx s.length 0 lo)).take (HT.sIx s.length s.length hi - HT.sIx s.length 0 lo) := rfl
    rw [e] at hc
    exact List.mem_of_mem_drop (List.mem_of_mem_take hc)
theorem SN.sign {c : Nat} (h : c < 128) : SN 1 ⟨#[c]⟩ := ⟨Nat.le_refl _, fun d hd => by simp at hd; omega⟩
theorem SN.sml {n : Nat} {s : Str} (h : SN n s) (hn : n ≤ 100000) : Sml n 0 (.str s) := sml_str h.l hn fun c hc => Nat.lt_trans (h.c c hc) (by decide)
def spNames (K : PySem.W.Frag) : Sp := fun vs H Q _ => vs.length = 2 ∧ ∃ (dk cl : Addr) (many : Int) (G : Hp) (m : Nat), vs = [.ref dk, .int many] ∧ Ex G H ∧ Deck G H dk cl m ∧ m ≤ 999999000 ∧ 0 ≤ many ∧ many ≤ 6 ∧
  ∀ (v : V) (ss : List Str) (G' H' : Hp), UpM dk cl G H G' H' → Deck G' H' dk cl (m + 2) → ss.length = many.toNat → (∀ s ∈ ss, SN 9 s) → Da K G' v (.list (ss.map .str)) → Q v H'
theorem strs_of {G : Hp} : ∀ {ss : List Str} {acc : List V}, DaAll K G acc (ss.map .str) → acc = ss.map V.str
  | [], _, h => by cases h; rfl
  | s :: ss, _, h => by
    cases h with
    | cons h1 h2 => cases h1; rw [strs_of h2]; rfl
abbrev words : List Str := Txt.split "case part tag call ask same is not both either yes no and or none one root union take" " " ++ Txt.split "never number plus least most make test gather else rank tags voids" " "
theorem words_ok : (words.all (snB 9) && decide (words.length = 31)) = true := by decide +kernel
theorem letters_ok : (decide (letters.cps.toList.length = 26) && letters.cps.toList.all fun c => decide (c < 128)) = true := by decide +kernel
theorem at_some {α : Type} {xs : List α} {i : Int} (h0 : 0 ≤ i) (h1 : i < xs.length) : ∃ x, atI xs i = some x ∧ x ∈ xs := by
  have hi : i.toNat < xs.length := by omega
  refine ⟨xs[i.toNat], ?_, List.getElem_mem hi⟩
  have := atI_nat (List.getElem?_eq_getElem hi)
  rw [Int.toNat_of_nonneg h0] at this
  exact this
theorem tpar3_of {dk cl : Addr} {σ : L2.St} {F : Hp} {m m' : Nat} {ta : TA} {PA : List PyData → Prop} {i j l : Nat} {u : TS} {D : Ends} {G H : Hp} (h : AvN K dk cl σ F m ta m' PA) (e1 : Ex F G) (e2 : Ex G H) (hD : Deck G H dk cl m)
    (q : ∀ x y z ds G' H', UpM dk cl G H G' H' → Deck G' H' dk cl m' → PA ds → DaAll K G' [x, y, z] ds → u D (((σ.set i (some x)).set j (some y)).set l (some z)) H')
    (hn : ∀ ds, PA ds → ds.length = 3 := by rintro _ ⟨_, _, _, ⟨_, _, _, ⟨_, _, _, rfl, rfl⟩, rfl⟩, rfl⟩; rfl) :
    tSeq (tPar3 i j l ta) u D σ H := h G H e1 e2 hD _ fun vs ds G1 H1 u1 hD1 hp hd => by
  have hl : vs.length = 3 := by rw [hd.length]; exact hn ds hp
  match vs, hl with
  | [x, y, z], _ => exact ⟨x, y, z, rfl, q x y z ds G1 H1 u1 hD1 hp hd⟩
theorem ev_go {σ : L2.St} {G H : Hp} {te : TE} {d : PyData} {Q : VK} (h : EvE K σ G te d) (e : Ex G H) (q : ∀ v G' H', Up G H G' H' → Da K G' v d → Q v H') : te σ H Q :=
  h G H (Ex.rf _) e Q q
theorem _root_.KD.UpM.put {dk cl L : Addr} {G H G' H' : Hp} {o : HO} (u : UpM dk cl G H G' H') (hL : H L = none) (gl : G' L = none) : UpM dk cl G H G' (upd H' L o) :=
  ⟨u.g, fun b p e => by rw [upd_ne (ne_of_none e gl)]; exact u.h b p e, fun b p h1 h2 e => by rw [upd_ne (ne_of_none e hL)]; exact u.m b p h1 h2 e, u.n, fun b hb => by
    by_cases z : b = L
    · rw [z, upd_same]; simp
    · rw [upd_ne z]; exact u.t b hb⟩
theorem _root_.KD.Deck.put {dk cl L : Addr} {G H : Hp} {o : HO} {m : Nat} (d : Deck G H dk cl m) (h1 : L ≠ dk) (h2 : L ≠ cl) : Deck G (upd H L o) dk cl m := by
  obtain ⟨cs, t, n, a1, a2, a3⟩ := d.ex
  exact ⟨d.ne, d.gd, d.gc, cs, t, n, by rw [upd_ne h1.symm]; exact a1, by rw [upd_ne h2.symm]; exact a2, a3⟩
theorem _root_.KD.ListAt.put {L : Addr} {ds : List PyData} {G H : Hp} {acc : List V} {v : V} {d : PyData} (l : ListAt K L ds G H) (_ : H L = some (.lst acc)) (da : DaAll K G acc ds) (h : Da K G v d) : ListAt K L (ds ++ [d]) G (upd H L (.lst (acc ++ [v]))) :=
  ⟨l.gl, _, upd_same, da.append (.cons h .nil)⟩
theorem small2 {a b x y : Nat} (h1 : x ≤ a) (h2 : y ≤ b) (h : a + b ≤ 1000000 := by decide) : x + y ≤ 1000000 := Nat.le_trans (Nat.add_le_add h1 h2) h
theorem elem_ix {σ : L2.St} {F : Hp} {te tj : TE} {ds : List PyData} {i : Int} (h1 : EvE K σ F te (.list ds)) (h2 : EvE K σ F tj (.int i)) (h0 : 0 ≤ i) (hi : i < ds.length)
    (hs : ∀ d ∈ ds, ∃ s, SN 9 s ∧ d = .str s) : ∃ s, SN 9 s ∧ EvE K σ F (tOp (rIxL K) te tj) (.str s) := by
  obtain ⟨d, hd, hm⟩ := at_some h0 hi
  obtain ⟨s, s9, rfl⟩ := hs d hm
  exact ⟨s, s9, e_op h1 h2 (o_ixL hd)⟩
theorem elem_of {σ : L2.St} {F G H : Hp} {te : TE} {Q : VK} (h : ∃ s, SN 9 s ∧ EvE K σ F te (.str s)) (e1 : Ex F G) (e2 : Ex G H)
    (q : ∀ s G' H', SN 9 s → Up G H G' H' → Q (.str s) H') : te σ H Q := by
  obtain ⟨s, s9, he⟩ := h
  exact he G H e1 e2 Q fun v G' H' u d => by cases d; exact q s G' H' s9 u
theorem ok__law_names (T : Txt K mg) : FnG P w K mg base CX0 2 T.a__law_names T.d__law_names ["_law_deck_here", "_law_many"] (spNames K) := by
  have G__law_draw := ok__law_draw (P := P) (w := w) (base := base) T
  refine okG T.F__law_names sc__law_names (fun vs H Q E h => h.1) fun cdv A out s H vs Q E hr hq h => ?_
  obtain ⟨_, dk, cl, many, G, m, rfl, eg, hD, hm, m0, m1, q⟩ := h
  refine ⟨_, (pss_cons (ps_par3 (i := 2) (j := 3) (l := 4) (by rfl) sc__law_names.nd rfl rfl rfl (by decide) (by decide) (by decide) rfl rfl rfl (pa_cons pe_str (pa_cons (pe_g G__law_draw hr hq (by rfl) T.g__law_draw T.F__law_draw.kp T.b__law_draw .nil pass0 (pa_cons (pv 0) (pa_cons pe_int pa_nil))) (pa_cons (pe_g G__law_draw hr hq (by rfl) T.g__law_draw T.F__law_draw.kp T.b__law_draw .nil pass0 (pa_cons (pv 0) (pa_cons pe_int pa_nil))) pa_nil))) (by rfl))
    (pss_cons (ps_set (i := 5) sc__law_names.nd rfl (.inl rfl) (pe_split pe_str pe_str))
    (pss_cons (ps_set (i := 5) sc__law_names.nd rfl (.inl rfl) (pe_op op_cat (pv 5) (pe_split pe_str pe_str)))
    (pss_cons (ps_set (i := 6) sc__law_names.nd rfl (.inl rfl) (pe_lst pa_nil))
    (pss_cons (ps_for PassesOwn.never rfl (pi_range1 (by rfl) T.m_range (pa_cons (pv 1) pa_nil)) (pg_name (i := 7) sc__law_names.nd rfl (.inl rfl))
    (pss_cons (ps_set (i := 8) sc__law_names.nd rfl (.inl rfl) (pe_ix ix_str (pv 2) (pe_op op_mod (pe_op op_add (pv 4) (pe_op op_mul pe_int (pv 7))) pe_int) (fun _ _ => rfl)))
    (pss_one (ps_expr (pe_bm PySem.F.plainAttrs_list PySem.F.slot_list_append PySem.F.type_list_append mt_append (pv 6) (pa_cons (pe_ix (ix_listK K) (pe_lst (pa_cons (pv 8) (pa_cons (pe_ix (ix_listK K) (pv 5) (pe_op op_mod (pe_op op_add (pv 4) (pe_op op_mul pe_int (pv 7))) pe_int) (fun _ _ => rfl)) (pa_cons (pe_ifExp (pt_cmpR op_lt (pv 7) pe_int (nomark _)) (pe_slice sl_str pe_str po_none (po_some (pe_op op_add pe_int (pe_op op_mod (pv 7) pe_int)))) (pe_op op_add_str (pv 8) (pe_slice sl_str pe_str po_none (po_some pe_int)))) (pa_cons (pe_op op_add_str pe_str (pv 8)) pa_nil))))) (pv 3) (fun _ _ => rfl)) pa_nil))))))
    (pss_one (ps_ret (pe_callB (cr_sortedSK K) (by rfl) T.m_sorted (by decide +kernel) (pa_cons (pv 6) pa_nil))))))))), ?_⟩
  -- letters, way, first
  refine tpar3_of (K := K) (an_cons (P1 := fun d => d = .str letters) (n_pure e_str) fun _ _ => an_cons (n_draw (i0 := 0) (lim := 4) rfl e_int (by decide) (by decide) (by omega)) fun _ _ =>
    an_cons (n_draw (i0 := 0) (lim := 26) rfl e_int (by decide) (by decide) (by omega)) fun _ _ => an_nil) (Ex.rf _) eg hD fun u v w ds G1 H1 u1 hD1 hp hd => ?_
  obtain ⟨_, _, rfl, ⟨_, _, ⟨way, rfl, w0, w1⟩, ⟨_, _, ⟨fst, rfl, f0, f1⟩, rfl, rfl⟩, rfl⟩, rfl⟩ := hp
  cases hd with | cons a1 hd => ?_
  cases hd with | cons a2 hd => ?_
  cases hd with | cons a3 hd => ?_
  cases hd; cases a1; cases a2; cases a3
  show tSeq _ _ _ [some (.ref dk), some (.int many), some (.str letters), some (.int way), some (.int fst), none, none, none, none] H1
  -- words
  refine ev_go (K := K) (e_split e_str e_str (by decide +kernel) (by decide +kernel)) u1.h fun v5 G2 H2 u2 x5 => ?_
  refine ev_go (K := K) (e_op (e_var (i := 5) (v := v5) rfl x5) (e_split e_str e_str (by decide +kernel) (by decide +kernel)) (o_cat (by decide +kernel))) u2.h fun v5' G3 H3 u3 x5' => ?_
  rw [← List.map_append] at x5'
  -- found = []
  refine ⟨Nat.zero_le _, fun L hL => ?_⟩
  have up3 : UpM dk cl G H G3 H3 := u1.tr (u2.tr u3).toM
  have hD3 := hD1.up (u2.tr u3)
  have hLH : H L = none := by
    cases z : H L with
    | none => rfl
    | some o => exact absurd hL (up3.t L (by rw [z]; simp))
  have lk : L ≠ dk := fun z => hD3.dn (by rw [← z]; exact hL)
  have lc : L ≠ cl := fun z => hD3.cn (by rw [← z]; exact hL)
  have x5d : Da K G3 v5' (.list (words.map PyData.str)) := x5'
  have hW := Bool.and_eq_true_iff.mp words_ok
  have hLt := Bool.and_eq_true_iff.mp letters_ok
  show tSeq _ _ _ [some (.ref dk), some (.int many), some (.str letters), some (.int way), some (.int fst), some v5', some (.ref L), none, none] (upd H3 L (.lst []))
  refine ⟨.int many, rfl, many, rfl, by omega, by omega, ?_⟩
  refine for_range (lo := 0) (n := many.toNat) (fun k σ H' => ∃ v7 v8 G' ss, σ = [some (.ref dk), some (.int many), some (.str letters), some (.int way), some (.int fst), some v5', some (.ref L), v7, v8] ∧
      UpM dk cl G H G' H' ∧ Ex G3 G' ∧ Deck G' H' dk cl (m + 2) ∧ ListAt K L (ss.map .str) G' H' ∧ ss.length = k ∧ ∀ s ∈ ss, SN 9 s)
    ⟨none, none, G3, [], rfl, ?_, Ex.rf _, ?_, ⟨up3.h.fresh hL, [], upd_same, .nil⟩, rfl, by simp⟩ (fun k σ H' hk hP => ?_) (fun σ H' hP => ?_)
  · exact ⟨up3.g, up3.h.tr (Ex.up hL), fun b o h1 h2 e => by rw [upd_ne (fun z => by rw [z] at e; rw [up3.m L o lk lc e] at hL; cases hL)]; exact up3.m b o h1 h2 e, up3.n, fun b hb => by
      by_cases z : b = L
      · rw [z, upd_same]; simp
      · rw [upd_ne z]; exact up3.t b hb⟩
  · obtain ⟨cs, t, n, a1, a2, a3⟩ := hD3.ex
    exact ⟨hD3.ne, hD3.gd, hD3.gc, cs, t, n, by rw [upd_ne lk.symm]; exact a1, by rw [upd_ne lc.symm]; exact a2, a3⟩
  · obtain ⟨v7, v8, G', ss, rfl, u', e3, hD', hL', hlen, hss⟩ := hP
    show tSeq _ _ _ [some (.ref dk), some (.int many), some (.str letters), some (.int way), some (.int fst), some v5', some (.ref L), some (.int (0 + (k : Int))), v8] H'
    have hix : ∃ c, atI letters.cps.toList ((fst + 5 * (0 + (k : Int))) % 26) = some c ∧ c ∈ letters.cps.toList := by
      refine at_some (Int.emod_nonneg _ (by decide)) ?_
      rw [of_decide_eq_true hLt.1]
      exact Int.emod_lt_of_pos _ (by decide)
    obtain ⟨c, hc, hcm⟩ := hix
    have c128 : c < 128 := of_decide_eq_true (List.all_eq_true.mp hLt.2 c hcm)
    have hix2 : ∃ c, atI (words.map PyData.str) ((fst + 3 * (0 + (k : Int))) % 31) = some c ∧ c ∈ words.map PyData.str := by
      refine at_some (Int.emod_nonneg _ (by decide)) ?_
      rw [List.length_map, of_decide_eq_true hW.2]
      exact Int.emod_lt_of_pos _ (by decide)
    obtain ⟨wd, hwd, hwm⟩ := hix2
    obtain ⟨ws, hws, rfl⟩ := List.mem_map.mp hwm
    have w9 : SN 9 ws := SN.of (List.all_eq_true.mp hW.1 ws hws)
    -- the letter
    have evk : ∀ (v8 : Option V), EvE K [some (.ref dk), some (.int many), some (.str letters), some (.int way), some (.int fst), some v5', some (.ref L), some (.int (0 + (k : Int))), v8] G' (tVar 7) (.int (0 + (k : Int))) :=
      fun v8 => e_var rfl (.int _)
    have evf : ∀ (v8 : Option V), EvE K [some (.ref dk), some (.int many), some (.str letters), some (.int way), some (.int fst), some v5', some (.ref L), some (.int (0 + (k : Int))), v8] G' (tVar 4) (.int fst) :=
      fun v8 => e_var rfl (.int _)
    refine ev_go (K := K) (e_op (e_var rfl (.str _)) (e_op (e_op (evf v8) (e_op e_int (evk v8) (o_I (.inl ⟨by decide, by decide⟩) (fun _ => .int _))) (o_I0 (fun _ => .int _))) e_int (o_I (by decide) (fun _ => .int _)))
      (o_ixS (by decide +kernel) hc)) u'.h fun v8' G4 H4 u4 x8 => ?_
    cases x8
    refine ⟨_, rfl, ?_, ?_⟩
    · have hL4 := hL'.up u4
      obtain ⟨acc, ea, da⟩ := hL4.ex
      exact .inl ⟨rfl, _, SqL.of ea⟩
    have evk : EvE K [some (.ref dk), some (.int many), some (.str letters), some (.int way), some (.int fst), some v5', some (.ref L), some (.int (0 + (k : Int))), some (.str ⟨#[c]⟩)] G4 (tVar 7) (.int (0 + (k : Int))) := e_var rfl (.int _)
    have sc : SN 1 ⟨#[c]⟩ := SN.sign c128
    refine elem_of (K := K) (F := G4) (elem_ix (e_lst (a_cons (e_var rfl (.str _)) (a_cons (e_op (e_var rfl (x5d.mono (e3.tr u4.g))) (e_op (e_op (e_var rfl (.int _)) (e_op e_int evk (o_I (.inl ⟨by decide, by decide⟩) (fun _ => .int _))) (o_I0 (fun _ => .int _))) e_int (o_I (by decide) (fun _ => .int _))) (o_ixL hwd))
      (a_cons (e_if (t_test (e_op evk e_int (o_I0 (fun _ => .bl _)))) (fun _ => e_slS e_str oo_none (oo_some (e_op e_int (e_op evk e_int (o_I (by decide) (fun _ => .int _))) (o_I0 (fun _ => .int _)))) (by decide +kernel))
        (fun _ => e_op (e_var rfl (.str _)) (e_slS e_str oo_none (oo_some (K := K) e_int) (by decide +kernel)) (o_addS (small2 (sc.l) (SN.cut (n := 4) (SN.of (by decide +kernel)) _ _).l))))
      (a_cons (e_op e_str (e_var rfl (.str _)) (o_addS (small2 (a := 7) (by decide +kernel) sc.l))) a_nil)))) (show 4 ≤ 100000 by decide)) (e_var rfl (.int _)) w0 w1 ?_) (Ex.rf _) u4.h fun s G5 H5 s9 u5 => ?_
    · refine List.forall_mem_cons.mpr ⟨⟨_, sc.mono (by decide), rfl⟩, List.forall_mem_cons.mpr ⟨⟨_, w9, rfl⟩, List.forall_mem_cons.mpr ⟨?_, List.forall_mem_cons.mpr ⟨⟨_, (SN.app (n := 7) (SN.of (by decide +kernel)) sc).mono (by decide), rfl⟩, by simp⟩⟩⟩⟩
      cases hb : decide (0 + (k : Int) < 8) with
      | true => exact ⟨_, (SN.cut (n := 8) (SN.of (by decide +kernel)) _ _).mono (by decide), rfl⟩
      | false => exact ⟨_, (SN.app sc (SN.cut (n := 4) (SN.of (by decide +kernel)) _ _)).mono (by decide), rfl⟩
    have hL5 := hL'.up (u4.tr u5)
    have hD5 := hD'.up (u4.tr u5)
    obtain ⟨acc, ea, da⟩ := hL5.ex
    refine ⟨L, acc, _, rfl, rfl, ea, ?_, ?_⟩
    · rw [da.length, List.length_map, hlen]
      exact Nat.lt_of_lt_of_le (by omega : k < 100) (by decide)
    refine ⟨_, _, G5, ss ++ [s], rfl, (u'.tr (u4.tr u5).toM).put hLH hL5.gl, e3.tr (u4.g.tr u5.g), hD5.put lk lc, ?_, by simp [hlen], ?_⟩
    · rw [List.map_append]
      exact hL5.put ea da (.str _)
    · intro t ht
      rcases List.mem_append.mp ht with h | h
      · exact hss t h
      · simp at h; subst h; exact s9
  · obtain ⟨v7, v8, G', ss, rfl, u', e3, hD', hL', hlen, hss⟩ := hP
    obtain ⟨acc, ea, da⟩ := hL'.ex
    have ea' := strs_of da
    subst ea'
    refine ⟨.ref L, rfl, L, ss, rfl, SqL.of ea, by omega, fun ys p hperm _ hp => ?_⟩
    have un := Up.new u'.h hp (.lst (ys.map V.str))
    refine q _ ys _ _ (u'.tr un.toM) (hD'.up un) (by rw [hperm.length_eq, hlen]) (fun s hs => hss s (hperm.mem_iff.mp hs)) (.lst upd_same ?_)
    exact daAll_strs ys
end
end L01
set_option Elab.async false
set_option linter.all false
set_option maxRecDepth 100000
set_option maxHeartbeats 1000000
namespace L01
open PySem PySem.Spec PyProof.Rows L2 KD
section
variable {P : Program} {w : World} {K : PySem.W.Frag} {mg : Str → Option Value} {base : Heap}
/-! ### drawn signatures -/
def TagD (d : PyData) : Prop := ∃ s c, d = .tuple [.str s, .int c] ∧ SN 9 s ∧ 0 ≤ c ∧ c ≤ 3
structure TagsD (ds : List PyData) : Prop where
  l : ds.length ≤ 6
  a : ∀ d ∈ ds, TagD d
def spTags (K : PySem.W.Frag) : Sp := fun vs H Q _ => vs.length = 1 ∧ ∃ (dk cl : Addr) (G : Hp) (m : Nat), vs = [.ref dk] ∧ Ex G H ∧ Deck G H dk cl m ∧ m ≤ 999990000 ∧
  ∀ (v : V) (ds : List PyData) (G' H' : Hp), UpM dk cl G H G' H' → Deck G' H' dk cl (m + 9) → TagsD ds → Da K G' v (.tuple ds) → Q v H'
def addD : PyData → PyData → PyData
  | .int a, .int b => .int (a + b)
  | _, _ => .none
def tupD : List PyData → PyData
  | [.list xs] => .tuple xs
  | _ => .none
theorem ok__law_tags (T : Txt K mg) : FnG P w K mg base CX0 3 T.a__law_tags T.d__law_tags ["_law_deck_here"] (spTags K) := by
  have G__law_draw := (ok__law_draw (P := P) (w := w) (base := base) T).mono (show 1 ≤ 2 by decide)
  have G__law_pick := ok__law_pick (P := P) (w := w) (base := base) T
  have G__law_names := ok__law_names (P := P) (w := w) (base := base) T
  refine okG T.F__law_tags sc__law_tags (fun vs H Q E h => h.1) fun cdv A out s H vs Q E hr hq h => ?_
  obtain ⟨_, dk, cl, G, m, rfl, eg, hD, hm, q⟩ := h
  refine ⟨_, (pss_cons (ps_set (i := 1) sc__law_tags.nd rfl (.inl rfl) (pe_g G__law_names hr hq (by rfl) T.g__law_names T.F__law_names.kp T.b__law_names .nil pass0 (pa_cons (pv 0) (pa_cons (pe_op op_add pe_int (pe_g G__law_draw hr hq (by rfl) T.g__law_draw T.F__law_draw.kp T.b__law_draw .nil pass0 (pa_cons (pv 0) (pa_cons pe_int pa_nil)))) pa_nil))))
    (pss_one (ps_ret (pe_callTy (call_tupK K) (by rfl) T.m_tuple (by decide +kernel) (pa_cons (pe_lc (own := [("_law_name", 2)]) (g := gName 2) (tt := tYes) rfl sc__law_tags.nd  (pi_listK K (pv 1)) (blkOk_by (N := N__law_tags) (sc := defScope s__law_tags) (by decide +kernel)) (fun _ _ _ _ _ => (pg_name (i := 2) sc__law_tags.nd rfl (.inl rfl))) (fun _ _ _ _ _ => pts_nil) (fun _ _ _ _ _ => (pe_tup (pa_cons (pv 2) (pa_cons (pe_g G__law_pick hr hq (by rfl) T.g__law_pick T.F__law_pick.kp T.b__law_pick .nil pass0 (pa_cons (pv 0) (pa_cons (pe_lst (pa_cons pe_int (pa_cons pe_int (pa_cons pe_int (pa_cons pe_int (pa_cons pe_int (pa_cons pe_int pa_nil))))))) pa_nil))) pa_nil))))) pa_nil))))), ?_⟩
  refine ⟨.ref dk, rfl, ?_⟩
  refine (n_op (K := K) (σ := [some (V.ref dk), none, none]) (f := addD) (P1 := fun d => d = .int 1) (n_pure e_int) (fun _ _ => n_draw (i0 := 0) (lim := 6) rfl e_int (by decide) (by decide) (by omega)) ?_) G H (Ex.rf _) eg hD _ fun v d G1 H1 u1 hD1 hp hd => ?_
  · rintro _ _ rfl ⟨i, rfl, _, _⟩
    exact o_I0 fun _ => .int _
  obtain ⟨_, _, rfl, ⟨i, rfl, i0, i1⟩, rfl⟩ := hp
  cases hd
  refine ⟨rfl, dk, cl, 1 + i, G1, m + 1, rfl, u1.h, hD1, by omega, by omega, by omega, fun v1 ss G2 H2 u2 hD2 hl hss x1 => ?_⟩
  have hle : ss.length ≤ 6 := by omega
  refine (n_cb (K := K) (σ := [some (V.ref dk), some v1, none]) (f := tupD) (an_cons (n_lc1 (c := 1) (P := fun d r => ∃ c, r = .tuple [d, .int c] ∧ 0 ≤ c ∧ c ≤ 3) (i_list (e_var (v := v1) rfl x1)) (by rw [List.length_map]; omega)
    (fun k d hk F' v e1 xv => ?_)) fun _ _ => an_nil) ?_) G2 H2 (Ex.rf _) u2.h hD2 _ fun v d G3 H3 u3 hD3 hp hd => ?_
  · have hk' := (List.getElem?_eq_some_iff.mp hk).1
    rw [List.length_map] at hk'
    refine (n_tup (an_cons (n_pure (e_var (v := v) rfl xv)) fun _ _ => an_cons (n_pick (i0 := 0) rfl (e_lst (a_cons e_int (a_cons e_int (a_cons e_int (a_cons e_int (a_cons e_int (a_cons e_int a_nil)))))) (by decide)) (by decide) (by decide) (by omega)) fun _ _ => an_nil) ?_).imp ?_
    · rintro _ ⟨_, _, rfl, ⟨_, _, _, rfl, rfl⟩, rfl⟩; exact show 2 ≤ 100000 by decide
    · rintro _ ⟨_, ⟨_, _, rfl, ⟨x, _, hx, rfl, rfl⟩, rfl⟩, rfl⟩
      simp at hx
      rcases hx with rfl | rfl | rfl | rfl <;> exact ⟨_, rfl, by decide, by decide⟩
  · rintro _ ⟨_, _, ⟨rs, rfl, _, _⟩, rfl, rfl⟩
    exact c_tupL
  obtain ⟨_, ⟨_, _, ⟨rs, rfl, hrl, hrs⟩, rfl, rfl⟩, rfl⟩ := hp
  rw [List.length_map] at hrl
  refine q v rs G3 H3 ((u1.tr u2).tr u3) (hD3.mono (by rw [List.length_map]; omega)) ⟨by omega, fun r hr => ?_⟩ hd
  obtain ⟨j, hj⟩ := List.mem_iff_getElem?.mp hr
  have hjl := (List.getElem?_eq_some_iff.mp hj).1
  have hj2 : j < ss.length := by omega
  obtain ⟨c, rfl, c0, c1⟩ := hrs j (.str ss[j]) r (by rw [List.getElem?_map, List.getElem?_eq_getElem hj2]; rfl) hj
  exact ⟨_, c, rfl, hss _ (List.getElem_mem hj2), c0, c1⟩
end
end L01
set_option Elab.async false
set_option linter.all false
set_option maxRecDepth 100000
set_option maxHeartbeats 1000000
namespace L01
open PySem PySem.Spec PyProof.Rows L2 KD
section
variable {P : Program} {w : World} {K : PySem.W.Frag} {mg : Str → Option Value} {base : Heap}
/-! ### what a bent signature is made of -/
theorem up1_low : ∀ c, c < 128 → up1 c < 128 := by decide +kernel
theorem SN.upper {n : Nat} {s : Str} (h : SN n s) : SN n (Txt.upper s) := by
  rw [upper_ascii h.c]
  refine ⟨?_, fun c hc => ?_⟩
  · show (s.cps.map up1).size ≤ n
    rw [Array.size_map]; exact h.l
  · have hc' : c ∈ (s.cps.map up1).toList := hc
    rw [Array.toList_map] at hc'
    obtain ⟨x, hx, rfl⟩ := List.mem_map.mp hc'
    exact up1_low x (h.c x hx)
abbrev SI (d : PyData) : Prop := Sml 200 2 d
theorem SI.of {w k : Nat} {d : PyData} (h : Sml w k d) (hw : w ≤ 200 := by decide) (hk : k ≤ 2 := by decide) : SI d := h.mono hw hk
theorem SN.si {n : Nat} {s : Str} (h : SN n s) (hn : n ≤ 60 := by decide) : Sml 60 0 (.str s) := (h.sml (by omega)).mono hn (Nat.le_refl _)
theorem si_int {i : Int} (h : i.natAbs < 10 ^ 12 := by omega) : Sml 60 0 (.int i) := sml_int h
theorem si_two {k : Nat} {a b : PyData} (ha : Sml 60 k a) (hb : Sml 60 k b) : Sml 122 (k + 1) (.tuple [a, b]) :=
  Sml.tup (n := 2) (w := 60) (by intro x hx; rcases List.mem_cons.mp hx with rfl | hx; exact ha; rcases List.mem_cons.mp hx with rfl | hx; exact hb; cases hx) (Nat.le_refl _) (by decide)
theorem si_two' {k : Nat} {a b : PyData} (ha : Sml 140 k a) (hb : Sml 140 k b) : Sml 282 (k + 1) (.tuple [a, b]) :=
  Sml.tup (n := 2) (w := 140) (by intro x hx; rcases List.mem_cons.mp hx with rfl | hx; exact ha; rcases List.mem_cons.mp hx with rfl | hx; exact hb; cases hx) (Nat.le_refl _) (by decide)
theorem si_twoL {k : Nat} {a b : PyData} (ha : Sml 60 k a) (hb : Sml 60 k b) : Sml 122 (k + 1) (.list [a, b]) :=
  Sml.lst (n := 2) (w := 60) (by intro x hx; rcases List.mem_cons.mp hx with rfl | hx; exact ha; rcases List.mem_cons.mp hx with rfl | hx; exact hb; cases hx) (Nat.le_refl _) (by decide)
theorem si_one {k : Nat} {a : PyData} (ha : Sml 60 k a) : Sml 61 (k + 1) (.tuple [a]) :=
  Sml.tup (n := 1) (w := 60) (by intro x hx; rcases List.mem_cons.mp hx with rfl | hx; exact ha; cases hx) (Nat.le_refl _) (by decide)
theorem si_three {k : Nat} {a b c : PyData} (ha : Sml 60 k a) (hb : Sml 60 k b) (hc : Sml 60 k c) : Sml 183 (k + 1) (.tuple [a, b, c]) :=
  Sml.tup (n := 3) (w := 60) (by intro x hx; rcases List.mem_cons.mp hx with rfl | hx; exact ha; rcases List.mem_cons.mp hx with rfl | hx; exact hb; rcases List.mem_cons.mp hx with rfl | hx; exact hc; cases hx) (Nat.le_refl _) (by decide)
theorem TagD.si {d : PyData} (h : TagD d) : Sml 122 1 d := by
  obtain ⟨s, c, rfl, s9, c0, c3⟩ := h
  exact si_two s9.si (si_int)
/-- a tuple of at most n small items -/
def SL (n : Nat) (d : PyData) : Prop := ∃ xs, d = .tuple xs ∧ xs.length ≤ n ∧ ∀ x ∈ xs, Sml 300 2 x
theorem okD_of {w k : Nat} {d : PyData} (h : Sml w k d) (hw : w ≤ 100000) (hk : k ≤ 40) : okD d = true := by
  unfold okD
  rw [h.f, h.repOk hw hk]; rfl
theorem SL.ok {n : Nat} {d : PyData} (h : SL n d) (hn : n ≤ 30) : okD d = true := by
  obtain ⟨xs, rfl, hl, hx⟩ := h
  exact okD_of (Sml.tup hx (Nat.le_trans hl hn) (by decide)) (by decide) (by decide)
theorem TagsD.sl {ds : List PyData} (h : TagsD ds) : ∀ x ∈ ds, Sml 300 2 x := fun x hx => (h.a x hx).si.mono (by decide) (by decide)
theorem SL.cut {n : Nat} {xs : List PyData} (h : SL n (.tuple xs)) (lo hi : Option Int) : SL n (.tuple (KD.cutD xs lo hi)) := by
  obtain ⟨_, e, hl, hx⟩ := h
  cases e
  refine ⟨_, rfl, ?_, fun x hm => hx x (List.mem_of_mem_drop (List.mem_of_mem_take hm))⟩
  unfold KD.cutD
  rw [List.length_take, List.length_drop]; omega
theorem SL.rev {n : Nat} {xs : List PyData} (h : SL n (.tuple xs)) : SL n (.tuple xs.reverse) := by
  obtain ⟨_, e, hl, hx⟩ := h
  cases e
  exact ⟨_, rfl, by rw [List.length_reverse]; exact hl, fun x hm => hx x (List.mem_reverse.mp hm)⟩
theorem SL.app {n m : Nat} {xs ys : List PyData} (h : SL n (.tuple xs)) (h2 : SL m (.tuple ys)) : SL (n + m) (.tuple (xs ++ ys)) := by
  obtain ⟨_, e, hl, hx⟩ := h
  obtain ⟨_, e2, hl2, hx2⟩ := h2
  cases e; cases e2
  refine ⟨_, rfl, by rw [List.length_append]; omega, fun x hm => ?_⟩
  rcases List.mem_append.mp hm with h | h
  · exact hx x h
  · exact hx2 x h
/-! the dict of a signature's pairs -/
def vD : V → PyData
  | .int i => .int i
  | _ => .none
def kvOf : List PyData → List (Key × V)
  | .tuple [.str s, .int c] :: r => (.inr s, .int c) :: kvOf r
  | _ :: r => kvOf r
  | [] => []
def KvOk (kv : Key × V) : Prop := ∃ s c, kv = (.inr s, .int c) ∧ SN 9 s ∧ 0 ≤ c ∧ c ≤ 3
theorem kvOf_ok : ∀ {xs : List PyData}, (∀ d ∈ xs, TagD d) → (∀ kv ∈ kvOf xs, KvOk kv) ∧ (kvOf xs).length = xs.length
  | [], _ => ⟨fun _ h => (by cases h), rfl⟩
  | x :: xs, h => by
    obtain ⟨s, c, rfl, s9, c0, c3⟩ := h x List.mem_cons_self
    obtain ⟨a, b⟩ := kvOf_ok (xs := xs) fun d hd => h d (List.mem_cons_of_mem _ hd)
    refine ⟨fun kv hk => ?_, congrArg (· + 1) b⟩
    rcases List.mem_cons.mp hk with rfl | hk
    · exact ⟨s, c, rfl, s9, c0, c3⟩
    · exact a kv hk
theorem putK_ok {kvs : List (Key × V)} {k : Key} {v : V} (h : ∀ kv ∈ kvs, KvOk kv) (hk : KvOk (k, v)) : ∀ kv ∈ putK kvs k v, KvOk kv := by
  intro kv hm
  unfold putK at hm
  split at hm
  · obtain ⟨x, hx, rfl⟩ := List.mem_map.mp hm
    split
    · rename_i e; rw [e]; exact hk
    · exact h x hx
  · rcases List.mem_append.mp hm with h1 | h1
    · exact h kv h1
    · simp at h1; subst h1; exact hk
theorem mergeK_ok : ∀ {more kvs : List (Key × V)}, (∀ kv ∈ kvs, KvOk kv) → (∀ kv ∈ more, KvOk kv) → ∀ kv ∈ mergeK kvs more, KvOk kv
  | [], kvs, h, _ => h
  | (k, v) :: r, kvs, h, h2 => by
    show ∀ kv ∈ mergeK (putK kvs k v) r, KvOk kv
    exact mergeK_ok (putK_ok h (h2 _ List.mem_cons_self)) fun kv hk => h2 kv (List.mem_cons_of_mem _ hk)
def kvD : List (Key × V) → List (PyData × PyData)
  | [] => []
  | kv :: r => (keyD kv.1, vD kv.2) :: kvD r
theorem daKv_of {G : Hp} : ∀ {kvs : List (Key × V)}, (∀ kv ∈ kvs, KvOk kv) → DaKv K G kvs (kvD kvs)
  | [], _ => .nil
  | x :: r, h => by
    obtain ⟨s, c, rfl, _⟩ := h x List.mem_cons_self
    exact .cons (.int c) (daKv_of fun kv hk => h kv (List.mem_cons_of_mem _ hk))
theorem kv_all : ∀ {kvs : List (Key × V)}, (∀ kv ∈ kvs, KvOk kv) → PyData.leavesShortKv 60 (kvD kvs) = true ∧ PyData.showableKv (kvD kvs) = true ∧ noListKv (kvD kvs) = true ∧
    PyData.depthKv (kvD kvs) ≤ 0 ∧ PyData.weightKv (kvD kvs) ≤ 122 * kvs.length
  | [], _ => ⟨rfl, rfl, rfl, Nat.le_refl _, Nat.zero_le _⟩
  | x :: r, h => by
    obtain ⟨a, b, c, d, e⟩ := kv_all (kvs := r) fun kv hk => h kv (List.mem_cons_of_mem _ hk)
    obtain ⟨s, i, rfl, s9, i0, i3⟩ := h x List.mem_cons_self
    have hs : Sml 60 0 (.str s) := s9.si
    have hi : Sml 60 0 (.int i) := si_int
    refine ⟨?_, ?_, ?_, ?_, ?_⟩
    · show ((PyData.str s).leavesShort 60 && (PyData.int i).leavesShort 60 && _) = true
      rw [hs.s, hi.s, a]; rfl
    · show ((PyData.str s).showable && (PyData.int i).showable && _) = true
      rw [hs.h, hi.h, b]; rfl
    · show (noList (.int i) && _) = true
      rw [c]; rfl
    · show max (max (PyData.str s).depth (PyData.int i).depth) _ ≤ 0
      exact Nat.max_le.mpr ⟨Nat.max_le.mpr ⟨hs.p, hi.p⟩, d⟩
    · show (PyData.str s).weight + (PyData.int i).weight + 2 + _ ≤ _
      have h1 := hs.w
      have h2 := hi.w
      rw [List.length_cons, Nat.mul_add]
      omega
theorem okKv {kvs : List (Key × V)} (h : ∀ kv ∈ kvs, KvOk kv) (hl : kvs.length ≤ 100) : okD (.dict (kvD kvs)) = true := by
  obtain ⟨a, b, c, d, e⟩ := kv_all h
  have hs := PyData.shown_le 60 (by decide) (.dict (kvD kvs)) a
  have hw : (PyData.dict (kvD kvs)).weight ≤ 122 * 100 := Nat.le_trans e (Nat.mul_le_mul_left _ hl)
  have hd : (PyData.dict (kvD kvs)).depth ≤ 40 := Nat.le_trans (Nat.succ_le_succ d) (by decide)
  have h1 : (PyData.dict (kvD kvs)).showable = true := b
  have h2 : noList (.dict (kvD kvs)) = true := c
  unfold okD repOk
  rw [h1, h2, decide_eq_true hd, decide_eq_true (Nat.le_trans hs (by omega : _ ≤ 16000000))]
  rfl
def dictD : List PyData → PyData
  | [.list xs] => .dict (kvD (mergeK [] (kvOf xs)))
  | _ => .none
theorem pairs_of {G H : Hp} (eGH : Ex G H) : ∀ {vs : List V} {xs : List PyData}, (∀ d ∈ xs, TagD d) → DaAll K G vs xs → ∃ ps : List Addr, vs = ps.map V.ref ∧ Paired (fun p (kv : Key × V) => SqT K H p [kV kv.1, kv.2]) ps (kvOf xs)
  | _, [], _, h => by cases h; exact ⟨[], rfl, .nil⟩
  | _, x :: xs, ht, h => by
    obtain ⟨s, c, rfl, _⟩ := ht x List.mem_cons_self
    cases h with
    | cons h1 h2 =>
      obtain ⟨ps, rfl, hp⟩ := pairs_of eGH (fun d hd => ht d (List.mem_cons_of_mem _ hd)) h2
      cases h1 with
      | tup e a =>
        rename_i p _
        cases a with | cons a1 a => ?_
        cases a with | cons a2 a => ?_
        cases a; cases a1; cases a2
        exact ⟨p :: ps, rfl, .cons (SqT.of (eGH _ _ e)) hp⟩
theorem c_dictL {xs : List PyData} (ht : ∀ d ∈ xs, TagD d) : CaD K (rDictQ K) [.list xs] (dictD [.list xs]) := fun G H vs e d Q q => by
  cases d with
  | cons d1 d2 =>
    cases d2
    cases d1 with
    | lst h1 a1 =>
      rename_i a ws
      obtain ⟨ps, rfl, hp⟩ := pairs_of e ht a1
      refine ⟨_, ps, _, rfl, SqL.of (e _ _ h1), hp, fun p hf => ?_⟩
      exact q _ _ _ (Up.new e hf _) (.dic upd_same (daKv_of (mergeK_ok (by intro _ h; cases h) (kvOf_ok ht).1)))
end
end L01
set_option Elab.async false
set_option linter.all false
set_option maxRecDepth 100000
set_option maxHeartbeats 1000000
namespace L01
open PySem PySem.Spec PyProof.Rows L2 KD
section
variable {P : Program} {w : World} {K : PySem.W.Frag} {mg : Str → Option Value} {base : Heap}
/-! ### bent signatures -/
section
variable {dk cl : Addr} {σ : L2.St} {F : Hp} {m m1 m2 m' n a b : Nat} {te ta tb tj : TE} {as : TA} {R : PyData → Prop}
def catTD : PyData → PyData → PyData
  | .tuple a, .tuple b => .tuple (a ++ b)
  | _, _ => .none
def catLD : PyData → PyData → PyData
  | .list a, .list b => .list (a ++ b)
  | _, _ => .none
def repLD (n : Nat) : PyData → PyData → PyData
  | .list a, _ => .list (List.replicate n a).flatten
  | _, _ => .none
def ixLD (i : Int) : PyData → PyData → PyData
  | .list a, _ => (atI a i).getD .none
  | _, _ => .none
theorem nv_go {G H : Hp} {Q : VK} {P : PyData → Prop} (h : EvN K dk cl σ G m te m' P) (e : Ex G H) (hD : Deck G H dk cl m)
    (q : ∀ v d G' H', UpM dk cl G H G' H' → Deck G' H' dk cl m' → P d → Da K G' v d → Q v H') : te σ H Q := h G H (Ex.rf _) e hD Q q
theorem st_set {i : Nat} {u : TS} {D : Ends} {G H : Hp} {P : PyData → Prop} (h : EvN K dk cl σ G m te m' P) (e : Ex G H) (hD : Deck G H dk cl m)
    (q : ∀ v d G' H', UpM dk cl G H G' H' → Deck G' H' dk cl m' → P d → Da K G' v d → u D (σ.set i (some v)) H') : tSeq (tAsg te (gName i)) u D σ H :=
  h G H (Ex.rf _) e hD _ fun v d G' H' u hD' p dv => q v d G' H' u hD' p dv
theorem st_ret {D : Ends} {G H : Hp} {P : PyData → Prop} (h : EvN K dk cl σ G m te m' P) (e : Ex G H) (hD : Deck G H dk cl m)
    (q : ∀ v d G' H', UpM dk cl G H G' H' → Deck G' H' dk cl m' → P d → Da K G' v d → D.rt v H') : tRet te D σ H :=
  h G H (Ex.rf _) e hD _ fun v d G' H' u hD' p dv => q v d G' H' u hD' p dv
theorem s_pure {xs : List PyData} (h : EvE K σ F te (.tuple xs)) (hs : SL n (.tuple xs)) : EvN K dk cl σ F m te m (SL n) := (n_pure h).imp fun d e => e ▸ hs
theorem s_cat (h1 : EvN K dk cl σ F m ta m1 (SL a)) (h2 : EvN K dk cl σ F m1 tb m2 (SL b)) (hn : a + b ≤ 1000 := by decide) : EvN K dk cl σ F m (tOp (rCatA K) ta tb) m2 (SL (a + b)) :=
  (n_op (f := catTD) h1 (fun _ _ => h2) (by rintro _ _ ⟨xs, rfl, h, _⟩ ⟨ys, rfl, h', _⟩; exact o_catT (by omega))).imp
    (by rintro _ ⟨_, _, ⟨xs, rfl, hx⟩, ⟨ys, rfl, hy⟩, rfl⟩; exact SL.app ⟨xs, rfl, hx⟩ ⟨ys, rfl, hy⟩)
theorem s_one (h : EvN K dk cl σ F m te m' (fun d => Sml 300 2 d)) : EvN K dk cl σ F m (tTup (tCons te tNil)) m' (SL 1) :=
  (n_tup (an_cons h fun _ _ => an_nil) (by rintro _ ⟨_, _, _, rfl, rfl⟩; exact (show 1 ≤ 100000 by decide))).imp
    (by rintro _ ⟨_, ⟨x, _, hx, rfl, rfl⟩, rfl⟩; exact ⟨_, rfl, Nat.le_refl _, by intro y hy; rcases List.mem_cons.mp hy with rfl | hy; exact hx; cases hy⟩)
structure AllR (R : PyData → Prop) (n : Nat) (ds : List PyData) : Prop where
  l : ds.length = n
  a : ∀ d ∈ ds, R d
def NL (R : PyData → Prop) (n : Nat) (d : PyData) : Prop := ∃ xs, d = .list xs ∧ AllR R n xs
theorem ak_nil : AvN K dk cl σ F m tNil m (AllR R 0) := an_nil.imp fun _ e => e ▸ ⟨rfl, fun _ h => by cases h⟩
theorem ak_cons (h : EvN K dk cl σ F m te m1 R) (hr : AvN K dk cl σ F m1 as m2 (AllR R n)) : AvN K dk cl σ F m (tCons te as) m2 (AllR R (n + 1)) :=
  (an_cons h fun _ _ => hr).imp (by
    rintro _ ⟨x, r, hx, hr, rfl⟩
    exact ⟨congrArg (· + 1) hr.l, fun d hd => by
      rcases List.mem_cons.mp hd with rfl | hd
      · exact hx
      · exact hr.a d hd⟩)
theorem l_of (h : AvN K dk cl σ F m as m' (AllR R n)) (hn : n ≤ 1000 := by decide) : EvN K dk cl σ F m (tLst as) m' (NL R n) :=
  (n_lst h (by intro ds hd; have := hd.l; omega)).imp (by rintro _ ⟨ds, hd, rfl⟩; exact ⟨ds, rfl, hd⟩)
theorem l_cat (h1 : EvN K dk cl σ F m ta m1 (NL R a)) (h2 : EvN K dk cl σ F m1 tb m2 (NL R b)) (hn : a + b ≤ 1000 := by decide) : EvN K dk cl σ F m (tOp rCat ta tb) m2 (NL R (a + b)) :=
  (n_op (f := catLD) h1 (fun _ _ => h2) (by rintro _ _ ⟨xs, rfl, h, _⟩ ⟨ys, rfl, h', _⟩; exact o_cat (by omega))).imp
    (by
      rintro _ ⟨_, _, ⟨xs, rfl, hx⟩, ⟨ys, rfl, hy⟩, rfl⟩
      exact ⟨_, rfl, by rw [List.length_append, hx.l, hy.l], fun d hd => (List.mem_append.mp hd).elim (hx.a d) (hy.a d)⟩)
theorem l_rep (h1 : EvN K dk cl σ F m ta m1 (NL R 1)) : EvN K dk cl σ F m (tOp rRep ta (tC (.int 6))) m1 (NL R 6) :=
  (n_op (f := repLD 6) h1 (fun _ _ => n_pure (d := .int 6) e_int) (by rintro _ _ ⟨xs, rfl, h, _⟩ rfl; exact o_rep (n := 6) (by omega) (by decide))).imp
    (by
      rintro _ ⟨_, _, ⟨xs, rfl, hx⟩, rfl, rfl⟩
      refine ⟨_, rfl, ?_, fun d hd => ?_⟩
      · rw [List.length_flatten, List.map_replicate, hx.l]; rfl
      · obtain ⟨ys, hy, hd⟩ := List.mem_flatten.mp hd
        rw [List.mem_replicate] at hy
        rw [hy.2] at hd
        exact hx.a d hd)
theorem l_ix {i : Int} (h1 : EvN K dk cl σ F m ta m1 (NL R n)) (h2 : EvE K σ F tj (.int i)) (h0 : 0 ≤ i) (hi : i < n) : EvN K dk cl σ F m (tOp (rIxL K) ta tj) m1 R :=
  (n_op (f := ixLD i) h1 (fun _ _ => n_pure h2) (by
    rintro _ _ ⟨xs, rfl, h⟩ rfl
    obtain ⟨d, hd, hm⟩ := at_some (xs := xs) h0 (by rw [h.l]; exact hi)
    refine o_ixL ?_
    show _ = some ((atI xs i).getD .none)
    rw [hd]; rfl)).imp
    (by
      rintro _ ⟨_, _, ⟨xs, rfl, h⟩, rfl, rfl⟩
      obtain ⟨d, hd, hm⟩ := at_some (xs := xs) h0 (by rw [h.l]; exact hi)
      show R ((atI xs i).getD .none)
      rw [hd]
      exact h.a d hm)
abbrev R3 (d : PyData) : Prop := Sml 300 2 d
abbrev RO (d : PyData) : Prop := okD d = true
theorem i_of {w k : Nat} {d : PyData} (h : EvE K σ F te d) (hs : Sml w k d) (hw : w ≤ 300 := by decide) (hk : k ≤ 2 := by decide) : EvN K dk cl σ F m te m R3 :=
  (n_pure h).imp fun _ e => e ▸ hs.mono hw hk
theorem s_ok (h : EvN K dk cl σ F m te m' (SL n)) (hn : n ≤ 30 := by decide) : EvN K dk cl σ F m te m' RO := h.imp fun _ p => p.ok hn
theorem tpar2_of {PA : List PyData → Prop} {i j : Nat} {u : TS} {D : Ends} {G H : Hp} (h : AvN K dk cl σ F m as m' PA) (e1 : Ex F G) (e2 : Ex G H) (hD : Deck G H dk cl m)
    (q : ∀ x y ds G' H', UpM dk cl G H G' H' → Deck G' H' dk cl m' → PA ds → DaAll K G' [x, y] ds → u D ((σ.set i (some x)).set j (some y)) H')
    (hn : ∀ ds, PA ds → ds.length = 2 := by rintro _ ⟨_, _, _, ⟨_, _, _, rfl, rfl⟩, rfl⟩; rfl) :
    tSeq (tPar i j as) u D σ H := h G H e1 e2 hD _ fun vs ds G1 H1 u1 hD1 hp hd => by
  have hl : vs.length = 2 := by rw [hd.length]; exact hn ds hp
  match vs, hl with
  | [x, y], _ => exact ⟨x, y, rfl, q x y ds G1 H1 u1 hD1 hp hd⟩
/-! a pair of a name and a count -/
def PrE (K : PySem.W.Frag) (σ : L2.St) (F : Hp) (te : TE) : Prop := ∃ s c, (SN 9 s ∧ 0 ≤ c ∧ c ≤ 3) ∧ EvE K σ F te (.tuple [.str s, .int c])
theorem pr_if {tt : TT} {b : Bool} (h : EvT σ F tt b) (h1 : b = true → PrE K σ F ta) (h2 : PrE K σ F tb) : PrE K σ F (tIf tt ta tb) := by
  cases b with
  | true =>
    obtain ⟨s, c, hs, he⟩ := h1 rfl
    exact ⟨s, c, hs, (e_if (y := .none) h (fun _ => he) fun z => by cases z).is rfl⟩
  | false =>
    obtain ⟨s, c, hs, he⟩ := h2
    exact ⟨s, c, hs, (e_if (x := .none) h (fun z => by cases z) fun _ => he).is rfl⟩
theorem pr_go {G H : Hp} {Q : VK} (h : PrE K σ G te) (e : Ex G H)
    (q : ∀ s c v G' H', (SN 9 s ∧ 0 ≤ c ∧ c ≤ 3) → Up G H G' H' → Da K G' v (.tuple [.str s, .int c]) → Q v H') : te σ H Q := by
  obtain ⟨s, c, hs, he⟩ := h
  exact ev_go he e fun v G' H' u d => q s c v G' H' hs u d
end
def spBent (K : PySem.W.Frag) : Sp := fun vs H Q _ => vs.length = 2 ∧ ∃ (dk cl : Addr) (tv : V) (ds : List PyData) (G : Hp) (m : Nat), vs = [.ref dk, tv] ∧ Ex G H ∧ Deck G H dk cl m ∧ m ≤ 999990000 ∧
  Da K G tv (.tuple ds) ∧ TagsD ds ∧ ∀ (v : V) (d : PyData) (G' H' : Hp), UpM dk cl G H G' H' → Deck G' H' dk cl (m + 3) → okD d = true → Da K G' v d → Q v H'
theorem ok__law_bent (T : Txt K mg) : FnG P w K mg base CX0 3 T.a__law_bent T.d__law_bent ["_law_deck_here", "_law_it"] (spBent K) := by
  have G__law_draw := (ok__law_draw (P := P) (w := w) (base := base) T).mono (show 1 ≤ 2 by decide)
  have G__law_pick := ok__law_pick (P := P) (w := w) (base := base) T
  refine okG T.F__law_bent sc__law_bent (fun vs H Q E h => h.1) fun cdv A out s H vs Q E hr hq h => ?_
  obtain ⟨_, dk, cl, tv, ds, G, m, rfl, eg, hD, hm, x1, hT, q⟩ := h
  have hTl := hT.l
  refine ⟨_, (pss_cons (ps_par (i := 2) (j := 3) (by rfl) sc__law_bent.nd rfl rfl (by decide) rfl rfl (pa_cons (pe_g G__law_draw hr hq (by rfl) T.g__law_draw T.F__law_draw.kp T.b__law_draw .nil pass0 (pa_cons (pv 0) (pa_cons pe_int pa_nil))) (pa_cons (pe_g G__law_draw hr hq (by rfl) T.g__law_draw T.F__law_draw.kp T.b__law_draw .nil pass0 (pa_cons (pv 0) (pa_cons (pe_op op_add (pe_callB (call_lenK K) (by rfl) T.m_len PySem.boot_len (pa_cons (pv 1) pa_nil)) pe_int) pa_nil))) pa_nil)) (by rfl))
    (pss_cons (ps_asg (pe_ifExp (pt_cmpR op_lt (pv 3) (pe_callB (call_lenK K) (by rfl) T.m_len PySem.boot_len (pa_cons (pv 1) pa_nil)) (nomark _)) (pe_ix (ix_tupK K) (pv 1) (pv 3) (fun _ _ => rfl)) (pe_tup (pa_cons pe_str (pa_cons pe_int pa_nil)))) (pg_tupK K rfl (pgs_cons (pg_name (i := 4) sc__law_bent.nd rfl (.inl rfl)) (pgs_cons (pg_name (i := 5) sc__law_bent.nd rfl (.inl rfl)) pgs_nil))))
    (pss_cons (ps_set (i := 6) sc__law_bent.nd rfl (.inl rfl) (pe_lst (pa_cons (pv 4) (pa_cons (pe_tup (pa_cons (pv 4) pa_nil)) (pa_cons (pe_tup (pa_cons (pv 4) (pa_cons (pv 5) (pa_cons (pv 5) pa_nil)))) (pa_cons (pe_lst (pa_cons (pv 4) (pa_cons (pv 5) pa_nil))) (pa_cons (pe_tup (pa_cons (pv 5) (pa_cons (pv 4) pa_nil))) (pa_cons (pe_tup (pa_cons (pv 4) (pa_cons (pe_callTy call_str_int (by rfl) T.m_str (by decide +kernel) (pa_cons (pv 5) pa_nil)) pa_nil))) (pa_cons (pe_tup (pa_cons (pv 4) (pa_cons pe_non pa_nil))) (pa_cons (pe_tup (pa_cons (pv 4) (pa_cons pe_int pa_nil))) pa_nil))))))))))
    (pss_cons (ps_set (i := 6) sc__law_bent.nd rfl (.inl rfl) (pe_op op_cat (pv 6) (pe_lst (pa_cons (pe_tup (pa_cons (pv 4) (pa_cons (pe_op op_sub pe_int pe_int) pa_nil))) (pa_cons (pe_tup (pa_cons (pv 4) (pa_cons (pe_cmpR op_eq (pv 5) pe_int (nomark _)) pa_nil))) (pa_cons (pe_tup (pa_cons (pe_upper (pv 4)) (pa_cons (pv 5) pa_nil))) (pa_cons (pe_tup (pa_cons pe_str (pa_cons pe_int pa_nil))) (pa_cons (pe_tup (pa_cons (pe_op op_add_str (pv 4) pe_str) (pa_cons (pv 5) pa_nil))) pa_nil))))))))
    (pss_cons (ps_set (i := 6) sc__law_bent.nd rfl (.inl rfl) (pe_op op_cat (pv 6) (pe_lst (pa_cons (pe_tup (pa_cons pe_str (pa_cons pe_int pa_nil))) (pa_cons (pe_tup (pa_cons (pv 4) (pa_cons (pe_op op_pow pe_int pe_int) pa_nil))) (pa_cons (pe_tup (pa_cons pe_non (pa_cons (pv 5) pa_nil))) (pa_cons (pe_tup (pa_cons (pe_tup (pa_cons (pv 4) (pa_cons (pv 5) pa_nil))) (pa_cons (pv 5) pa_nil))) pa_nil)))))))
    (pss_cons (ps_set (i := 7) sc__law_bent.nd rfl (.inl rfl) (pe_op op_rep (pe_lst (pa_cons (pe_op (op_catAK K) (pe_op (op_catAK K) (pe_slice (sl_tupAK K) (pv 1) po_none (po_some (pv 3))) (pe_tup (pa_cons (pe_g G__law_pick hr hq (by rfl) T.g__law_pick T.F__law_pick.kp T.b__law_pick .nil pass0 (pa_cons (pv 0) (pa_cons (pv 6) pa_nil))) pa_nil))) (pe_slice (sl_tupAK K) (pv 1) (po_some (pe_op op_add (pv 3) pe_int)) po_none)) pa_nil)) pe_int))
    (pss_cons (ps_set (i := 7) sc__law_bent.nd rfl (.inl rfl) (pe_op op_cat (pv 7) (pe_lst (pa_cons (pe_op (op_catAK K) (pe_slice (sl_tupAK K) (pv 1) po_none (po_some (pv 3))) (pe_slice (sl_tupAK K) (pv 1) (po_some (pe_op op_add (pv 3) pe_int)) po_none)) (pa_cons (pe_op (op_catAK K) (pe_slice (sl_tupAK K) (pv 1) po_none (po_some (pe_op op_add (pv 3) pe_int))) (pe_slice (sl_tupAK K) (pv 1) (po_some (pv 3)) po_none)) (pa_cons (pe_revTK K (pv 1)) (pa_cons (pe_callTy (call_listK K) (by rfl) T.m_list (by decide +kernel) (pa_cons (pv 1) pa_nil)) (pa_cons (pe_op (op_catAK K) (pv 1) (pv 1)) (pa_cons (pe_callTy (call_dictK K rfl) (by rfl) T.m_dict (by decide +kernel) (pa_cons (pe_callTy (call_listK K) (by rfl) T.m_list (by decide +kernel) (pa_cons (pv 1) pa_nil)) pa_nil)) pa_nil)))))))))
    (pss_one (ps_ret (pe_ix (ix_listK K) (pe_op op_cat (pv 7) (pe_lst (pa_cons (pe_op (op_catAK K) (pe_op (op_catAK K) (pe_slice (sl_tupAK K) (pv 1) po_none (po_some (pv 3))) (pe_revTK K (pe_slice (sl_tupAK K) (pv 1) (po_some (pv 3)) (po_some (pe_op op_add (pv 3) pe_int))))) (pe_slice (sl_tupAK K) (pv 1) (po_some (pe_op op_add (pv 3) pe_int)) po_none)) (pa_cons (pe_op (op_catAK K) (pe_op (op_catAK K) (pe_slice (sl_tupAK K) (pv 1) po_none (po_some (pv 3))) (pe_tup (pa_cons (pe_tup (pa_cons pe_str (pa_cons pe_int pa_nil))) pa_nil))) (pe_slice (sl_tupAK K) (pv 1) (po_some (pv 3)) po_none)) pa_nil)))) (pv 2) (fun _ _ => rfl))))))))))), ?_⟩
  refine tpar2_of (K := K) (an_cons (n_draw (i0 := 0) (lim := 14) rfl e_int (by decide) (by decide) (by omega)) fun _ _ => an_cons (n_draw (i0 := 0) (lim := (ds.length : Int) + 1) rfl
    (e_op (e_cb (a_cons (e_var (v := tv) rfl x1) a_nil) c_lenT) e_int (o_I0 (fun _ => .int _))) (by omega) (by omega) (by omega)) fun _ _ => an_nil) (Ex.rf _) eg hD fun x y es G1 H1 u1 hD1 hp hd => ?_
  obtain ⟨_, _, ⟨way, rfl, w0, w1⟩, ⟨_, _, ⟨at1, rfl, a0, a1⟩, rfl, rfl⟩, rfl⟩ := hp
  cases hd with | cons b1 hd => ?_
  cases hd with | cons b2 hd => ?_
  cases hd; cases b1; cases b2
  refine pr_go (K := K) (pr_if (t_test (e_op (e_var rfl (.int _)) (e_cb (a_cons (e_var rfl (x1.mono u1.g)) a_nil) c_lenT) (o_I0 fun _ => .bl _))) (fun hb => ?_)
    ⟨"void", 0, ⟨SN.of (by decide +kernel), by decide, by decide⟩, e_tup (a_cons e_str (a_cons e_int a_nil)) (show 2 ≤ 100000 by decide)⟩) u1.h fun s c v G2 H2 hsc u2 dv => ?_
  · obtain ⟨d, hd, hm⟩ := at_some (xs := ds) a0 (of_decide_eq_true hb)
    obtain ⟨s, c, rfl, s9, c0, c3⟩ := hT.a d hm
    exact ⟨s, c, ⟨s9, c0, c3⟩, e_op (e_var rfl (x1.mono u1.g)) (e_var rfl (.int _)) (o_ixT hd)⟩
  obtain ⟨s9, c0, c3⟩ := hsc
  refine g_tup2 (K := K) G2 H2 _ u2.h dv _ ?_
  rintro _ ⟨v4, v5, d4, d5, rfl⟩
  cases d4; cases d5
  show tSeq _ _ _ [some (V.ref dk), some tv, some (V.int way), some (V.int at1), some (V.str s), some (V.int c), none, none] H2
  have ci : Sml 60 0 (.int c) := si_int
  have hD2 := hD1.up u2
  have x12 : Da K G2 tv (.tuple ds) := x1.mono (u1.g.tr u2.g)
  have cst : Sml 60 0 (.str (toString c)) := by
    have : c = 0 ∨ c = 1 ∨ c = 2 ∨ c = 3 := by omega
    rcases this with rfl | rfl | rfl | rfl <;> exact SN.si (n := 9) (SN.of (by decide +kernel))
  have clg : c.natAbs.log2 < 1920 := by
    have : c = 0 ∨ c = 1 ∨ c = 2 ∨ c = 3 := by omega
    rcases this with rfl | rfl | rfl | rfl <;> decide
  have l2 : ∀ a b : PyData, [a, b].length ≤ 100000 := fun _ _ => (show 2 ≤ 100000 by decide)
  refine st_set (K := K) (l_of (R := R3) (n := 8) (ak_cons (i_of (e_var (i := 4) rfl (.str _)) s9.si) (ak_cons (i_of (e_tup (a_cons (e_var (i := 4) rfl (.str _)) a_nil) (show 1 ≤ 100000 by decide)) (si_one s9.si))
    (ak_cons (i_of (e_tup (a_cons (e_var (i := 4) rfl (.str _)) (a_cons (e_var (i := 5) rfl (.int _)) (a_cons (e_var (i := 5) rfl (.int _)) a_nil))) (show 3 ≤ 100000 by decide)) (si_three s9.si ci ci))
    (ak_cons (i_of (e_lst (a_cons (e_var (i := 4) rfl (.str _)) (a_cons (e_var (i := 5) rfl (.int _)) a_nil)) (l2 _ _)) (si_twoL s9.si ci))
    (ak_cons (i_of (e_tup (a_cons (e_var (i := 5) rfl (.int _)) (a_cons (e_var (i := 4) rfl (.str _)) a_nil)) (l2 _ _)) (si_two ci s9.si))
    (ak_cons (i_of (e_tup (a_cons (e_var (i := 4) rfl (.str _)) (a_cons (e_cb (a_cons (e_var (i := 5) rfl (.int _)) a_nil) (c_strI clg)) a_nil)) (l2 _ _)) (si_two s9.si cst))
    (ak_cons (i_of (e_tup (a_cons (e_var (i := 4) rfl (.str _)) (a_cons e_non a_nil)) (l2 _ _)) (si_two s9.si (sml_none.mono (by decide) (by decide))))
    (ak_cons (i_of (e_tup (a_cons (e_var (i := 4) rfl (.str _)) (a_cons e_int a_nil)) (l2 _ _)) (si_two s9.si (si_int (by decide)))) ak_nil))))))))) u2.h hD2 fun v6 d6 G3 H3 u3 hD3 p6 x6 => ?_
  obtain ⟨l6, rfl, p6⟩ := p6
  refine st_set (K := K) (l_cat (R := R3) (a := 8) (b := 5) ((n_pure (e_var (i := 6) rfl x6)).imp fun _ e => e ▸ ⟨_, rfl, p6⟩) (l_of (ak_cons (i_of (e_tup (a_cons (e_var (i := 4) rfl (.str _)) (a_cons (e_op e_int e_int (o_I0 fun _ => .int _)) a_nil)) (l2 _ _)) (si_two s9.si (si_int (by decide))))
    (ak_cons (i_of (e_tup (a_cons (e_var (i := 4) rfl (.str _)) (a_cons (e_op (e_var (i := 5) rfl (.int _)) e_int (o_eq rfl)) a_nil)) (l2 _ _)) (si_two s9.si ((sml_bool _).mono (by decide) (by decide))))
    (ak_cons (i_of (e_tup (a_cons (e_upper (e_var (i := 4) rfl (.str _)) (Nat.le_trans s9.l (by decide))) (a_cons (e_var (i := 5) rfl (.int _)) a_nil)) (l2 _ _)) (si_two s9.upper.si ci))
    (ak_cons (i_of (e_tup (a_cons e_str (a_cons e_int a_nil)) (l2 _ _)) (si_two (SN.si (n := 9) (SN.of (by decide +kernel))) (si_int (by decide))))
    (ak_cons (i_of (e_tup (a_cons (e_op (e_var (i := 4) rfl (.str _)) e_str (o_addS (small2 s9.l (b := 8) (by decide +kernel)))) (a_cons (e_var (i := 5) rfl (.int _)) a_nil)) (l2 _ _)) (si_two (SN.si (n := 17) (SN.app s9 (m := 8) (SN.of (by decide +kernel)))) ci))
    ak_nil))))))) u3.h hD3 fun v6' d6' G4 H4 u4 hD4 p6' x6' => ?_
  obtain ⟨l6', rfl, p6'⟩ := p6'
  refine st_set (K := K) (l_cat (R := R3) (a := 13) (b := 4) ((n_pure (e_var (i := 6) rfl x6')).imp fun _ e => e ▸ ⟨_, rfl, p6'⟩) (l_of (ak_cons (i_of (e_tup (a_cons e_str (a_cons e_int a_nil)) (l2 _ _)) (si_two (SN.si (n := 9) (SN.of (by decide +kernel))) (si_int (by decide))))
    (ak_cons (i_of (e_tup (a_cons (e_var (i := 4) rfl (.str _)) (a_cons (e_op e_int e_int (o_I ⟨by decide, by decide, by decide⟩ fun _ => .int _)) a_nil)) (l2 _ _)) (si_two' (s9.si.mono (by decide) (Nat.le_refl _)) (sml_iff.mp (by decide +kernel))))
    (ak_cons (i_of (e_tup (a_cons e_non (a_cons (e_var (i := 5) rfl (.int _)) a_nil)) (l2 _ _)) (si_two (sml_none.mono (by decide) (by decide)) ci))
    (ak_cons (i_of (e_tup (a_cons (e_tup (a_cons (e_var (i := 4) rfl (.str _)) (a_cons (e_var (i := 5) rfl (.int _)) a_nil)) (l2 _ _)) (a_cons (e_var (i := 5) rfl (.int _)) a_nil)) (l2 _ _)) (si_two' ((si_two s9.si ci).mono (by decide) (Nat.le_refl _)) (ci.mono (by decide) (by decide))))
    ak_nil)))))) u4.h hD4 fun v6'' d6'' G5 H5 u5 hD5 p6'' x6'' => ?_
  obtain ⟨odd, rfl, hodd⟩ := p6''
  have T6 : SL 6 (.tuple ds) := ⟨ds, rfl, hT.l, hT.sl⟩
  have okL : okD (.list ds) = true := okD_of (Sml.lst hT.sl hT.l (by decide)) (by decide) (by decide)
  have okDi : okD (dictD [.list ds]) = true := by
    refine okKv (mergeK_ok (by intro _ h; cases h) (kvOf_ok hT.a).1) (Nat.le_trans (length_mergeK _ _) ?_)
    rw [(kvOf_ok hT.a).2]
    show 0 + ds.length ≤ 100
    omega
  have x15 : Da K G5 tv (.tuple ds) := x12.mono (u3.g.tr (u4.g.tr u5.g))
  refine st_set (K := K) (l_rep (R := RO) (l_of (n := 1) (ak_cons (s_ok (s_cat (s_cat (s_pure (e_slT (e_var (i := 1) (v := tv) rfl x15) oo_none (oo_some (K := K) (e_var (i := 3) rfl (.int _)))) (T6.cut _ _)) (s_one ((n_pick (i0 := 0) rfl (e_var (i := 6) rfl x6'') (by rw [hodd.l]; decide) (by rw [hodd.l]; decide) (by omega)).imp fun d hd => hodd.a d hd))) (s_pure (e_slT (e_var (i := 1) (v := tv) rfl x15) (oo_some (K := K) (e_op (e_var (i := 3) rfl (.int _)) e_int (o_I0 fun _ => .int _))) oo_none) (T6.cut _ _)))) ak_nil))) u5.h hD5 fun v7 d7 G6 H6 u6 hD6 p7 x7 => ?_
  obtain ⟨l7, rfl, p7⟩ := p7
  have x16 : Da K G6 tv (.tuple ds) := x15.mono u6.g
  refine st_set (K := K) (l_cat (R := RO) (a := 6) (b := 6) ((n_pure (e_var (i := 7) rfl x7)).imp fun _ e => e ▸ ⟨_, rfl, p7⟩) (l_of (ak_cons (s_ok (s_cat (s_pure (e_slT (e_var (i := 1) (v := tv) rfl x16) oo_none (oo_some (K := K) (e_var (i := 3) rfl (.int _)))) (T6.cut _ _)) (s_pure (e_slT (e_var (i := 1) (v := tv) rfl x16) (oo_some (K := K) (e_op (e_var (i := 3) rfl (.int _)) e_int (o_I0 fun _ => .int _))) oo_none) (T6.cut _ _)))) (ak_cons (s_ok (s_cat (s_pure (e_slT (e_var (i := 1) (v := tv) rfl x16) oo_none (oo_some (K := K) (e_op (e_var (i := 3) rfl (.int _)) e_int (o_I0 fun _ => .int _)))) (T6.cut _ _)) (s_pure (e_slT (e_var (i := 1) (v := tv) rfl x16) (oo_some (K := K) (e_var (i := 3) rfl (.int _))) oo_none) (T6.cut _ _)))) (ak_cons (s_ok (s_pure (e_revT (e_var (i := 1) (v := tv) rfl x16)) T6.rev)) (ak_cons ((n_pure (e_cb (a_cons (e_var (i := 1) (v := tv) rfl x16) a_nil) c_listT)).imp fun _ e => e ▸ okL) (ak_cons (s_ok (s_cat (s_pure (e_var (i := 1) (v := tv) rfl x16) T6) (s_pure (e_var (i := 1) (v := tv) rfl x16) T6))) (ak_cons ((n_pure (e_cb (a_cons (e_cb (a_cons (e_var (i := 1) (v := tv) rfl x16) a_nil) c_listT) a_nil) (c_dictL hT.a))).imp fun _ e => e ▸ okDi) ak_nil)))))))) u6.h hD6 fun v7' d7' G7 H7 u7 hD7 p7' x7' => ?_
  obtain ⟨l7', rfl, p7'⟩ := p7'
  have x17 : Da K G7 tv (.tuple ds) := x16.mono u7.g
  refine st_ret (K := K) (l_ix (i := way) (R := RO) (l_cat (R := RO) (a := 12) (b := 2) ((n_pure (e_var (i := 7) rfl x7')).imp fun _ e => e ▸ ⟨_, rfl, p7'⟩) (l_of (ak_cons (s_ok (s_cat (s_cat (s_pure (e_slT (e_var (i := 1) (v := tv) rfl x17) oo_none (oo_some (K := K) (e_var (i := 3) rfl (.int _)))) (T6.cut _ _)) (s_pure (e_revT (e_slT (e_var (i := 1) (v := tv) rfl x17) (oo_some (K := K) (e_var (i := 3) rfl (.int _))) (oo_some (K := K) (e_op (e_var (i := 3) rfl (.int _)) e_int (o_I0 fun _ => .int _))))) (T6.cut _ _).rev)) (s_pure (e_slT (e_var (i := 1) (v := tv) rfl x17) (oo_some (K := K) (e_op (e_var (i := 3) rfl (.int _)) e_int (o_I0 fun _ => .int _))) oo_none) (T6.cut _ _)))) (ak_cons (s_ok (s_cat (s_cat (s_pure (e_slT (e_var (i := 1) (v := tv) rfl x17) oo_none (oo_some (K := K) (e_var (i := 3) rfl (.int _)))) (T6.cut _ _)) (s_one (i_of (e_tup (a_cons e_str (a_cons e_int a_nil)) (l2 _ _)) (si_two (SN.si (n := 9) (SN.of (by decide +kernel))) (si_int (by decide)))))) (s_pure (e_slT (e_var (i := 1) (v := tv) rfl x17) (oo_some (K := K) (e_var (i := 3) rfl (.int _))) oo_none) (T6.cut _ _)))) ak_nil)))) (e_var (i := 2) rfl (.int _)) w0 (by omega)) u7.h hD7 fun v d G8 H8 u8 hD8 p8 x8 => ?_
  exact q v d G8 H8 (u1.tr (u2.toM.tr (u3.tr (u4.tr (u5.tr (u6.tr (u7.tr u8))))))) hD8 p8 x8
end
end L01
set_option Elab.async false
set_option linter.all false
set_option maxRecDepth 100000
set_option maxHeartbeats 1000000
namespace L01
open PySem PySem.Spec PyProof.Rows L2 KD
section
variable {P : Program} {w : World} {K : PySem.W.Frag} {mg : Str → Option Value} {base : Heap}
/-! ### a list that is added to, and the deck beside it -/
structure Lp (K : PySem.W.Frag) (dk cl L : Addr) (R : PyData → Prop) (n : Nat) (ds : List PyData) (G H : Hp) (m : Nat) : Prop where
  e : Ex G H
  d : Deck G H dk cl m
  l : ListAt K L ds G H
  n1 : L ≠ dk
  n2 : L ≠ cl
  len : ds.length = n
  all : ∀ d ∈ ds, R d
section
variable {dk cl L : Addr} {σ : L2.St} {F : Hp} {m m1 m2 m' n a b : Nat} {te ta tb tj : TE} {as : TA} {R : PyData → Prop} {ds : List PyData} {G H G1 H1 : Hp}
theorem Lp.up (I : Lp K dk cl L R n ds G H m) (u : UpM dk cl G H G1 H1) (hD : Deck G1 H1 dk cl m') : Lp K dk cl L R n ds G1 H1 m' :=
  ⟨u.h, hD, I.l.upM I.n1 I.n2 u, I.n1, I.n2, I.len, I.all⟩
theorem Lp.upP (I : Lp K dk cl L R n ds G H m) (u : Up G H G1 H1) : Lp K dk cl L R n ds G1 H1 m := I.up u.toM (I.d.up u)
theorem Lp.put {acc : List V} {v : V} {d : PyData} (I : Lp K dk cl L R n ds G H m) (h1 : H L = some (.lst acc)) (h2 : DaAll K G acc ds) (hv : Da K G v d) (hr : R d) :
    Lp K dk cl L R (n + 1) (ds ++ [d]) G (upd H L (.lst (acc ++ [v]))) m :=
  ⟨fun b o e => by rw [upd_ne (ne_of_none e I.l.gl)]; exact I.e b o e, I.d.put I.n1 I.n2, I.l.put h1 h2 hv, I.n1, I.n2, by rw [List.length_append, I.len]; rfl, fun x hx => by
    rcases List.mem_append.mp hx with h | h
    · exact I.all x h
    · rcases List.mem_cons.mp h with rfl | h
      · exact hr
      · cases h⟩
theorem do_append {i : Nat} {D : Ends} (hv : σ[i]? = some (some (.ref L))) (I : Lp K dk cl L R n ds G H m) (h : EvN K dk cl σ G m te m' R) (hn : n ≤ 100000)
    (q : ∀ ds' G' H', Ex G G' → Lp K dk cl L R (n + 1) ds' G' H' m' → D.nx σ H') : tDrop (tBM K "list" rAppend (tVar i) (tCons te tNil)) D σ H := by
  obtain ⟨acc, ea, _⟩ := I.l.ex
  refine ⟨.ref L, hv, .inl ⟨rfl, acc, SqL.of ea⟩, h G H (Ex.rf _) I.e I.d _ fun v d G1 H1 u1 hD1 p dv => ?_⟩
  have I1 := I.up u1 hD1
  obtain ⟨acc1, ea1, da1⟩ := I1.l.ex
  refine ⟨L, acc1, v, rfl, rfl, ea1, ?_, q _ G1 _ u1.g (I1.put ea1 da1 dv p)⟩
  rw [da1.length, I.len]
  exact Nat.lt_of_le_of_lt hn (by decide)
theorem st_append {i : Nat} {u : TS} {D : Ends} (hv : σ[i]? = some (some (.ref L))) (I : Lp K dk cl L R n ds G H m) (h : EvN K dk cl σ G m te m' R) (hn : n ≤ 100000)
    (q : ∀ ds' G' H', Ex G G' → Lp K dk cl L R (n + 1) ds' G' H' m' → u D σ H') : tSeq (tDrop (tBM K "list" rAppend (tVar i) (tCons te tNil))) u D σ H :=
  do_append (D := { D with nx := u D }) hv I h hn q
/-- some = some + [..], the new list kept apart -/
theorem st_catL {i : Nat} {u : TS} {D : Ends} (h1 : EvN K dk cl σ G m ta m1 (NL R a)) (h2 : EvN K dk cl σ G m1 tb m2 (NL R b)) (e : Ex G H) (hD : Deck G H dk cl m) (hn : a + b ≤ 1000)
    (q : ∀ L ds G' H', Ex G G' → Lp K dk cl L R (a + b) ds G' H' m2 → u D (σ.set i (some (.ref L))) H') : tSeq (tAsg (tOp rCat ta tb) (gName i)) u D σ H := by
  refine h1 G H (Ex.rf _) e hD _ fun v d1 G1 H1 u1 hD1 p1 x1 => h2 G1 H1 u1.g u1.h hD1 _ fun w d2 G2 H2 u2 hD2 p2 x2 => ?_
  obtain ⟨l1, rfl, p1⟩ := p1
  obtain ⟨l2, rfl, p2⟩ := p2
  cases x1 with | lst k1 a1 => ?_
  cases x2 with | lst k2 a2 => ?_
  have k1' := u2.h _ _ (u2.g _ _ k1)
  refine ⟨_, _, _, _, rfl, rfl, k1', u2.h _ _ k2, ?_, fun L hL => ?_⟩
  · rw [a1.length, a2.length, p1.l, p2.l]
    exact Nat.le_trans hn (by decide)
  · refine q L (l1 ++ l2) G2 _ (u1.g.tr u2.g) ⟨u2.h.tr (Ex.up hL), hD2.up (?_ : Up G2 H2 G2 _), ⟨u2.h.fresh hL, _, upd_same, (a1.mono u2.g).append a2⟩, fun z => hD2.dn (by rw [← z]; exact hL), fun z => hD2.cn (by rw [← z]; exact hL), ?_, ?_⟩
    · exact ⟨Ex.rf _, u2.h.tr (Ex.up hL), Ex.up hL, fun _ _ h => h⟩
    · rw [List.length_append, p1.l, p2.l]
    · exact fun d hd => (List.mem_append.mp hd).elim (p1.a d) (p2.a d)
theorem st_guard {tt : TT} {t u : TS} {D : Ends} (h : EvT σ G tt false) (e : Ex G H) (q : ∀ G' H', Up G H G' H' → u D σ H') : tSeq (tIfS tt t tNext) u D σ H :=
  h G H (Ex.rf _) e _ fun G1 H1 u1 => iteF (q G1 H1 u1)
theorem e_dnew : EvE K σ F tDNewK (.dict []) := fun G H _ e2 Q q => fun p hp => q _ _ _ (Up.new e2 hp _) (.dic upd_same .nil)
theorem i_ok {d : PyData} (h : EvE K σ F te d) (hs : okD d = true := by decide +kernel) : EvN K dk cl σ F m te m RO := (n_pure h).imp fun _ e => e ▸ hs
/-- no item fails: [x for x in xs if not right(x)] is empty -/
theorem e_none {wi : TI} {i : Nat} {E : XK} (hi : EvI K σ F wi ds) (hok : ∀ d ∈ ds, okD d = true) (hz : ds.length ≤ 100000) (hw : decide (i < σ.length) = true := by rfl) :
    EvE K σ F (tLc wi (gName i) (tNot (tB (tCall (spP K 1 (fun ds => ds.all okD = true) fun _ => .bool true) [] E (tCons (tVar i) tNil)))) (tVar i) [i]) (.list []) :=
  (e_lc1f (p := fun _ => false) (f := fun d => d) hi hz fun d hd F' v _ dv =>
    ⟨(t_not (t_val (b := true) (e_call (a_cons (e_var (by rw [List.getElem?_set_self (by rw [wipe_length]; exact of_decide_eq_true hw)]) dv) a_nil) rfl (by simpa using hok d hd)))).is rfl, fun z => by cases z⟩).is
    (by rw [List.filter_eq_nil_iff.mpr (fun _ _ z => by cases z)]; rfl)
/-- for x, y in a tuple of pairs, with a list and the deck beside it -/
theorem n_right {E : XK} (h : EvN K dk cl σ F m te m' (fun d => okD d = true)) :
    EvN K dk cl σ F m (tCall (spP K 1 (fun ds => ds.all okD = true) fun _ => .bool true) [] E (tCons te tNil)) m' (fun d => d = .bool true) :=
  (n_call (an_cons h fun _ _ => an_nil) (by rintro _ ⟨_, _, _, rfl, rfl⟩; rfl) (by rintro _ ⟨x, _, hx, rfl, rfl⟩; simpa using hx)).imp (by rintro _ ⟨_, _, rfl⟩; rfl)
/-- if not a or not b: .., where both hold -/
theorem do_guard2 {t : TS} {D : Ends} (h1 : EvN K dk cl σ G m ta m1 (fun d => d = .bool true)) (h2 : ∀ G', Ex G G' → EvN K dk cl σ G' m1 tb m2 (fun d => d = .bool true)) (e : Ex G H) (hD : Deck G H dk cl m)
    (q : ∀ G' H', UpM dk cl G H G' H' → Deck G' H' dk cl m2 → D.nx σ H') : tIfS (tOr (tNot (tB ta)) (tNot (tB tb))) t tNext D σ H := by
  refine h1 G H (Ex.rf _) e hD _ fun v d G1 H1 u1 hD1 p1 x1 => ?_
  subst p1
  cases x1
  refine ⟨true, rfl, iteF (h2 G1 u1.g G1 H1 (Ex.rf _) u1.h hD1 _ fun v d G2 H2 u2 hD2 p2 x2 => ?_)⟩
  subst p2
  cases x2
  exact ⟨true, rfl, iteF (q G2 H2 (u1.tr u2) hD2)⟩
end
end
end L01
set_option Elab.async false
set_option linter.all false
set_option maxRecDepth 100000
set_option maxHeartbeats 1000000
namespace L01
open PySem PySem.Spec PyProof.Rows L2 KD
section
variable {P : Program} {w : World} {K : PySem.W.Frag} {mg : Str → Option Value} {base : Heap}
/-! ### the law -/
section
variable {dk cl : Addr} {σ : L2.St} {F : Hp} {m n : Nat} {te : TE} {i j : Nat} {ds : List PyData} {v : V}
theorem mulOk500 : MulOk "cons" 500 := by
  refine ⟨by decide, fun _ _ => by decide +kernel, fun _ _ => by decide +kernel⟩
theorem ok500 : okD (.str (Txt.mul "cons" 500)) = true := okD_of ((SN.of (n := 2000) (by decide +kernel)).sml (by decide)) (by decide) (by decide)
def wideD (d : PyData) : PyData := .tuple [d, .int (match d with | .str s => Txt.find "abcxyz" s % 4 | _ => 0)]
def afterA (d : PyData) : PyData := .tuple [.str (match d with | .str s => "a" ++ s | _ => "a"), .int 1]
def addSD : PyData → PyData → PyData
  | .str a, .str b => .str (a ++ b)
  | _, _ => .none
theorem five_ok : ∀ d ∈ ([.str "", .str "a", .str "A", .str " ", .str "aaaaa"] : List PyData), ∃ t, d = .str t ∧ SN 5 t :=
  List.forall_mem_cons.mpr ⟨⟨_, rfl, SN.of (by decide +kernel)⟩, List.forall_mem_cons.mpr ⟨⟨_, rfl, SN.of (by decide +kernel)⟩, List.forall_mem_cons.mpr ⟨⟨_, rfl, SN.of (by decide +kernel)⟩,
    List.forall_mem_cons.mpr ⟨⟨_, rfl, SN.of (by decide +kernel)⟩, List.forall_mem_cons.mpr ⟨⟨_, rfl, SN.of (by decide +kernel)⟩, fun _ h => by cases h⟩⟩⟩⟩⟩
theorem Lp.cast {L : Addr} {R : PyData → Prop} {n' m' : Nat} {G H : Hp} (I : Lp K dk cl L R n ds G H m) (hn : n = n') (hm : m ≤ m') : Lp K dk cl L R n' ds G H m' :=
  ⟨I.e, I.d.mono hm, I.l, I.n1, I.n2, hn ▸ I.len, I.all⟩
theorem n_bent {E : XK} (hd : σ[1]? = some (some (.ref dk))) (hv : σ[5]? = some (some v)) (hx : Da K F v (.tuple ds)) (hT : TagsD ds) (hm : m ≤ 999990000) :
    EvN K dk cl σ F m (tCall (spBent K) [] E (tCons (tVar 1) (tCons (tVar 5) tNil))) (m + 3) RO := fun G H e1 e2 hD Q q =>
  ⟨.ref dk, hd, v, hv, rfl, dk, cl, v, ds, G, m, rfl, e2, hD, hm, hx.mono e1, hT, fun w d G' H' u hD' ok dw => q w d G' H' u hD' ok dw⟩
end
def sp_law (K : PySem.W.Frag) : Sp := fun vs H Q _ => vs.length = 1 ∧ ∃ (a : Addr) (ns : List Int), vs = [.ref a] ∧ SqL K H a (ns.map V.int) ∧ ns.length ≤ 63 ∧ ∀ H', Q (.bl true) H'
theorem sp_law_go {a : Addr} {ns : List Int} {H : Hp} {E : XK} (hl : ns.length ≤ 63) (hS : SqL K H a (ns.map V.int)) : sp_law K [.ref a] H (fun v _ => v = .bl true) E :=
  ⟨rfl, a, ns, rfl, hS, hl, fun _ => rfl⟩
theorem ok_law (T : Txt K mg) : FnG P w K mg base CX0 7 T.a_law T.d_law ["_law_script"] (sp_law K) := by
  have G__law_deck := (ok__law_deck (P := P) (w := w) (base := base) T).mono (show 1 ≤ 6 by decide)
  have G__law_pick := (ok__law_pick (P := P) (w := w) (base := base) T).mono (show 2 ≤ 6 by decide)
  have G__law_name_right := (ok__law_name_right (P := P) (w := w) (base := base) T).mono (show 2 ≤ 6 by decide)
  have G__law_signature_right := ok__law_signature_right (P := P) (w := w) (base := base) T
  have G__law_tags := (ok__law_tags (P := P) (w := w) (base := base) T).mono (show 3 ≤ 6 by decide)
  have G__law_bent := (ok__law_bent (P := P) (w := w) (base := base) T).mono (show 3 ≤ 6 by decide)
  refine okG T.F_law sc_law (fun vs H Q E h => h.1) fun cdv A out s H vs Q E hr hq h => ?_
  obtain ⟨_, a, ns, rfl, hS, hl, q⟩ := h
  have hu := hr.units
  refine ⟨_, (pss_cons (ps_set (i := 1) sc_law.nd rfl (.inl rfl) (pe_g G__law_deck hr hq (by rfl) T.g__law_deck T.F__law_deck.kp T.b__law_deck .nil pass0 (pa_cons (pv 0) pa_nil)))
    (pss_cons (ps_set (i := 2) sc_law.nd rfl (.inl rfl) (pe_lst (pa_cons pe_non (pa_cons pe_bl (pa_cons pe_int (pa_cons pe_str (pa_cons pe_str (pa_cons pe_str (pa_cons pe_str (pa_cons pe_str (pa_cons pe_str (pa_cons pe_str (pa_cons pe_str (pa_cons pe_str (pa_cons pe_str (pa_cons pe_str (pa_cons pe_str (pa_cons pe_str pa_nil))))))))))))))))))
    (pss_cons (ps_set (i := 2) sc_law.nd rfl (.inl rfl) (pe_op op_cat (pv 2) (pe_lst (pa_cons (pe_tup (pa_cons pe_str pa_nil)) (pa_cons (pe_lst (pa_cons pe_str pa_nil)) (pa_cons pe_dnewK (pa_cons (pe_tup pa_nil) (pa_cons pe_str (pa_cons pe_str (pa_cons (pe_op op_mulS pe_str pe_int) (pa_cons (pe_op op_pow pe_int pe_int) pa_nil)))))))))))
    (pss_cons (ps_if (pt_cmpR (op_neDaK K hu) (pe_lc (own := [("_law_it", 9)]) (g := gName 9) rfl sc_law.nd  (pi_listK K (pv 2)) (blkOk_by (N := N_law) (sc := defScope s_law) (by decide +kernel)) (fun _ _ _ _ _ => (pg_name (i := 9) sc_law.nd rfl (.inl rfl))) (fun _ _ _ _ _ => pts_one (pt_not (pt_val (pe_g G__law_name_right hr hq (by rfl) T.g__law_name_right T.F__law_name_right.kp T.b__law_name_right .nil pass0 (pa_cons (pv 9) pa_nil))))) (fun _ _ _ _ _ => (pv 9))) (pe_lst pa_nil) (nomark _))
    (pss_one (ps_ret pe_bl))
    pss_nil)
    (pss_cons (ps_set (i := 3) sc_law.nd rfl (.inl rfl) (pe_callTy (call_tupK K) (by rfl) T.m_tuple (by decide +kernel) (pa_cons (pe_lc (own := [("_law_sign", 10)]) (g := gName 10) (tt := tYes) rfl sc_law.nd  (pi_str pe_str) (blkOk_by (N := N_law) (sc := defScope s_law) (by decide +kernel)) (fun _ _ _ _ _ => (pg_name (i := 10) sc_law.nd rfl (.inl rfl))) (fun _ _ _ _ _ => pts_nil) (fun _ _ _ _ _ => (pe_tup (pa_cons (pv 10) (pa_cons (pe_op op_mod (pe_m1 PySem.F.slot_str_find PySem.F.type_str_find mt_find pe_str (pv 10)) pe_int) pa_nil))))) pa_nil)))
    (pss_cons (ps_set (i := 2) sc_law.nd rfl (.inl rfl) (pe_lst (pa_cons pe_non (pa_cons pe_bl (pa_cons pe_int (pa_cons pe_str (pa_cons (pe_tup pa_nil) (pa_cons (pe_lst pa_nil) (pa_cons pe_dnewK (pa_cons pe_str (pa_cons (pe_tup (pa_cons (pe_tup (pa_cons pe_str (pa_cons pe_int pa_nil))) pa_nil)) (pa_cons (pe_tup (pa_cons pe_str (pa_cons pe_int pa_nil))) (pa_cons (pe_tup (pa_cons (pe_tup (pa_cons (pe_tup (pa_cons pe_str (pa_cons pe_int pa_nil))) pa_nil)) pa_nil)) (pa_cons (pe_tup (pa_cons (pe_tup (pa_cons pe_str (pa_cons pe_int pa_nil))) (pa_cons (pe_tup (pa_cons pe_str (pa_cons pe_int pa_nil))) pa_nil))) pa_nil))))))))))))))
    (pss_cons (ps_set (i := 2) sc_law.nd rfl (.inl rfl) (pe_op op_cat (pv 2) (pe_lst (pa_cons (pe_tup (pa_cons (pe_tup (pa_cons pe_str (pa_cons pe_int pa_nil))) pa_nil)) (pa_cons (pe_tup (pa_cons (pe_tup (pa_cons pe_str (pa_cons pe_int pa_nil))) pa_nil)) (pa_cons (pe_tup (pa_cons (pe_tup (pa_cons pe_str (pa_cons pe_int pa_nil))) (pa_cons (pe_tup (pa_cons pe_str (pa_cons pe_int pa_nil))) pa_nil))) (pa_cons (pe_tup (pa_cons (pe_tup (pa_cons pe_str (pa_cons pe_int pa_nil))) pa_nil)) (pa_cons (pe_tup (pa_cons (pe_tup (pa_cons pe_str (pa_cons pe_int pa_nil))) pa_nil)) pa_nil))))))))
    (pss_cons (ps_set (i := 2) sc_law.nd rfl (.inl rfl) (pe_op op_cat (pv 2) (pe_lst (pa_cons (pe_tup (pa_cons (pe_tup (pa_cons pe_str (pa_cons pe_int pa_nil))) (pa_cons (pe_tup (pa_cons pe_str (pa_cons pe_int pa_nil))) pa_nil))) (pa_cons (pe_tup (pa_cons (pe_tup (pa_cons pe_str (pa_cons pe_bl pa_nil))) pa_nil)) (pa_cons (pv 3) pa_nil))))))
    (pss_cons (ps_set (i := 2) sc_law.nd rfl (.inl rfl) (pe_op op_cat (pv 2) (pe_lst (pa_cons (pe_tup (pa_cons (pe_tup (pa_cons pe_str (pa_cons pe_int pa_nil))) (pa_cons (pe_tup (pa_cons pe_str (pa_cons pe_int pa_nil))) pa_nil))) (pa_cons (pe_tup (pa_cons (pe_tup pa_nil) pa_nil)) (pa_cons (pe_tup (pa_cons (pe_tup (pa_cons (pe_lst (pa_cons pe_str pa_nil)) (pa_cons pe_int pa_nil))) pa_nil)) (pa_cons (pe_tup (pa_cons (pe_tup (pa_cons pe_dnewK (pa_cons pe_int pa_nil))) pa_nil)) pa_nil)))))))
    (pss_cons (ps_expr (pe_bm PySem.F.plainAttrs_list PySem.F.slot_list_append PySem.F.type_list_append mt_append (pv 2) (pa_cons (pe_callTy (call_tupK K) (by rfl) T.m_tuple (by decide +kernel) (pa_cons (pe_lc (own := [("_law_sign", 10)]) (g := gName 10) (tt := tYes) rfl sc_law.nd  (pi_str pe_str) (blkOk_by (N := N_law) (sc := defScope s_law) (by decide +kernel)) (fun _ _ _ _ _ => (pg_name (i := 10) sc_law.nd rfl (.inl rfl))) (fun _ _ _ _ _ => pts_nil) (fun _ _ _ _ _ => (pe_tup (pa_cons (pe_op op_add_str pe_str (pv 10)) (pa_cons pe_int pa_nil))))) pa_nil)) pa_nil)))
    (pss_cons (ps_for PassesOwn.never rfl (pi_range1 (by rfl) T.m_range (pa_cons pe_int pa_nil)) (pg_name (i := 4) sc_law.nd rfl (.inl rfl))
    (pss_cons (ps_set (i := 5) sc_law.nd rfl (.inl rfl) (pe_g G__law_tags hr hq (by rfl) T.g__law_tags T.F__law_tags.kp T.b__law_tags .nil pass0 (pa_cons (pv 1) pa_nil)))
    (pss_cons (ps_expr (pe_bm PySem.F.plainAttrs_list PySem.F.slot_list_append PySem.F.type_list_append mt_append (pv 2) (pa_cons (pv 5) pa_nil)))
    (pss_cons (ps_for PassesOwn.never rfl (pi_range1 (by rfl) T.m_range (pa_cons pe_int pa_nil)) (pg_name (i := 6) sc_law.nd rfl (.inl rfl))
    (pss_one (ps_expr (pe_bm PySem.F.plainAttrs_list PySem.F.slot_list_append PySem.F.type_list_append mt_append (pv 2) (pa_cons (pe_g G__law_bent hr hq (by rfl) T.g__law_bent T.F__law_bent.kp T.b__law_bent .nil pass0 (pa_cons (pv 1) (pa_cons (pv 5) pa_nil))) pa_nil)))))
    (pss_one (ps_for PassesOwn.never rfl (pi_tupK K (pv 5)) (pg_tupK K rfl (pgs_cons (pg_name (i := 7) sc_law.nd rfl (.inl rfl)) (pgs_cons (pg_name (i := 8) sc_law.nd rfl (.inl rfl)) pgs_nil)))
    (pss_one (ps_if (PW.pt (pw_or (pt_not (pt_val (pe_g G__law_name_right hr hq (by rfl) T.g__law_name_right T.F__law_name_right.kp T.b__law_name_right .nil pass0 (pa_cons (pv 7) pa_nil)))) (pw_or1 (pt_not (pt_val (pe_g G__law_name_right hr hq (by rfl) T.g__law_name_right T.F__law_name_right.kp T.b__law_name_right .nil pass0 (pa_cons (pe_op op_add_str (pv 7) (pe_g G__law_pick hr hq (by rfl) T.g__law_pick T.F__law_pick.kp T.b__law_pick .nil pass0 (pa_cons (pv 1) (pa_cons (pe_lst (pa_cons pe_str (pa_cons pe_str (pa_cons pe_str (pa_cons pe_str (pa_cons pe_str pa_nil)))))) pa_nil)))) pa_nil)))))))
    (pss_one (ps_ret pe_bl))
    pss_nil))))))))
    (pss_one (ps_ret (pe_cmpR (op_eqDaK K hu) (pe_lc (own := [("_law_it", 9)]) (g := gName 9) rfl sc_law.nd  (pi_listK K (pv 2)) (blkOk_by (N := N_law) (sc := defScope s_law) (by decide +kernel)) (fun _ _ _ _ _ => (pg_name (i := 9) sc_law.nd rfl (.inl rfl))) (fun _ _ _ _ _ => pts_one (pt_not (pt_val (pe_g G__law_signature_right hr hq (by rfl) T.g__law_signature_right T.F__law_signature_right.kp T.b__law_signature_right .nil pass0 (pa_cons (pv 9) pa_nil))))) (fun _ _ _ _ _ => (pv 9))) (pe_lst pa_nil) (nomark _))))))))))))))), ?_⟩
  -- the deck
  refine ⟨.ref a, rfl, rfl, a, ns, fun _ => none, rfl, hS, hl, fun _ _ h => (by cases h), fun dk cl H1 _ _ _ hD1 => ?_⟩
  have e1 : Ex (fun _ => none) H1 := fun _ _ h => (by cases h)
  show tSeq _ _ _ [some (V.ref a), some (V.ref dk), none, none, none, none, none, none, none, none, none] H1
  -- names
  refine st_set (K := K) (l_of (R := RO) (n := 16) (ak_cons (i_ok e_non) (ak_cons (i_ok e_bl) (ak_cons (i_ok e_int) (ak_cons (i_ok e_str) (ak_cons (i_ok e_str) (ak_cons (i_ok e_str) (ak_cons (i_ok e_str) (ak_cons (i_ok e_str)
    (ak_cons (i_ok e_str) (ak_cons (i_ok e_str) (ak_cons (i_ok e_str) (ak_cons (i_ok e_str) (ak_cons (i_ok e_str) (ak_cons (i_ok e_str) (ak_cons (i_ok e_str) (ak_cons (i_ok e_str) ak_nil))))))))))))))))) e1 hD1 fun v2 d2 G2 H2 u2 hD2 p2 x2 => ?_
  obtain ⟨l2, rfl, p2⟩ := p2
  refine st_set (K := K) (l_cat (R := RO) (a := 16) (b := 8) ((n_pure (e_var (i := 2) rfl x2)).imp fun _ e => e ▸ ⟨_, rfl, p2⟩) (l_of (ak_cons (i_ok (e_tup (a_cons e_str a_nil) (show 1 ≤ 100000 by decide)))
    (ak_cons (i_ok (e_lst (a_cons e_str a_nil) (show 1 ≤ 100000 by decide))) (ak_cons (i_ok e_dnew) (ak_cons (i_ok (e_tup a_nil (show 0 ≤ 100000 by decide))) (ak_cons (i_ok e_str) (ak_cons (i_ok e_str) (ak_cons (i_ok (e_op e_str e_int (o_mulS mulOk500)) ok500)
    (ak_cons (i_ok (e_op e_int e_int (o_I ⟨by decide, by decide, by decide⟩ fun _ => .int _))) ak_nil)))))))))) u2.h hD2 fun v3 d3 G3 H3 u3 hD3 p3 x3 => ?_
  obtain ⟨l3, rfl, p3⟩ := p3
  refine st_guard ((t_test (e_op (e_none (i_list (e_var (i := 2) rfl x3)) p3.a (by rw [p3.l]; decide)) (e_lst a_nil (show 0 ≤ 100000 by decide)) (o_neDa cmpOk_nil))).is rfl) u3.h fun G4 H4 u4 => ?_
  have hD4 := hD3.up u4
  have okW : okD (.tuple ((sgns "abcxyz").map wideD)) = true := by decide +kernel
  refine st_set (K := K) (n_pure (e_cb (a_cons (e_lc1 (f := wideD) (i_str e_str) (by decide +kernel) fun d hd F' v e xv => ?_) a_nil) c_tupL)) u4.h hD4 fun v5 d5 G5 H5 u5 hD5 p5 x5 => ?_
  · obtain ⟨c, _, rfl⟩ := mem_sgns hd
    exact e_tup (a_cons (e_var (v := v) rfl xv) (a_cons (e_op (e_find e_str (e_var (v := v) rfl xv)) e_int (o_I (by decide) fun _ => .int _)) a_nil)) (show 2 ≤ 100000 by decide)
  subst p5
  have xW := x5
  refine st_set (K := K) (l_of (R := RO) (n := 12) (ak_cons (i_ok e_non) (ak_cons (i_ok e_bl) (ak_cons (i_ok e_int) (ak_cons (i_ok e_str) (ak_cons (i_ok (e_tup a_nil (show 0 ≤ 100000 by decide))) (ak_cons (i_ok (e_lst a_nil (show 0 ≤ 100000 by decide))) (ak_cons (i_ok e_dnew) (ak_cons (i_ok e_str) (ak_cons (i_ok (e_tup (a_cons (e_tup (a_cons e_str (a_cons e_int a_nil)) (show 2 ≤ 100000 by decide)) a_nil) (show 1 ≤ 100000 by decide))) (ak_cons (i_ok (e_tup (a_cons e_str (a_cons e_int a_nil)) (show 2 ≤ 100000 by decide))) (ak_cons (i_ok (e_tup (a_cons (e_tup (a_cons (e_tup (a_cons e_str (a_cons e_int a_nil)) (show 2 ≤ 100000 by decide)) a_nil) (show 1 ≤ 100000 by decide)) a_nil) (show 1 ≤ 100000 by decide))) (ak_cons (i_ok (e_tup (a_cons (e_tup (a_cons e_str (a_cons e_int a_nil)) (show 2 ≤ 100000 by decide)) (a_cons (e_tup (a_cons e_str (a_cons e_int a_nil)) (show 2 ≤ 100000 by decide)) a_nil)) (show 2 ≤ 100000 by decide))) ak_nil))))))))))))) u5.h hD5 fun v6 d6 G6 H6 u6 hD6 p6 x6 => ?_
  obtain ⟨l6, rfl, p6⟩ := p6
  refine st_set (K := K) (l_cat (R := RO) (a := 12) (b := 5) ((n_pure (e_var (i := 2) rfl x6)).imp fun _ e => e ▸ ⟨_, rfl, p6⟩) (l_of (ak_cons (i_ok (e_tup (a_cons (e_tup (a_cons e_str (a_cons e_int a_nil)) (show 2 ≤ 100000 by decide)) a_nil) (show 1 ≤ 100000 by decide))) (ak_cons (i_ok (e_tup (a_cons (e_tup (a_cons e_str (a_cons e_int a_nil)) (show 2 ≤ 100000 by decide)) a_nil) (show 1 ≤ 100000 by decide))) (ak_cons (i_ok (e_tup (a_cons (e_tup (a_cons e_str (a_cons e_int a_nil)) (show 2 ≤ 100000 by decide)) (a_cons (e_tup (a_cons e_str (a_cons e_int a_nil)) (show 2 ≤ 100000 by decide)) a_nil)) (show 2 ≤ 100000 by decide))) (ak_cons (i_ok (e_tup (a_cons (e_tup (a_cons e_str (a_cons e_int a_nil)) (show 2 ≤ 100000 by decide)) a_nil) (show 1 ≤ 100000 by decide))) (ak_cons (i_ok (e_tup (a_cons (e_tup (a_cons e_str (a_cons e_int a_nil)) (show 2 ≤ 100000 by decide)) a_nil) (show 1 ≤ 100000 by decide))) ak_nil))))))) u6.h hD6 fun v7 d7 G7 H7 u7 hD7 p7 x7 => ?_
  obtain ⟨l7, rfl, p7⟩ := p7
  have xW := x5.mono (u6.g.tr u7.g)
  refine st_set (K := K) (l_cat (R := RO) (a := 17) (b := 3) ((n_pure (e_var (i := 2) rfl x7)).imp fun _ e => e ▸ ⟨_, rfl, p7⟩) (l_of (ak_cons (i_ok (e_tup (a_cons (e_tup (a_cons e_str (a_cons e_int a_nil)) (show 2 ≤ 100000 by decide)) (a_cons (e_tup (a_cons e_str (a_cons e_int a_nil)) (show 2 ≤ 100000 by decide)) a_nil)) (show 2 ≤ 100000 by decide))) (ak_cons (i_ok (e_tup (a_cons (e_tup (a_cons e_str (a_cons e_bl a_nil)) (show 2 ≤ 100000 by decide)) a_nil) (show 1 ≤ 100000 by decide))) (ak_cons ((n_pure (e_var (i := 3) rfl xW)).imp fun _ e => e ▸ okW) ak_nil))))) u7.h hD7 fun v8 d8 G8 H8 u8 hD8 p8 x8 => ?_
  obtain ⟨l8, rfl, p8⟩ := p8
  refine st_catL (K := K) (R := RO) (a := 20) (b := 4) ((n_pure (e_var (i := 2) rfl x8)).imp fun _ e => e ▸ ⟨_, rfl, p8⟩) (l_of (ak_cons (i_ok (e_tup (a_cons (e_tup (a_cons e_str (a_cons e_int a_nil)) (show 2 ≤ 100000 by decide)) (a_cons (e_tup (a_cons e_str (a_cons e_int a_nil)) (show 2 ≤ 100000 by decide)) a_nil)) (show 2 ≤ 100000 by decide))) (ak_cons (i_ok (e_tup (a_cons (e_tup a_nil (show 0 ≤ 100000 by decide)) a_nil) (show 1 ≤ 100000 by decide))) (ak_cons (i_ok (e_tup (a_cons (e_tup (a_cons (e_lst (a_cons e_str a_nil) (show 1 ≤ 100000 by decide)) (a_cons e_int a_nil)) (show 2 ≤ 100000 by decide)) a_nil) (show 1 ≤ 100000 by decide))) (ak_cons (i_ok (e_tup (a_cons (e_tup (a_cons e_dnew (a_cons e_int a_nil)) (show 2 ≤ 100000 by decide)) a_nil) (show 1 ≤ 100000 by decide))) ak_nil))))) u8.h hD8 (by decide) fun L ds9 G9 H9 e9 I9 => ?_
  show tSeq _ _ _ [some (V.ref a), some (V.ref dk), some (.ref L), some v5, none, none, none, none, none, none, none] H9
  have okB : okD (.tuple ((sgns "bcdefghijklmnopq").map afterA)) = true := by decide +kernel
  refine st_append (K := K) (i := 2) rfl I9 ((n_pure (e_cb (a_cons (e_lc1 (f := afterA) (i_str e_str) (by decide +kernel) fun d hd F' v e xv => ?_) a_nil) c_tupL)).imp fun _ e => e ▸ okB) (by decide) fun ds10 G10 H10 e10 I10 => ?_
  · obtain ⟨c, _, rfl⟩ := mem_sgns hd
    exact e_tup (a_cons (e_op e_str (e_var (v := v) rfl xv) (o_addS (small2 (a := 1) (b := 1) (by decide +kernel) (Nat.le_refl 1)))) (a_cons e_int a_nil)) (show 2 ≤ 100000 by decide)
  refine ⟨6, rfl, by decide, by decide, ?_⟩
  refine for_range (lo := 0) (n := 6) (fun k σ H' => ∃ (o4 o5 o6 o7 o8 : Option V) (G' : Hp) (ds : List PyData), σ = [some (V.ref a), some (V.ref dk), some (.ref L), some v5, o4, o5, o6, o7, o8, none, none] ∧ Lp K dk cl L RO (25 + 7 * k) ds G' H' (100 * k))
    ⟨_, _, _, _, _, G10, ds10, rfl, I10⟩ (fun k σ H' hk hP => ?_) (fun σ H' hP => ?_)
  · obtain ⟨o4, o5, o6, o7, o8, G11, ds11, rfl, I11⟩ := hP
    show tSeq _ _ _ [some (V.ref a), some (V.ref dk), some (.ref L), some v5, some (.int (0 + (k : Int))), o5, o6, o7, o8, none, none] H'
    refine ⟨.ref dk, rfl, rfl, dk, cl, G11, 100 * k, rfl, I11.e, I11.d, by omega, fun vT tds G12 H12 u12 hD12 hT x12 => ?_⟩
    have I12 := I11.up u12 hD12
    have hTl := hT.l
    have okT : okD (.tuple tds) = true := okD_of (Sml.tup hT.sl hT.l (by decide)) (by decide) (by decide)
    obtain ⟨t, xs, rfl, ht, hxs⟩ : ∃ t xs, vT = V.ref t ∧ G12 t = some (.tup xs) ∧ DaAll K G12 xs tds := by
      cases x12 with
      | tup h1 h2 => exact ⟨_, _, rfl, h1, h2⟩
    have hxl := hxs.length
    show tSeq _ _ _ [some (V.ref a), some (V.ref dk), some (.ref L), some v5, some (.int (0 + (k : Int))), some (.ref t), o6, o7, o8, none, none] H12
    refine st_append (K := K) (i := 2) rfl I12 ((n_pure (e_var (i := 5) rfl x12)).imp fun _ e => e ▸ okT) (by omega) fun ds13 G13 H13 e13 I13 => ?_
    refine ⟨6, rfl, by decide, by decide, ?_⟩
    refine for_range (lo := 0) (n := 6) (fun j σ H' => ∃ (o6 : Option V) (G' : Hp) (ds : List PyData), σ = [some (V.ref a), some (V.ref dk), some (.ref L), some v5, some (.int (0 + (k : Int))), some (.ref t), o6, o7, o8, none, none] ∧ Ex G12 G' ∧
      Lp K dk cl L RO (26 + 7 * k + j) ds G' H' (100 * k + 9 + 3 * j)) ⟨_, G13, ds13, rfl, e13, I13.cast (by omega) (by omega)⟩ (fun j σ H' hj hP => ?_) (fun σ H' hP => ?_)
    · obtain ⟨o6, G14, ds14, rfl, e14, I14⟩ := hP
      show tDrop _ _ [some (V.ref a), some (V.ref dk), some (.ref L), some v5, some (.int (0 + (k : Int))), some (.ref t), some (.int (0 + (j : Int))), o7, o8, none, none] H'
      exact do_append (K := K) (i := 2) rfl I14 (n_bent rfl rfl (x12.mono e14) hT (by omega)) (by omega) fun ds15 G15 H15 e15 I15 => ⟨_, G15, ds15, rfl, e14.tr e15, I15.cast (by omega) (by omega)⟩
    · obtain ⟨o6, G14, ds14, rfl, e14, I14⟩ := hP
      refine ⟨.ref t, rfl, t, rfl, ⟨xs, SqT.of (I14.e _ _ (e14 _ _ ht))⟩, ?_⟩
      refine for_tup (K := K) (a := t) (xs := xs) (fun j σ H' => ∃ (o7 o8 : Option V) (G' : Hp) (ds : List PyData), σ = [some (V.ref a), some (V.ref dk), some (.ref L), some v5, some (.int (0 + (k : Int))), some (.ref t), o6, o7, o8, none, none] ∧ Ex G12 G' ∧
        Lp K dk cl L RO (32 + 7 * k) ds G' H' (100 * k + 27 + j)) ⟨o7, o8, G14, ds14, rfl, e14, I14.cast (by omega) (by omega)⟩ ?_ (fun j x σ H' hx hP => ?_) (fun σ H' hP => ?_)
      · rintro j σ H' _ ⟨o7, o8, G15, ds15, rfl, e15, I15⟩
        exact SqT.of (I15.e _ _ (e15 _ _ ht))
      · obtain ⟨o7, o8, G15, ds15, rfl, e15, I15⟩ := hP
        have hjl := (List.getElem?_eq_some_iff.mp hx).1
        obtain ⟨d, hd, dd⟩ := hxs.get hx
        obtain ⟨s, c, rfl, s9, c0, c3⟩ := hT.a d (List.mem_of_getElem? hd)
        refine g_tup2 (K := K) G15 H' _ I15.e (dd.mono e15) _ ?_
        rintro _ ⟨w7, w8, b7, b8, rfl⟩
        cases b7; cases b8
        show tIfS _ _ _ _ [some (V.ref a), some (V.ref dk), some (.ref L), some v5, some (.int (0 + (k : Int))), some (.ref t), o6, some (.str s), some (.int c), none, none] H'
        refine do_guard2 (K := K) (n_right ((n_pure (e_var (i := 7) rfl (.str s))).imp fun _ e => e ▸ okD_of s9.si (by decide) (by decide)))
          (fun G'' e'' => n_right ((n_op (f := addSD) (n_pure (e_var (i := 7) rfl (.str s))) (fun _ _ => n_pick (i0 := 1) rfl (e_lst (a_cons e_str (a_cons e_str (a_cons e_str (a_cons e_str (a_cons e_str a_nil))))) (show 5 ≤ 100000 by decide)) (show 0 < 5 by decide) (show 5 < 100000 by decide) (by omega)) ?_).imp ?_)) I15.e I15.d fun G16 H16 u16 hD16 => ?_
        · rintro _ y rfl hy
          obtain ⟨z, rfl, z5⟩ := five_ok y hy
          exact o_addS (small2 s9.l z5.l)
        · rintro _ ⟨_, y, rfl, hy, rfl⟩
          obtain ⟨z, rfl, z5⟩ := five_ok y hy
          exact okD_of (SN.app s9 z5).si (by decide) (by decide)
        exact ⟨_, _, G16, ds15, rfl, e15.tr u16.g, (I15.up u16 hD16).cast rfl (by omega)⟩
      · obtain ⟨o7, o8, G15, ds15, rfl, e15, I15⟩ := hP
        exact ⟨_, _, _, _, _, G15, ds15, rfl, I15.cast (by omega) (by omega)⟩
  · obtain ⟨o4, o5, o6, o7, o8, G11, ds11, rfl, I11⟩ := hP
    obtain ⟨G12, _, e12, dL, _⟩ := I11.l.done I11.e
    refine ((e_op (e_none (i_list (e_var (i := 2) rfl dL)) I11.all (by rw [I11.len]; decide)) (e_lst a_nil (show 0 ≤ 100000 by decide)) (o_eqDa (K := K) cmpOk_nil)).is (d' := .bool true) rfl) G12 H' (Ex.rf _) e12 _ fun v G13 H13 _ dv => ?_
    cases dv
    exact q H13
end
end L01
set_option Elab.async false
set_option linter.all false
set_option maxRecDepth 100000
set_option maxHeartbeats 1000000
namespace L01
open PySem PySem.Spec PyProof.Rows L2 KD
theorem defAt {K : PySem.W.Frag} {x : Str} {st : Stmt} {h : Heap} {mg : Str → Option Value} (X : K.In h) (G : h.Ns mainGlobals mg) {f : Addr}
    {od an : Option Addr} {sl : Array (Option Value)} {oc kV dc pm cd ct : Value} (a : PySem.W.nsIn K mainGlobals x = some (some (.ref f)))
    (l : K.lookup f = some ⟨oc, od, .func (PySem.W.fnOf x x (defArgs st) (defBody st) (defScope st) .none kV dc pm an cd ct), sl⟩)
    (c : PySem.W.codeIn K cd x = true) (k : PySem.W.keepIn K (.ref f) = true) : ∃ fd, Fun K x x st f fd ∧ mg x = some (.ref f) :=
  ⟨_, fun_mk (st := st) l c k, PySem.W.mg_of X G a⟩
theorem lawAt {l : PySem.W.OpenLaw} {w : World} {K : PySem.W.Frag} {mg : Str → Option Value} {fa : Addr} (hfa : mg "law" = some (.ref fa)) (hp : l.prog = PySem.Challenge.pw_roundcalls_k01_names_and_signatures) (T : Txt K mg) :
    ∃ fd : FuncData, (∀ (s : Shared) (v : Value), BindsTo s fd ⟨[v], []⟩ [("_law_script", v)]) ∧ ∀ base : Heap, K.In base → base.Ns mainGlobals mg → FnG l.prog w K mg base CX0 7 fa fd ["_law_script"] (sp_law K) := by
  have e := hfa.symm.trans T.g_law
  cases e
  refine ⟨T.d_law, fun s v => ?_, fun base _ _ => ok_law T⟩
  obtain ⟨oc, od, kV, doc, pm, an, cdv, ct, osl, e, _, _⟩ := T.F_law.ex
  rw [e]
  exact .of_eq rfl
end L01
open PySem PySem.W PyProof.Rows
set_option maxHeartbeats 0 in
theorem PySem.Challenge.cw_roundcalls_k01_names_and_signatures_holds : PySem.Challenge.rw_roundcalls_k01_names_and_signatures.Holds := by
  w_on; o_law; k_head; (case hw => w_witness2)
  k_fill
  refine KD.walkG (l := PySem.Challenge.rw_roundcalls_k01_names_and_signatures) (n := 63) (k := 7) (x := "_law_script") (CX := fun _ => L2.CX0)
    (sp := fun w => L01.sp_law _) rfl (by decide) rfl ⟨rfl, by decide, by decide⟩ (fun w h Y => PySem.W.kIn_of Y) ?F
    (fun _ _ a ns hl _ hS => L01.sp_law_go hl hS) (fun _ _ _ _ _ h => h)
  case F =>
    intro w mg fa h KX G hmg
    obtain ⟨d_is_number, F_is_number, g_is_number⟩ := L01.defAt (x := "is_number") (st := L01.s_is_number) KX G (by k_is) (by k_is) (by k_is) (by k_is)
    obtain ⟨d_is_natural, F_is_natural, g_is_natural⟩ := L01.defAt (x := "is_natural") (st := L01.s_is_natural) KX G (by k_is) (by k_is) (by k_is) (by k_is)
    obtain ⟨d_is_index, F_is_index, g_is_index⟩ := L01.defAt (x := "is_index") (st := L01.s_is_index) KX G (by k_is) (by k_is) (by k_is) (by k_is)
    obtain ⟨d_is_row_of, F_is_row_of, g_is_row_of⟩ := L01.defAt (x := "is_row_of") (st := L01.s_is_row_of) KX G (by k_is) (by k_is) (by k_is) (by k_is)
    obtain ⟨d_is_pair, F_is_pair, g_is_pair⟩ := L01.defAt (x := "is_pair") (st := L01.s_is_pair) KX G (by k_is) (by k_is) (by k_is) (by k_is)
    obtain ⟨d_is_ascending, F_is_ascending, g_is_ascending⟩ := L01.defAt (x := "is_ascending") (st := L01.s_is_ascending) KX G (by k_is) (by k_is) (by k_is) (by k_is)
    obtain ⟨d_is_name, F_is_name, g_is_name⟩ := L01.defAt (x := "is_name") (st := L01.s_is_name) KX G (by k_is) (by k_is) (by k_is) (by k_is)
    obtain ⟨d_is_signature, F_is_signature, g_is_signature⟩ := L01.defAt (x := "is_signature") (st := L01.s_is_signature) KX G (by k_is) (by k_is) (by k_is) (by k_is)
    obtain ⟨d_is_tag_count, F_is_tag_count, g_is_tag_count⟩ := L01.defAt (x := "is_tag_count") (st := L01.s_is_tag_count) KX G (by k_is) (by k_is) (by k_is) (by k_is)
    obtain ⟨d__law_deck, F__law_deck, g__law_deck⟩ := L01.defAt (x := "_law_deck") (st := L01.s__law_deck) KX G (by k_is) (by k_is) (by k_is) (by k_is)
    obtain ⟨d__law_draw, F__law_draw, g__law_draw⟩ := L01.defAt (x := "_law_draw") (st := L01.s__law_draw) KX G (by k_is) (by k_is) (by k_is) (by k_is)
    obtain ⟨d__law_pick, F__law_pick, g__law_pick⟩ := L01.defAt (x := "_law_pick") (st := L01.s__law_pick) KX G (by k_is) (by k_is) (by k_is) (by k_is)
    obtain ⟨d__law_names, F__law_names, g__law_names⟩ := L01.defAt (x := "_law_names") (st := L01.s__law_names) KX G (by k_is) (by k_is) (by k_is) (by k_is)
    obtain ⟨d__law_tags, F__law_tags, g__law_tags⟩ := L01.defAt (x := "_law_tags") (st := L01.s__law_tags) KX G (by k_is) (by k_is) (by k_is) (by k_is)
    obtain ⟨d__law_is_name, F__law_is_name, g__law_is_name⟩ := L01.defAt (x := "_law_is_name") (st := L01.s__law_is_name) KX G (by k_is) (by k_is) (by k_is) (by k_is)
    obtain ⟨d__law_is_entry, F__law_is_entry, g__law_is_entry⟩ := L01.defAt (x := "_law_is_entry") (st := L01.s__law_is_entry) KX G (by k_is) (by k_is) (by k_is) (by k_is)
    obtain ⟨d__law_is_signature, F__law_is_signature, g__law_is_signature⟩ := L01.defAt (x := "_law_is_signature") (st := L01.s__law_is_signature) KX G (by k_is) (by k_is) (by k_is) (by k_is)
    obtain ⟨d__law_bent, F__law_bent, g__law_bent⟩ := L01.defAt (x := "_law_bent") (st := L01.s__law_bent) KX G (by k_is) (by k_is) (by k_is) (by k_is)
    obtain ⟨d__law_signature_right, F__law_signature_right, g__law_signature_right⟩ := L01.defAt (x := "_law_signature_right") (st := L01.s__law_signature_right) KX G (by k_is) (by k_is) (by k_is) (by k_is)
    obtain ⟨d__law_name_right, F__law_name_right, g__law_name_right⟩ := L01.defAt (x := "_law_name_right") (st := L01.s__law_name_right) KX G (by k_is) (by k_is) (by k_is) (by k_is)
    obtain ⟨d_law, F_law, g_law⟩ := L01.defAt (x := "law") (st := L01.s_law) KX G (by k_is) (by k_is) (by k_is) (by k_is)
    have m_isinstance := PySem.W.mg_none_of (n := "isinstance") KX G (by k_is)
    have m_len := PySem.W.mg_none_of (n := "len") KX G (by k_is)
    have m_all := PySem.W.mg_none_of (n := "all") KX G (by k_is)
    have m_range := PySem.W.mg_none_of (n := "range") KX G (by k_is)
    have m_repr := PySem.W.mg_none_of (n := "repr") KX G (by k_is)
    have m_sorted := PySem.W.mg_none_of (n := "sorted") KX G (by k_is)
    have m_tuple := PySem.W.mg_none_of (n := "tuple") KX G (by k_is)
    have m_list := PySem.W.mg_none_of (n := "list") KX G (by k_is)
    have m_dict := PySem.W.mg_none_of (n := "dict") KX G (by k_is)
    have m_str := PySem.W.mg_none_of (n := "str") KX G (by k_is)
    have m_int := PySem.W.mg_none_of (n := "int") KX G (by k_is)
    have m_bool := PySem.W.mg_none_of (n := "bool") KX G (by k_is)
    obtain ⟨u_LETTERS, c_LETTERS⟩ : ∃ u, mg "LETTERS" = some u ∧ L2.RelV (.str "abcdefghijklmnopqrstuvwxyz") u := ⟨_, PySem.W.mg_of KX G (by k_is), ⟨_, rfl⟩⟩
    obtain ⟨u_LONGEST_NAME, c_LONGEST_NAME⟩ : ∃ u, mg "LONGEST_NAME" = some u ∧ L2.RelV (.int 8) u := ⟨_, PySem.W.mg_of KX G (by k_is), ⟨_, rfl⟩⟩
    obtain ⟨u_MOST_FIELDS, c_MOST_FIELDS⟩ : ∃ u, mg "MOST_FIELDS" = some u ∧ L2.RelV (.int 3) u := ⟨_, PySem.W.mg_of KX G (by k_is), ⟨_, rfl⟩⟩
    obtain ⟨u_VOID, c_VOID⟩ : ∃ u, mg "VOID" = some u ∧ L2.RelV (.str "void") u := ⟨_, PySem.W.mg_of KX G (by k_is), ⟨_, rfl⟩⟩
    exact L01.lawAt hmg rfl ⟨_, d_is_number, F_is_number, g_is_number,
      _, d_is_natural, F_is_natural, g_is_natural,
      _, d_is_index, F_is_index, g_is_index,
      _, d_is_row_of, F_is_row_of, g_is_row_of,
      _, d_is_pair, F_is_pair, g_is_pair,
      _, d_is_ascending, F_is_ascending, g_is_ascending,
      _, d_is_name, F_is_name, g_is_name,
      _, d_is_signature, F_is_signature, g_is_signature,
      _, d_is_tag_count, F_is_tag_count, g_is_tag_count,
      _, d__law_deck, F__law_deck, g__law_deck,
      _, d__law_draw, F__law_draw, g__law_draw,
      _, d__law_pick, F__law_pick, g__law_pick,
      _, d__law_names, F__law_names, g__law_names,
      _, d__law_tags, F__law_tags, g__law_tags,
      _, d__law_is_name, F__law_is_name, g__law_is_name,
      _, d__law_is_entry, F__law_is_entry, g__law_is_entry,
      _, d__law_is_signature, F__law_is_signature, g__law_is_signature,
      _, d__law_bent, F__law_bent, g__law_bent,
      _, d__law_signature_right, F__law_signature_right, g__law_signature_right,
      _, d__law_name_right, F__law_name_right, g__law_name_right,
      _, d_law, F_law, g_law,
      m_isinstance,
      m_len,
      m_all,
      m_range,
      m_repr,
      m_sorted,
      m_tuple,
      m_list,
      m_dict,
      m_str,
      m_int,
      m_bool,
      u_LETTERS, c_LETTERS,
      u_LONGEST_NAME, c_LONGEST_NAME,
      u_MOST_FIELDS, c_MOST_FIELDS,
      u_VOID, c_VOID⟩
