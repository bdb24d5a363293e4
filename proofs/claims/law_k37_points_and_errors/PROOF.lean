import PyProof.Rows.All
import Wide.All
import OpenK.AllK
import Wide.FinOn
import HandS.ForMost
import HandS.ForExc
import HandS.EndBits
import HandS.EndTab
import HandS.Lambda
import HandS.ExcInit
import HandS.ExcValue
import HandS.ExcIs
import HandS.IsInst
import PyProof.ReprLen
import PyProof.StrLawsRepr
import HandS.TryMany
import HandS.ExcField
import HandS.CallLocal
import HandS.Gcd
import HandS.Wide
import KE.DataEq
import HandS.SlotsOwn
import HandS.WordsExc
import HandS.Zip
import KE.GoesZip
import KE.GoesMore
import KE.GoesEnum
import HandS.TupAny
import HandS.TupMul
import PyProof.StrOps2
import HandS.OwnEq
import PyProof.NeKinds
import HandS.More
import PyProof.InstEq
import HandS.Style
import HandS.MakeKw
import PySem.Challenge.RW_nearcurves_k37_points_and_errors
set_option Elab.async false
set_option linter.all false
set_option maxRecDepth 100000
set_option maxHeartbeats 4000000
/-! common: data with dicts, repr, a promise where no guard stands, the entry -/
namespace Vf
open PySem PySem.Spec PyProof.Rows L2

/-- a key as data -/
def kD : Key → PyData
  | .inl i => .int i
  | .inr x => .str x

mutual
/-- the value v, read in H, is the data d (dicts too) -/
inductive Dt (K : PySem.W.Frag) (H : Hp) : V → PyData → Prop
  | non : Dt K H .non .none
  | bl (b : Bool) : Dt K H (.bl b) (.bool b)
  | int (i : Int) : Dt K H (.int i) (.int i)
  | str (x : Str) : Dt K H (.str x) (.str x)
  | lst {a : Addr} {vs : List V} {ds : List PyData} : SqL K H a vs → Dts K H vs ds → Dt K H (.ref a) (.list ds)
  | tup {a : Addr} {vs : List V} {ds : List PyData} : SqT K H a vs → Dts K H vs ds → Dt K H (.ref a) (.tuple ds)
  | dct {a : Addr} {kvs : List (Key × V)} {ds : List PyData} : H a = some (.dK kvs) → Dts K H (kvs.map (·.2)) ds → Dt K H (.ref a) (.dict ((kvs.map fun p => kD p.1).zip ds))
inductive Dts (K : PySem.W.Frag) (H : Hp) : List V → List PyData → Prop
  | nil : Dts K H [] []
  | cons {v : V} {vs : List V} {d : PyData} {ds : List PyData} : Dt K H v d → Dts K H vs ds → Dts K H (v :: vs) (d :: ds)
end

theorem Dts.len {K : PySem.W.Frag} {H : Hp} : ∀ {vs : List V} {ds : List PyData}, Dts K H vs ds → vs.length = ds.length
  | _, _, .nil => rfl
  | _, _, .cons _ t => congrArg (· + 1) t.len
theorem Dts.at {K : PySem.W.Frag} {H : Hp} : ∀ {vs : List V} {ds : List PyData} {i : Nat} {v : V}, Dts K H vs ds → vs[i]? = some v → ∃ d, ds[i]? = some d ∧ Dt K H v d
  | _, _, _, _, .nil, e => by simp at e
  | _, _, 0, _, .cons h _, e => by simp at e; subst e; exact ⟨_, rfl, h⟩
  | _, _, i + 1, v, .cons _ t, e => by
    obtain ⟨d, h1, h2⟩ := t.at (i := i) (v := v) (by simpa using e)
    exact ⟨d, by simpa using h1, h2⟩
theorem Dts.app {K : PySem.W.Frag} {H : Hp} : ∀ {vs ws : List V} {ds es : List PyData}, Dts K H vs ds → Dts K H ws es → Dts K H (vs ++ ws) (ds ++ es)
  | _, _, _, _, .nil, h => h
  | _, _, _, _, .cons a t, h => .cons a (t.app h)
theorem Dts.take {K : PySem.W.Frag} {H : Hp} : ∀ {vs : List V} {ds : List PyData} (n : Nat), Dts K H vs ds → Dts K H (vs.take n) (ds.take n)
  | _, _, 0, _ => .nil
  | _, _, _ + 1, .nil => .nil
  | _, _, n + 1, .cons a t => .cons a (t.take n)

/-- all that is tracked in H stands in H' -/
theorem same_sqL {K : PySem.W.Frag} {H H' : Hp} {a : Addr} {xs : List V} (e : Same H H') (h : SqL K H a xs) : SqL K H' a xs := e.seq h
theorem same_sqT {K : PySem.W.Frag} {H H' : Hp} {a : Addr} {xs : List V} (e : Same H H') (h : SqT K H a xs) : SqT K H' a xs := by
  rcases h with (h | ⟨o, h⟩) | h
  · exact Or.inl (Or.inl (e a _ h))
  · exact Or.inl (Or.inr ⟨o, e a _ h⟩)
  · exact Or.inr h
mutual
theorem Dt.mono {K : PySem.W.Frag} {H H' : Hp} (e : Same H H') : ∀ {v : V} {d : PyData}, Dt K H v d → Dt K H' v d
  | _, _, .non => .non
  | _, _, .bl b => .bl b
  | _, _, .int i => .int i
  | _, _, .str x => .str x
  | _, _, .lst h1 h2 => .lst (same_sqL e h1) (Dts.mono e h2)
  | _, _, .tup h1 h2 => .tup (same_sqT e h1) (Dts.mono e h2)
  | _, _, .dct h1 h2 => .dct (e _ _ h1) (Dts.mono e h2)
theorem Dts.mono {K : PySem.W.Frag} {H H' : Hp} (e : Same H H') : ∀ {vs : List V} {ds : List PyData}, Dts K H vs ds → Dts K H' vs ds
  | _, _, .nil => .nil
  | _, _, .cons h1 h2 => .cons (Dt.mono e h1) (Dts.mono e h2)
end

/-- the dict of modules stands in the base -/
def M1 (b : Heap) : Prop := ∃ o es ep, b.get? sysModules = some o ∧ o.data = .dict es ep

theorem key_reads {h : Heap} {P : Program} {w : World} : ∀ {es : List DictEntry} {vs : List (Key × Value)} {ps : List (Key × V)}, PySem.Pairs (mixKind P w) es vs → KV ps vs →
    ReadsAll h (es.map (·.key)) (ps.map fun p => kD p.1) [] ∧ Vals (ps.map (·.2)) (es.map (·.val))
  | _, _, _, .nil, .nil => ⟨.nil, .nil⟩
  | _, _, _, .cons k1 k2 t, .cons r1 r2 => by
    obtain ⟨g1, g2⟩ := key_reads (h := h) t r2
    obtain ⟨e1, e2⟩ := r1
    refine ⟨?_, .cons (by have z := e2; rw [← k2] at z; exact z) g2⟩
    rw [← e1] at k1
    rename_i e kv es' kvs' p ps'
    have k3 : keyIs p.1 e.key = true := k1
    rcases keyIs_shape k3 with ⟨i, t, a1, a2⟩ | ⟨x, t, a1, a2⟩
    · have z : Reads h e.key (kD p.1) [] := by rw [a1, a2]; exact .int i t
      exact .cons (as := []) (bs := []) z g1
    · have z : Reads h e.key (kD p.1) [] := by rw [a1, a2]; exact .str x t
      exact .cons (as := []) (bs := []) z g1
theorem zip_fst {α β : Type} : ∀ {l : List α} {r : List β}, l.length = r.length → (l.zip r).map (·.1) = l
  | [], _, _ => by simp
  | a :: l, [], h => by simp at h
  | a :: l, b :: r, h => by
    rw [List.zip_cons_cons, List.map_cons, zip_fst (by simpa using h)]
theorem zip_snd {α β : Type} : ∀ {l : List α} {r : List β}, l.length = r.length → (l.zip r).map (·.2) = r
  | [], [], _ => rfl
  | [], b :: r, h => by simp at h
  | a :: l, [], h => by simp at h
  | a :: l, b :: r, h => by
    rw [List.zip_cons_cons, List.map_cons, zip_snd (by simpa using h)]

section
variable {X : Cx} {pins : List (Addr × Obj)} {σ : L2.St} {H : Hp} {s : Shared}
theorem not_sys (I : Inv X pins σ H s) (m : M1 X.base) {a : Addr} {o : Obj} {vs : Array Value} {n : Nat} (e : s.heap.get? a = some o) (d : o.data = .seq vs n) : sysModules ≠ a := fun z => by
  obtain ⟨o1, es, ep, e1, e2⟩ := m
  have q := I.bk _ _ e1
  rw [z, e] at q
  cases q
  rw [d] at e2
  cases e2
mutual
theorem Dt.reads (I : Inv X pins σ H s) (m : M1 X.base) : ∀ {v : V} {d : PyData} {u : Value}, Dt X.K H v d → RelV v u → ∃ as, Reads s.heap u d as ∧ sysModules ∉ as
  | _, _, u, .non, r => by
    obtain rfl : u = Value.none := r
    exact ⟨[], .none, by simp⟩
  | _, _, u, .bl b, r => by
    obtain rfl : u = Value.bool b := r
    exact ⟨[], .bool b, by simp⟩
  | _, _, u, .int i, r => by
    obtain ⟨t, rfl⟩ := r
    exact ⟨[], .int i t, by simp⟩
  | _, _, u, .str x, r => by
    obtain ⟨t, rfl⟩ := r
    exact ⟨[], .str x t, by simp⟩
  | _, _, u, .lst (a := a) h1 h2, r => by
    obtain rfl : u = Value.ref a := r
    obtain ⟨its, rv, ⟨o, n, e1, e2, e3, e4⟩, hz⟩ := I.list h1
    obtain ⟨as, ra, na⟩ := Dts.reads I m h2 rv
    refine ⟨_, .list e1 e2 e4 (by simpa using ra), fun z => ?_⟩
    rcases List.mem_cons.mp z with z | z
    · exact not_sys I m e1 e4 z
    · exact na z
  | _, _, u, .tup (a := a) h1 h2, r => by
    obtain rfl : u = Value.ref a := r
    obtain ⟨its, rv, ⟨o, e1, e2, n, e4⟩, hz⟩ := I.tuple h1
    obtain ⟨as, ra, na⟩ := Dts.reads I m h2 rv
    exact ⟨_, .tuple e1 e2 e4 (by simpa using ra), na⟩
  | _, _, u, .dct (a := a) (kvs := ps) (ds := ds) h1 h2, r => by
    obtain rfl : u = Value.ref a := r
    obtain ⟨hz, hs, vs, kv, o, es, ep, e1, ex, e2, hk, hp, hn⟩ := dk_of I.hok h1
    obtain ⟨g1, g2⟩ := key_reads (h := s.heap) hp kv
    obtain ⟨bs, rb, nb⟩ := Dts.reads I m h2 g2
    have hl : (ps.map fun p => kD p.1).length = ds.length := by
      have z := h2.len
      rw [List.length_map] at z ⊢
      exact z
    refine ⟨a :: [] ++ bs, .dict e1 ex.1 e2 (by rw [zip_fst hl]; exact g1) (by rw [zip_snd hl]; exact rb), fun z => ?_⟩
    rcases List.mem_cons.mp z with z | z
    · rw [z] at hs
      simp at hs
    · exact nb z
theorem Dts.reads (I : Inv X pins σ H s) (m : M1 X.base) : ∀ {vs : List V} {ds : List PyData} {us : List Value}, Dts X.K H vs ds → Vals vs us → ∃ as, ReadsAll s.heap us ds as ∧ sysModules ∉ as
  | _, _, _, .nil, .nil => ⟨[], .nil, by simp⟩
  | _, _, _, .cons h1 h2, .cons r1 r2 => by
    obtain ⟨as, q1, n1⟩ := Dt.reads I m h1 r1
    obtain ⟨bs, q2, n2⟩ := Dts.reads I m h2 r2
    refine ⟨as ++ bs, .cons q1 q2, fun z => ?_⟩
    rcases List.mem_append.mp z with z | z
    · exact n1 z
    · exact n2 z
end
end

/-- the sizes of the parts of a text of data -/
def small : PyData → Prop := fun d => d.showable = true ∧ d.depth ≤ 64 ∧ d.shown.length ≤ sizeLine
/-- repr of data, where no guard stands -/
theorem call_reprD {X : Cx} {k : Nat} (hg : X.A.guards = some []) (hr : Room k X.A) (m : M1 X.base) :
    CallR X (.builtin "repr") (fun xs H Q => ∃ v d, xs = [v] ∧ Dt X.K H v d ∧ small d ∧ Q (.str d.shown) H) := by
  intro pins s σ H xs us Q I r h
  obtain ⟨v, d, rfl, hd, ⟨hs, hz, hl⟩, q⟩ := h
  obtain ⟨u, rfl, ru⟩ := vals1 r
  obtain ⟨as, rd, na⟩ := Dt.reads I m hd ru
  cases rd with
  | none => exact PySem.P.repr_of_none ⟨.str _, H, I.tok _, ⟨_, rfl⟩, by simpa only [PyData.shown] using q⟩
  | bool b => exact PySem.P.repr_of_bool ⟨.str _, H, I.tok _, ⟨_, rfl⟩, by simpa only [PyData.shown] using q⟩
  | int i t => exact PySem.P.repr_of_int (by simpa [PyData.showable] using hs) ⟨.str _, H, I.tok _, ⟨_, rfl⟩, by simpa only [PyData.shown] using q⟩
  | str x t => exact PySem.P.repr_of_str ⟨.str _, H, I.tok _, ⟨_, rfl⟩, by simpa only [PyData.shown] using q⟩ (by simpa only [PyData.shown] using hl)
  | list a1 a2 a3 a4 => exact repr_of_reads' (.list a1 a2 a3 a4) hs (fun _ => na) hg (by have := hr.un; omega) (fun _ _ e => e) (fun h' u tk hk => ⟨.str _, H, I.kept hk, ⟨_, rfl⟩, q⟩) hl
  | tuple a1 a2 a3 a4 => exact repr_of_reads' (.tuple a1 a2 a3 a4) hs (fun _ => na) hg (by have := hr.un; omega) (fun _ _ e => e) (fun h' u tk hk => ⟨.str _, H, I.kept hk, ⟨_, rfl⟩, q⟩) hl
  | dict a1 a2 a3 a4 a5 => exact repr_of_reads' (.dict a1 a2 a3 a4 a5) hs (fun _ => na) hg (by have := hr.un; omega) (fun _ _ e => e) (fun h' u tk hk => ⟨.str _, H, I.kept hk, ⟨_, rfl⟩, q⟩) hl

/-! ### a promise that is asked only where no guard stands -/
structure FnG (P : Program) (w : World) (K : PySem.W.Frag) (mg : Str → Option Value) (base : Heap) (C : CXT) (k : Nat) (f : Addr) (fd : FuncData) (ps : List Str) (sp : Sp) : Prop where
  arity : ∀ vs H Q E, sp vs H Q E → vs.length = ps.length
  go : ∀ {A : Around} {out : List Env} {s : Shared} {H : Hp} {args : Args} {us : List Value} {vs : List V} {Q : VK} {E : XK}, A.guards = some [] → Room k A → Env0 P w K mg base A out s H → BindsTo s fd args (ps.zip us) →
    Vals vs us → sp vs H Q E → codeAny (model P w) A (.call (.ref f) args) (CR C out P w H s Q E) s
theorem fnG_of {C : CXT} {P : Program} {w : World} {K : PySem.W.Frag} {mg : Str → Option Value} {base : Heap} {x qual : Str} {st : Stmt} {f : Addr} {fd : FuncData} {N ps : List Str} {k : Nat} {sp : Sp} (F : Fun K x qual st f fd) (S : FnScope N ps (defScope st))
    (ar : ∀ vs H Q E, sp vs H Q E → vs.length = ps.length)
    (body : ∀ (cdv : Value) (A : Around) (out : List Env) (s : Shared) (H : Hp) (vs : List V) (Q : VK) (E : XK), A.guards = some [] → Room k (A.deeper (envOfC qual (defScope st) s.heap.objs.size f cdv)) → PySem.W.codeIn K cdv qual = true → sp vs H Q E →
      ∃ t, PSs (cxOf C P w K mg base N qual (defScope st) f cdv A out s H E) (defBody st) t ∧ t { nx := fun _ H' => Q .non H', rt := Q } (start N vs) H) : FnG P w K mg base C (k + 1) f fd ps sp := by
  obtain ⟨oc, od, kV, doc, pm, an, cdv, ct, osl, e, lk, hcd⟩ := F.ex
  subst e
  refine ⟨ar, fun {A out s H args us vs Q E} hgu hr e0 hb r h => ?_⟩
  exact LamX.run_ofS lk hcd S hr e0 hb r (ar _ _ _ _ h) fun hr' => body cdv A out s H vs Q E hgu hr' hcd h

theorem fnG_of0 {P : Program} {w : World} {K : PySem.W.Frag} {mg : Str → Option Value} {base : Heap} {x qual : Str} {st : Stmt} {f : Addr} {fd : FuncData} {N ps : List Str} {k : Nat} {sp : Sp} (F : Fun K x qual st f fd) (S : FnScope N ps (defScope st))
    (ar : ∀ vs H Q E, sp vs H Q E → vs.length = ps.length)
    (body : ∀ (cdv : Value) (A : Around) (out : List Env) (s : Shared) (H : Hp) (vs : List V) (Q : VK) (E : XK), A.guards = some [] → Room k (A.deeper (envOfC qual (defScope st) s.heap.objs.size f cdv)) → PySem.W.codeIn K cdv qual = true → sp vs H Q E →
      ∃ t, PSs (cxOf CX0 P w K mg base N qual (defScope st) f cdv A out s H E).nox (defBody st) t ∧ t { nx := fun _ H' => Q .non H', rt := Q } (start N vs) H) : FnG P w K mg base CX0 (k + 1) f fd ps sp :=
  fnG_of F S ar fun cdv A out s H vs Q E h1 h2 h3 h4 => by
    obtain ⟨t, z, q⟩ := body cdv A out s H vs Q E h1 h2 h3 h4
    exact ⟨t, z.nox, q⟩

/-! ### the entry -/
/-- what is tracked where the law is called: the script, the tables of code objects -/
structure Fit (P : Program) (w : World) (K : PySem.W.Frag) (h : Heap) (cs : List (Addr × Addr)) (a : Addr) (ns : List Int) (H : Hp) : Prop where
  tabs : ∀ p ∈ cs, H p.2 = some (.tbl #[])
  scr : SqL K H a (ns.map V.int)
  held : HOk P w H h
  only : ∀ b u, H b = some u → (b = a ∧ K.lookup a = none ∧ ∃ o xs, u = .frz o (.lst xs)) ∨ ((∃ p ∈ cs, b = p.2) ∧ u = .tbl #[])
def isTab (cs : List (Addr × Addr)) (b : Addr) : Bool := cs.any fun p => p.2 == b
theorem isTab_mem {cs : List (Addr × Addr)} {b : Addr} (h : isTab cs b = true) : ∃ p ∈ cs, b = p.2 := by
  obtain ⟨p, hp, e⟩ := List.any_eq_true.mp h
  exact ⟨p, hp, (beq_iff_eq.mp e).symm⟩
theorem isTab_of {cs : List (Addr × Addr)} {p : Addr × Addr} (h : p ∈ cs) : isTab cs p.2 = true := List.any_eq_true.mpr ⟨p, h, beq_self_eq_true _⟩
/-- the heap as it is told at the entry -/
def entryH (t : Bool) (o : Obj) (ns : List Int) (cs : List (Addr × Addr)) (a : Addr) : Hp := fun b =>
  if isTab cs b = true then some (.tbl #[]) else if t = true ∧ b = a then some (.frz o (.lst (ns.map V.int))) else none
theorem fit_ex {P : Program} {w : World} {K : PySem.W.Frag} {h : Heap} {cs : List (Addr × Addr)} {a : Addr} {vs : List Value} {ns : List Int} (hK : K.In h) (hT : ∀ p ∈ cs, h.get? p.2 = some { cls := .none, data := .fields #[] })
    (ha : h.get? a = some { cls := .type "list", data := .seq vs.toArray }) (hi : IntsAre vs ns) (hl : ns.length ≤ sizeLine) : ∃ H, Fit P w K h cs a ns H := by
  have rv := vals_ints hi
  have nt : isTab cs a = false := by
    cases e : isTab cs a with
    | false => rfl
    | true =>
      obtain ⟨p, hp, e2⟩ := isTab_mem e
      have q := hT p hp
      rw [← e2, ha] at q
      cases q
  have hl2 : (ns.map V.int).length ≤ sizeLine := by rw [List.length_map]; exact hl
  cases hk : K.lookup a with
  | some o =>
    have q := hK a o hk
    rw [ha] at q
    have q2 := Option.some.inj q
    refine ⟨entryH false { cls := .type "list", data := .seq vs.toArray } ns cs a, fun p hp => if_pos (isTab_of hp), ?_, fun b u e => ?_, fun b u e => ?_⟩
    · refine Or.inr ⟨o, vs.toArray, 0, hk, by rw [← q2], by rw [← q2], by rw [← q2], ?_, by simpa using rv⟩
      rw [List.size_toArray, hi.length]
      exact hl
    all_goals
      unfold entryH at e
      by_cases t : isTab cs b = true
      · rw [if_pos t] at e
        obtain ⟨p, hp, e2⟩ := isTab_mem t
        cases e
        first
          | (rw [e2]; exact hT p hp)
          | exact Or.inr ⟨⟨p, hp, e2⟩, rfl⟩
      · rw [if_neg t, if_neg (fun z => Bool.false_ne_true z.1)] at e
        cases e
  | none =>
    refine ⟨entryH true { cls := .type "list", data := .seq vs.toArray } ns cs a, fun p hp => if_pos (isTab_of hp), ?_, fun b u e => ?_, fun b u e => ?_⟩
    · refine Or.inl (Or.inr ⟨{ cls := .type "list", data := .seq vs.toArray }, ?_⟩)
      unfold entryH
      rw [if_neg (by rw [nt]; decide), if_pos ⟨rfl, rfl⟩]
    all_goals
      unfold entryH at e
      by_cases t : isTab cs b = true
      · rw [if_pos t] at e
        obtain ⟨p, hp, e2⟩ := isTab_mem t
        cases e
        first
          | (rw [e2]; exact hT p hp)
          | exact Or.inr ⟨⟨p, hp, e2⟩, rfl⟩
      · rw [if_neg t] at e
        by_cases ba : b = a
        · rw [if_pos ⟨rfl, ba⟩] at e
          cases e
          first
            | (rw [ba]; exact ⟨ha, hl2, vs, _, rv, ha⟩)
            | exact Or.inl ⟨ba, hk, _, _, rfl⟩
        · rw [if_neg (fun z => ba z.2)] at e
          cases e
/-- the law's call, from its promise where no guard stands -/
theorem law_enter {P : Program} {w : World} {K : PySem.W.Frag} {mg mb : Str → Option Value} {C : CXT} {k : Nat} {fa a : Addr} {cs : List (Addr × Addr)} {fd : FuncData} {x : Str} {sp : Sp} {s1 : Shared} {vs : List Value} {ns : List Int}
    (hK : K.In s1.heap) (hG : s1.heap.Ns mainGlobals mg) (hB : s1.heap.Ns builtinsNs mb) (hBB : ∀ x : Str, x ≠ "__name__" → mb x = bootBuiltins x) (hL : s1.heap.NoLimit) (hg : s1.gens = #[])
    (hT : ∀ p ∈ cs, s1.heap.get? p.2 = some { cls := .none, data := .fields #[] }) (nT : ∀ p ∈ cs, K.lookup p.2 = none) (hC : ∀ p ∈ cs, PySem.W.CodeHd s1.heap p.1 p.2)
    (hM : ∃ (bm : Addr) (ob : Obj), mg "__builtins__" = some (.ref bm) ∧ bm ≠ builtinsNs ∧ s1.heap.get? bm = some ob ∧ ob.cls = .type "module" ∧ ob.dict = some builtinsNs ∧ ob.data = .plain)
    (hs : M1 s1.heap) (ha : s1.heap.get? a = some { cls := .type "list", data := .seq vs.toArray }) (hi : IntsAre vs ns) (hl : ns.length ≤ sizeLine) (hr : Room k callerA)
    (F : ∀ b : Heap, K.In b → b.Ns mainGlobals mg → M1 b → (∀ p ∈ cs, LamX.TabB b mg p.1 p.2) → FnG P w K mg b C k fa fd [x] sp) (bind : ∀ (s : Shared) (u : Value), BindsTo s fd ⟨[u], []⟩ [(x, u)])
    (hsp : ∀ H : Hp, (∀ p ∈ cs, H p.2 = some (.tbl #[])) → SqL K H a (ns.map V.int) → sp [.ref a] H (fun v _ => v = .bl true) E0)
    (hE : ∀ H e s', C [] H s1 E0 e s' → False) :
    codeAny (model P w) callerA (.call (.ref fa) ⟨[.ref a], []⟩) (fun r s' => r = .ok (.ret (.bool true)) ∧ OldK s1.heap s'.heap ∧ s'.os = s1.os ∧ AllBare s'.gens) s1 := by
  obtain ⟨H, ft⟩ := fit_ex (P := P) (w := w) hK hT ha hi hl
  -- an object of neither kind is not tracked
  have un : ∀ {b : Addr} {o : Obj}, s1.heap.get? b = some o → (∀ us n, o.data ≠ .seq us n) → o.data ≠ .fields #[] → H b = none := by
    intro b o e n1 n2
    cases q : H b with
    | none => rfl
    | some u =>
      exfalso
      rcases ft.only b u q with ⟨z, _⟩ | ⟨⟨p, hp, z⟩, _⟩
      · rw [z, ha] at e
        cases e
        exact n1 _ _ rfl
      · rw [z, hT p hp] at e
        cases e
        exact n2 rfl
  have inB : ∀ {b : Addr} {o : Obj}, s1.heap.get? b = some o → (∀ us n, o.data ≠ .seq us n) → o.data ≠ .fields #[] → (hidT s1.heap H).get? b = some o := fun e n1 n2 => hidT_get e (un e n1 n2)
  have nsB : ∀ {b : Addr} {m : Str → Option Value}, s1.heap.Ns b m → (hidT s1.heap H).Ns b m := by
    intro b m ⟨o, es, ep, e, d, r⟩
    refine ⟨o, es, ep, inB e (fun us n z => ?_) (fun z => ?_), d, r⟩ <;> rw [d] at z <;> cases z
  have kB : K.In (hidT s1.heap H) := fun b o e => by
    refine hidT_get (hK b o e) ?_
    cases q : H b with
    | none => rfl
    | some u =>
      exfalso
      rcases ft.only b u q with ⟨z, n, _⟩ | ⟨⟨p, hp, z⟩, _⟩
      · rw [z, n] at e
        cases e
      · rw [z, nT p hp] at e
        cases e
  have mB : M1 (hidT s1.heap H) := by
    obtain ⟨o, es, ep, e, d⟩ := hs
    refine ⟨o, es, ep, inB e (fun us n z => ?_) (fun z => ?_), d⟩ <;> rw [d] at z <;> cases z
  have tB : ∀ p ∈ cs, LamX.TabB (hidT s1.heap H) mg p.1 p.2 := fun p hp => by
    obtain ⟨o, us, file, tf, flags, tg, inF, text, tt, c1, c2, c3, c4, c5, c6, c7, c8, c9, c10⟩ := hC p hp
    obtain ⟨bm, ob, d1, d2, d3, d4, d5, d6⟩ := hM
    have tp := hT p hp
    refine ⟨⟨o, us, file, tf, flags, tg, inF, text, tt, inB c1 (fun us n z => ?_) (fun z => ?_), c2, c3, c4, c5, c6, c7, c8, c9, c10⟩, ⟨bm, ob, d1, d2, fun z => ?_, fun z => ?_, inB d3 (fun us n z => ?_) (fun z => ?_), d4, d5, d6⟩, fun z => ?_⟩
    · rw [c3] at z
      cases z
    · rw [c3] at z
      cases z
      simp at c4
    · obtain ⟨o2, es, ep, e, d, _⟩ := hG
      rw [z, e] at d3
      cases d3
      rw [d] at d6
      cases d6
    · rw [z, tp] at d3
      cases d3
      cases d6
    · rw [d6] at z
      cases z
    · rw [d6] at z
      cases z
    · obtain ⟨o2, es, ep, e, d, _⟩ := hG
      rw [z, tp] at e
      cases e
      cases d
  have e0 : Env0 P w K mg (hidT s1.heap H) callerA [] s1 H := {
    frames := rfl
    mod := ⟨kB, nsB hG, ⟨mb, nsB hB, hBB⟩, let ⟨mc, z1, z2⟩ := hL; ⟨mc, nsB z1, z2⟩⟩
    bs := fun b o e => of_hidT e
    bsz := Nat.le_of_eq (hidT_size _ _)
    funs := trivial
    frf := fun b hb => nomatch (show b ∈ ([] : List Addr) from hb)
    hok := ft.held
    bare := .of_eq hg }
  refine codeAny_mono ((F _ kB (nsB hG) mB tB).go (us := [.ref a]) (vs := [.ref a]) rfl hr e0 (bind s1 _) (.cons rfl .nil) (hsp H ft.tabs ft.scr)) fun r s' h => ?_
  match r, h with
  | .error e, h => exact (hE H e s' h).elim
  | .ok .next, h => exact h.elim
  | .ok .brk, h => exact h.elim
  | .ok .cont, h => exact h.elim
  | .ok (.ret u), ⟨v, H', os, bare, U, held', rv, ev⟩ =>
    have ev2 : v = .bl true := ev
    rw [ev2] at rv
    obtain rfl : u = Value.bool true := rv
    have tab' : ∀ p ∈ cs, ∃ more : Array Value, s'.heap.get? p.2 = some { cls := .none, data := .fields more } := fun p hp => by
      obtain ⟨more, z⟩ := U.tbls p.2 #[] (ft.tabs p hp)
      exact ⟨_, held' _ _ z⟩
    have old : ∀ b o, isTab cs b = false → s1.heap.get? b = some o → s'.heap.get? b = some o := fun b o nb e => by
      cases q : H b with
      | none => exact U.keep b o e q (fun z => nomatch (show b ∈ ([] : List Addr) from z)) (fun z => nomatch z)
      | some y =>
        rcases ft.only b y q with ⟨_, _, ob, xs, z⟩ | ⟨⟨p, hp, z⟩, _⟩
        · rw [z] at q
          have g1 := (ft.held b _ q).1
          have g2 := (held' b _ (U.frzs b ob _ q)).1
          rw [e] at g1
          cases g1
          exact g2
        · rw [z, isTab_of hp] at nb
          cases nb
    refine ⟨rfl, ⟨fun b o e => ?_, fun b o e => ?_⟩, os, bare⟩
    · cases nb : isTab cs b with
      | false => exact .inl (old b o nb e)
      | true =>
        obtain ⟨p, hp, z⟩ := isTab_mem nb
        obtain ⟨more, hm⟩ := tab' p hp
        rw [z] at e ⊢
        rw [hT p hp] at e
        cases e
        exact .inr (.inl ⟨((hC p hp).tab (hT p hp)).isCodeTable, rfl, #[], more, rfl, by rw [Array.empty_append]; exact hm⟩)
    · cases nb : isTab cs b with
      | false => exact ⟨o, old b o nb e⟩
      | true =>
        obtain ⟨p, hp, z⟩ := isTab_mem nb
        obtain ⟨more, hm⟩ := tab' p hp
        rw [z]
        exact ⟨_, hm⟩
end Vf

set_option maxRecDepth 100000
set_option maxHeartbeats 4000000
/-! exceptions held as values -/
namespace Vf
open PySem PySem.Spec PyProof.Rows L2
section
open PySem.W PySem.Calls
variable {prog : Program} {w : World} {K : Frag} {x D : Addr} {ox : Obj} {od : Option Obj}
theorem bound_any {C : Addr} {nm : Str} {a g : Value} (c : (clsIn K C).isSome = true) (fa : findIn K (.ref C) nm = some (some a)) (fg : specialIn K a "__get__" = some (some g)) (ft : takesIn K a = some true) : findObj K C od nm = some (.bind g a) := by
  obtain ⟨cd, c⟩ := Option.isSome_iff_exists.mp c
  simp only [findObj, c, fa, fg, ft, Option.bind_some]
/-- what isinstance asks of the class of an exception -/
structure XC (K : Frag) (D : Addr) : Prop where
  ga : findIn K (.ref D) "__getattribute__" = some (some (.builtin "BaseException.__getattribute__"))
  gg : findIn K (.ref D) "__getattr__" = some none
  sb : subIn K (.ref D) (.type "BaseException") = some true
  hd : hasDictIn K D = true
  ca : findIn K (.ref D) "__class__" = some (some (.builtin "object.__class__"))
  cn : specialIn K (.builtin "object.__class__") "__get__" = some (some (.builtin "getset_descriptor.__get__"))
  ct : takesIn K (.builtin "object.__class__") = some true
  mo : mroIn K D (.type "object") = some true
theorem XC.cls {K : Frag} {D : Addr} (T : XC K D) : (clsIn K D).isSome = true := by
  obtain ⟨cd, e, _⟩ := any_some T.hd
  simp only [e, Option.isSome_some]
/-- its class, asked of the exception itself, whatever its dict holds -/
theorem own_class {A : Around} {E : Value → Shared → Prop} {s : Shared} {Q : Option Value → Shared → Prop} (T : XC K D) (X : K.In s.heap) (I : InstAt s.heap x ox D od) (q : Q (some (.ref D)) { s with toks := s.toks + 1 }) :
    wpAny (model prog w) A (getAttr? (.ref x) "__class__") Q E s := by
  obtain ⟨hp, gs, dr, tk, os⟩ := s
  have l0 := I.type (M := model prog w)
  have l1 := looks_findIn (M := model prog w) X T.ga
  have l2 := looks_findIn (M := model prog w) X T.gg
  have l3 := looks_find (M := model prog w) X I (bound_any (od := od) T.cls T.ca T.cn T.ct)
  have y1 : (onTheHeap (Value.ref D) && Value.builtin "BaseException.__getattribute__" == Value.builtin "object.__getattribute__") = false := by
    rw [show (Value.builtin "BaseException.__getattribute__" == Value.builtin "object.__getattribute__") = false from by decide +kernel, Bool.and_false]
  unfold getAttr?
  unfold getAttrBy?
  unfold getAttrBy
  refine wpAny_bind (wpAny_mkText (wpAny_bind ?_))
  refine wpAny_attempt (wpAny_holding (wpAny_bind (l0.at ?_)))
  refine wpAny_bind (l1.at ?_)
  show wpAny _ _ (if (onTheHeap (Value.ref D) && Value.builtin "BaseException.__getattribute__" == Value.builtin "object.__getattribute__") = true then _ else _) _ _ _
  rw [y1]
  rw [if_neg Bool.false_ne_true]
  unfold getAttrByItsOwn
  unfold hookBefore
  refine wpAny_bind ?_
  rw [if_pos (show onTheHeap (Value.ref D) = true from rfl)]
  refine l2.at (wpAny_bind (wpAny_attempt (wpAny_holding ?_)))
  unfold callGetattribute
  rw [show (false && onTheHeap (Value.builtin "BaseException.__getattribute__")) = false from rfl, if_neg Bool.false_ne_true]
  unfold boundAndCalled
  rw [PySem.F.excAttr_ValueError.ga.bind (.ref x)]
  refine wpAny_bind (wpAny_pure ?_)
  show wpAny _ _ (call (.builtin "BaseException.__getattribute__") [.ref x, .str "__class__" tk]) _ _ _
  refine wpAny_call (codeAny_call_builtin PySem.F.excAttr_ValueError.ga.plain PySem.F.entry_bexc_ga ?_)
  have sub : Looks (model prog w) hp (isInstance (.ref x) (.type "BaseException")) true := l0.andThen (looks_subIn X T.sb)
  refine @check_slot (model prog w) _ _ ⟨hp, gs, dr, tk + 1, os⟩ "BaseException.__getattribute__" "BaseException" "__getattribute__" (.ref x) [.str "__class__" tk] [] _ (by decide +kernel) (by decide +kernel) sub
    (PySem.F.args_bexc_ga (.ref x) (.str "__class__" tk)) ?_
  unfold Builtin.«object.__getattribute__»
  refine wpAny_bind ?_
  refine wpAny_of_eq (a := ((Value.ref x : Value), [Value.str "__class__" tk])) (by first | rfl | (simp only [slotArgs]; rfl)) ?_
  refine wpAny_bind (wpAny_pure (wpAny_bind (l0.at ?_)))
  refine wpAny_bind (l3.at ?_)
  show wpAny _ _ (holding [Value.builtin "object.__class__"] (call (.builtin "getset_descriptor.__get__") [.builtin "object.__class__", .ref x, .ref D]) >>= ret) _ _ _
  refine wpAny_bind (wpAny_holding (wpAny_call (class_get (s := ⟨hp, gs, dr, tk + 1, os⟩) (od := od) X I T.mo ?_)))
  refine wpAny_pure ?_
  show wpAny _ _ (handedOut (.ref D)) _ _ _
  rw [handedOut_of (v := .ref D) rfl]
  first
    | exact wpAny_pure (wpAny_pure q)
    | exact wpAny_pure q
    | exact wpAny_pure (wpAny_bind (wpAny_pure (wpAny_pure q)))
theorem kit_own (T : XC K D) : KitX K (.ref x) (.ref D) (fun h => InstAt h x ox D od) := by
  obtain ⟨cd, e, _⟩ := any_some T.hd
  have at_ : ∃ c d sl, K.lookup D = some ⟨c, d, .cls cd, sl⟩ := by
    unfold clsIn at e
    split at e
    · rename_i ho
      cases e
      exact ⟨_, _, _, ho⟩
    · cases e
  obtain ⟨c, d, sl, ho⟩ := at_
  refine ⟨fun _ _ _ I => I.type, fun _ _ X _ => ?_, fun h tp dd its n sl' X ht => ?_, fun X I q => own_class T X I q⟩
  · intro A Q E s k q
    unfold isType
    unfold loadHead
    exact wpAny_bind (wpAny_loadPart (k _ _ (X _ _ ho)) (wpAny_pure q))
  · cases z : (Value.ref D == Value.ref tp) with
    | false => rfl
    | true =>
      have e2 : D = tp := Value.ref.inj (beq_iff_eq.mp z)
      have z2 := X _ _ ho
      rw [e2, ht] at z2
      cases z2
end

/-- an exception of the class at C stands at a as a value; what it keeps -/
def XAt (H : Hp) (a C : Addr) : Option (List (Str × V)) → Prop
  | none => H a = some (ExO (.ref C) a)
  | some fs => ∃ d, H a = some (exo a C (some d)) ∧ H d = some (exd d fs)
theorem XAt.same {H H' : Hp} {a C : Addr} {o : Option (List (Str × V))} (s : Same H H') (h : XAt H a C o) : XAt H' a C o := by
  cases o with
  | none => exact s _ _ h
  | some fs =>
    obtain ⟨d, h1, h2⟩ := h
    exact ⟨d, s _ _ h1, s _ _ h2⟩
section
variable {X : Cx} {pins : List (Addr × Obj)} {σ : L2.St} {H : Hp} {s : Shared}
theorem XAt.inst {a C : Addr} {o : Option (List (Str × V))} (I : Inv X pins σ H s) (h : XAt H a C o) : ∃ oe od, PySem.W.InstAt s.heap a oe C od := by
  cases o with
  | none =>
    obtain ⟨⟨oe, vs, e1, e2, e3, _⟩, _⟩ := I.hok a _ h
    exact ⟨oe, none, e1, e2.1, by unfold PySem.W.notCls; rw [e3] <;> rfl, by rw [e2.2]; trivial⟩
  | some fs =>
    obtain ⟨d, h1, h2⟩ := h
    obtain ⟨t1, e1⟩ := exo_at I.hok h1
    obtain ⟨mA, hn, _⟩ := exd_at I.hok h2
    obtain ⟨od, eo, _⟩ := lookIn_ns hn
    exact ⟨_, some od, e1, rfl, rfl, eo⟩
/-- isinstance of an exception that is held as a value -/
theorem call_isiX : CallR X (.builtin "isinstance") (fun xs H Q => ∃ (a C : Addr) (o : Option (List (Str × V))) (c : V) (u : Value) (b : Bool), xs = [.ref a, c] ∧ ClsV c u ∧ XAt H a C o ∧ XC X.K C ∧ PySem.W.kitOne X.K (.ref C) u = some b ∧ Q (.bl b) H) := by
  intro pins s σ H xs us Q I r h
  obtain ⟨a, C, o, c, u, b, rfl, k, x, T, e, q⟩ := h
  obtain ⟨u1, u2, rfl, r1, r2⟩ := vals2 r
  have e2 := k.eq r2
  subst e2
  obtain rfl : u1 = Value.ref a := r1
  obtain ⟨oe, od, J⟩ := x.inst I
  exact PySem.W.kia_one (kit_own T) I.kIn J e (fun z => nomatch z) fun tk => ⟨.bl b, H, I.tok tk, rfl, q⟩
/-- e.f of such an exception -/
def tXv (K : PySem.W.Frag) (f : Str) (te : TE) : TE := fun σ H Q => te σ H fun y H1 => ∃ (a C : Addr) (fs : List (Str × V)) (v : V), y = .ref a ∧ XAt H1 a C (some fs) ∧ XC K C ∧ PySem.W.findIn K (.ref C) f = some none ∧ fs.lookup f = some v ∧ Q v H1
theorem pe_xv {e : Expr} {te : TE} {pos : Pos} {n : Str} (he : PE X e te) (hb : attributeBase e n X.env (eval e X.env) = eval e X.env := by rfl) : PE X (.Attribute e n pos) (tXv X.K n te) := by
  refine ⟨fun pins s σ H Q I h => attr_of hb (thn (he.run pins s σ H _ I h) fun u s1 ⟨y, H1, I1, ry, a, C, fs, v, ey, xa, T, hno, hl, q⟩ => ?_)⟩
  subst ey
  obtain rfl : u = Value.ref a := ry
  obtain ⟨d, h1, h2⟩ := xa
  obtain ⟨t1, e1⟩ := exo_at I1.hok h1
  obtain ⟨mA, hn, rel⟩ := exd_at I1.hok h2
  obtain ⟨od, eo, lk⟩ := lookIn_ns hn
  obtain ⟨v', hu, ru⟩ := RelO.some_of (v := v) (o := mA n) (by rw [← hl]; exact rel n)
  exact HandSPX.exc_get (ox := { cls := .ref C, dict := some d, data := .fields #[.ref t1, .none, .none, .none, .bool false, .none] }) (od := some od) I1.kIn ⟨e1, rfl, rfl, eo⟩ T.ga T.gg T.sb (PySem.W.findObj_own T.hd hno rfl (by rw [lk, hu])) (handed_of ru) ⟨v, H1, I1.tok _, ru, q⟩
/-- C(e, ..), as a value, its own __init__ keeping sp -/
def tMkV (C : Addr) (sp : Sp) (ta : TA) : TE := fun σ H Q => ta σ H fun vs H1 => vs.length ≤ 1000 ∧ ∀ a, H1 a = none → sp (.ref a :: vs) (upd H1 a (exo a C none)) (fun v H2 => v = .non ∧ Q (.ref a) H2) E0
theorem pe_mkv {x : Str} {C fI : Addr} {k : Nat} {fd : FuncData} {ps : List Str} {sp : Sp} {e : Expr} {es : List Expr} {ta : TA} {p pos : Pos} (T : OexC X.K C) (iC : PySem.W.findIn X.K (.ref C) "__init__" = some (some (.ref fI))) (tI : PySem.W.typeIn X.K (.ref fI) = some (.type "function"))
    (F : FnOk X.prog X.w X.K X.mg X.base CX0 k fI fd ps sp) (hr : Room (k + 1) X.A) (hb : Binds X.K fd ps []) (hg : Gl X x) (hm : X.mg x = some (.ref C)) (ha : PA X (e :: es) ta)
    (hdb : (x == ("__debug__" : Str)) = false := by decide) (he : starEach (e :: es) X.env = (false, eval e X.env) :: starEach es X.env := by rfl) (hpl : (backTo pos (starEach es X.env)).any (·.1) = false := by rfl) :
    PE X (.Call (.Name x p) (e :: es) [] pos) (tMkV C sp ta) := by
  refine ⟨fun pins s σ H Q I h => wpAny_Call_Name_kw (ld_glob I hg hm ?_ hdb)⟩
  obtain ⟨nm, q, N, bs, bm, sn, sub, ab, col, dd, k0, k1, k2, k3, k5, hC, hbm⟩ := T.cls
  refine PySem.W.callWith_K (h₀ := X.base) I.ok.mod.kin T.kC (thn (ha.run pos pins s σ H _ I h) fun us s1 ⟨vs, H1, I1, rv, hz, g⟩ => ⟨I1.kIn, ?_⟩) he hpl
  show wpAny _ _ (call (.ref C) us) _ _ _
  obtain ⟨hp, gs, dr, tk, os⟩ := s1
  have new : H1 (hp.objs.size + 1) = none := I1.hok.fresh (Nat.le_succ _)
  have g := g (hp.objs.size + 1) new
  let h2 := (hp.push (PySem.W.kdv_tup us)).push (PySem.HandSPX.excO C hp.objs.size)
  have at2 : h2.get? (hp.objs.size + 1) = some (PySem.HandSPX.excO C hp.objs.size) := by
    show ((hp.push (PySem.W.kdv_tup us)).push (PySem.HandSPX.excO C hp.objs.size)).get? (hp.objs.size + 1) = _
    heap_get
  have I2 : Inv X pins σ (upd H1 (hp.objs.size + 1) (exo (hp.objs.size + 1) C none)) ⟨h2, gs, dr, tk, os⟩ :=
    I1.laid (t' := tk) (a := hp.objs.size + 1) (h' := h2) (fun b o z => Heap.get?_push_of_some _ (Heap.get?_push_of_some _ z)) (Nat.le_succ _) (exo_ok at2)
  have r2 : Vals (V.ref (hp.objs.size + 1) :: vs) (Value.ref (hp.objs.size + 1) :: us) := .cons rfl rv
  have ln : (Value.ref (hp.objs.size + 1) :: us ++ []).length = ps.length := by
    rw [List.append_nil, ← r2.length]
    exact F.len _ _ _ _ g
  have hus : us.length ≤ sizeLine := by
    rw [← Paired.length rv, sizeLine_eq]
    omega
  have bd := hb ⟨h2, gs, dr, tk, os⟩ (Value.ref (hp.objs.size + 1) :: us) I2.kIn ln
  rw [List.append_nil] at bd
  refine wpAny_call (PySem.HandSPX.call_own PySem.F.excBase_ValueError (fun Y => PySem.HandSPX.refsVE_contains Y bm hbm) (I1.kIn _ _ hC) (PySem.W.looks_findIn I1.kIn iC) (fun self => PySem.W.bind_fn I1.kIn self tI) hus ?_)
  refine codeAny_mono (F.run _ X.stack _ _ _ _ _ _ E0 (hr.make C us []) (I2.env0.make C us []) bd r2 g) fun r s' z => ?_
  match r, z with
  | .error er, z => exact z.elim
  | .ok .next, z => exact z.elim
  | .ok .brk, z => exact z.elim
  | .ok .cont, z => exact z.elim
  | .ok (.ret u), ⟨v, H2, o2, b2, un2, ok2, ru, ev, q2⟩ =>
    subst ev
    refine ⟨ru, ?_⟩
    exact I2.after ⟨.ref (hp.objs.size + 1), H2, o2, b2, un2, ok2, rfl, q2⟩
/-- C(), a class without an __init__ of its own -/
theorem pe_mk0 {x : Str} {C : Addr} {p pos : Pos} (q : PySem.W.excIn X.K C [.type "ValueError", .type "Exception", .type "BaseException", .type "object"] "ValueError.__new__" = true) (kC : PySem.W.keepIn X.K (.ref C) = true) (hg : Gl X x) (hm : X.mg x = some (.ref C))
    (hdb : (x == ("__debug__" : Str)) = false := by decide) : PE X (.Call (.Name x p) [] [] pos) (fun _ H Q => ∀ a, H a = none → Q (.ref a) (upd H a (ExO (.ref C) a))) := by
  refine ⟨fun pins s σ H Q I h => wpAny_Call_Name_kw (ld_glob I hg hm (PySem.W.callWith_K0 I.kIn kC ?_) hdb)⟩
  obtain ⟨hp, gs, dr, tk, os⟩ := s
  obtain ⟨bm, N, nm, qn, bs, hdct, sn, sub, ab, col, dd, k0, k1, k2, k3, k5, mN, hC, hN, hni, T⟩ := exc_obj I.kIn q
  refine wpAny_call_exc_subT PySem.F.excBase_ValueError T hC hN hni (fun h' a M => ?_) (by rw [sizeLine_eq]; decide)
  have n : H a = none := I.hok.gone M.new
  obtain ⟨t, e, _, _⟩ := M.there
  exact ⟨.ref a, upd H a (ExO (.ref C) a), I.laidN M.keeps M.new n (exO_ok e ⟨rfl, rfl⟩ rfl rfl rfl (by show 4 < 6; decide)), rfl, h a n⟩
end
end Vf
namespace Vf
open PySem PySem.Spec PyProof.Rows L2
def xcB (K : PySem.W.Frag) (D : Addr) : Bool :=
  decide (PySem.W.findIn K (.ref D) "__getattribute__" = some (some (.builtin "BaseException.__getattribute__"))) && (decide (PySem.W.findIn K (.ref D) "__getattr__" = some none) && (decide (PySem.W.subIn K (.ref D) (.type "BaseException") = some true) &&
  (PySem.W.hasDictIn K D && (decide (PySem.W.findIn K (.ref D) "__class__" = some (some (.builtin "object.__class__"))) && (decide (PySem.W.specialIn K (.builtin "object.__class__") "__get__" = some (some (.builtin "getset_descriptor.__get__"))) &&
  (decide (PySem.W.takesIn K (.builtin "object.__class__") = some true) && decide (PySem.W.mroIn K D (.type "object") = some true)))))))
theorem xcB_ok {K : PySem.W.Frag} {D : Addr} (h : xcB K D = true) : XC K D := by
  obtain ⟨h1, h⟩ := Bool.and_eq_true_iff.mp h
  obtain ⟨h2, h⟩ := Bool.and_eq_true_iff.mp h
  obtain ⟨h3, h⟩ := Bool.and_eq_true_iff.mp h
  obtain ⟨h4, h⟩ := Bool.and_eq_true_iff.mp h
  obtain ⟨h5, h⟩ := Bool.and_eq_true_iff.mp h
  obtain ⟨h6, h⟩ := Bool.and_eq_true_iff.mp h
  obtain ⟨h7, h8⟩ := Bool.and_eq_true_iff.mp h
  exact ⟨of_decide_eq_true h1, of_decide_eq_true h2, of_decide_eq_true h3, h4, of_decide_eq_true h5, of_decide_eq_true h6, of_decide_eq_true h7, of_decide_eq_true h8⟩
end Vf

set_option maxRecDepth 100000
set_option maxHeartbeats 4000000
/-! sizes of texts of data; walks -/
namespace Vf
open PySem PySem.Spec PyProof.Rows L2
/-- good data: shallow, shown in few signs -/
structure Gd (d : PyData) : Prop where
  sh : d.showable = true
  dp : d.depth ≤ 10
  ln : d.shown.length ≤ 100000
theorem gd_none : Gd .none := ⟨rfl, by decide, by simp only [PyData.shown]; decide⟩
theorem gd_bool (b : Bool) : Gd (.bool b) := ⟨rfl, by simp [PyData.depth], by cases b <;> (simp only [PyData.shown]; decide)⟩
theorem log_small {z : Int} (h : z.natAbs < 2 ^ 1920) : z.natAbs.log2 < 1920 := by
  by_cases e : z.natAbs = 0
  · rw [e]
    decide
  · exact (Nat.log2_lt e).mpr h
theorem gd_int {z : Int} (h : z.natAbs < 2 ^ 1920) : Gd (.int z) := by
  have l := log_small h
  refine ⟨by simp only [PyData.showable, l, decide_true], by simp [PyData.depth], ?_⟩
  simp only [PyData.shown]
  exact Nat.le_trans (int_text_len_1921 l) (by decide)
theorem gd_str {x : Str} (h : ∀ c ∈ x.cps.toList, c < 16 ^ 8) (hl : x.length ≤ 9000) : Gd (.str x) := by
  refine ⟨rfl, by simp [PyData.depth], ?_⟩
  simp only [PyData.shown]
  have q := StrLaws.reprText_len x h
  omega
theorem int_codes (z : Int) : ∀ c ∈ (Str.ofString (toString z)).cps.toList, c < 16 ^ 8 := fun c h => by
  by_cases e : c < 58
  · have : (58 : Nat) < 16 ^ 8 := by decide
    omega
  · exact absurd h (int_text_free' c ⟨by omega, by omega⟩ z)
theorem sum_le_of {l : List Nat} {m : Nat} (h : ∀ x ∈ l, x ≤ m) : l.sum ≤ l.length * m := by
  induction l with
  | nil => simp
  | cons a r ih =>
    have h1 := h a (List.mem_cons_self ..)
    have h2 := ih fun x hx => h x (List.mem_cons_of_mem _ hx)
    rw [List.sum_cons, List.length_cons, Nat.add_mul]
    omega
theorem shownAll_map : ∀ ds : List PyData, PyData.shownAll ds = ds.map PyData.shown
  | [] => by simp only [PyData.shownAll, List.map_nil]
  | d :: r => by simp only [PyData.shownAll, List.map_cons, shownAll_map r]
theorem showableAll_of : ∀ {ds : List PyData}, (∀ d ∈ ds, d.showable = true) → PyData.showableAll ds = true
  | [], _ => by simp only [PyData.showableAll]
  | d :: r, h => by
    simp only [PyData.showableAll, h d (List.mem_cons_self ..), showableAll_of fun x hx => h x (List.mem_cons_of_mem _ hx), Bool.and_self]
theorem depthAll_of {m : Nat} : ∀ {ds : List PyData}, (∀ d ∈ ds, d.depth ≤ m) → PyData.depthAll ds ≤ m
  | [], _ => by simp only [PyData.depthAll]; exact Nat.zero_le _
  | d :: r, h => by
    simp only [PyData.depthAll]
    exact Nat.max_le.mpr ⟨h d (List.mem_cons_self ..), depthAll_of fun x hx => h x (List.mem_cons_of_mem _ hx)⟩
/-- few data, each shown in at most m signs -/
theorem seq_len {ds : List PyData} {m : Nat} (h : ∀ d ∈ ds, d.shown.length ≤ m) : (((PyData.shownAll ds).map (·.length)).sum ≤ ds.length * m) ∧ (PyData.shownAll ds).length = ds.length := by
  rw [shownAll_map]
  refine ⟨?_, by rw [List.length_map]⟩
  have q := sum_le_of (l := ((ds.map PyData.shown).map (·.length))) (m := m) (fun x hx => by
    obtain ⟨s, hs, e⟩ := List.mem_map.mp hx
    obtain ⟨d, hd, e2⟩ := List.mem_map.mp hs
    rw [← e, ← e2]
    exact h d hd)
  rw [List.length_map, List.length_map] at q
  exact q
theorem small_seq {ds : List PyData} {n m : Nat} (hn : ds.length ≤ n) (h1 : ∀ d ∈ ds, d.showable = true) (h2 : ∀ d ∈ ds, d.depth ≤ 60) (h3 : ∀ d ∈ ds, d.shown.length ≤ m) (hz : n * m + 2 * n + 3 ≤ 16777216) : small (.list ds) ∧ small (.tuple ds) := by
  obtain ⟨a, b⟩ := seq_len h3
  have c : ds.length * m ≤ n * m := Nat.mul_le_mul_right _ hn
  have d1 := depthAll_of h2
  refine ⟨⟨by simp only [PyData.showable]; exact showableAll_of h1, by simp only [PyData.depth]; omega, ?_⟩, by simp only [PyData.showable]; exact showableAll_of h1, by simp only [PyData.depth]; omega, ?_⟩
  · simp only [PyData.shown]
    have q := listText_len_le (PyData.shownAll ds)
    rw [sizeLine_eq]
    omega
  · simp only [PyData.shown]
    have q := tupleText_len_le (PyData.shownAll ds)
    rw [sizeLine_eq]
    omega
theorem gd_seq {ds : List PyData} {n m : Nat} (hn : ds.length ≤ n) (h1 : ∀ d ∈ ds, d.showable = true) (h2 : ∀ d ∈ ds, d.depth ≤ 9) (h3 : ∀ d ∈ ds, d.shown.length ≤ m) (hz : n * m + 2 * n + 3 ≤ 100000) : Gd (.list ds) ∧ Gd (.tuple ds) := by
  obtain ⟨a, b⟩ := seq_len h3
  have c : ds.length * m ≤ n * m := Nat.mul_le_mul_right _ hn
  have d1 := depthAll_of h2
  refine ⟨⟨by simp only [PyData.showable]; exact showableAll_of h1, by simp only [PyData.depth]; omega, ?_⟩, by simp only [PyData.showable]; exact showableAll_of h1, by simp only [PyData.depth]; omega, ?_⟩
  · simp only [PyData.shown]
    have q := listText_len_le (PyData.shownAll ds)
    omega
  · simp only [PyData.shown]
    have q := tupleText_len_le (PyData.shownAll ds)
    omega
theorem small_of_gd {ds : List PyData} (hn : ds.length ≤ 100) (h : ∀ d ∈ ds, Gd d) : small (.list ds) ∧ small (.tuple ds) :=
  small_seq hn (fun d hd => (h d hd).sh) (fun d hd => Nat.le_trans (h d hd).dp (by decide)) (fun d hd => (h d hd).ln) (by decide)
theorem Gd.small {d : PyData} (h : Gd d) : small d := ⟨h.sh, Nat.le_trans h.dp (by decide), Nat.le_trans h.ln (by rw [sizeLine_eq]; decide)⟩
theorem gd_dict1 {x : Str} {z : Int} (hx : ∀ c ∈ x.cps.toList, c < 16 ^ 8) (hl : x.length ≤ 1000) (h : z.natAbs < 2 ^ 1920) : Gd (.dict [(.str x, .int z)]) := by
  have l := log_small h
  refine ⟨by simp only [PyData.showable, PyData.showableKv, l, decide_true, Bool.and_self], by simp only [PyData.depth, PyData.depthKv]; decide, ?_⟩
  simp only [PyData.shown, PyData.shownKv]
  have q := dictText_len_le [reprText x ++ ": " ++ (Str.ofString (toString z))]
  have r := StrLaws.reprText_len x hx
  have s := int_text_len_1921 l
  simp only [List.map_cons, List.map_nil, List.sum_cons, List.sum_nil, List.length_cons, List.length_nil, strLen_append] at q
  have t : (Str.ofString ": ").length = 2 := by decide +kernel
  refine Nat.le_trans q ?_
  have t2 : ((": " : String) : Str).length = 2 := t
  omega

/-- for i, x in enumerate(a list) -/
theorem for_enumL {K : PySem.W.Frag} {a : Addr} {xs : List V} {g : TG} {tb : TS} {D : Ends} {σ : L2.St} {H : Hp} (Pv : Nat → L2.St → Hp → Prop) (h0 : Pv 0 σ H) (hq : ∀ i σ H, Pv i σ H → SqL K H a xs)
    (hs : ∀ (i : Nat) (x : V) (T : Addr) (σ : L2.St) (H : Hp), xs[i]? = some x → Pv i σ H → H T = none → g (.ref T) σ (upd H T (.tup [.int (i : Nat), x])) fun σ2 H2 => tb { D with nx := Pv (i + 1), ct := Pv (i + 1), bk := D.nx } σ2 H2) (hd : ∀ σ H, Pv xs.length σ H → D.nx σ H) :
    ∃ W : Nat → Nat → L2.St → Hp → Prop, (∃ m, W 0 m σ H) ∧ ∀ i m σ H, W i m σ H →
      ((Ite K a).stop i H ∧ D.nx σ H) ∨ ((Ite K a).go i H ∧ ∃ N : L2.St → Hp → Prop, (∀ σ' H', N σ' H' → ∃ m', m' < m ∧ W (i + 1) m' σ' H') ∧ ∀ v H', (Ite K a).yld i H v H' → g v σ H' fun σ2 H2 => tb { D with nx := N, ct := N, bk := D.nx } σ2 H2) := by
  refine ⟨fun i m σ H => m + i = xs.length ∧ Pv i σ H, ⟨xs.length, rfl, h0⟩, fun i m σ H ⟨e, p⟩ => ?_⟩
  have q := hq i σ H p
  match m, e with
  | 0, e =>
    have e2 : i = xs.length := by omega
    rw [e2] at p ⊢
    exact .inl ⟨⟨xs, q, Nat.le_refl _⟩, hd σ H p⟩
  | m + 1, e =>
    have lt : i < xs.length := by omega
    refine .inr ⟨⟨xs, xs[i], q, List.getElem?_eq_getElem lt⟩, Pv (i + 1), fun σ' H' p' => ⟨m, Nat.lt_succ_self m, by omega, p'⟩, fun v H' y => ?_⟩
    obtain ⟨T, x, e1, n, e2, hx⟩ := y
    rw [e1, e2]
    exact hs i x T σ H (hx xs q) p n
end Vf

set_option maxRecDepth 100000
set_option maxHeartbeats 4000000
/-! the end of a law's row, from its promise where no guard stands; what the top has written, read off -/
namespace Vf
open PySem PySem.Spec PyProof.Rows L2
/-- what is known of the law's def at the heap behind the top -/
def LawG (l : PySem.W.OpenLaw) (w : World) (K : PySem.W.Frag) (C : CXT) (k n : Nat) (x : Str) (mg : Str → Option Value) (fa : Addr) (h : Heap) : Prop :=
  ∃ (fd : FuncData) (cs : List (Addr × Addr)) (sp : Sp), (∀ p ∈ cs, h.get? p.2 = some { cls := .none, data := .fields #[] }) ∧ (∀ p ∈ cs, K.lookup p.2 = none) ∧ (∀ p ∈ cs, PySem.W.CodeHd h p.1 p.2) ∧
    (∀ (s : Shared) (u : Value), BindsTo s fd ⟨[u], []⟩ [(x, u)]) ∧
    (∀ (H : Hp) (a : Addr) (ns : List Int), ns.length ≤ n → (∀ z ∈ ns, Builtin.Int.intBits z ≤ 1048576) → (∀ p ∈ cs, H p.2 = some (.tbl #[])) → SqL K H a (ns.map V.int) → sp [.ref a] H (fun v _ => v = .bl true) E0) ∧
    ∀ b : Heap, K.In b → b.Ns mainGlobals mg → M1 b → (∀ p ∈ cs, LamX.TabB b mg p.1 p.2) → FnG l.prog w K mg b C k fa fd [x] sp
theorem walkG {l : PySem.W.OpenLaw} {n k : Nat} {q : Program} {loose : List Str} {XP : (Str → Option Value) → Heap → Prop} {YP : World → Heap → Prop} {d : DefRec} {K : Params → PySem.W.Frag} {C : World → CXT} {x : Str}
    (hn : l.most = some n) (hn2 : n ≤ sizeLine) (hdf : d.params.defaults = []) (hr : Room k callerA) (hi : importsNone q = true) (hY : ∀ (w : World) (h : Heap), YP w h → (K w.params).In h)
    (F : ∀ (w : World) (mg : Str → Option Value) (fa : Addr) (h : Heap), YP w h → (K w.params).In h → h.Ns mainGlobals mg → mg d.name = some (.ref fa) → LawG l w (K w.params) (C w) k n x mg fa h)
    (hE : ∀ (w : World) (H : Hp) (s : Shared) (e : Value) (s' : Shared), C w [] H s E0 e s' → False) : PySem.W.WalkO q loose XP YP l.row.toRowW d [] (fun f vs => PySem.call f vs) := by
  refine Att.attach_callB hn hdf fun w s0 s1 mg mb fa o pm cd doc a vs ns G Y ho hd hcd hmg hobj hints hlen hbits hg => ?_
  have X := hY w _ Y
  obtain ⟨fd, cs, sp, hT, nT, hC, bind, hsp, hF⟩ := F w mg fa _ Y X G.T.g hmg
  have m1 : M1 s1.heap := by
    obtain ⟨mm, ⟨o, es, ep, e, dt, _⟩, _⟩ := (G.T.seer hi).mods
    exact ⟨o, es, ep, e, dt⟩
  exact law_enter X G.T.g G.T.b G.T.builtins G.T.nolimit hg hT nT hC G.T.bmain m1 hobj hints (Nat.le_trans hlen hn2) hr hF bind (fun H h1 h2 => hsp H a ns hlen hbits h1 h2) fun H e s' => hE w H s1 e s'

/-- a def of the text, as the written part tells it -/
structure Wr (K : PySem.W.Frag) (qual x : Str) (st : Stmt) (f : Addr) : Prop where
  ex : ∃ fd, Fun K x qual st f fd
theorem wr_mk {K : PySem.W.Frag} {x qual : Str} {st : Stmt} {f : Addr} {oc : Value} {od an : Option Addr} {osl : Array (Option Value)} {kV doc pm cdv ct : Value} (l : K.lookup f = some ⟨oc, od, .func (PySem.W.fnOf x qual (defArgs st) (defBody st) (defScope st) .none kV doc pm an cdv ct), osl⟩)
    (c : PySem.W.codeIn K cdv qual = true) (k : PySem.W.keepIn K (.ref f) = true) : Wr K qual x st f := ⟨_, fun_mk l c k⟩
/-- an exception class, its facts in one look -/
def oexB (K : PySem.W.Frag) (C : Addr) : Bool :=
  decide (PySem.W.findIn K (.ref C) "__setattr__" = some (some (.builtin "object.__setattr__"))) && (decide (PySem.W.subIn K (.ref C) (.type "BaseException") = some true) &&
    (decide (PySem.W.typeIn K (.ref C) = some (.type "type")) && PySem.W.keepIn K (.ref C)))
theorem oexB_ok {K : PySem.W.Frag} {C : Addr} (h : oexB K C = true) (c : ∃ nm q N bs bm sn sub ab col dd k0 k1 k2 k3 k5, K.lookup C = some (excClassObj nm q C N bs bm true sn sub ab col dd k0 k1 k2 k3 k5 "ValueError.__new__") ∧ PySem.HandSPX.refsVE bm = true) : OexC K C := by
  obtain ⟨h1, h⟩ := Bool.and_eq_true_iff.mp h
  obtain ⟨h2, h⟩ := Bool.and_eq_true_iff.mp h
  obtain ⟨h3, h4⟩ := Bool.and_eq_true_iff.mp h
  exact ⟨c, of_decide_eq_true h1, of_decide_eq_true h2, of_decide_eq_true h3, h4⟩
end Vf

set_option maxRecDepth 100000
set_option maxHeartbeats 4000000
/-! the end of a row whose law makes lambdas: the tables of defs -/
namespace Vf
open PySem PySem.Spec PyProof.Rows L2
/-- the tables of the text's own defs are empty, their code objects as they come -/
def TabsG (q : Program) (K : PySem.W.Frag) (mg : Str → Option Value) (h : Heap) : Prop :=
  ∀ (x : Str) (f c Pt : Addr) (o : Obj) (fd : FuncData) (e : Value) (dd : Option Addr) (vs : Array Value) (sl : Array (Option Value)), ((recsOf q).any fun e => e.name == x) = true → mg x = some (.ref f) → K.lookup f = some o → o.data = .func fd → fd.code = .ref c →
    K.lookup c = some ⟨e, dd, .fields vs, sl⟩ → vs[11]? = some (.ref Pt) → PySem.W.CodeHd h c Pt ∧ h.get? Pt = some { cls := .none, data := .fields #[] }
theorem walkT {l : PySem.W.OpenLaw} {n k : Nat} {q : Program} {loose : List Str} {XP : (Str → Option Value) → Heap → Prop} {YP : World → Heap → Prop} {d : DefRec} {K : Params → PySem.W.Frag} {C : World → CXT} {x : Str}
    (hn : l.most = some n) (hn2 : n ≤ sizeLine) (hdf : d.params.defaults = []) (hr : Room k callerA) (hi : importsNone q = true) (hY : ∀ (w : World) (h : Heap), YP w h → (K w.params).In h)
    (F : ∀ (w : World) (mg : Str → Option Value) (fa : Addr) (h : Heap), YP w h → (K w.params).In h → h.Ns mainGlobals mg → mg d.name = some (.ref fa) → TabsG q (K w.params) mg h → LawG l w (K w.params) (C w) k n x mg fa h)
    (hE : ∀ (w : World) (H : Hp) (s : Shared) (e : Value) (s' : Shared), C w [] H s E0 e s' → False) : PySem.W.WalkO q loose XP YP l.row.toRowW d [] (fun f vs => PySem.call f vs) := by
  refine Att.attach_callB hn hdf fun w s0 s1 mg mb fa o pm cd doc a vs ns G Y ho hd hcd hmg hobj hints hlen hbits hg => ?_
  have X := hY w _ Y
  have tabs : TabsG q (K w.params) mg s1.heap := fun x f c Pt o1 fd1 e dd vs1 sl hrec k0 k1 k2 k3 k4 k5 => by
    obtain ⟨dL, hm, hn1⟩ := List.any_eq_true.mp hrec
    have hn2 : dL.name = x := beq_iff_eq.mp hn1
    obtain ⟨a', o', fd', c', P', h1, h2, h3, h4, h5, h6⟩ := G.T.tab dL hm
    rw [hn2, k0] at h1
    cases h1
    have g1 := X _ _ k1
    rw [g1] at h2
    cases h2
    rw [k2] at h3
    cases h3
    rw [k3] at h4
    cases h4
    have h6' := h6
    obtain ⟨⟨oc, vc, e1, _, e3, e4⟩, hP⟩ := h6'
    have g2 := X _ _ k4
    rw [g2] at e1
    cases e1
    cases e3
    rw [k5] at e4
    cases e4
    exact ⟨PySem.W.CodeHd.of h5 h6, hP⟩
  obtain ⟨fd, cs, sp, hT, nT, hC, bind, hsp, hF⟩ := F w mg fa _ Y X G.T.g hmg tabs
  have m1 : M1 s1.heap := by
    obtain ⟨mm, ⟨o, es, ep, e, dt, _⟩, _⟩ := (G.T.seer hi).mods
    exact ⟨o, es, ep, e, dt⟩
  exact law_enter X G.T.g G.T.b G.T.builtins G.T.nolimit hg hT nT hC G.T.bmain m1 hobj hints (Nat.le_trans hlen hn2) hr hF bind (fun H h1 h2 => hsp H a ns hlen hbits h1 h2) fun H e s' => hE w H s1 e s'
end Vf

set_option maxRecDepth 100000
set_option maxHeartbeats 4000000
/-! rules: several clauses with a name each; // by any great int -/
namespace Vf
open PySem PySem.Spec PyProof.Rows L2
/-- what each clause «except c as n» wishes, n in slot i, from the first one on -/
def wEach (K : PySem.W.Frag) (i : Nat) (Wo : WX) (D : Ends) : List (Value × (Addr → Value → Option Addr → TS)) → WX
  | [] => Wo
  | (c, ts) :: r => wAs K c i ts (wEach K i Wo D r) D
inductive Each (X : Cx) (i : Nat) : List ExceptHandler → List (Value × (Addr → Value → Option Addr → TS)) → Prop
  | nil : Each X i [] []
  | cons {x n : Str} {c : Value} {ts : Addr → Value → Option Addr → TS} {b : Stmt} {bs : List Stmt} {p q : Pos} {hds : List ExceptHandler} {l : List (Value × (Addr → Value → Option Addr → TS))} (nm : Names X x c) (at_ : X.N[i]? = some n) (lo : X.env.kindOf n = some .local)
      (su : ∀ (a : Addr) (oe : Obj) (cls : Value) (d : Option Addr) (pn : List (Addr × Obj)), Zc cls d oe → (∃ vs, oe.data = .fields vs) → PSs (X.suite a ((a, oe) :: pn)) (b :: bs) (ts a cls d)) (t : Each X i hds l) :
      Each X i (.ExceptHandler (some (.Name x p)) (some n) (b :: bs) q :: hds) ((c, ts) :: l)
section
variable {X : Cx} {i : Nat} {body : List Stmt} {h1 : ExceptHandler} {hs : List ExceptHandler} {l : List (Value × (Addr → Value → Option Addr → TS))} {pos : Pos} {tb : WX → TS} {Wo : WX}
/-- try: body / except .. as n: .. / except .. as n: .. -/
theorem ps_try_each (st : X.stack = X.env :: X.outer) (fr : X.env.frame = some X.env.locals) (nd : X.N.Nodup) (tk : Takes X Wo)
    (bd : ∀ (W : WX) (pn : List (Addr × Obj)) (xe : Value → Shared → Prop), Takes (X.tr pn xe) W → PassesOwn (model X.prog X.w) X.A X.env xe → PSs (X.tr pn xe) body (tb W)) (hd : Each X i (h1 :: hs) l) :
    PS X (.Try body (h1 :: hs) [] [] pos) (fun D σ H => tb (wEach X.K i Wo D l) D σ H) := by
  refine ⟨fun pins s σ H D I h => wpAny_Try_except ?_⟩
  have ok := I.ok
  have A1 : X.A.frames = some (X.env :: X.outer) := ok.frames.trans (congrArg some st)
  have run := (bd (wEach X.K i Wo D l) (X.pn ++ pins) (fun e s1 => wpAny (model X.prog X.w) X.A (noteFrame e X.env) (fun _ s2 => wpAny (model X.prog X.w) X.A (setFlight e none) (fun _ s3 => wpAny (model X.prog X.w) X.A (handleBy e X.env (h1 :: hs)) (SP X pins D) X.xe s3) X.xe s2) X.xe s1)
    (fun u s' xx => ?_) PassesOwn.looking).run [] s σ H D (I.toTry _) h
  · refine wpAny_mono run (fun f s1 z => ?_) fun e s1 z => z
    match f, z with
    | .next, ⟨σ', H', J, q⟩ => exact wpAny_execs_nil ⟨σ', H', J.ofTry ok, q⟩
    | .brk, ⟨σ', H', J, q⟩ => exact ⟨σ', H', J.ofTry ok, q⟩
    | .cont, ⟨σ', H', J, q⟩ => exact ⟨σ', H', J.ofTry ok, q⟩
    | .ret u, ⟨v, σ', H', J, r, q⟩ => exact ⟨v, σ', H', J.ofTry ok, r, q⟩
  · obtain ⟨a, B, sI, pins', σ1, H1, cls, d, ea, J', nb, up, sky, na, os, ag, w⟩ := xx
    subst ea
    have J : Inv X pins σ1 H1 sI := J'.ofTry ok
    rw [st] at sky
    show wpAny (model X.prog X.w) X.A (noteFrame (.ref a) X.env) _ _ _
    refine Sky.land Zc.steady A1 fr sky fun h3 fl up3 => ?_
    have J3 : Inv X pins σ1 H1 { s' with heap := h3 } := J.landed nb fl.1 (up.trans up3) os ag
    obtain ⟨oe, vs, he, hz, hdt⟩ := fl.there
    have out : a ∉ frs (X.env :: X.outer) := fun m => by
      obtain ⟨_, o2, e2, ne⟩ := fl.2.2.1.mem m
      rw [he] at e2
      cases e2
      exact ne _ hdt
    have notL : a ≠ X.env.locals := fun z => out (List.mem_filterMap.mpr ⟨X.env, List.mem_cons_self, by rw [fr, z]⟩)
    have notF : a ∉ X.fs := fun m => by
      obtain ⟨e, he, q⟩ := List.mem_filterMap.mp m
      exact out (List.mem_filterMap.mpr ⟨e, List.mem_cons_of_mem _ he, q⟩)
    have S3 := J3.suite he hdt na notL notF
    have ty : PySem.W.Looks (model X.prog X.w) h3 (typeOf (.ref a)) cls := fun A Q E s k q => wpAny_typeOf_ref (k _ _ he) (by rw [hz.1]; exact q)
    have each : ∀ (hs2 : List ExceptHandler) (l2 : List (Value × (Addr → Value → Option Addr → TS))), Each X i hs2 l2 → wEach X.K i Wo D l2 cls d σ1 H1 → wpAny (model X.prog X.w) X.A (handleBy (.ref a) X.env hs2) (SP X pins D) X.xe { s' with heap := h3 } := by
      intro hs2 l2 hk
      induction hk with
      | nil =>
        intro wo
        refine wpAny_handleBy_nil ?_
        obtain ⟨_, _, _, o2, v2, T2, oT2, t2, g1, g2, g3, g4, g5⟩ := id fl
        unfold PySem.passOn
        refine wpAny_bind (wpAny_field g1 g3 g4 ?_)
        rw [if_neg (show ¬ ((Value.ref T2 == Value.none) = true) from by simp)]
        have last : wpAny (model X.prog X.w) X.A (setFlight (.ref a) X.env.frame) (fun _ s4 => wpAny (model X.prog X.w) X.A (throw (.ref a) : Sem Flow) (SP X pins D) X.xe s4) X.xe { s' with heap := h3 } := by
          rw [fr]
          refine HandSPX.setFlight_upZ fl fun h4 up4 u4 => wpAny_throw (tk _ _ ⟨a, B, sI, pins, σ1, H1, cls, d, rfl, J, nb, (up.trans up3).trans u4, .inr (.inr (by rw [st]; exact up4)), na, os, ag, wo⟩)
        first
          | exact wpAny_bind (wpAny_pure (wpAny_bind last))
          | exact wpAny_bind last
      | @cons x n c ts b bs p q hds l3 nm at_ lo su t ih =>
        intro wo
        obtain ⟨k, hk, yes, no⟩ := wo
        refine wpAny_handleBy_cons (codeAny_handlers_test ?_) (by intro q; cases q)
        have LM := PySem.W.exm_one (M := model X.prog X.w) (J3.kIn) ty hk
        have see : ∀ {Q : Value → Shared → Prop} {E : Value → Shared → Prop}, Q c { s' with heap := h3 } → wpAny (model X.prog X.w) (X.A.mark (some (.ref a))) (eval (.Name x p) X.env) Q E { s' with heap := h3 } := by
          intro Q E q
          obtain ⟨g1, g2, g3 | ⟨g3, g4, g5⟩⟩ := nm
          · exact ld_glob (X := X.suite a ((a, oe) :: (X.pn ++ pins))) S3 g1 g3 q g2
          · exact ld_blt (X := X.suite a ((a, oe) :: (X.pn ++ pins))) S3 g1 g3 g4 q g5 g2
        refine see (LM.here ?_)
        cases k with
        | false =>
          show wpAny _ X.A (handleBy (.ref a) X.env hds) _ _ _
          exact ih (no rfl)
        | true =>
          refine codeAny_handlers_suite_as (HandSPX.lands_againZ fl fun h4 fl4 up4 => ?_)
          have J4 : Inv X pins σ1 H1 { s' with heap := h4 } := J.landed nb fl4.1 ((up.trans up3).trans up4) os ag
          obtain ⟨o4, v4, e4, z4, d4⟩ := fl4.there
          have S4 := J4.suite e4 d4 na notL notF
          refine store_ok (X := X.suite a ((a, o4) :: (X.pn ++ pins))) (v := .ref a) S4 nd at_ (.inl lo) rfl (fun s5 S5 => ?_) (.inr lo)
          refine wpAny_mono ((su a o4 cls d (X.pn ++ pins) z4 ⟨_, d4⟩).run [] s5 _ H1 _ S5 (yes rfl a na)) (fun f s6 z => ?_) (fun _ _ z => False.elim z)
          have away : ∀ {σ6 : L2.St} {H6 : Hp} {Q : Shared → Prop}, Inv (X.suite a ((a, o4) :: (X.pn ++ pins))) [] σ6 H6 s6 → (∀ s7, Inv X pins (σ6.set i none) H6 s7 → Q s7) →
              wpAny (model X.prog X.w) X.A (do bindName X.env n .none; unbindBehindTheSuite X.env n q) (fun _ s7 => Q s7) X.xe s6 := fun S6 g => gone_ok (S6.unsuite ok) nd at_ lo g
          match f, z with
          | .next, ⟨σ6, H6, S6, g⟩ => exact away S6 fun s7 J7 => ⟨_, _, J7, g⟩
          | .brk, ⟨σ6, H6, S6, g⟩ => exact away S6 fun s7 J7 => ⟨_, _, J7, g⟩
          | .cont, ⟨σ6, H6, S6, g⟩ => exact away S6 fun s7 J7 => ⟨_, _, J7, g⟩
          | .ret u, ⟨v6, σ6, H6, S6, r6, g⟩ => exact away S6 fun s7 J7 => ⟨_, _, _, J7, r6, g⟩
    exact each _ _ hd w
end
/-- // by an int that is not 0, below 2 ^ 9000 in size -/
def CDivZ (_ j : Int) : Prop := j ≠ 0 ∧ j.natAbs.log2 < 9000
theorem op_fdivZ {X : Cx} : OpR X (binaryOp .FloorDiv) (rI CDivZ fun i j => .int (i.fdiv j)) := opI fun i j _ _ _ _ _ hc q => floordiv_int hc.1 q (.inl (PyProof.noPylong_of_log2 hc.2))
end Vf

/-! ratios: the mathematics -/
namespace Vf
/-- the greatest common divisor, with the sign of the bottom -/
def sg (t b : Int) : Int := if b < 0 then -((Nat.gcd t.natAbs b.natAbs : Nat) : Int) else ((Nat.gcd t.natAbs b.natAbs : Nat) : Int)
/-- in lowest terms -/
def low (t b : Int) : Int × Int := (t.fdiv (sg t b), b.fdiv (sg t b))
theorem fdiv_of_mul {s k : Int} (h : s ≠ 0) : (s * k).fdiv s = k := Int.mul_fdiv_cancel_left k h
theorem gcd_pos {t b : Int} (h : b ≠ 0) : 0 < Nat.gcd t.natAbs b.natAbs := Nat.gcd_pos_of_pos_right _ (by omega)
theorem sg_ne {t b : Int} (h : b ≠ 0) : sg t b ≠ 0 := by
  have g := gcd_pos (t := t) h
  unfold sg
  split <;> omega
/-- t and b are the sign's multiples -/
theorem sg_dvd {t b : Int} (h : b ≠ 0) : ∃ t' b' : Int, t = sg t b * t' ∧ b = sg t b * b' ∧ 0 < b' ∧ Nat.gcd t'.natAbs b'.natAbs = 1 := by
  have g := gcd_pos (t := t) h
  generalize hG : Nat.gcd t.natAbs b.natAbs = G at g
  have d1 : ((G : Nat) : Int) ∣ t := Int.ofNat_dvd_left.mpr (by rw [← hG]; exact Nat.gcd_dvd_left _ _)
  have d2 : ((G : Nat) : Int) ∣ b := Int.ofNat_dvd_left.mpr (by rw [← hG]; exact Nat.gcd_dvd_right _ _)
  obtain ⟨x, hx⟩ := d1
  obtain ⟨y, hy⟩ := d2
  have one : Nat.gcd x.natAbs y.natAbs = 1 := by
    have e1 : t.natAbs = G * x.natAbs := by rw [hx, Int.natAbs_mul, Int.natAbs_natCast]
    have e2 : b.natAbs = G * y.natAbs := by rw [hy, Int.natAbs_mul, Int.natAbs_natCast]
    have e3 : Nat.gcd (G * x.natAbs) (G * y.natAbs) = G * Nat.gcd x.natAbs y.natAbs := Nat.gcd_mul_left _ _ _
    rw [← e1, ← e2, hG] at e3
    have e4 : G * 1 = G * Nat.gcd x.natAbs y.natAbs := by omega
    exact (Nat.eq_of_mul_eq_mul_left g e4).symm
  have gp : (0 : Int) < (G : Int) := by omega
  have sg_e : sg t b = if b < 0 then -(G : Int) else (G : Int) := by unfold sg; rw [hG]
  by_cases hb : b < 0
  · refine ⟨-x, -y, ?_, ?_, ?_, ?_⟩
    · rw [sg_e, if_pos hb, Int.neg_mul_neg]; exact hx
    · rw [sg_e, if_pos hb, Int.neg_mul_neg]; exact hy
    · rw [hy] at hb
      have : y < 0 := by
        rcases Int.lt_or_le y 0 with z | z
        · exact z
        · have := Int.mul_nonneg (Int.le_of_lt gp) z
          omega
      omega
    · rw [Int.natAbs_neg, Int.natAbs_neg]; exact one
  · refine ⟨x, y, ?_, ?_, ?_, one⟩
    · rw [sg_e, if_neg hb]; exact hx
    · rw [sg_e, if_neg hb]; exact hy
    · rcases Int.lt_or_le 0 y with z | z
      · exact z
      · have h2 : (G : Int) * y ≤ 0 := Int.mul_nonpos_of_nonneg_of_nonpos (Int.le_of_lt gp) z
        rw [← hy] at h2
        omega
theorem low_eq {t b t' b' : Int} (h : b ≠ 0) (e1 : t = sg t b * t') (e2 : b = sg t b * b') : low t b = (t', b') := by
  have s := sg_ne (t := t) h
  unfold low
  have a1 : t.fdiv (sg t b) = t' := by
    have z := fdiv_of_mul (s := sg t b) (k := t') s
    rw [← e1] at z
    exact z
  have a2 : b.fdiv (sg t b) = b' := by
    have z := fdiv_of_mul (s := sg t b) (k := b') s
    rw [← e2] at z
    exact z
  rw [a1, a2]
/-- in lowest terms: its bottom is above 0, nothing is common -/
structure Low (t b : Int) : Prop where
  pos : 0 < b
  one : Nat.gcd t.natAbs b.natAbs = 1
theorem low_is {t b : Int} (h : b ≠ 0) : Low (low t b).1 (low t b).2 := by
  obtain ⟨x, y, e1, e2, hp, ho⟩ := sg_dvd (t := t) h
  rw [low_eq h e1 e2]
  exact ⟨hp, ho⟩
theorem low_id {t b : Int} (h : Low t b) : low t b = (t, b) := by
  have hb : b ≠ 0 := by have := h.pos; omega
  have e : sg t b = 1 := by unfold sg; rw [h.one, if_neg (by have := h.pos; omega)]; rfl
  exact low_eq hb (by rw [e, Int.one_mul]) (by rw [e, Int.one_mul])
theorem sg_scale {t b k : Int} (hk : 0 < k) : sg (t * k) (b * k) = sg t b * k := by
  have e : Nat.gcd (t * k).natAbs (b * k).natAbs = Nat.gcd t.natAbs b.natAbs * k.natAbs := by
    rw [Int.natAbs_mul, Int.natAbs_mul, Nat.gcd_mul_right]
  have ek : ((k.natAbs : Nat) : Int) = k := by omega
  unfold sg
  rw [e]
  by_cases hb : b < 0
  · have : b * k < 0 := Int.mul_neg_of_neg_of_pos hb hk
    rw [if_pos hb, if_pos this, Int.natCast_mul, ek, Int.neg_mul]
  · have : ¬ b * k < 0 := by
      have := Int.mul_nonneg (show (0 : Int) ≤ b by omega) (Int.le_of_lt hk)
      omega
    rw [if_neg hb, if_neg this, Int.natCast_mul, ek]
theorem low_scale {t b k : Int} (h : b ≠ 0) (hk : 0 < k) : low (t * k) (b * k) = low t b := by
  obtain ⟨x, y, e1, e2, _, _⟩ := sg_dvd (t := t) h
  have hbk : b * k ≠ 0 := Int.mul_ne_zero h (by omega)
  rw [low_eq h e1 e2]
  refine low_eq hbk ?_ ?_
  · rw [sg_scale hk, Int.mul_assoc, Int.mul_comm k x, ← Int.mul_assoc, ← e1]
  · rw [sg_scale hk, Int.mul_assoc, Int.mul_comm k y, ← Int.mul_assoc, ← e2]
/-- a ratio k times over is the ratio -/
theorem low_back {t b k : Int} (h : Low t b) (hk : 0 < k) : low (t * k) (b * k) = (t, b) := by
  rw [low_scale (by have := h.pos; omega) hk, low_id h]
theorem low_size {t b : Int} (h : b ≠ 0) : (low t b).1.natAbs ≤ t.natAbs ∧ (low t b).2.natAbs ≤ b.natAbs := by
  obtain ⟨x, y, e1, e2, _, _⟩ := sg_dvd (t := t) h
  rw [low_eq h e1 e2]
  have s : 0 < (sg t b).natAbs := by have := sg_ne (t := t) h; omega
  have a1 : t.natAbs = (sg t b).natAbs * x.natAbs := by rw [← Int.natAbs_mul, ← e1]
  have a2 : b.natAbs = (sg t b).natAbs * y.natAbs := by rw [← Int.natAbs_mul, ← e2]
  rw [a1, a2]
  exact ⟨Nat.le_mul_of_pos_left _ s, Nat.le_mul_of_pos_left _ s⟩
theorem low_val {t b : Int} (h : b ≠ 0) : t * (low t b).2 = (low t b).1 * b := by
  obtain ⟨x, y, e1, e2, _, _⟩ := sg_dvd (t := t) h
  rw [low_eq h e1 e2]
  generalize sg t b = s at e1 e2
  rw [e1, e2]
  show s * x * y = x * (s * y)
  rw [Int.mul_comm s x, Int.mul_assoc]
theorem sg_size {t b : Int} (h : b ≠ 0) : (sg t b).natAbs ≤ b.natAbs := by
  have e : (sg t b).natAbs = Nat.gcd t.natAbs b.natAbs := by
    unfold sg
    split
    · rw [Int.natAbs_neg, Int.natAbs_natCast]
    · rw [Int.natAbs_natCast]
  rw [e]
  exact Nat.le_of_dvd (by omega) (Nat.gcd_dvd_right _ _)
/-- Euclid's laps: what holds ahead of the i-th -/
structure Lap (G P : Nat) (i : Nat) (a b : Int) : Prop where
  a0 : 0 ≤ a
  b0 : 0 ≤ b
  g : Nat.gcd a.natAbs b.natAbs = G
  le : i = 0 ∨ b ≤ a
  sm : a.natAbs * b.natAbs * 2 ^ (i - 1) ≤ P
theorem lap0 (x y : Int) : Lap (Nat.gcd x.natAbs y.natAbs) (x.natAbs * y.natAbs) 0 (if x < 0 then -x else x) (if y < 0 then -y else y) := by
  have e : ∀ z : Int, (if z < 0 then -z else z) = ((z.natAbs : Nat) : Int) := fun z => by split <;> omega
  rw [e, e]
  exact ⟨by omega, by omega, by rw [Int.natAbs_natCast, Int.natAbs_natCast], .inl rfl, by rw [Int.natAbs_natCast, Int.natAbs_natCast]; simp⟩
theorem lap_next {G P i : Nat} {a b : Int} (h : Lap G P i a b) (hb : b ≠ 0) : Lap G P (i + 1) b (a % b) := by
  have b1 : 0 < b := by have := h.b0; omega
  have r0 := Int.emod_nonneg a hb
  have r1 := Int.emod_lt_of_pos a b1
  obtain ⟨x, rfl⟩ := Int.eq_ofNat_of_zero_le h.a0
  obtain ⟨y, rfl⟩ := Int.eq_ofNat_of_zero_le h.b0
  have em : ((x : Int) % (y : Int)) = ((x % y : Nat) : Int) := by omega
  refine ⟨by omega, r0, ?_, .inr (by omega), ?_⟩
  · rw [em, Int.natAbs_natCast, Int.natAbs_natCast]
    have g := h.g
    rw [Int.natAbs_natCast, Int.natAbs_natCast] at g
    rw [Nat.gcd_comm, ← Nat.gcd_rec, Nat.gcd_comm]
    exact g
  · have s := h.sm
    rw [em]
    rw [Int.natAbs_natCast, Int.natAbs_natCast] at s ⊢
    rw [Nat.add_sub_cancel]
    have y1 : 0 < y := by omega
    rcases h.le with z | z
    · rw [z] at s ⊢
      simp only [Nat.zero_sub, Nat.pow_zero, Nat.mul_one] at s ⊢
      have : x % y ≤ x := Nat.mod_le _ _
      calc y * (x % y) ≤ y * x := Nat.mul_le_mul_left _ this
        _ = x * y := Nat.mul_comm _ _
        _ ≤ P := s
    · have hxy : y ≤ x := by omega
      have hm : 2 * (x % y) ≤ x := by
        have q := Nat.div_add_mod x y
        have q1 : 1 ≤ x / y := (Nat.le_div_iff_mul_le y1).mpr (by omega)
        have q2 : y * 1 ≤ y * (x / y) := Nat.mul_le_mul_left _ q1
        have q3 := Nat.mod_lt x y1
        omega
      by_cases hi : i = 0
      · rw [hi] at s ⊢
        simp only [Nat.zero_sub, Nat.pow_zero, Nat.mul_one] at s ⊢
        have : x % y ≤ x := Nat.mod_le _ _
        calc y * (x % y) ≤ y * x := Nat.mul_le_mul_left _ this
          _ = x * y := Nat.mul_comm _ _
          _ ≤ P := s
      · have ei : 2 ^ i = 2 * 2 ^ (i - 1) := by
          have : i = (i - 1) + 1 := by omega
          rw [this, Nat.pow_succ, Nat.add_sub_cancel, Nat.mul_comm]
        rw [ei]
        calc y * (x % y) * (2 * 2 ^ (i - 1)) = (2 * (x % y)) * (y * 2 ^ (i - 1)) := by
              rw [Nat.mul_comm y (x % y), Nat.mul_assoc, Nat.mul_left_comm y 2, ← Nat.mul_assoc (x % y) 2, Nat.mul_comm (x % y) 2]
          _ ≤ x * (y * 2 ^ (i - 1)) := Nat.mul_le_mul_right _ hm
          _ = x * y * 2 ^ (i - 1) := by rw [Nat.mul_assoc]
          _ ≤ P := s
theorem lap_end {G P i : Nat} {a b : Int} (h : Lap G P i a b) (hb : b = 0) : a = ((G : Nat) : Int) := by
  have g := h.g
  rw [hb] at g
  have e : Nat.gcd a.natAbs (0 : Int).natAbs = a.natAbs := Nat.gcd_zero_right _
  rw [e] at g
  have := h.a0
  omega
theorem lap_over {G P : Nat} {i : Nat} {a b : Int} (h : Lap G P i a b) (hi : 0 < i) (hP : P < 2 ^ (i - 1)) : b = 0 := by
  have s := h.sm
  have l : b ≤ a := by rcases h.le with z | z <;> omega
  rcases Nat.eq_zero_or_pos (a.natAbs * b.natAbs) with z | z
  · rcases Nat.mul_eq_zero.mp z with z | z
    · have := h.b0; omega
    · omega
  · have : 1 * 2 ^ (i - 1) ≤ a.natAbs * b.natAbs * 2 ^ (i - 1) := Nat.mul_le_mul_right _ z
    omega
end Vf

set_option maxRecDepth 100000
set_option maxHeartbeats 4000000
/-! rules: a list or tuple walked; == of data; == by a class's own def; rows of ratios -/
namespace Vf
open PySem PySem.Spec PyProof.Rows L2
section
variable {X : Cx} {tg : Expr}
/-- a walk over a list or a tuple -/
def iSeq (K : PySem.W.Frag) (tl : TE) : TI := fun σ H R => tl σ H fun x H1 => ∃ a, x = .ref a ∧ ((∃ xs, SqL K H1 a xs ∧ R (Itl K a) H1) ∨ (∃ xs, SqT K H1 a xs ∧ R (Itt K a) H1))
theorem pi_seq {l : Expr} {tl : TE} (hl : PE X l tl) : PI X tg l (iSeq X.K tl) := by
  refine ⟨fun pins s σ H R I h => ?_⟩
  refine thn (hl.run pins s σ H _ I h) fun v s1 ⟨x, H1, I1, r1, q1⟩ => ?_
  obtain ⟨a, e, q1⟩ := q1
  subst e
  rcases q1 with ⟨xs, hq, q⟩ | ⟨xs, hq, q⟩
  · cases r1
    obtain ⟨its, rv, p, hz⟩ := I1.list hq
    refine wpAny_pyIter_list p.isList ?_
    refine ⟨s1.heap.objs.size, [s1.heap.objs.size], _, _, H1, rfl, I1.kept (t' := s1.toks) fun b o e => Heap.get?_push_of_some _ e, turn_list a _, ⟨_, Heap.get?_push_size _ rfl, rfl, rfl⟩, fun b hb => ?_, q⟩
    have e : b = s1.heap.objs.size := by simpa using hb
    subst e
    exact I1.fpOk (Nat.le_refl _) (I1.hok.fresh (Nat.le_refl _))
  · cases r1
    obtain ⟨its, rv, p, hz⟩ := I1.tuple hq
    refine wpAny_pyIter_tuple (show s1.heap.IsTuple a its.toArray from p) ?_
    refine ⟨s1.heap.objs.size, [s1.heap.objs.size], _, _, H1, rfl, I1.kept (t' := s1.toks) fun b o e => Heap.get?_push_of_some _ e, turn_tuple a _, ⟨_, Heap.get?_push_size _ rfl, rfl, rfl⟩, fun b hb => ?_, q⟩
    have e : b = s1.heap.objs.size := by simpa using hb
    subst e
    exact I1.fpOk (Nat.le_refl _) (I1.hok.fresh (Nat.le_refl _))
/-- list(x), told by its constants alone -/
def rListOf (K : PySem.W.Frag) : List V → Hp → VK → Prop := fun xs H Q => ∃ p ys, xs = [.ref p] ∧ (SqL K H p ys ∨ SqT K H p ys) ∧ ∀ l, H l = none → Q (.ref l) (upd H l (.lst ys))
theorem call_listK : CallR X (.type "list") (rListOf X.K) := call_list_of
/-- == and != of data without dicts -/
def rEqT (K : PySem.W.Frag) : R2 := fun x y H Q => ∃ d e, Dt K H x d ∧ Dt K H y e ∧ d.plain = true ∧ e.plain = true ∧ d.depth ≤ 60 ∧ Q (.bl (PyData.eqv d e)) H
def rNeT (K : PySem.W.Frag) : R2 := fun x y H Q => ∃ d e, Dt K H x d ∧ Dt K H y e ∧ d.plain = true ∧ e.plain = true ∧ d.depth ≤ 60 ∧ Q (.bl (!PyData.eqv d e)) H
theorem op_eqT (hu : X.A.units + 64 < cLine) (m : M1 X.base) : OpR X (compareOp .Eq) (rEqT X.K) := by
  intro pins s σ H x y v u Q I rx ry h
  obtain ⟨d, e, hd, he, pd, pe, hz, q⟩ := h
  obtain ⟨as, r1, _⟩ := Dt.reads I m hd rx
  obtain ⟨bs, r2, _⟩ := Dt.reads I m he ry
  exact SeqAt.eq_plain r1 r2 pd pe (by have := Nat.min_le_left d.depth e.depth; omega) ⟨.bl _, H, I, rfl, q⟩
theorem op_neT (hu : X.A.units + 64 < cLine) (m : M1 X.base) : OpR X (compareOp .NotEq) (rNeT X.K) := by
  intro pins s σ H x y v u Q I rx ry h
  obtain ⟨d, e, hd, he, pd, pe, hz, q⟩ := h
  obtain ⟨as, r1, _⟩ := Dt.reads I m hd rx
  obtain ⟨bs, r2, _⟩ := Dt.reads I m he ry
  exact SeqAt.ne_plain r1 r2 pd pe (by have := Nat.min_le_left d.depth e.depth; omega) ⟨.bl _, H, I, rfl, q⟩
/-- x == y, x of the class at C whose own == is at g -/
def rEqO (K : PySem.W.Frag) (C : Addr) (sp : Sp) (E : XK) : R2 := fun x y H Q => ∃ a dx fs t, x = .ref a ∧ H a = some (.ins C dx fs) ∧ TyX K H y t ∧ PySem.W.notFirst K C t = true ∧ sp [x, y] H Q E
theorem op_eqO {CX : CXT} {C g : Addr} {k : Nat} {fd : FuncData} {ps : List Str} {sp : Sp} {E : XK} (hs : PySem.W.findIn X.K (.ref C) "__eq__" = some (some (.ref g))) (hf : PySem.W.isFn X.K (.ref g) = true)
    (F : FnOk X.prog X.w X.K X.mg X.base CX k g fd ps sp) (hb : Binds X.K fd ps []) (hr : Room k X.A) (hx : Passes CX X E) : OpR X (compareOp .Eq) (rEqO X.K C sp E) := by
  intro pins s σ H x y v u Q I rx ry h
  obtain ⟨a, dx, fs, t, rfl, ha, ty, hn, q⟩ := h
  cases (show v = Value.ref a from rx)
  obtain ⟨mA, O, _⟩ := ins_get I.hok ha
  obtain ⟨od, J, _⟩ := O.look
  obtain ⟨P, Z, p, _⟩ := kit_of I ry ty
  obtain ⟨m, hF⟩ := I.fr
  refine PySem.W.cmp_K (op := .Eq) (tb := t) hr.units0 hF I.ok.mod.kin J (Z.ty _ _ I.kIn p) hn hs hf ?_
  have hsp : sp ([V.ref a, y] ++ []) H Q E := q
  refine wpAny_mono (run_fn (us := [.ref a, u]) (vs := [.ref a, y]) F hr hb .nil hx I (.cons rfl (.cons ry .nil)) hsp) (fun w s' z => ?_) fun _ _ x => x
  obtain ⟨z', H', I', rz, qz⟩ := z
  exact SlX.cmpback rz ⟨z', H', I', rz, qz⟩
end
/-- what is new in the second heap -/
def nw (H H' : Hp) : Hp := fun b => match H b with
  | some _ => none
  | none => H' b
theorem nw_at {H H' : Hp} {b : Addr} {o : HO} (h : H b = none) (e : H' b = some o) : nw H H' b = some o := by
  unfold nw
  rw [h]
  exact e
theorem nw_get {H H' : Hp} {b : Addr} {o : HO} (e : nw H H' b = some o) : H b = none ∧ H' b = some o := by
  unfold nw at e
  split at e
  · cases e
  · exact ⟨by assumption, e⟩
theorem nw_sub {H H' : Hp} : Same (nw H H') H' := fun b o e => (nw_get e).2
/-- the heap without l and p -/
def fz (l p : Addr) (H : Hp) : Hp := fun b => if b = l ∨ b = p then none else H b
theorem fz_at {l p b : Addr} {H : Hp} {o : HO} (h1 : b ≠ l) (h2 : b ≠ p) (e : H b = some o) : fz l p H b = some o := by
  unfold fz
  rw [if_neg (fun z => z.elim h1 h2)]
  exact e
theorem fz_get {l p b : Addr} {H : Hp} {o : HO} (e : fz l p H b = some o) : b ≠ l ∧ b ≠ p ∧ H b = some o := by
  unfold fz at e
  by_cases h : b = l ∨ b = p
  · rw [if_pos h] at e
    cases e
  · rw [if_neg h] at e
    exact ⟨fun z => h (.inl z), fun z => h (.inr z), e⟩
theorem fz_sub {l p : Addr} {H : Hp} : Same (fz l p H) H := fun b o e => (fz_get e).2.2
theorem fz_mono {l p : Addr} {H H' : Hp} (k : ∀ b o, b ≠ l → b ≠ p → H b = some o → H' b = some o) : Same (fz l p H) (fz l p H') := fun b o e => by
  obtain ⟨h1, h2, h3⟩ := fz_get e
  exact fz_at h1 h2 (k b o h1 h2 h3)
theorem nw_fz {l p : Addr} {H H' : Hp} {o1 o2 : HO} (hl : H l = some o1) (hp : H p = some o2) : Same (nw H H') (fz l p H') := fun b o e => by
  obtain ⟨h1, h2⟩ := nw_get e
  exact fz_at (fun z => by rw [z, hl] at h1; cases h1) (fun z => by rw [z, hp] at h1; cases h1) h2
theorem some_free {p b : Addr} {H H' : Hp} {o : HO} (k : ∀ c u, c ≠ p → H c = some u → H' c = some u) (hp : H' p = some o) (n : H' b = none) : H b = none := by
  cases e : H b with
  | none => rfl
  | some u =>
    by_cases h : b = p
    · rw [h, hp] at n
      cases n
    · rw [k b u h e] at n
      cases n
/-! ### rows of ratios -/
def pairD (p : Int × Int) : PyData := .tuple [.int p.1, .int p.2]
/-- a row without the zeros behind -/
def strip (l : List (Int × Int)) : List (Int × Int) := (l.reverse.dropWhile fun p => p.1 == 0).reverse
theorem strip_nil : strip [] = [] := rfl
theorem strip_snoc (l : List (Int × Int)) (x : Int × Int) : strip (l ++ [x]) = if x.1 = 0 then strip l else l ++ [x] := by
  unfold strip
  rw [List.reverse_append]
  simp only [List.reverse_cons, List.reverse_nil, List.nil_append, List.singleton_append, List.dropWhile_cons, beq_iff_eq]
  split
  · rfl
  · rw [List.reverse_cons, List.reverse_reverse]
theorem snoc_ind {α : Type} {P : List α → Prop} (h0 : P []) (hs : ∀ l x, P l → P (l ++ [x])) : ∀ l, P l := fun l => by
  have h : ∀ r : List α, P r.reverse := fun r => by
    induction r with
    | nil => exact h0
    | cons x r ih => rw [List.reverse_cons]; exact hs _ _ ih
  have z := h l.reverse
  rw [List.reverse_reverse] at z
  exact z
theorem snoc_cases {α : Type} (l : List α) : l = [] ∨ ∃ r x, l = r ++ [x] := snoc_ind (P := fun l => l = [] ∨ ∃ r x, l = r ++ [x]) (.inl rfl) (fun l x _ => .inr ⟨l, x, rfl⟩) l
theorem strip_last : ∀ {l r : List (Int × Int)} {x : Int × Int}, strip l = r ++ [x] → x.1 ≠ 0 := by
  intro l
  refine snoc_ind (P := fun l => ∀ {r : List (Int × Int)} {x : Int × Int}, strip l = r ++ [x] → x.1 ≠ 0) (fun {r x} h => by simp [strip_nil] at h) (fun l y ih {r x} h => ?_) l
  rw [strip_snoc] at h
  split at h
  · exact ih h
  · have z := (List.append_inj' h rfl).2
    cases z
    assumption
theorem strip_pre (l : List (Int × Int)) : ∃ r, l = strip l ++ r ∧ ∀ x ∈ r, x.1 = 0 := by
  refine snoc_ind (P := fun l => ∃ r, l = strip l ++ r ∧ ∀ x ∈ r, x.1 = 0) ⟨[], rfl, fun x h => by cases h⟩ (fun l y ih => ?_) l
  rw [strip_snoc]
  split
  · rename_i h0
    obtain ⟨r, e, hr⟩ := ih
    refine ⟨r ++ [y], by rw [← List.append_assoc, ← e], fun x hx => ?_⟩
    rcases List.mem_append.mp hx with z | z
    · exact hr x z
    · rw [List.mem_singleton.mp z]; exact h0
  · exact ⟨[], by simp, fun x h => by cases h⟩
theorem strip_mem {l : List (Int × Int)} {x : Int × Int} (h : x ∈ strip l) : x ∈ l := by
  obtain ⟨r, e, _⟩ := strip_pre l
  rw [e]
  exact List.mem_append.mpr (.inl h)
theorem strip_len (l : List (Int × Int)) : (strip l).length ≤ l.length := by
  obtain ⟨r, e, _⟩ := strip_pre l
  have := congrArg List.length e
  rw [List.length_append] at this
  omega
theorem strip_id {l : List (Int × Int)} (h : ∀ r x, l = r ++ [x] → x.1 ≠ 0) : strip l = l := by
  rcases snoc_cases l with e | ⟨r, x, e⟩
  · rw [e]; rfl
  · have z := h r x e
    rw [e, strip_snoc, if_neg z]
/-- tuples of two whole numbers each, at their addresses -/
inductive Tups (H : Hp) : List Addr → List (Int × Int) → Prop
  | nil : Tups H [] []
  | cons {a : Addr} {as : List Addr} {p : Int × Int} {ps : List (Int × Int)} : H a = some (.tup [.int p.1, .int p.2]) → Tups H as ps → Tups H (a :: as) (p :: ps)
theorem Tups.len {H : Hp} : ∀ {as : List Addr} {ps : List (Int × Int)}, Tups H as ps → as.length = ps.length
  | _, _, .nil => rfl
  | _, _, .cons _ t => congrArg (· + 1) t.len
theorem Tups.imp {H H' : Hp} (e : ∀ (a : Addr) (p : Int × Int), H a = some (.tup [.int p.1, .int p.2]) → H' a = some (.tup [.int p.1, .int p.2])) : ∀ {as : List Addr} {ps : List (Int × Int)}, Tups H as ps → Tups H' as ps
  | _, _, .nil => .nil
  | _, _, .cons h t => .cons (e _ _ h) (t.imp e)
theorem Tups.same {H H' : Hp} (e : Same H H') {as : List Addr} {ps : List (Int × Int)} (h : Tups H as ps) : Tups H' as ps := h.imp fun a p q => e _ _ q
theorem Tups.snoc {H : Hp} : ∀ {as : List Addr} {ps : List (Int × Int)} {a : Addr} {p : Int × Int}, Tups H as ps → H a = some (.tup [.int p.1, .int p.2]) → Tups H (as ++ [a]) (ps ++ [p])
  | _, _, _, _, .nil, h => .cons h .nil
  | _, _, _, _, .cons h t, h2 => .cons h (t.snoc h2)
theorem Tups.unsnoc {H : Hp} : ∀ {as : List Addr} {ps : List (Int × Int)} {p : Int × Int}, Tups H as (ps ++ [p]) → ∃ as' a, as = as' ++ [a] ∧ Tups H as' ps ∧ H a = some (.tup [.int p.1, .int p.2])
  | _, [], _, .cons h .nil => ⟨[], _, rfl, .nil, h⟩
  | _, _ :: _, _, .cons h t => by
    obtain ⟨as', a, e, t', h'⟩ := t.unsnoc
    exact ⟨_ :: as', a, by rw [e]; rfl, .cons h t', h'⟩
theorem Tups.dts {K : PySem.W.Frag} {H : Hp} : ∀ {as : List Addr} {ps : List (Int × Int)}, Tups H as ps → Dts K H (as.map V.ref) (ps.map pairD)
  | _, _, .nil => .nil
  | _, _, .cons h t => .cons (.tup (SqT.of h) (.cons (.int _) (.cons (.int _) .nil))) t.dts
theorem Tups.app {H : Hp} : ∀ {as bs : List Addr} {ps qs : List (Int × Int)}, Tups H as ps → Tups H bs qs → Tups H (as ++ bs) (ps ++ qs)
  | _, _, _, _, .nil, h => h
  | _, _, _, _, .cons a t, h => .cons a (t.app h)
theorem Tups.take {H : Hp} : ∀ {as : List Addr} {ps : List (Int × Int)} (n : Nat), Tups H as ps → Tups H (as.take n) (ps.take n)
  | _, _, 0, _ => .nil
  | _, _, _ + 1, .nil => .nil
  | _, _, n + 1, .cons a t => .cons a (t.take n)
theorem Tups.at {H : Hp} : ∀ {as : List Addr} {ps : List (Int × Int)} {i : Nat} {a : Addr}, Tups H as ps → as[i]? = some a → ∃ p, ps[i]? = some p ∧ H a = some (.tup [.int p.1, .int p.2])
  | _, _, _, _, .nil, e => by simp at e
  | _, _, 0, _, .cons h _, e => by simp at e; subst e; exact ⟨_, rfl, h⟩
  | _, _, i + 1, a, .cons _ t, e => by
    obtain ⟨d, h1, h2⟩ := t.at (i := i) (a := a) (by simpa using e)
    exact ⟨d, by simpa using h1, h2⟩
theorem eqv_pair (p q : Int × Int) : PyData.eqv (pairD p) (pairD q) = decide (p = q) := by
  obtain ⟨a, b⟩ := p
  obtain ⟨c, d⟩ := q
  unfold pairD
  simp only [PyData.eqv, PyData.eqvAll, Bool.and_true]
  by_cases h1 : a = c <;> by_cases h2 : b = d <;> simp [h1, h2]
theorem eqvAll_pairs : ∀ l r : List (Int × Int), PyData.eqvAll (l.map pairD) (r.map pairD) = decide (l = r)
  | [], [] => by simp [PyData.eqvAll]
  | [], _ :: _ => by simp [PyData.eqvAll]
  | _ :: _, [] => by simp [PyData.eqvAll]
  | p :: l, q :: r => by
    simp only [List.map_cons, PyData.eqvAll, eqv_pair, eqvAll_pairs l r]
    by_cases h1 : p = q <;> by_cases h2 : l = r <;> simp [h1, h2]
theorem eqv_row (l r : List (Int × Int)) : PyData.eqv (.tuple (l.map pairD)) (.tuple (r.map pairD)) = decide (l = r) := by
  simp only [PyData.eqv]
  exact eqvAll_pairs l r
theorem eqv_rowL (l r : List (Int × Int)) : PyData.eqv (.list (l.map pairD)) (.list (r.map pairD)) = decide (l = r) := by
  simp only [PyData.eqv]
  exact eqvAll_pairs l r
theorem plain_pairs : ∀ l : List (Int × Int), PyData.plainAll (l.map pairD) = true
  | [] => by simp only [List.map_nil, PyData.plainAll]
  | p :: l => by
    simp only [List.map_cons, PyData.plainAll, plain_pairs l, pairD, PyData.plain, Bool.and_self]
theorem plain_row (l : List (Int × Int)) : (PyData.tuple (l.map pairD)).plain = true ∧ (PyData.list (l.map pairD)).plain = true := by
  simp only [PyData.plain]
  exact ⟨plain_pairs l, plain_pairs l⟩
theorem depth_pairs : ∀ l : List (Int × Int), PyData.depthAll (l.map pairD) ≤ 1
  | [] => by simp only [List.map_nil, PyData.depthAll]; omega
  | p :: l => by
    have h := depth_pairs l
    simp only [List.map_cons, PyData.depthAll, pairD, PyData.depth]
    exact Nat.max_le.mpr ⟨by simp, h⟩
theorem depth_row (l : List (Int × Int)) : (PyData.tuple (l.map pairD)).depth ≤ 60 ∧ (PyData.list (l.map pairD)).depth ≤ 60 := by
  have h := depth_pairs l
  simp only [PyData.depth]
  omega
/-- a comprehension over a list or a tuple -/
theorem lc_seq {K : PySem.W.Frag} {a : Addr} {xs : List V} {g : TG} {tt : TT} {te : TE} {vs : List Nat} {σ : L2.St} {H1 : Hp} {Qd : Addr → Hp → Prop} (h : SqL K H1 a xs ∨ SqT K H1 a xs) (Pv : Addr → Nat → Hp → Prop)
    (h0 : ∀ D, H1 D = none → Pv D 0 (upd H1 D (.lst []))) (hl : ∀ D i H, H1 D = none → Pv D i H → (SqL K H1 a xs → SqL K H a xs) ∧ (SqT K H1 a xs → SqT K H a xs))
    (hs : ∀ D i x H, H1 D = none → xs[i]? = some x → Pv D i H → g x (wipe σ vs) H fun σ2 H2 => wipe σ2 vs = wipe σ vs ∧ tt σ2 H2 fun b H3 =>
      if b = true then te σ2 H3 fun y H4 => ∃ acc, H4 D = some (.lst acc) ∧ acc.length < sizeLine ∧ Pv D (i + 1) (upd H4 D (.lst (acc ++ [y]))) else Pv D (i + 1) H3) (hd : ∀ D H, H1 D = none → Pv D xs.length H → Qd D H) :
    (∃ xs, SqL K H1 a xs ∧ ∀ D, H1 D = none → ∃ W : Nat → Nat → Hp → Prop, (∃ m, W 0 m (upd H1 D (.lst []))) ∧ ∀ i m H, W i m H →
      (((Itl K a).stop i H ∧ Qd D H) ∨ ((Itl K a).go i H ∧ ∃ Nx : Hp → Prop, (∀ H', Nx H' → ∃ m', m' < m ∧ W (i + 1) m' H') ∧ ∀ x H', (Itl K a).yld i H x H' → g x (wipe σ vs) H' fun σ2 H2 => wipe σ2 vs = wipe σ vs ∧ tt σ2 H2 fun b H3 =>
        if b = true then te σ2 H3 fun y H4 => ∃ acc, H4 D = some (.lst acc) ∧ acc.length < sizeLine ∧ Nx (upd H4 D (.lst (acc ++ [y]))) else Nx H3))) ∨
    (∃ xs, SqT K H1 a xs ∧ ∀ D, H1 D = none → ∃ W : Nat → Nat → Hp → Prop, (∃ m, W 0 m (upd H1 D (.lst []))) ∧ ∀ i m H, W i m H →
      (((Itt K a).stop i H ∧ Qd D H) ∨ ((Itt K a).go i H ∧ ∃ Nx : Hp → Prop, (∀ H', Nx H' → ∃ m', m' < m ∧ W (i + 1) m' H') ∧ ∀ x H', (Itt K a).yld i H x H' → g x (wipe σ vs) H' fun σ2 H2 => wipe σ2 vs = wipe σ vs ∧ tt σ2 H2 fun b H3 =>
        if b = true then te σ2 H3 fun y H4 => ∃ acc, H4 D = some (.lst acc) ∧ acc.length < sizeLine ∧ Nx (upd H4 D (.lst (acc ++ [y]))) else Nx H3))) := by
  rcases h with h | h
  · exact .inl ⟨xs, h, fun D hD => lc_list (K := K) (a := a) (xs := xs) (Pv D) (h0 D hD) (fun i H _ p => (hl D i H hD p).1 h) (fun i x H hi p => hs D i x H hD hi p) (fun H p => hd D H hD p)⟩
  · exact .inr ⟨xs, h, fun D hD => lc_tup (K := K) (a := a) (xs := xs) (Pv D) (h0 D hD) (fun i H _ p => (hl D i H hD p).2 h) (fun i x H hi p => hs D i x H hD hi p) (fun H p => hd D H hD p)⟩
theorem strip_strip (l : List (Int × Int)) : strip (strip l) = strip l := strip_id fun r x h => strip_last h
end Vf

set_option maxRecDepth 100000
set_option maxHeartbeats 4000000
/-! ratios and rows of them as numbers: the mathematics -/
namespace Vf
/-- a number as its pair -/
def pq (r : Rat) : Int × Int := (r.num, (r.den : Int))
theorem low_pq {t b : Int} (h : b ≠ 0) : low t b = pq (Rat.divInt t b) := by
  obtain ⟨x, y, e1, e2, hp, ho⟩ := sg_dvd (t := t) h
  have s := sg_ne (t := t) h
  have e : Rat.divInt t b = Rat.divInt x y := by
    calc Rat.divInt t b = Rat.divInt (sg t b * x) (sg t b * y) := by rw [← e1, ← e2]
      _ = Rat.divInt x y := Rat.divInt_mul_left s
  rw [low_eq h e1 e2, e]
  obtain ⟨n, rfl⟩ := Int.eq_ofNat_of_zero_le (Int.le_of_lt hp)
  have hn : n ≠ 0 := by omega
  have ho' : x.natAbs.Coprime n := ho
  have e2 : Rat.divInt x (n : Int) = ⟨x, n, hn, ho'⟩ := by
    rw [Rat.divInt_ofNat, Rat.mk_eq_mkRat]
  rw [e2]
  rfl
theorem pq_low (r : Rat) : Low (pq r).1 (pq r).2 := ⟨by have := r.den_pos; show (0 : Int) < (r.den : Int); omega, r.reduced⟩
theorem pq_inj {a b : Rat} (h : pq a = pq b) : a = b := by
  have h1 := congrArg Prod.fst h
  have h2 := congrArg Prod.snd h
  exact Rat.ext h1 (Int.ofNat.inj h2)
theorem low_is_pq {p : Int × Int} (h : Low p.1 p.2) : ∃ r : Rat, p = pq r := by
  refine ⟨Rat.divInt p.1 p.2, ?_⟩
  rw [← low_pq (by have := h.pos; omega), low_id h]
theorem cast_ne {M : Int} (h : M ≠ 0) : (M : Rat) ≠ 0 := fun z => h (by exact_mod_cast z)
theorem low_mul {A M : Int} {q : Rat} (hM : M ≠ 0) (h : q * (M : Rat) = (A : Rat)) : low A M = pq q := by
  rw [low_pq hM, Rat.divInt_eq_div]
  congr 1
  rw [← h, Rat.mul_div_cancel (cast_ne hM)]
theorem low_add (a b : Rat) : low (a.num * b.den + b.num * a.den) (a.den * b.den) = pq (a + b) := by
  have h : ((a.den : Int) * (b.den : Int)) ≠ 0 := by
    have := a.den_nz
    have := b.den_nz
    exact Int.mul_ne_zero (by omega) (by omega)
  rw [low_pq h, Rat.add_def', ← Rat.divInt_ofNat]
  congr 1
theorem low_times (a b : Rat) : low (a.num * b.num) (a.den * b.den) = pq (a * b) := by
  have h : ((a.den : Int) * (b.den : Int)) ≠ 0 := by
    have := a.den_nz
    have := b.den_nz
    exact Int.mul_ne_zero (by omega) (by omega)
  rw [low_pq h, Rat.mul_def', ← Rat.divInt_ofNat]
  congr 1
/-- a number is a whole part of 1 / M, at most N of them -/
def Fr (M N : Nat) (r : Rat) : Prop := ∃ n : Int, r * (M : Rat) = (n : Rat) ∧ n.natAbs ≤ N
theorem Fr.size {M N : Nat} {r : Rat} (hM : 0 < M) (h : Fr M N r) : r.num.natAbs ≤ N ∧ r.den ≤ M := by
  obtain ⟨n, e, hn⟩ := h
  have hM' : (M : Int) ≠ 0 := by omega
  have z := low_mul (A := n) (M := (M : Int)) (q := r) hM' (by exact_mod_cast e)
  obtain ⟨s1, s2⟩ := low_size (t := n) hM'
  rw [z] at s1 s2
  have s1 : r.num.natAbs ≤ n.natAbs := s1
  have s2 : (r.den : Int).natAbs ≤ (M : Int).natAbs := s2
  omega
theorem Fr.add {M N N' : Nat} {a b : Rat} (h : Fr M N a) (h' : Fr M N' b) : Fr M (N + N') (a + b) := by
  obtain ⟨n, e, hn⟩ := h
  obtain ⟨n', e', hn'⟩ := h'
  refine ⟨n + n', ?_, by omega⟩
  rw [Rat.add_mul, e, e']
  exact_mod_cast rfl
theorem Fr.mul {M N M' N' : Nat} {a b : Rat} (h : Fr M N a) (h' : Fr M' N' b) : Fr (M * M') (N * N') (a * b) := by
  obtain ⟨n, e, hn⟩ := h
  obtain ⟨n', e', hn'⟩ := h'
  refine ⟨n * n', ?_, ?_⟩
  · have : ((M * M' : Nat) : Rat) = (M : Rat) * (M' : Rat) := by exact_mod_cast rfl
    have h2 : ((n * n' : Int) : Rat) = (n : Rat) * (n' : Rat) := by exact_mod_cast rfl
    rw [this, h2, ← e, ← e']
    grind
  · rw [Int.natAbs_mul]
    exact Nat.mul_le_mul hn hn'
theorem Fr.neg {M N : Nat} {a : Rat} (h : Fr M N a) : Fr M N (-a) := by
  obtain ⟨n, e, hn⟩ := h
  refine ⟨-n, ?_, by omega⟩
  rw [Rat.neg_mul, e]
  exact_mod_cast rfl
theorem Fr.scale {M N : Nat} {a : Rat} (k : Nat) (h : Fr M N a) : Fr (M * k) (N * k) a := by
  obtain ⟨n, e, hn⟩ := h
  refine ⟨n * k, ?_, ?_⟩
  · have : ((M * k : Nat) : Rat) = (M : Rat) * (k : Rat) := by exact_mod_cast rfl
    have h2 : ((n * k : Int) : Rat) = (n : Rat) * (k : Rat) := by exact_mod_cast rfl
    rw [this, h2, ← e]
    grind
  · rw [Int.natAbs_mul, Int.natAbs_natCast]
    exact Nat.mul_le_mul_right _ hn
theorem Fr.zero (M N : Nat) : Fr M N 0 := ⟨0, by rw [Rat.zero_mul]; rfl, Nat.zero_le _⟩
theorem Fr.le {M N N' : Nat} {a : Rat} (h : Fr M N a) (e : N ≤ N') : Fr M N' a := by
  obtain ⟨n, e1, hn⟩ := h
  exact ⟨n, e1, by omega⟩
theorem Fr.self (r : Rat) : Fr r.den r.num.natAbs r := by
  refine ⟨r.num, ?_, Nat.le_refl _⟩
  have h : (r.den : Rat) ≠ 0 := by
    have := r.den_nz
    exact_mod_cast this
  have z : (r.num : Rat) / (r.den : Rat) = r := by
    have := Rat.num_divInt_den r
    rw [Rat.divInt_eq_div] at this
    exact_mod_cast this
  rw [← z]
  rw [z]
  have := Rat.div_mul_cancel (a := (r.num : Rat)) h
  rw [z] at this
  exact this
theorem Fr.dvd {M M' N : Nat} {a : Rat} (h : Fr M N a) (d : M ∣ M') : ∃ k, M' = M * k ∧ Fr M' (N * k) a := by
  obtain ⟨k, e⟩ := d
  exact ⟨k, e, by rw [e]; exact h.scale k⟩
/-- below 2 ^ 1900 above and below -/
def Sr (r : Rat) : Prop := r.num.natAbs < 2 ^ 1900 ∧ r.den < 2 ^ 1900
theorem Fr.sr {M N : Nat} {r : Rat} (hM : 0 < M) (h : Fr M N r) (h1 : M < 2 ^ 1900) (h2 : N < 2 ^ 1900) : Sr r := by
  obtain ⟨a, b⟩ := h.size hM
  exact ⟨Nat.lt_of_le_of_lt a h2, Nat.lt_of_le_of_lt b h1⟩
/-! ### rows -/
def cf (l : List Rat) (i : Nat) : Rat := l.getD i 0
theorem cf_lt {l : List Rat} {i : Nat} (h : i < l.length) : cf l i = l[i] := by
  unfold cf
  rw [List.getD_eq_getElem?_getD, List.getElem?_eq_getElem h]
  rfl
theorem cf_get {l : List Rat} {i : Nat} {x : Rat} (h : l[i]? = some x) : cf l i = x := by
  unfold cf
  rw [List.getD_eq_getElem?_getD, h]
  rfl
theorem cf_ge {l : List Rat} {i : Nat} (h : l.length ≤ i) : cf l i = 0 := by
  unfold cf
  rw [List.getD_eq_getElem?_getD, List.getElem?_eq_none h]
  rfl
theorem cf_nil (i : Nat) : cf [] i = 0 := rfl
theorem cf_app {l r : List Rat} {i : Nat} : cf (l ++ r) i = if i < l.length then cf l i else cf r (i - l.length) := by
  unfold cf
  rw [List.getD_eq_getElem?_getD, List.getD_eq_getElem?_getD, List.getD_eq_getElem?_getD]
  split
  · rw [List.getElem?_append_left (by assumption)]
  · rw [List.getElem?_append_right (by omega)]
/-- a row without zeros behind -/
def stripQ (l : List Rat) : List Rat := (l.reverse.dropWhile fun r => r == 0).reverse
theorem stripQ_snoc (l : List Rat) (x : Rat) : stripQ (l ++ [x]) = if x = 0 then stripQ l else l ++ [x] := by
  unfold stripQ
  rw [List.reverse_append]
  simp only [List.reverse_cons, List.reverse_nil, List.nil_append, List.singleton_append, List.dropWhile_cons, beq_iff_eq]
  split
  · rfl
  · rw [List.reverse_cons, List.reverse_reverse]
theorem strip_map (l : List Rat) : strip (l.map pq) = (stripQ l).map pq := by
  refine snoc_ind (P := fun l => strip (l.map pq) = (stripQ l).map pq) rfl (fun l x ih => ?_) l
  rw [List.map_append, List.map_cons, List.map_nil, strip_snoc, stripQ_snoc, ih]
  have e : ((pq x).1 = 0) ↔ x = 0 := Rat.num_eq_zero
  by_cases h : x = 0
  · rw [if_pos h, if_pos (e.mpr h)]
  · rw [if_neg h, if_neg (fun z => h (e.mp z)), List.map_append]
    rfl
theorem cf_stripQ (l : List Rat) : ∀ i, cf (stripQ l) i = cf l i := by
  refine snoc_ind (P := fun l => ∀ i, cf (stripQ l) i = cf l i) (fun i => rfl) (fun l x ih i => ?_) l
  rw [stripQ_snoc]
  split
  · rename_i h
    rw [ih, cf_app, h]
    split
    · rfl
    · rename_i h2
      rw [cf_ge (by omega)]
      by_cases h3 : i - l.length = 0
      · rw [h3]; rfl
      · rw [cf_ge (show ([0] : List Rat).length ≤ i - l.length by show 1 ≤ _; omega)]
  · rfl
/-- no zero behind -/
def Stp (l : List Rat) : Prop := ∀ r x, l = r ++ [x] → x ≠ 0
theorem stripQ_stp (l : List Rat) : Stp (stripQ l) := by
  refine snoc_ind (P := fun l => Stp (stripQ l)) (fun r x h => by simp [stripQ] at h) (fun l y ih r x h => ?_) l
  rw [stripQ_snoc] at h
  split at h
  · exact ih r x h
  · have z := (List.append_inj' h rfl).2
    cases z
    assumption
theorem stripQ_id {l : List Rat} (h : Stp l) : stripQ l = l := by
  rcases snoc_cases l with e | ⟨r, x, e⟩
  · rw [e]; rfl
  · have z := h r x e
    rw [e, stripQ_snoc, if_neg z]
theorem stp_last {l : List Rat} (h : Stp l) (hl : 0 < l.length) : cf l (l.length - 1) ≠ 0 := by
  rcases snoc_cases l with e | ⟨r, x, e⟩
  · rw [e] at hl; cases hl
  · have z := h r x e
    rw [e, List.length_append]
    show cf (r ++ [x]) (r.length + 1 - 1) ≠ 0
    rw [cf_app, if_neg (by omega)]
    rw [show r.length + 1 - 1 - r.length = 0 by omega]
    exact z
theorem stp_len {a b : List Rat} (h : Stp a) (e : ∀ i, cf a i = cf b i) : a.length ≤ b.length := by
  rcases Nat.lt_or_ge b.length a.length with z | z
  · have q := stp_last h (by omega)
    rw [e, cf_ge (by omega)] at q
    exact absurd rfl q
  · exact z
theorem stp_ext {a b : List Rat} (ha : Stp a) (hb : Stp b) (e : ∀ i, cf a i = cf b i) : a = b := by
  have h1 := stp_len ha e
  have h2 := stp_len hb fun i => (e i).symm
  refine List.ext_getElem (by omega) fun i p q => ?_
  have z := e i
  rw [cf_lt p, cf_lt q] at z
  exact z
theorem stripQ_ext {a b : List Rat} (e : ∀ i, cf a i = cf b i) : stripQ a = stripQ b :=
  stp_ext (stripQ_stp a) (stripQ_stp b) fun i => by rw [cf_stripQ, cf_stripQ, e]
/-- the row of n numbers -/
def tab (n : Nat) (f : Nat → Rat) : List Rat := (List.range n).map f
theorem tab_len (n : Nat) (f : Nat → Rat) : (tab n f).length = n := by unfold tab; rw [List.length_map, List.length_range]
theorem cf_tab (n : Nat) (f : Nat → Rat) (i : Nat) : cf (tab n f) i = if i < n then f i else 0 := by
  by_cases h : i < n
  · rw [if_pos h]
    refine cf_get ?_
    unfold tab
    rw [List.getElem?_map, List.getElem?_range h]
    rfl
  · rw [if_neg h, cf_ge (by rw [tab_len]; omega)]
theorem tab_snoc (n : Nat) (f : Nat → Rat) : tab (n + 1) f = tab n f ++ [f n] := by
  unfold tab
  rw [List.range_succ, List.map_append]
  rfl
def padd (a b : List Rat) : List Rat := tab (max a.length b.length) fun i => cf a i + cf b i
theorem cf_padd (a b : List Rat) (i : Nat) : cf (padd a b) i = cf a i + cf b i := by
  unfold padd
  rw [cf_tab]
  split
  · rfl
  · rw [cf_ge (show a.length ≤ i by omega), cf_ge (show b.length ≤ i by omega), Rat.add_zero]
def pscale (a : List Rat) (c : Rat) : List Rat := a.map (· * c)
theorem cf_map {f : Rat → Rat} (hf : f 0 = 0) (a : List Rat) (i : Nat) : cf (a.map f) i = f (cf a i) := by
  by_cases h : i < a.length
  · rw [cf_lt (by rw [List.length_map]; exact h), cf_lt h, List.getElem_map]
  · rw [cf_ge (by rw [List.length_map]; omega), cf_ge (by omega), hf]
/-- sums -/
def sm (f : Nat → Rat) : Nat → Rat
  | 0 => 0
  | n + 1 => sm f n + f n
theorem sm_ext {f g : Nat → Rat} : ∀ {n : Nat}, (∀ i, i < n → f i = g i) → sm f n = sm g n
  | 0, _ => rfl
  | n + 1, h => by
    show sm f n + f n = sm g n + g n
    rw [sm_ext fun i hi => h i (by omega), h n (by omega)]
theorem sm_zero {f : Nat → Rat} : ∀ {n : Nat}, (∀ i, i < n → f i = 0) → sm f n = 0
  | 0, _ => rfl
  | n + 1, h => by
    show sm f n + f n = 0
    rw [sm_zero fun i hi => h i (by omega), h n (by omega), Rat.add_zero]
theorem sm_more {f : Nat → Rat} {n : Nat} : ∀ {m : Nat}, n ≤ m → (∀ i, n ≤ i → i < m → f i = 0) → sm f m = sm f n
  | 0, h, _ => by
    have : n = 0 := by omega
    rw [this]
  | m + 1, h, z => by
    by_cases e : n = m + 1
    · rw [e]
    · show sm f m + f m = sm f n
      rw [sm_more (m := m) (by omega) fun i h1 h2 => z i h1 (by omega), z m (by omega) (by omega), Rat.add_zero]
theorem sm_fr {f : Nat → Rat} {M N : Nat} : ∀ {n : Nat}, (∀ i, i < n → Fr M N (f i)) → Fr M (n * N) (sm f n)
  | 0, _ => Fr.zero _ _
  | n + 1, h => by
    have a := sm_fr (n := n) fun i hi => h i (by omega)
    have b := h n (by omega)
    have c := a.add b
    rw [Nat.succ_mul]
    exact c
/-- the number of a power in a product -/
def pc (a b : List Rat) (k : Nat) : Rat := sm (fun i => cf a i * cf b (k - i)) (k + 1)
def pmul (a b : List Rat) : List Rat := tab (a.length + b.length - 1) (pc a b)
theorem pc_zero {a b : List Rat} {k : Nat} (h : a.length + b.length ≤ k + 1) : pc a b k = 0 := by
  unfold pc
  refine sm_zero fun i hi => ?_
  by_cases h1 : i < a.length
  · rw [cf_ge (show b.length ≤ k - i by omega), Rat.mul_zero]
  · rw [cf_ge (show a.length ≤ i by omega), Rat.zero_mul]
theorem cf_pmul (a b : List Rat) (k : Nat) : cf (pmul a b) k = pc a b k := by
  unfold pmul
  rw [cf_tab]
  split
  · rfl
  · rw [pc_zero (by omega)]
end Vf

set_option maxRecDepth 100000
set_option maxHeartbeats 4000000
/-! rules: lcm; + - * of an object of a class with anything -/
namespace PySem.W
open PySem PySem.Spec PyProof.Rows
section
variable {prog : Program} {w : World} {A : Around} {E : Value → Shared → Prop} {s : Shared} {K : Frag} {x C L f g : Addr} {h₀ : Heap} {m : Str → Option Value} {ox : Obj} {od : Option Obj}
/-- whether a built-in type has a slot for the operator -/
def slotB (r1 r2 : Option Value) : Bool := (r1.isSome && !isSeqSlot r1) || (r2.isSome && !isSeqSlot r2)
theorem fills_type {M : Model} {h : Heap} {nm t : String} {r1 r2 : Option Value} (X : K.In h) (h1 : findIn K (.type t) (PySem.dunder nm) = some r1) (h2 : findIn K (.type t) (PySem.dunderR nm) = some r2) : Looks M h (fillsNumberSlot (.type t) nm) (slotB r1 r2) := by
  intro A Q E s k q
  unfold fillsNumberSlot
  refine wpAny_bind (looks_findIn X h1 A _ E s k ?_)
  refine wpAny_bind (looks_findIn X h2 A _ E s k ?_)
  exact wpAny_pure q
theorem own_slot {M : Model} {h : Heap} {nm : String} (X : K.In h) (hs : findIn K (.ref C) (PySem.dunder nm) = some (some (.ref f))) (hR : findIn K (.ref C) (PySem.dunderR nm) = some (some (.ref g))) : Looks M h (numberSlotInPython (.ref C) nm) true := by
  intro A Q E s k q
  unfold numberSlotInPython
  refine wpAny_bind (looks_findIn X hs A _ E s k ?_)
  refine wpAny_bind (wpAny_pure ?_)
  refine wpAny_bind (looks_findIn X hR A _ E s k ?_)
  refine wpAny_bind (wpAny_pure ?_)
  exact wpAny_pure q
theorem type_slot {M : Model} {h : Heap} {nm t : String} : Looks M h (numberSlotInPython (.type t) nm) false := by
  intro A Q E s k q
  unfold numberSlotInPython
  exact wpAny_pure q
/-- left an object of the class at C, right of a built-in type -/
theorem binop_left {op : Operator} {b : Value} {t : String} {r1 r2 : Option Value} {Q : Value → Shared → Prop} (F : Fr h₀ L s.heap m) (X₀ : K.In h₀) (I : InstAt s.heap x ox C od) (hb : Looks (model prog w) s.heap (typeOf b) (.type t)) (hc : selfFirst K C = true)
    (hs : findIn K (.ref C) (PySem.dunder op.info.2) = some (some (.ref f))) (hf : isFn K (.ref f) = true) (hR : findIn K (.ref C) (PySem.dunderR op.info.2) = some (some (.ref g)))
    (h1 : findIn K (.type t) (PySem.dunder op.info.2) = some r1) (h2 : findIn K (.type t) (PySem.dunderR op.info.2) = some r2) (sub : subIn K (.type t) (.ref C) = some false)
    (h : wpAny (model prog w) A (call (.ref f) [.ref x, b]) (CmpBack Q) E s) : wpAny (model prog w) A (binaryOp op (.ref x) b) Q E s := by
  have X := X₀.keeps F.keep
  obtain ⟨cd, hcd, hm⟩ := any_some hc
  obtain ⟨rest, hm⟩ : ∃ rest, cd.mro = .ref C :: rest := by
    cases q : cd.mro with
    | nil => rw [q] at hm; cases hm
    | cons a r => rw [q] at hm; exact ⟨r, by rw [List.head?_cons] at hm; cases (beq_iff_eq.mp hm); rfl⟩
  unfold binaryOp
  refine wpAny_holding (wpAny_bind ?_)
  unfold binaryOp1
  refine wpAny_bind (I.type.here (wpAny_bind (hb.here (wpAny_bind ((fills_K X hcd hm hs).here ?_)))))
  have ne : (Value.ref C == Value.type t) = false := by rfl
  simp only [ne, if_neg Bool.false_ne_true]
  refine wpAny_bind ((fills_type X h1 h2).here ?_)
  have fin : wpAny (model prog w) A (tryMethod (.ref x) (PySem.dunder op.info.2) b) (fun r s' => ∃ v, r = some v ∧ Q v s') E s := by
    unfold tryMethod
    refine wpAny_bind (special_fn X I hs (beq_iff_eq.mp hf) (wpAny_mono h (fun v s' hv => ?_) fun _ _ e => e))
    cases v <;> first | exact hv.elim | exact wpAny_pure ⟨_, rfl, hv⟩
  cases hsl : slotB r1 r2 with
  | false =>
    simp only [Bool.and_false, Bool.false_eq_true, if_false, Bool.false_and]
    refine wpAny_bind (wpAny_pure ?_)
    simp only [Bool.false_eq_true, if_false]
    refine wpAny_bind (wpAny_mono fin (fun r s' z => ?_) fun _ _ e => e)
    obtain ⟨v, rfl, q⟩ := z
    exact wpAny_pure (wpAny_pure q)
  | true =>
    simp only [Bool.and_self, if_true]
    refine wpAny_bind ((looks_subIn X sub).here ?_)
    simp only [Bool.false_eq_true, if_false, Bool.not_false, Bool.and_self, if_true]
    refine wpAny_bind ((own_slot X hs hR).here ?_)
    simp only [if_true]
    refine wpAny_bind ((type_slot).here ?_)
    simp only [Bool.not_false, if_true]
    refine wpAny_bind ((looks_findIn X h2).here ?_)
    refine wpAny_bind (wpAny_mono fin (fun r s' z => ?_) fun _ _ e => e)
    obtain ⟨v, rfl, q⟩ := z
    exact wpAny_pure (wpAny_pure q)
/-- left of a built-in type without such a slot, right an object of the class at C -/
theorem binop_right {op : Operator} {a : Value} {t : String} {r1 r2 : Option Value} {Q : Value → Shared → Prop} (F : Fr h₀ L s.heap m) (X₀ : K.In h₀) (I : InstAt s.heap x ox C od) (ha : Looks (model prog w) s.heap (typeOf a) (.type t)) (hc : selfFirst K C = true)
    (hs : findIn K (.ref C) (PySem.dunder op.info.2) = some (some (.ref f))) (hR : findIn K (.ref C) (PySem.dunderR op.info.2) = some (some (.ref g))) (hg : isFn K (.ref g) = true)
    (h1 : findIn K (.type t) (PySem.dunder op.info.2) = some r1) (h2 : findIn K (.type t) (PySem.dunderR op.info.2) = some r2) (sub : subIn K (.ref C) (.type t) = some false)
    (hl : slotB r1 r2 = true → ∀ (Q : Option Value → Shared → Prop), Q none s → wpAny (model prog w) A (tryMethod a (PySem.dunder op.info.2) (.ref x)) Q E s)
    (h : wpAny (model prog w) A (call (.ref g) [.ref x, a]) (CmpBack Q) E s) : wpAny (model prog w) A (binaryOp op a (.ref x)) Q E s := by
  have X := X₀.keeps F.keep
  obtain ⟨cd, hcd, hm⟩ := any_some hc
  obtain ⟨rest, hm⟩ : ∃ rest, cd.mro = .ref C :: rest := by
    cases q : cd.mro with
    | nil => rw [q] at hm; cases hm
    | cons a r => rw [q] at hm; exact ⟨r, by rw [List.head?_cons] at hm; cases (beq_iff_eq.mp hm); rfl⟩
  have fin : wpAny (model prog w) A (tryMethod (.ref x) (PySem.dunderR op.info.2) a) (fun r s' => ∃ v, r = some v ∧ Q v s') E s := by
    unfold tryMethod
    refine wpAny_bind (special_fn X I hR (beq_iff_eq.mp hg) (wpAny_mono h (fun v s' hv => ?_) fun _ _ e => e))
    cases v <;> first | exact hv.elim | exact wpAny_pure ⟨_, rfl, hv⟩
  unfold binaryOp
  refine wpAny_holding (wpAny_bind ?_)
  unfold binaryOp1
  refine wpAny_bind (ha.here (wpAny_bind (I.type.here (wpAny_bind ((fills_type X h1 h2).here ?_)))))
  have ne : (Value.type t == Value.ref C) = false := by rfl
  simp only [ne, if_neg Bool.false_ne_true]
  refine wpAny_bind ((fills_K X hcd hm hs).here ?_)
  cases hsl : slotB r1 r2 with
  | false =>
    simp only [Bool.and_false, Bool.false_eq_true, if_false, Bool.false_and]
    refine wpAny_bind (wpAny_pure ?_)
    simp only [Bool.false_eq_true, if_false, Bool.not_false, Bool.and_self, if_true]
    refine wpAny_bind (wpAny_mono fin (fun r s' z => ?_) fun _ _ e => e)
    obtain ⟨v, rfl, q⟩ := z
    first
      | exact wpAny_bind (wpAny_rule (wpAny_pure (wpAny_pure q)))
      | exact wpAny_rule (wpAny_pure (wpAny_pure q))
  | true =>
    simp only [Bool.and_self, if_true]
    refine wpAny_bind ((looks_subIn X sub).here ?_)
    simp only [Bool.false_eq_true, if_false, Bool.not_false, Bool.and_self, if_true]
    refine wpAny_bind ((type_slot).here ?_)
    simp only [Bool.false_eq_true, if_false]
    refine wpAny_bind (hl hsl _ ?_)
    refine wpAny_bind (wpAny_mono fin (fun r s' z => ?_) fun _ _ e => e)
    obtain ⟨v, rfl, q⟩ := z
    first
      | exact wpAny_bind (wpAny_rule (wpAny_pure (wpAny_pure q)))
      | exact wpAny_rule (wpAny_pure (wpAny_pure q))
/-- - of an object of the class at C -/
theorem neg_own {Q : Value → Shared → Prop} (F : Fr h₀ L s.heap m) (X₀ : K.In h₀) (I : InstAt s.heap x ox C od) (hs : findIn K (.ref C) "__neg__" = some (some (.ref f))) (hf : isFn K (.ref f) = true)
    (h : wpAny (model prog w) A (call (.ref f) [.ref x]) Q E s) : wpAny (model prog w) A (unaryOp .USub (.ref x)) Q E s := by
  have X := X₀.keeps F.keep
  unfold unaryOp
  refine wpAny_holding ?_
  refine wpAny_ite_false (by rfl) ?_
  refine wpAny_bind (special_fn X I hs (beq_iff_eq.mp hf) (wpAny_mono h (fun v s' hv => ?_) fun _ _ e => e))
  exact wpAny_pure hv
end
end PySem.W

set_option maxRecDepth 100000
set_option maxHeartbeats 4000000
namespace PySem.W
open PySem PySem.Spec PyProof.Rows
section
variable {prog : Program} {w : World} {A : Around} {E : Value → Shared → Prop} {s : Shared} {x C dx : Addr} {i : Int} {t : Tok}
theorem intBinary_none {name : String} {f : Int → Int → Sem Fin} {R : Fin → Shared → Prop} (hs : slotArgs name 1 ⟨[.int i t, .ref x], []⟩ = pure (Value.int i t, [Value.ref x])) (hx : s.heap.get? x = some (instObj C dx)) (h : R (.done (.ret .notImplemented)) s) :
    wpAny (model prog w) A (Builtin.Int.intBinary name f false ⟨[.int i t, .ref x], []⟩) R E s := by
  unfold Builtin.Int.intBinary
  refine wpAny_bind (wpAny_of_eq hs ?_)
  refine wpAny_bind (wpAny_of_eq (a := i) rfl ?_)
  show wpAny (model prog w) A (asInt? (.ref x) >>= _) _ _ _
  unfold asInt?
  refine wpAny_bind (wpAny_bind (wpAny_load hx (wpAny_pure ?_)))
  first
    | exact wpAny_bind (wpAny_rule (wpAny_pure h))
    | exact wpAny_rule (wpAny_pure h)
theorem int_none {nm : Str} {id : String} {Q : Option Value → Shared → Prop} (sl : Slot "int" nm id) (y : wpAny (model prog w) A (call (.builtin id) [.int i t, .ref x]) (fun v s' => v = .notImplemented ∧ Q none s') E s) : wpAny (model prog w) A (tryMethod (.int i t) nm (.ref x)) Q E s := by
  have ty : s.TypeIs (.int i t) "int" := typeIs_int _ _ _
  unfold tryMethod
  refine wpAny_bind ?_
  refine wpAny_mono (wpAny_callSpecial?_slot (Q := fun v s' => v = some .notImplemented ∧ Q none s') ty sl (wpAny_mono y (fun v s' z => ?_) fun _ _ e => e)) (fun v s' z => ?_) fun _ _ e => e
  · obtain ⟨rfl, q⟩ := z
    exact ⟨rfl, q⟩
  · obtain ⟨rfl, q⟩ := z
    exact wpAny_pure q
theorem int_add_none {Q : Option Value → Shared → Prop} (hx : s.heap.get? x = some (instObj C dx)) (h : Q none s) : wpAny (model prog w) A (tryMethod (.int i t) (PySem.dunder "add") (.ref x)) Q E s := by
  have ha : argsOk "int.__add__" ⟨[.int i t, .ref x], []⟩ := PySem.F.args_int_add_2 _ _
  have ty : s.TypeIs (.int i t) "int" := typeIs_int _ _ _
  have y : wpAny (model prog w) A (call (.builtin "int.__add__") [.int i t, .ref x]) (fun v s' => v = .notImplemented ∧ Q none s') E s := by
    refine wpAny_call_entry (b := Builtin.«int.__add__») (T := "int") (name := PySem.dunder "add") (id := "int.__add__") PySem.F.slot_int_add ty PySem.F.entry_int_add ?_ ha
    exact intBinary_none (name := "__add__") (by rfl) hx ⟨_, rfl, rfl, h⟩
  have sl : Slot "int" (PySem.dunder "add") "int.__add__" := PySem.F.slot_int_add
  generalize PySem.dunder "add" = nm at sl ⊢
  exact int_none sl y
theorem int_sub_none {Q : Option Value → Shared → Prop} (hx : s.heap.get? x = some (instObj C dx)) (h : Q none s) : wpAny (model prog w) A (tryMethod (.int i t) (PySem.dunder "sub") (.ref x)) Q E s := by
  have ha : argsOk "int.__sub__" ⟨[.int i t, .ref x], []⟩ := PySem.F.args_int_sub_2 _ _
  have ty : s.TypeIs (.int i t) "int" := typeIs_int _ _ _
  have y : wpAny (model prog w) A (call (.builtin "int.__sub__") [.int i t, .ref x]) (fun v s' => v = .notImplemented ∧ Q none s') E s := by
    refine wpAny_call_entry (b := Builtin.«int.__sub__») (T := "int") (name := PySem.dunder "sub") (id := "int.__sub__") PySem.F.slot_int_sub ty PySem.F.entry_int_sub ?_ ha
    exact intBinary_none (name := "__sub__") (by rfl) hx ⟨_, rfl, rfl, h⟩
  have sl : Slot "int" (PySem.dunder "sub") "int.__sub__" := PySem.F.slot_int_sub
  generalize PySem.dunder "sub" = nm at sl ⊢
  exact int_none sl y
theorem int_mul_none {Q : Option Value → Shared → Prop} (hx : s.heap.get? x = some (instObj C dx)) (h : Q none s) : wpAny (model prog w) A (tryMethod (.int i t) (PySem.dunder "mul") (.ref x)) Q E s := by
  have ha : argsOk "int.__mul__" ⟨[.int i t, .ref x], []⟩ := PySem.F.args_int_mul_2 _ _
  have ty : s.TypeIs (.int i t) "int" := typeIs_int _ _ _
  have y : wpAny (model prog w) A (call (.builtin "int.__mul__") [.int i t, .ref x]) (fun v s' => v = .notImplemented ∧ Q none s') E s := by
    refine wpAny_call_entry (b := Builtin.«int.__mul__») (T := "int") (name := PySem.dunder "mul") (id := "int.__mul__") PySem.F.slot_int_mul ty PySem.F.entry_int_mul ?_ ha
    exact intBinary_none (name := "__mul__") (by rfl) hx ⟨_, rfl, rfl, h⟩
  have sl : Slot "int" (PySem.dunder "mul") "int.__mul__" := PySem.F.slot_int_mul
  generalize PySem.dunder "mul" = nm at sl ⊢
  exact int_none sl y
end
end PySem.W

set_option maxRecDepth 100000
set_option maxHeartbeats 4000000
/-! rules: + - * and the sign, of an object of a class; lcm -/
namespace Vf
open PySem PySem.Spec PyProof.Rows L2
theorem dun_add : PySem.dunder "add" = ("__add__" : Str) := by decide +kernel
theorem dun_sub : PySem.dunder "sub" = ("__sub__" : Str) := by decide +kernel
theorem dun_mul : PySem.dunder "mul" = ("__mul__" : Str) := by decide +kernel
theorem dunR_add : PySem.dunderR "add" = ("__radd__" : Str) := by decide +kernel
theorem dunR_sub : PySem.dunderR "sub" = ("__rsub__" : Str) := by decide +kernel
theorem dunR_mul : PySem.dunderR "mul" = ("__rmul__" : Str) := by decide +kernel
def slotT (t nm : String) : Option Bool := match PySem.fastLookup t (PySem.dunder nm), PySem.fastLookup t (PySem.dunderR nm) with
  | some a, some b => some (PySem.W.slotB a b)
  | _, _ => none
theorem slotT_ok {K : PySem.W.Frag} {t nm : String} {b : Bool} (h : slotT t nm = some b) : ∃ r1 r2, PySem.W.findIn K (.type t) (PySem.dunder nm) = some r1 ∧ PySem.W.findIn K (.type t) (PySem.dunderR nm) = some r2 ∧ PySem.W.slotB r1 r2 = b := by
  unfold slotT at h
  split at h
  · rename_i a c e1 e2
    cases h
    exact ⟨a, c, e1, e2, rfl⟩
  · cases h
theorem slot_tup_add : slotT "tuple" "add" = some false := by decide +kernel
theorem slot_tup_sub : slotT "tuple" "sub" = some false := by decide +kernel
theorem slot_tup_mul : slotT "tuple" "mul" = some false := by decide +kernel
theorem slot_int_add : slotT "int" "add" = some true := by decide +kernel
theorem slot_int_sub : slotT "int" "sub" = some true := by decide +kernel
theorem slot_int_mul : slotT "int" "mul" = some true := by decide +kernel
section
variable {X : Cx} {CX : CXT} {C f g : Addr} {k : Nat} {fd : FuncData} {ps : List Str} {sp : Sp} {E : XK}
/-- the callee's answer is no mark of a missing operator -/
theorem back {pins : List (Addr × Obj)} {σ : L2.St} {Q : VK} {z : Value} {s' : Shared} (h : EP X pins σ Q z s') : PySem.W.CmpBack (EP X pins σ Q) z s' := by
  obtain ⟨z', H', I', rz, qz⟩ := h
  exact SlX.cmpback rz ⟨z', H', I', rz, qz⟩
def rOwnS (C : Addr) (sp : Sp) (E : XK) : R2 := fun x y H Q => ∃ a dx fs b dy gs, x = .ref a ∧ y = .ref b ∧ H a = some (.ins C dx fs) ∧ H b = some (.ins C dy gs) ∧ sp [x, y] H Q E
theorem op_ownS {op : Operator} (hs : PySem.W.findIn X.K (.ref C) (PySem.dunder op.info.2) = some (some (.ref g))) (hf : PySem.W.isFn X.K (.ref g) = true) (sf : PySem.W.selfFirst X.K C = true)
    (F : FnOk X.prog X.w X.K X.mg X.base CX k g fd ps sp) (hb : Binds X.K fd ps []) (hr : Room k X.A) (hx : Passes CX X E) : OpR X (binaryOp op) (rOwnS C sp E) := by
  intro pins s σ H x y v u Q I rx ry h
  obtain ⟨a, dx, fs, b, dy, gs, rfl, rfl, ha, hb', q⟩ := h
  cases (show v = Value.ref a from rx)
  cases (show u = Value.ref b from ry)
  obtain ⟨mA, O, _⟩ := ins_get I.hok ha
  obtain ⟨od, J, _⟩ := O.look
  obtain ⟨mB, O2, _⟩ := ins_get I.hok hb'
  obtain ⟨od2, J2, _⟩ := O2.look
  obtain ⟨m, hF⟩ := I.fr
  have hsp : sp ([V.ref a, V.ref b] ++ []) H Q E := q
  exact PySem.W.binop_K hF I.ok.mod.kin J J2.type sf hs hf (wpAny_mono (run_fn (us := [.ref a, .ref b]) (vs := [.ref a, .ref b]) F hr hb .nil hx I (.cons rfl (.cons rfl .nil)) hsp) (fun w s' z => back z) fun _ _ x => x)
def rOwnL (K : PySem.W.Frag) (C : Addr) (t : String) (sp : Sp) (E : XK) : R2 := fun x y H Q => ∃ a dx fs, x = .ref a ∧ H a = some (.ins C dx fs) ∧ TyX K H y (.type t) ∧ sp [x, y] H Q E
theorem op_ownL {op : Operator} {t : String} {rb : Bool} (hs : PySem.W.findIn X.K (.ref C) (PySem.dunder op.info.2) = some (some (.ref g))) (hf : PySem.W.isFn X.K (.ref g) = true) (sf : PySem.W.selfFirst X.K C = true)
    (hR : PySem.W.findIn X.K (.ref C) (PySem.dunderR op.info.2) = some (some (.ref f))) (st : slotT t op.info.2 = some rb) (sub : PySem.W.subIn X.K (.type t) (.ref C) = some false)
    (F : FnOk X.prog X.w X.K X.mg X.base CX k g fd ps sp) (hb : Binds X.K fd ps []) (hr : Room k X.A) (hx : Passes CX X E) : OpR X (binaryOp op) (rOwnL X.K C t sp E) := by
  intro pins s σ H x y v u Q I rx ry h
  obtain ⟨a, dx, fs, rfl, ha, ty, q⟩ := h
  cases (show v = Value.ref a from rx)
  obtain ⟨mA, O, _⟩ := ins_get I.hok ha
  obtain ⟨od, J, _⟩ := O.look
  obtain ⟨P, Z, p, _⟩ := kit_of I ry ty
  obtain ⟨m, hF⟩ := I.fr
  obtain ⟨r1, r2, h1, h2, _⟩ := slotT_ok (K := X.K) st
  have hsp : sp ([V.ref a, y] ++ []) H Q E := q
  exact PySem.W.binop_left hF I.ok.mod.kin J (Z.ty _ _ I.kIn p) sf hs hf hR h1 h2 sub (wpAny_mono (run_fn (us := [.ref a, u]) (vs := [.ref a, y]) F hr hb .nil hx I (.cons rfl (.cons ry .nil)) hsp) (fun w s' z => back z) fun _ _ x => x)
def rOwnR (K : PySem.W.Frag) (C : Addr) (t : String) (sp : Sp) (E : XK) : R2 := fun x y H Q => ∃ a dx fs, y = .ref a ∧ H a = some (.ins C dx fs) ∧ TyX K H x (.type t) ∧ sp [y, x] H Q E
/-- what the left side's own slot says of an object: nothing -/
def LeftNone (t : String) (op : Operator) : Prop := ∀ {prog : Program} {w : World} {A : Around} {E : Value → Shared → Prop} {s : Shared} {x : Addr} {C dx : Addr} {H : Hp} {K : PySem.W.Frag} {y : V} {v : Value}, TyX K H y (.type t) → RelV y v → s.heap.get? x = some (PySem.W.instObj C dx) → ∀ (Q : Option Value → Shared → Prop), Q none s → wpAny (model prog w) A (tryMethod v (PySem.dunder op.info.2) (.ref x)) Q E s
theorem op_ownR {op : Operator} {t : String} {rb : Bool} (hs : PySem.W.findIn X.K (.ref C) (PySem.dunder op.info.2) = some (some (.ref f))) (sf : PySem.W.selfFirst X.K C = true)
    (hR : PySem.W.findIn X.K (.ref C) (PySem.dunderR op.info.2) = some (some (.ref g))) (hg : PySem.W.isFn X.K (.ref g) = true) (st : slotT t op.info.2 = some rb) (sub : PySem.W.subIn X.K (.ref C) (.type t) = some false) (ln : rb = true → LeftNone t op)
    (F : FnOk X.prog X.w X.K X.mg X.base CX k g fd ps sp) (hb : Binds X.K fd ps []) (hr : Room k X.A) (hx : Passes CX X E) : OpR X (binaryOp op) (rOwnR X.K C t sp E) := by
  intro pins s σ H x y v u Q I rx ry h
  obtain ⟨a, dx, fs, rfl, ha, ty, q⟩ := h
  cases (show u = Value.ref a from ry)
  obtain ⟨mA, O, _⟩ := ins_get I.hok ha
  obtain ⟨od, J, _⟩ := O.look
  obtain ⟨_, _, _, ob, _⟩ := (show ObjOk X.prog X.w H s.heap a (.ins C dx fs) from I.hok a _ ha)
  obtain ⟨P, Z, p, _⟩ := kit_of I rx ty
  obtain ⟨m, hF⟩ := I.fr
  obtain ⟨r1, r2, h1, h2, e⟩ := slotT_ok (K := X.K) st
  have hsp : sp ([V.ref a, x] ++ []) H Q E := q
  exact PySem.W.binop_right hF I.ok.mod.kin J (Z.ty _ _ I.kIn p) sf hs hR hg h1 h2 sub (fun z Q' q' => ln (e.symm.trans z) ty rx ob Q' q')
    (wpAny_mono (run_fn (us := [.ref a, v]) (vs := [.ref a, x]) F hr hb .nil hx I (.cons rfl (.cons rx .nil)) hsp) (fun w s' z => back z) fun _ _ x => x)
theorem left_int {op : Operator} (h : op = .Add ∨ op = .Sub ∨ op = .Mult) : LeftNone "int" op := by
  intro prog w A E s x C dx H K y v ty rv hx Q q
  have key : ∀ {T : Value}, TyX K H y T → T = .type "int" → ∃ i, y = V.int i := fun {T} ty e => by
    cases ty with
    | base b =>
      cases b with
      | int i => exact ⟨i, rfl⟩
      | ins _ _ _ _ _ _ => cases e
      | _ => exact absurd (Value.type.inj e) (by decide)
    | _ => exact absurd (Value.type.inj e) (by decide)
  obtain ⟨i, rfl⟩ := key ty rfl
  obtain ⟨t, rfl⟩ := (show ∃ t, v = Value.int i t from rv)
  rcases h with rfl | rfl | rfl
  · exact PySem.W.int_add_none hx q
  · exact PySem.W.int_sub_none hx q
  · exact PySem.W.int_mul_none hx q
def rNegO (C : Addr) (sp : Sp) (E : XK) : V → Hp → VK → Prop := fun x H Q => ∃ a dx fs, x = .ref a ∧ H a = some (.ins C dx fs) ∧ sp [x] H Q E
theorem un_negO (hs : PySem.W.findIn X.K (.ref C) "__neg__" = some (some (.ref g))) (hf : PySem.W.isFn X.K (.ref g) = true) (F : FnOk X.prog X.w X.K X.mg X.base CX k g fd ps sp) (hb : Binds X.K fd ps []) (hr : Room k X.A) (hx : Passes CX X E) : UnR X (unaryOp .USub) (rNegO C sp E) := by
  intro pins s σ H x v Q I rx h
  obtain ⟨a, dx, fs, rfl, ha, q⟩ := h
  cases (show v = Value.ref a from rx)
  obtain ⟨mA, O, _⟩ := ins_get I.hok ha
  obtain ⟨od, J, _⟩ := O.look
  obtain ⟨m, hF⟩ := I.fr
  have hsp : sp ([V.ref a] ++ []) H Q E := q
  exact PySem.W.neg_own hF I.ok.mod.kin J hs hf (run_fn (us := [.ref a]) (vs := [.ref a]) F hr hb .nil hx I (.cons rfl .nil) hsp)
/-- math.lcm of two whole numbers -/
def rLcm : List V → Hp → VK → Prop := fun vs H Q => ∃ a b : Int, vs = [.int a, .int b] ∧ a.natAbs < 2 ^ 4000 ∧ b.natAbs < 2 ^ 4000 ∧ Q (.int ((Nat.lcm a.natAbs b.natAbs : Nat) : Int)) H
theorem log_4000 {n : Nat} (h : n < 2 ^ 4000) : n.log2 < 4000 := by
  by_cases e : n = 0
  · rw [e]; decide
  · exact (Nat.log2_lt e).mpr h
theorem cr_lcm : CallR X (.builtin "math.lcm") rLcm := by
  intro pins s σ H vs us Q I r h
  obtain ⟨a, b, rfl, ha, hb, q⟩ := h
  obtain ⟨t, u, rfl⟩ := Vals.int2 r
  have one : Nat.lcm 1 a.natAbs = a.natAbs := Nat.lcm_one_left _
  have m1 : max 1 a.natAbs < 2 ^ 4000 := by
    have : (1 : Nat) < 2 ^ 4000 := Nat.one_lt_pow (by decide) (by decide)
    omega
  have m2 : max a.natAbs b.natAbs < 2 ^ 4000 := by omega
  have l1 := log_4000 m1
  have l2 := log_4000 m2
  have sz : ((((Nat.lcm 1 a.natAbs).lcm b.natAbs : Nat) : Int)).natAbs.log2 < bitsLine := by
    rw [one, Int.natAbs_natCast]
    have le : a.natAbs.lcm b.natAbs ≤ a.natAbs * b.natAbs := by
      rw [← Nat.gcd_mul_lcm]
      by_cases z : a.natAbs.gcd b.natAbs = 0
      · have : a.natAbs.lcm b.natAbs = 0 := by unfold Nat.lcm; rw [Nat.gcd_eq_zero_iff.mp z |>.1]; simp
        rw [this]; omega
      · exact Nat.le_mul_of_pos_left _ (by omega)
    have lt : a.natAbs.lcm b.natAbs < 2 ^ 8000 := by
      refine Nat.lt_of_le_of_lt le ?_
      rw [show (8000 : Nat) = 4000 + 4000 from rfl, Nat.pow_add]
      exact Nat.mul_lt_mul'' ha hb
    by_cases e : a.natAbs.lcm b.natAbs = 0
    · rw [e]; decide
    · exact Nat.lt_trans ((Nat.log2_lt e).mpr lt) (by decide)
  refine PySem.call_function_meets PySem.W.MGF.kind_lcm PySem.W.MGF.plain_lcm PySem.W.MGF.entry_lcm (PySem.W.MGF.args_lcm _ _) (PySem.W.mg_run_lcm a t b u (by omega) (by omega) sz).meets ?_
  rw [one]
  exact ⟨.int _, H, I.tok _, ⟨_, rfl⟩, q⟩
end
end Vf

set_option maxRecDepth 100000
set_option maxHeartbeats 4000000
/-! comprehensions over zip and ranges; rows of numbers at their addresses -/
namespace Vf
open PySem PySem.Spec PyProof.Rows L2
/-- a comprehension over zip(a, b), two lists alike in length -/
theorem lc_zipL {K : PySem.W.Frag} {a b : Addr} {xs ys : List V} {g : TG} {tt : TT} {te : TE} {vs : List Nat} {σ : L2.St} {H1 : Hp} {D : Addr} {Qd : Hp → Prop} (hl : xs.length = ys.length) (Pv : Nat → Hp → Prop) (h0 : Pv 0 (upd H1 D (.lst [])))
    (hq : ∀ i H, Pv i H → SqL K H a xs ∧ SqL K H b ys)
    (hs : ∀ (i : Nat) (x y : V) (T : Addr) (H : Hp), xs[i]? = some x → ys[i]? = some y → Pv i H → H T = none → g (.ref T) (wipe σ vs) (upd H T (.tup [x, y])) fun σ2 H2 => wipe σ2 vs = wipe σ vs ∧ tt σ2 H2 fun b H3 =>
      if b = true then te σ2 H3 fun y H4 => ∃ acc, H4 D = some (.lst acc) ∧ acc.length < sizeLine ∧ Pv (i + 1) (upd H4 D (.lst (acc ++ [y]))) else Pv (i + 1) H3) (hd : ∀ H, Pv xs.length H → Qd H) :
    ∃ W : Nat → Nat → Hp → Prop, (∃ m, W 0 m (upd H1 D (.lst []))) ∧ ∀ i m H, W i m H →
      (((Itz K a b).stop i H ∧ Qd H) ∨ ((Itz K a b).go i H ∧ ∃ Nx : Hp → Prop, (∀ H', Nx H' → ∃ m', m' < m ∧ W (i + 1) m' H') ∧ ∀ x H', (Itz K a b).yld i H x H' → g x (wipe σ vs) H' fun σ2 H2 => wipe σ2 vs = wipe σ vs ∧ tt σ2 H2 fun b H3 =>
        if b = true then te σ2 H3 fun y H4 => ∃ acc, H4 D = some (.lst acc) ∧ acc.length < sizeLine ∧ Nx (upd H4 D (.lst (acc ++ [y]))) else Nx H3)) := by
  refine ⟨fun i m H => m = xs.length - i ∧ i ≤ xs.length ∧ Pv i H, ⟨xs.length, by simp, Nat.zero_le _, h0⟩, ?_⟩
  rintro i m H ⟨rfl, hi, p⟩
  obtain ⟨qx, qy⟩ := hq i H p
  by_cases hlt : i < xs.length
  · have hx : xs[i]? = some xs[i] := List.getElem?_eq_getElem hlt
    have hlt2 : i < ys.length := by omega
    have hy : ys[i]? = some ys[i] := List.getElem?_eq_getElem hlt2
    refine .inr ⟨⟨xs, ys, xs[i], ys[i], qx, qy, hx, hy⟩, Pv (i + 1), fun H' p' => ⟨xs.length - (i + 1), by omega, rfl, hlt, p'⟩, fun v H' y => ?_⟩
    obtain ⟨T, x', y', e1, n, e2, h1, h2⟩ := y
    rw [e1, e2]
    exact hs i x' y' T H (h1 xs qx) (h2 ys qy) p n
  · have e : i = xs.length := by omega
    subst e
    exact .inl ⟨⟨xs, ys, qx, qy, .inl (Nat.le_refl _)⟩, hd H p⟩
/-- a tuple that tells the number q -/
def TR (H : Hp) (r : Addr) (q : Rat) : Prop := H r = some (.tup [.int q.num, .int (q.den : Int)])
theorem TR.pq {H : Hp} {r : Addr} {q : Rat} (h : TR H r q) : H r = some (.tup [.int (pq q).1, .int (pq q).2]) := h
theorem TR.same {H H' : Hp} {r : Addr} {q : Rat} (h : TR H r q) (s : Same H H') : TR H' r q := s _ _ h
/-- a list of such tuples -/
def RL (H : Hp) (l : Addr) (qs : List Rat) : Prop := ∃ as, H l = some (.lst (as.map V.ref)) ∧ Tups H as (qs.map pq)
theorem RL.same {H H' : Hp} {l : Addr} {qs : List Rat} (h : RL H l qs) (s : Same H H') : RL H' l qs := by
  obtain ⟨as, e, t⟩ := h
  exact ⟨as, s _ _ e, t.same s⟩
theorem Tups.atQ {H : Hp} {as : List Addr} {qs : List Rat} {i : Nat} {a : Addr} (h : Tups H as (qs.map pq)) (e : as[i]? = some a) : ∃ q, qs[i]? = some q ∧ TR H a q := by
  obtain ⟨p, h1, h2⟩ := h.at e
  rw [List.getElem?_map] at h1
  cases hq : qs[i]? with
  | none => rw [hq] at h1; cases h1
  | some q =>
    rw [hq] at h1
    cases h1
    exact ⟨q, rfl, h2⟩
theorem Tups.lenQ {H : Hp} {as : List Addr} {qs : List Rat} (h : Tups H as (qs.map pq)) : as.length = qs.length := by
  have := h.len
  rw [List.length_map] at this
  exact this
theorem Tups.snocQ {H : Hp} {as : List Addr} {qs : List Rat} {a : Addr} {q : Rat} (h : Tups H as (qs.map pq)) (e : TR H a q) : Tups H (as ++ [a]) ((qs ++ [q]).map pq) := by
  rw [List.map_append]
  exact h.snoc e
theorem Tups.getQ {H : Hp} {as : List Addr} {qs : List Rat} {i : Nat} (h : Tups H as (qs.map pq)) (hi : i < qs.length) : ∃ a, as[i]? = some a ∧ TR H a (cf qs i) := by
  have hl := h.lenQ
  have hi' : i < as.length := by omega
  obtain ⟨q, h1, h2⟩ := h.atQ (List.getElem?_eq_getElem hi')
  refine ⟨as[i], List.getElem?_eq_getElem hi', ?_⟩
  rw [cf_get h1]
  exact h2
theorem Tups.setQ {H : Hp} : ∀ {as : List Addr} {qs : List Rat} (i : Nat) {a : Addr} {q : Rat}, Tups H as (qs.map pq) → TR H a q → Tups H (as.set i a) ((qs.set i q).map pq)
  | [], [], _, _, _, _, _ => .nil
  | _ :: _, _ :: _, 0, _, _, .cons _ t, e => .cons e t
  | _ :: _, _ :: _, i + 1, _, _, .cons h t, e => .cons h (t.setQ i e)
theorem tr_zero {H : Hp} {r : Addr} (h : H r = some (.tup [.int 0, .int 1])) : TR H r 0 := h
theorem tups_rep0 {H : Hp} {a : Addr} (h : TR H a 0) (n : Nat) : Tups H (List.replicate n a) ((List.replicate n (0 : Rat)).map pq) := by
  rw [List.map_replicate]
  exact Tups.rep' (p := pq 0) h n
where
  Tups.rep' {H : Hp} {a : Addr} {p : Int × Int} (h : H a = some (.tup [.int p.1, .int p.2])) : ∀ n : Nat, Tups H (List.replicate n a) (List.replicate n p)
    | 0 => .nil
    | n + 1 => .cons h (Tups.rep' h n)
theorem flat_repQ (n : Nat) (a : Addr) : (List.replicate n [V.ref a]).flatten = (List.replicate n a).map V.ref := by
  rw [List.flatten_replicate_singleton, List.map_replicate]
theorem cf_rep0 (n i : Nat) : cf (List.replicate n 0) i = 0 := by
  unfold cf
  rw [List.getD_eq_getElem?_getD, List.getElem?_replicate]
  split <;> rfl
theorem cf_set {l : List Rat} {i j : Nat} {x : Rat} (h : i < l.length) : cf (l.set i x) j = if j = i then x else cf l j := by
  unfold cf
  rw [List.getD_eq_getElem?_getD, List.getD_eq_getElem?_getD, List.getElem?_set]
  by_cases e : i = j
  · rw [if_pos e, if_pos e.symm, if_pos h]
    rfl
  · rw [if_neg e, if_neg (fun z => e z.symm)]
theorem big_mulW {x y : Int} (h1 : x.natAbs < 2 ^ 3900) (h2 : y.natAbs < 2 ^ 3900) : CMulW x y := wide_mul h1 h2 (by decide) (by decide) (by decide)
theorem Sr.n {q : Rat} (h : Sr q) : q.num.natAbs < 2 ^ 3900 := Nat.lt_trans h.1 (Nat.pow_lt_pow_right (by decide) (by decide))
theorem Sr.d {q : Rat} (h : Sr q) : ((q.den : Int)).natAbs < 2 ^ 3900 := by
  rw [Int.natAbs_natCast]
  exact Nat.lt_trans h.2 (Nat.pow_lt_pow_right (by decide) (by decide))
theorem pow_add2 (a b : Nat) : (2 : Nat) ^ a * 2 ^ b = 2 ^ (a + b) := (Nat.pow_add _ _ _).symm
theorem sr_sum {a b : Rat} (ha : Sr a) (hb : Sr b) : (a.num * b.den + b.num * a.den).natAbs < 2 ^ 4000 ∧ ((a.den : Int) * b.den).natAbs < 2 ^ 4000 ∧ (a.num * b.num).natAbs < 2 ^ 4000 := by
  have m : ∀ {x y : Nat}, x < 2 ^ 1900 → y < 2 ^ 1900 → x * y < 2 ^ 3800 := fun {x y} h1 h2 => by
    have := Nat.mul_lt_mul'' h1 h2
    rw [pow_add2] at this
    exact this
  have l1 : (2 : Nat) ^ 3800 + 2 ^ 3800 = 2 ^ 3801 := by rw [show (3801 : Nat) = 3800 + 1 from rfl, Nat.pow_succ]; omega
  have l2 : (2 : Nat) ^ 3801 ≤ 2 ^ 4000 := Nat.pow_le_pow_right (by decide) (by decide)
  have l3 : (2 : Nat) ^ 3800 ≤ 2 ^ 4000 := Nat.pow_le_pow_right (by decide) (by decide)
  have m1 := m ha.1 hb.2
  have m2 := m hb.1 ha.2
  have m3 := m ha.2 hb.2
  have m4 := m ha.1 hb.1
  have e1 : (a.num * b.den).natAbs = a.num.natAbs * b.den := by rw [Int.natAbs_mul, Int.natAbs_natCast]
  have e2 : (b.num * a.den).natAbs = b.num.natAbs * a.den := by rw [Int.natAbs_mul, Int.natAbs_natCast]
  refine ⟨?_, ?_, ?_⟩
  · have := Int.natAbs_add_le (a.num * b.den) (b.num * a.den)
    omega
  · rw [Int.natAbs_mul, Int.natAbs_natCast, Int.natAbs_natCast]
    omega
  · rw [Int.natAbs_mul]
    omega
end Vf

set_option maxRecDepth 100000
set_option maxHeartbeats 4000000
/-! a range that stands in a name, walked; rows of whole numbers -/
namespace Vf
open PySem PySem.Spec PyProof.Rows L2
section
variable {X : Cx} {tg : Expr}
def rRng1 : List V → Hp → VK → Prop := fun vs H Q => ∃ j, vs = [V.int j] ∧ ∀ p, H p = none → Q (.ref p) (upd H p (.rng 0 j))
theorem cr_range1 : CallR X (.type "range") rRng1 := by
  intro pins s σ H vs us Q I r h
  obtain ⟨j, rfl, q⟩ := h
  cases r with
  | cons r rr =>
    cases rr
    obtain ⟨t, rfl⟩ := r
    refine call_range_1 ⟨.ref s.heap.objs.size, upd H s.heap.objs.size (.rng 0 j), I.laid (t' := s.toks + 1 + 1) (fun b o e => Heap.get?_push_of_some _ e) (Nat.le_refl _) ?_, rfl, q _ (I.hok.fresh (Nat.le_refl _))⟩
    exact ⟨_, t, _, Heap.get?_push_size _ rfl⟩
def iRngV (te : TE) : TI := fun σ H R => te σ H fun x H1 => ∃ a lo hi, x = .ref a ∧ H1 a = some (.rng lo hi) ∧ (-(2 ^ 62) ≤ lo ∧ lo < 2 ^ 62 ∧ -(2 ^ 62) ≤ hi ∧ hi < 2 ^ 62) ∧ R (Itr lo (hi - lo).toNat) H1
theorem pi_rng {l : Expr} {tl : TE} (hl : PE X l tl) : PI X tg l (iRngV tl) := by
  refine ⟨fun pins s σ H R I h => ?_⟩
  refine thn (hl.run pins s σ H _ I h) fun v s1 ⟨x, H1, I1, r1, q1⟩ => ?_
  obtain ⟨a, lo, hi, rfl, ha, ⟨h1, h2, h3, h4⟩, q⟩ := q1
  cases r1
  obtain ⟨t, u, v, ho⟩ := I1.hok a _ ha
  refine wpAny_pyIter_range (show IsRange s1.heap a lo hi 1 t u v from ho) (small_one h1 h2 h3 h4) ?_
  refine ⟨s1.heap.objs.size, [s1.heap.objs.size], _, _, H1, rfl, I1.kept (t' := s1.toks) fun b o e => Heap.get?_push_of_some _ e, turn_range _ lo (hi - lo).toNat, ?_, fun b hb => ?_, q⟩
  · have e1 : lo + ((0 : Nat) : Int) * 1 = lo := by simp
    have e2 : (((hi - lo).toNat : Nat) : Int) - ((0 : Nat) : Int) = Builtin.Range.rangeSize lo hi 1 := by rw [rangeSize_one]; split <;> omega
    show IsRangeIter _ _ (lo + ((0 : Nat) : Int) * 1) ((((hi - lo).toNat : Nat) : Int) - ((0 : Nat) : Int)) 1
    rw [e1, e2]
    exact Heap.get?_push_size _ rfl
  · have e : b = s1.heap.objs.size := by simpa using hb
    subst e
    exact I1.fpOk (Nat.le_refl _) (I1.hok.fresh (Nat.le_refl _))
end
/-! ### whole numbers over one bottom -/
/-- the row ns tells the numbers qs over M -/
def Over (M : Int) (ns : List Int) (qs : List Rat) : Prop := ns.length = qs.length ∧ ∀ i, ((ns.getD i 0 : Int) : Rat) = cf qs i * (M : Rat)
def ci (ns : List Int) (i : Nat) : Int := ns.getD i 0
theorem Over.at {M : Int} {ns : List Int} {qs : List Rat} (h : Over M ns qs) (i : Nat) : cf qs i * (M : Rat) = ((ci ns i : Int) : Rat) := (h.2 i).symm
theorem ci_lt {l : List Int} {i : Nat} (h : i < l.length) : l[i]? = some (ci l i) := by
  unfold ci
  rw [List.getD_eq_getElem?_getD, List.getElem?_eq_getElem h]
  rfl
theorem ci_get {l : List Int} {i : Nat} {x : Int} (h : l[i]? = some x) : ci l i = x := by
  unfold ci
  rw [List.getD_eq_getElem?_getD, h]
  rfl
theorem ci_ge {l : List Int} {i : Nat} (h : l.length ≤ i) : ci l i = 0 := by
  unfold ci
  rw [List.getD_eq_getElem?_getD, List.getElem?_eq_none_iff.mpr h]
  rfl
def tabI (n : Nat) (f : Nat → Int) : List Int := (List.range n).map f
theorem tabI_len (n : Nat) (f : Nat → Int) : (tabI n f).length = n := by unfold tabI; rw [List.length_map, List.length_range]
theorem tabI_snoc (n : Nat) (f : Nat → Int) : tabI (n + 1) f = tabI n f ++ [f n] := by
  unfold tabI
  rw [List.range_succ, List.map_append]
  rfl
theorem ci_tab (n : Nat) (f : Nat → Int) (i : Nat) : ci (tabI n f) i = if i < n then f i else 0 := by
  unfold ci tabI
  rw [List.getD_eq_getElem?_getD, List.getElem?_map]
  by_cases h : i < n
  · rw [if_pos h, List.getElem?_range h]; rfl
  · rw [if_neg h, List.getElem?_eq_none_iff.mpr (by rw [List.length_range]; omega)]; rfl
def smI (f : Nat → Int) : Nat → Int
  | 0 => 0
  | n + 1 => smI f n + f n
theorem smI_cast (f : Nat → Int) : ∀ n, ((smI f n : Int) : Rat) = sm (fun i => (f i : Rat)) n
  | 0 => rfl
  | n + 1 => by
    show (((smI f n + f n : Int)) : Rat) = sm (fun i => (f i : Rat)) n + (f n : Rat)
    rw [Rat.intCast_add, smI_cast f n]
end Vf

set_option maxRecDepth 100000
set_option maxHeartbeats 4000000
/-! zip and enumerate over lists and tuples alike, in loops and comprehensions -/
namespace Vf
open PySem PySem.Spec PyProof.Rows L2
/-- a list (true) or a tuple (false) of these items -/
def SqB (p : Bool) (K : PySem.W.Frag) (H : Hp) (a : Addr) (xs : List V) : Prop := match p with
  | true => SqL K H a xs
  | false => SqT K H a xs
def ItB (p : Bool) (h : Heap) (it a : Addr) (i : Nat) : Prop := match p with
  | true => h.IsListIter it a i
  | false => h.IsTupleIter it a i
def ArB (p : Bool) (h : Heap) (a : Addr) (items : Array Value) : Prop := match p with
  | true => h.IsList a items
  | false => h.IsTuple a items
theorem sqB_or {K : PySem.W.Frag} {H : Hp} {a : Addr} {xs : List V} (h : SqL K H a xs ∨ SqT K H a xs) : ∃ p, SqB p K H a xs := by
  rcases h with h | h
  · exact ⟨true, h⟩
  · exact ⟨false, h⟩
theorem sqB_to {p : Bool} {K : PySem.W.Frag} {H : Hp} {a : Addr} {xs : List V} (h : SqB p K H a xs) : SqL K H a xs ∨ SqT K H a xs := by
  cases p
  · exact .inr h
  · exact .inl h
theorem SqB.same {p : Bool} {K : PySem.W.Frag} {H H' : Hp} {a : Addr} {xs : List V} (h : SqB p K H a xs) (s : Same H H') : SqB p K H' a xs := by
  cases p
  · exact same_sqT s h
  · exact same_sqL s h
theorem drawsB {prog : Program} {w : World} {A : Around} (p : Bool) (hh : A.handled = none) (it l : Addr) (hne : l ≠ it) (items : Array Value) :
    Draws prog w A it [it, l] items.size (fun i v => items[i]? = some v) (fun i h => ItB p h it l i ∧ ArB p h l items) := by
  cases p
  · exact Draws.tuple hh it l hne items
  · exact Draws.list hh it l hne items
def obB (p : Bool) (a : Addr) : Obj := match p with
  | true => { cls := .type "list_iterator", data := .fields #[.ref a, .int 0 0] }
  | false => { cls := .type "tuple_iterator", data := .fields #[.ref a, .int 0 0] }
theorem beginsB (p : Bool) (a : Addr) (items : Array Value) : Begins (.ref a) (obB p a) fun h => ArB p h a items := by
  cases p
  · exact begins_tuple a items
  · exact begins_list a items
theorem itB_of {p : Bool} {h : Heap} {it a : Addr} (e : h.get? it = some (obB p a)) : ItB p h it a 0 := by
  cases p
  · exact ⟨_, e, rfl, rfl⟩
  · exact ⟨_, e, rfl, rfl⟩
theorem ItB.at {p : Bool} {h h' : Heap} {it a : Addr} {i : Nat} (st : ItB p h it a i) (k : ∀ o, h.get? it = some o → h'.get? it = some o) : ItB p h' it a i := by
  cases p
  · exact Heap.IsTupleIter.at st k
  · exact Heap.IsListIter.at st k
theorem ItB.obj {p : Bool} {h : Heap} {it a : Addr} {i : Nat} (st : ItB p h it a i) : ∃ o, h.get? it = some o ∧ ∀ v, o.data ≠ .cell v := by
  cases p
  · obtain ⟨o, e, _, d⟩ := st
    exact ⟨o, e, fun v z => by rw [d] at z; cases z⟩
  · obtain ⟨o, e, _, d⟩ := st
    exact ⟨o, e, fun v z => by rw [d] at z; cases z⟩
section
variable {X : Cx} {pins : List (Addr × Obj)} {σ : L2.St} {H : Hp} {s : Shared}
theorem seqB (I : Inv X pins σ H s) {p : Bool} {a : Addr} {xs : List V} (h : SqB p X.K H a xs) : ∃ its : List Value, Vals xs its ∧ ArB p s.heap a its.toArray := by
  cases p
  · obtain ⟨its, rv, q, _⟩ := I.tuple h
    exact ⟨its, rv, q⟩
  · obtain ⟨its, rv, q, _⟩ := I.list h
    exact ⟨its, rv, q.isList⟩
theorem seqB_inj (I : Inv X pins σ H s) {p : Bool} {a : Addr} {xs ys : List V} (h1 : SqB p X.K H a xs) (h2 : SqB p X.K H a ys) : xs = ys := by
  cases p
  · exact I.tuple_inj h1 h2
  · exact I.list_inj h1 h2
theorem ArB.lt {p : Bool} {h : Heap} {a : Addr} {its : Array Value} (q : ArB p h a its) : a < h.objs.size := by
  cases p
  · obtain ⟨o, e, _⟩ := q
    exact Heap.lt_size e
  · obtain ⟨o, e, _⟩ := q
    exact Heap.lt_size e
end
/-- the lists or tuples at a and b as they stand at each turn, the items in new pairs -/
def ItzB (p q : Bool) (K : PySem.W.Frag) (a b : Addr) : It :=
  ⟨fun i H => ∃ (xs ys : List V) (x y : V), SqB p K H a xs ∧ SqB q K H b ys ∧ xs[i]? = some x ∧ ys[i]? = some y,
    fun i H v H' => ∃ T x y, v = .ref T ∧ H T = none ∧ H' = upd H T (.tup [x, y]) ∧ (∀ xs, SqB p K H a xs → xs[i]? = some x) ∧ ∀ ys, SqB q K H b ys → ys[i]? = some y,
    fun i H => ∃ xs ys : List V, SqB p K H a xs ∧ SqB q K H b ys ∧ i ≤ xs.length ∧ i ≤ ys.length ∧ (xs.length = i ∨ ys.length = i)⟩
theorem sepB {a b z TI TO i1 i2 : Addr} (D : ZipApart z TI TO i1 i2 a b) : ZipSep2 z TI TO i1 i2 [i1, a] [i2, b] where
  TIz := D.TIz
  TOz := D.TOz
  TITO := D.TITO
  TIi1 := D.TIi1
  mem1 := by simp
  zf1 := by simp [D.i1z.symm, D.l1z.symm]
  Tf1 := by simp [D.TOi1, D.l1TO.symm]
  TIi2 := D.TIi2
  mem2 := by simp
  zf2 := by simp [D.i2z.symm, D.l2z.symm]
  Tf2 := by simp [D.TOi2, D.l2TO.symm]
  sep1_2 := by simp [D.i12, D.l2i1.symm]
  sep2_1 := by simp [D.i12.symm, D.l1i2.symm]
theorem turn_zipB {P : Program} {w : World} {K : PySem.W.Frag} {elts : List Expr} {kk : Nat} {tpos : Pos} (p q : Bool) {a b z TI TO i1 i2 : Addr} (D : ZipApart z TI TO i1 i2 a b) :
    Turn P w K (.Tuple elts kk tpos) (ItzB p q K a b) [z, TI, TO, i1, i2] z (fun i h => IsZip h z TI TO .none ∧ IsPair h TI (.ref i1) (.ref i2) ∧ (∃ x y, IsPair h TO x y) ∧ ItB p h i1 a i ∧ ItB q h i2 b i) where
  mem := by simp
  obj := fun i h st c hc => by
    obtain ⟨hz, hTI, ⟨x, y, hTO⟩, h1, h2⟩ := st
    have e' : c = z ∨ c = TI ∨ c = TO ∨ c = i1 ∨ c = i2 := by simpa using hc
    rcases e' with q | q | q | q | q
    · rw [q]; exact ⟨_, hz, fun v q => nomatch q⟩
    · rw [q]; exact ⟨_, hTI, fun v q => nomatch q⟩
    · rw [q]; exact ⟨_, hTO, fun v q => nomatch q⟩
    · rw [q]; exact h1.obj
    · rw [q]; exact h2.obj
  keep := fun i h h' st k => by
    obtain ⟨hz, hTI, ⟨x, y, hTO⟩, h1, h2⟩ := st
    exact ⟨k z (by simp) _ hz, k TI (by simp) _ hTI, ⟨x, y, k TO (by simp) _ hTO⟩, h1.at fun o q => k i1 (by simp) o q, h2.at fun o q => k i2 (by simp) o q⟩
  item := by
    intro X hP hw hK hc i pins s σ H E I hf st hg
    subst hP hw hK
    obtain ⟨hz, hTI, ⟨x0, y0, hTO⟩, h1, h2⟩ := st
    obtain ⟨xs, ys, x, y, hqx, hqy, hx, hy⟩ := hg
    obtain ⟨its, rv, p1⟩ := seqB I hqx
    obtain ⟨its2, rv2, p2⟩ := seqB I hqy
    obtain ⟨u, hu, ru⟩ := rv.get hx
    obtain ⟨u2, hu2, ru2⟩ := rv2.get hy
    have hzl : z < s.heap.objs.size := Heap.lt_size hz
    have hh : X.A.in1.handled = none := I.ok.hd hc
    have l1 : i < its.toArray.size := by
      have := (List.getElem?_eq_some_iff.mp hu).1
      simpa using this
    have l2 : i < its2.toArray.size := by
      have := (List.getElem?_eq_some_iff.mp hu2).1
      simpa using this
    refine wpAny_pyNext_zipD2_item (sepB D) (drawsB p hh i1 a D.l1i1 its.toArray) (drawsB q hh i2 b D.l2i2 its2.toArray) hz hTI hTO ⟨h1, p1⟩ ⟨h2, p2⟩ l1 l2 fun u' u2' h' tk e1 e2 z' TO' h1' h2' hT hsz hk => ?_
    have eu : u' = u := by
      rw [List.getElem?_toArray, hu] at e1
      exact (Option.some.inj e1).symm
    have eu2 : u2' = u2 := by
      rw [List.getElem?_toArray, hu2] at e2
      exact (Option.some.inj e2).symm
    subst eu eu2
    refine ⟨_, rfl, wpAny_letOwnedTupleGo_zip (s := { s with heap := h', toks := tk }) z' fun h'' z'' sb => ?_⟩
    have hT2 : h''.get? s.heap.objs.size = some { cls := .type "tuple", data := .seq #[u', u2'] } := (sb.2 _ (Nat.ne_of_gt hzl)).trans hT
    have new : ObjOk X.prog X.w (upd H s.heap.objs.size (.tup [x, y])) h'' s.heap.objs.size (.tup [x, y]) :=
      ⟨by show 2 ≤ sizeLine; decide, [u', u2'], .cons ru (.cons ru2 .nil), ⟨_, hT2, rfl, _, rfl⟩⟩
    have I1 : Inv X pins σ (upd H s.heap.objs.size (.tup [x, y])) { s with heap := h'', toks := tk } :=
      I.turnedNew (t' := tk) (ch := [z, TI, TO, i1, i2]) (fun c o hb q => (sb.2 c (fun q' => hb (by simp [q']))).trans (hk c o (fun q' => hb (by simp [q'])) (fun q' => hb (by simp [q'])) (fun q' => hb (by simp [q'])) (fun q' => hb (by simp [q'])) q)) hf (Nat.le_refl _) new
    refine ⟨.ref s.heap.objs.size, _, I1, rfl, ⟨_, x, y, rfl, I.hok.fresh (Nat.le_refl _), rfl, fun l hl => by rw [seqB_inj I hl hqx]; exact hx, fun l hl => by rw [seqB_inj I hl hqy]; exact hy⟩, ⟨z'', ?_, ⟨u', u2', ?_⟩, ?_, ?_⟩, fun c hcm => ?_⟩
    · exact (sb.2 _ D.TIz).trans (hk _ _ D.TIz D.TITO D.TIi1 D.TIi2 hTI)
    · exact (sb.2 _ D.TOz).trans TO'
    · exact h1'.1.at fun o q => (sb.2 _ D.i1z).trans q
    · exact h2'.1.at fun o q => (sb.2 _ D.i2z).trans q
    · have hlt : c < s.heap.objs.size := by
        have e' : c = z ∨ c = TI ∨ c = TO ∨ c = i1 ∨ c = i2 := by simpa using hcm
        rcases e' with q | q | q | q | q
        · rw [q]; exact hzl
        · rw [q]; exact Heap.lt_size hTI
        · rw [q]; exact Heap.lt_size hTO
        · rw [q]; obtain ⟨_, e1, _⟩ := h1.obj; exact Heap.lt_size e1
        · rw [q]; obtain ⟨_, e1, _⟩ := h2.obj; exact Heap.lt_size e1
      rw [upd_ne (Nat.ne_of_lt hlt)]
      exact (hf c hcm).1
  done := by
    intro X hP hw hK hc i pins s σ H E I hf st hg
    subst hP hw hK
    obtain ⟨hz, hTI, ⟨x0, y0, hTO⟩, h1, h2⟩ := st
    obtain ⟨xs, ys, hqx, hqy, le1, le2, hend⟩ := hg
    obtain ⟨its, rv, p1⟩ := seqB I hqx
    obtain ⟨its2, rv2, p2⟩ := seqB I hqy
    have l1 := rv.length
    have l2 := rv2.length
    have hh : X.A.in1.handled = none := I.ok.hd hc
    have s1 : its.toArray.size = its.length := by simp
    have s2 : its2.toArray.size = its2.length := by simp
    refine wpAny_pyNext_zipD2_end (sepB D) (drawsB p hh i1 a D.l1i1 its.toArray) (drawsB q hh i2 b D.l2i2 its2.toArray) hz hTI hTO ⟨h1, p1⟩ ⟨h2, p2⟩ (by rw [s1]; omega) (by rw [s2]; omega) (by rw [s1, s2]; omega) fun h' tk hk => ⟨rfl, I.turnedL (t' := tk) (ch := [z, TI, TO, i1, i2]) (fun c o hb q =>
      hk c o (fun q' => hb (by simp [q'])) (fun q' => hb (by simp [q'])) (fun q' => hb (by simp [q'])) (fun q' => hb (by simp [q'])) q) hf⟩
  self := fun A i s Q E st h => wpAny_pyIter_zip st.1 h
def iZipB (K : PySem.W.Frag) (ta : TA) : TI := fun σ H R => ta σ H fun vs H1 => ∃ p q a b xs ys, vs = [.ref a, .ref b] ∧ SqB p K H1 a xs ∧ SqB q K H1 b ys ∧ R (ItzB p q K a b) H1
theorem pi_zipB {X : Cx} {e e2 : Expr} {ta : TA} {p pos tpos : Pos} {elts : List Expr} {kk : Nat} (hg : Gl X "zip") (hm : X.mg "zip" = none) (ha : PA X [e, e2] ta)
    (hs : starEach [e, e2] X.env = (false, eval e X.env) :: starEach [e2] X.env := by rfl) (hpl : (backTo pos (starEach [e2] X.env)).any (·.1) = false := by rfl) :
    PI X (.Tuple elts kk tpos) (.Call (.Name "zip" p) [e, e2] [] pos) (iZipB X.K ta) := by
  refine ⟨fun pins s σ H R I h => ?_⟩
  refine Call_ (ld_blt I hg hm PyProof.Rows.boot_zip (PyProof.Rows.callWith_type1 (thn (ha.run pos pins s σ H _ I h) fun us s1 ⟨vs, H1, I1, r1, q1⟩ => ?_) hs hpl))
  obtain ⟨p, q, a, b, xs, ys, ex, hqx, hqy, g⟩ := q1
  subst ex
  cases r1 with
  | cons r rr =>
    cases rr with
    | cons r' rr =>
      cases rr
      cases r
      cases r'
      have fresh5 : ∀ c, c ∈ [s1.heap.objs.size + 4, s1.heap.objs.size + 2, s1.heap.objs.size + 3, s1.heap.objs.size, s1.heap.objs.size + 1] → FpOk X pins H1 c := fun c hcm => by
        have e' : c = s1.heap.objs.size + 4 ∨ c = s1.heap.objs.size + 2 ∨ c = s1.heap.objs.size + 3 ∨ c = s1.heap.objs.size ∨ c = s1.heap.objs.size + 1 := by simpa using hcm
        have hle : s1.heap.objs.size ≤ c := by
          rcases e' with z | z | z | z | z
          · rw [z]; exact Nat.le_add_right _ _
          · rw [z]; exact Nat.le_add_right _ _
          · rw [z]; exact Nat.le_add_right _ _
          · rw [z]; exact Nat.le_refl _
          · rw [z]; exact Nat.le_add_right _ _
        exact I1.fpOk hle (I1.hok.fresh hle)
      obtain ⟨its, rv, p1⟩ := seqB I1 hqx
      obtain ⟨its2, rv2, p2⟩ := seqB I1 hqy
      refine zip_begins2 (beginsB p a its.toArray) (beginsB q b its2.toArray) p1 p2 fun h' hz hTI hTO h1 h2 hsz hk => wpAny_pyIter_zip hz ?_
      have I2 : Inv X pins σ H1 { s1 with heap := h' } := I1.kept (t' := s1.toks) hk
      exact ⟨s1.heap.objs.size + 4, [s1.heap.objs.size + 4, s1.heap.objs.size + 2, s1.heap.objs.size + 3, s1.heap.objs.size, s1.heap.objs.size + 1], _, _, H1, rfl, I2, turn_zipB p q (PySem.W.ktu_apart s1.heap.objs.size a b p1.lt p2.lt), ⟨hz, hTI, ⟨_, _, hTO⟩, itB_of h1, itB_of h2⟩, fresh5, g⟩
/-- a comprehension over zip of two rows alike in length -/
theorem lc_zipB {p q : Bool} {K : PySem.W.Frag} {a b : Addr} {xs ys : List V} {g : TG} {tt : TT} {te : TE} {vs : List Nat} {σ : L2.St} {H1 : Hp} {D : Addr} {Qd : Hp → Prop} (hl : xs.length = ys.length) (Pv : Nat → Hp → Prop) (h0 : Pv 0 (upd H1 D (.lst [])))
    (hq : ∀ i H, Pv i H → SqB p K H a xs ∧ SqB q K H b ys)
    (hs : ∀ (i : Nat) (x y : V) (T : Addr) (H : Hp), xs[i]? = some x → ys[i]? = some y → Pv i H → H T = none → g (.ref T) (wipe σ vs) (upd H T (.tup [x, y])) fun σ2 H2 => wipe σ2 vs = wipe σ vs ∧ tt σ2 H2 fun b H3 =>
      if b = true then te σ2 H3 fun y H4 => ∃ acc, H4 D = some (.lst acc) ∧ acc.length < sizeLine ∧ Pv (i + 1) (upd H4 D (.lst (acc ++ [y]))) else Pv (i + 1) H3) (hd : ∀ H, Pv xs.length H → Qd H) :
    ∃ W : Nat → Nat → Hp → Prop, (∃ m, W 0 m (upd H1 D (.lst []))) ∧ ∀ i m H, W i m H →
      (((ItzB p q K a b).stop i H ∧ Qd H) ∨ ((ItzB p q K a b).go i H ∧ ∃ Nx : Hp → Prop, (∀ H', Nx H' → ∃ m', m' < m ∧ W (i + 1) m' H') ∧ ∀ x H', (ItzB p q K a b).yld i H x H' → g x (wipe σ vs) H' fun σ2 H2 => wipe σ2 vs = wipe σ vs ∧ tt σ2 H2 fun b H3 =>
        if b = true then te σ2 H3 fun y H4 => ∃ acc, H4 D = some (.lst acc) ∧ acc.length < sizeLine ∧ Nx (upd H4 D (.lst (acc ++ [y]))) else Nx H3)) := by
  refine ⟨fun i m H => m = xs.length - i ∧ i ≤ xs.length ∧ Pv i H, ⟨xs.length, by simp, Nat.zero_le _, h0⟩, ?_⟩
  rintro i m H ⟨rfl, hi, pv⟩
  obtain ⟨qx, qy⟩ := hq i H pv
  by_cases hlt : i < xs.length
  · have hx : xs[i]? = some xs[i] := List.getElem?_eq_getElem hlt
    have hlt2 : i < ys.length := by omega
    have hy : ys[i]? = some ys[i] := List.getElem?_eq_getElem hlt2
    refine .inr ⟨⟨xs, ys, xs[i], ys[i], qx, qy, hx, hy⟩, Pv (i + 1), fun H' p' => ⟨xs.length - (i + 1), by omega, rfl, hlt, p'⟩, fun v H' y => ?_⟩
    obtain ⟨T, x', y', e1, n, e2, h1, h2⟩ := y
    rw [e1, e2]
    exact hs i x' y' T H (h1 xs qx) (h2 ys qy) pv n
  · have e : i = xs.length := by omega
    subst e
    exact .inl ⟨⟨xs, ys, qx, qy, Nat.le_refl _, by omega, .inl rfl⟩, hd H pv⟩
/-- a loop over zip of two rows alike in length -/
theorem for_zipB {p q : Bool} {K : PySem.W.Frag} {a b : Addr} {xs ys : List V} {g : TG} {tb : TS} {D : Ends} {σ : L2.St} {H : Hp} (hl : xs.length = ys.length) (Pv : Nat → L2.St → Hp → Prop) (h0 : Pv 0 σ H) (hq : ∀ i σ H, Pv i σ H → SqB p K H a xs ∧ SqB q K H b ys)
    (hs : ∀ (i : Nat) (x y : V) (T : Addr) (σ : L2.St) (H : Hp), xs[i]? = some x → ys[i]? = some y → Pv i σ H → H T = none → g (.ref T) σ (upd H T (.tup [x, y])) fun σ2 H2 => tb { D with nx := Pv (i + 1), ct := Pv (i + 1), bk := D.nx } σ2 H2) (hd : ∀ σ H, Pv xs.length σ H → D.nx σ H) :
    ∃ W : Nat → Nat → L2.St → Hp → Prop, (∃ m, W 0 m σ H) ∧ ∀ i m σ H, W i m σ H →
      ((ItzB p q K a b).stop i H ∧ D.nx σ H) ∨ ((ItzB p q K a b).go i H ∧ ∃ N : L2.St → Hp → Prop, (∀ σ' H', N σ' H' → ∃ m', m' < m ∧ W (i + 1) m' σ' H') ∧ ∀ v H', (ItzB p q K a b).yld i H v H' → g v σ H' fun σ2 H2 => tb { D with nx := N, ct := N, bk := D.nx } σ2 H2) := by
  refine ⟨fun i m σ H => m = xs.length - i ∧ i ≤ xs.length ∧ Pv i σ H, ⟨xs.length, rfl, Nat.zero_le _, h0⟩, ?_⟩
  rintro i m σ H ⟨rfl, hi, pv⟩
  obtain ⟨qx, qy⟩ := hq i σ H pv
  by_cases hlt : i < xs.length
  · have hx : xs[i]? = some xs[i] := List.getElem?_eq_getElem hlt
    have hlt2 : i < ys.length := by omega
    have hy : ys[i]? = some ys[i] := List.getElem?_eq_getElem hlt2
    refine .inr ⟨⟨xs, ys, _, _, qx, qy, hx, hy⟩, Pv (i + 1), fun σ' H' p' => ⟨xs.length - (i + 1), by omega, rfl, hlt, p'⟩, fun v H' y => ?_⟩
    obtain ⟨T, x', y', rfl, hT, rfl, f1, f2⟩ := y
    exact hs i x' y' T σ H (f1 xs qx) (f2 ys qy) pv hT
  · have e : i = xs.length := by omega
    subst e
    exact .inl ⟨⟨xs, ys, qx, qy, Nat.le_refl _, by omega, .inl rfl⟩, hd σ H pv⟩
/-! ### enumerate -/
def IteB (p : Bool) (K : PySem.W.Frag) (a : Addr) : It :=
  ⟨fun i H => ∃ (xs : List V) (x : V), SqB p K H a xs ∧ xs[i]? = some x, fun i H v H' => ∃ T x, v = .ref T ∧ H T = none ∧ H' = upd H T (.tup [.int (i : Nat), x]) ∧ ∀ xs, SqB p K H a xs → xs[i]? = some x, fun i H => ∃ xs : List V, SqB p K H a xs ∧ xs.length = i⟩
theorem turn_enumB {P : Program} {w : World} {K : PySem.W.Frag} {elts : List Expr} {kk : Nat} {tpos : Pos} (p : Bool) (a e it : Addr) (hae : a ≠ e) (hai : a ≠ it) :
    Turn P w K (.Tuple elts kk tpos) (IteB p K a) [e, it] e (fun i h => (∃ old, IsEnum h e it ((i : Nat) : Int) old) ∧ ItB p h it a i ∧ e ≠ it) where
  mem := by simp
  obj := fun i h st b hb => by
    obtain ⟨⟨old, he⟩, h1, _⟩ := st
    have e' : b = e ∨ b = it := by simpa using hb
    rcases e' with z | z
    · rw [z]; exact ⟨_, he, fun v q => nomatch q⟩
    · rw [z]; exact h1.obj
  keep := fun i h h' st k => let ⟨⟨old, he⟩, hi, hne⟩ := st; ⟨⟨old, k e (by simp) _ he⟩, hi.at fun o q => k it (by simp) o q, hne⟩
  item := by
    intro X hP hw hK hc i pins s σ H E I hf st hg
    subst hP hw hK
    obtain ⟨⟨old, he⟩, hit, hne⟩ := st
    obtain ⟨xs, x, hq, hx⟩ := hg
    obtain ⟨its, rv, p1⟩ := seqB I hq
    obtain ⟨u, hu, ru⟩ := rv.get hx
    have hel : e < s.heap.objs.size := Heap.lt_size he
    have hil : it < s.heap.objs.size := by obtain ⟨_, q, _⟩ := hit.obj; exact Heap.lt_size q
    have hh : X.A.in1.handled = none := I.ok.hd hc
    have l1 : i < its.toArray.size := by
      have := (List.getElem?_eq_some_iff.mp hu).1
      simpa using this
    refine wpAny_pyNext_enum_itemD (drawsB p hh it a hai its.toArray) he ⟨hit, p1⟩ l1 hne (by simp [hne, hae.symm]) fun u' h' tk e1 ho hit' hT hsz hk => ?_
    have eu : u' = u := by
      rw [List.getElem?_toArray, hu] at e1
      exact (Option.some.inj e1).symm
    subst eu
    refine ⟨_, rfl, wpAny_letOwnedTupleGo_enum (s := { s with heap := h', toks := tk + 1 }) ho fun h'' he' sb => ?_⟩
    have hT2 : h''.get? s.heap.objs.size = some { cls := .type "tuple", data := .seq #[.int i tk, u'] } := (sb.2 _ (Nat.ne_of_gt hel)).trans hT
    have new : ObjOk X.prog X.w (upd H s.heap.objs.size (.tup [.int (i : Nat), x])) h'' s.heap.objs.size (.tup [.int (i : Nat), x]) :=
      ⟨by show 2 ≤ sizeLine; decide, [.int i tk, u'], .cons ⟨_, rfl⟩ (.cons ru .nil), ⟨_, hT2, rfl, _, rfl⟩⟩
    have I1 : Inv X pins σ (upd H s.heap.objs.size (.tup [.int (i : Nat), x])) { s with heap := h'', toks := tk + 1 } :=
      I.turnedNew (ch := [e, it]) (fun b ob hb q => (sb.2 b (fun z => hb (by simp [z]))).trans (hk b ob (fun z => hb (by simp [z])) (fun z => hb (by simp [z])) q)) hf (Nat.le_refl _) new
    refine ⟨.ref s.heap.objs.size, _, I1, rfl, ⟨_, x, rfl, I.hok.fresh (Nat.le_refl _), rfl, fun ys hy => by rw [seqB_inj I hy hq]; exact hx⟩, ⟨⟨u', ?_⟩, hit'.1.at fun o q => (sb.2 it (Ne.symm hne)).trans q, hne⟩, fun b hb => ?_⟩
    · have e1 : ((i + 1 : Nat) : Int) = (i : Int) + 1 := by omega
      rw [e1]; exact he'
    · have hb' : b < s.heap.objs.size := by
        have e' : b = e ∨ b = it := by simpa using hb
        rcases e' with z | z
        · rw [z]; exact hel
        · rw [z]; exact hil
      rw [upd_ne (Nat.ne_of_lt hb')]
      exact (hf b hb).1
  done := by
    intro X hP hw hK hc i pins s σ H E I hf st hg
    subst hP hw hK
    obtain ⟨⟨old, he⟩, hit, hne⟩ := st
    obtain ⟨xs, hq, hx⟩ := hg
    obtain ⟨its, rv, p1⟩ := seqB I hq
    obtain ⟨f0, f1, f2, f3, f4, f5⟩ := hf it (by simp)
    have hl := rv.length
    have hh : X.A.in1.handled = none := I.ok.hd hc
    have s1 : its.toArray.size = i := by simp; omega
    refine wpAny_pyNext_enum_endD (drawsB p hh it a hai its.toArray) he (by rw [s1]; exact ⟨hit, p1⟩) fun h' eb => ⟨rfl, I.turned (t' := s.toks) (fun b o hb q => eb b o hb q) f0 f1 f3 f4 f5⟩
  self := fun A i s Q E st h => let ⟨⟨_, he⟩, _⟩ := st; wpAny_pyIter_enum he h
theorem meets_enumerate_newB1 {v : Value} {o : Obj} {H : Heap → Prop} (B : Begins v o H) :
    Meets (Builtin.«enumerate.__new__» ⟨[.type "enumerate", v], []⟩) (fun _ R s => H s.heap ∧
      R (.ok (.ret (.ref (s.heap.push o).objs.size))) { s with heap := (s.heap.push o).push { cls := .type "enumerate", data := .fields #[.none, .bool false, .ref s.heap.objs.size, rawInt 0, .none, .none] } }) :=
  .of_wp fun prog w A R s h => by
    obtain ⟨hp, g, d, tk, os⟩ := s; obtain ⟨h1, h⟩ := h
    have hsub := sub_enumerate
    have q1 : ∀ {A' : Around} {E : Value → Shared → Prop} {Q : Value → Shared → Prop}, Q (.ref hp.objs.size) ⟨hp.push o, g, d, tk, os⟩ → wpAny (model prog w) A' (pyIter v) Q E ⟨hp, g, d, tk, os⟩ :=
      fun q => B.iter prog w _ _ ⟨hp, g, d, tk, os⟩ _ h1 q
    wp_walk using q1
    first
      | exact ⟨_, rfl, h⟩
      | (refine wpAny_stack_any fun st => wpAny_pure ?_
         split
         · rename_i c _ _ _ _ _
           cases (c == Value.type "enumerate")
           · wp_walk using q1
             exact ⟨_, rfl, h⟩
           · wp_walk using q1
             exact ⟨_, rfl, h⟩
         · wp_walk using q1
           exact ⟨_, rfl, h⟩)
section
variable {prog : Program} {w : World} {A : Around} {E : Value → Shared → Prop} {s : Shared}
theorem enum_begins1 {v : Value} {o : Obj} {H : Heap → Prop} {Q : Value → Shared → Prop} (B : Begins v o H) (h1 : H s.heap)
    (h : ∀ h', IsEnum h' (s.heap.objs.size + 1) s.heap.objs.size 0 .none → h'.get? s.heap.objs.size = some o → h'.objs.size = s.heap.objs.size + 2 →
      (∀ b o, s.heap.get? b = some o → h'.get? b = some o) → Q (.ref (s.heap.objs.size + 1)) { s with heap := h' }) :
    wpAny (model prog w) A (call (.type "enumerate") [v]) Q E s := by
  refine callType_new F.called_enumerate (by decide) (F.typeCall_enumerate_1 _) (F.newCall_enumerate_1 _) (fun obj => F.args_object_init_2 obj _) F.entry_enumerate_new
    (meets_enumerate_newB1 B) ⟨h1, ?_⟩
  have hz : (s.heap.push o).objs.size = s.heap.objs.size + 1 := Heap.size_push ..
  show _ ∧ _
  rw [hz]
  have he : IsEnum ((s.heap.push o).push { cls := .type "enumerate", data := .fields #[.none, .bool false, .ref s.heap.objs.size, rawInt 0, .none, .none] }) (s.heap.objs.size + 1) s.heap.objs.size 0 .none := by
    have := Heap.get?_push_size (s.heap.push o) (o := { cls := .type "enumerate", data := .fields #[.none, .bool false, .ref s.heap.objs.size, rawInt 0, .none, .none] }) rfl
    rw [hz] at this; exact this
  refine ⟨⟨_, he, rfl⟩, h _ he (Heap.get?_push_of_some _ (Heap.get?_push_size _ B.free)) (by rw [Heap.size_push, hz]) fun b o x => Heap.get?_push_of_some _ (Heap.get?_push_of_some _ x)⟩
end
def iEnumB (K : PySem.W.Frag) (ta : TA) : TI := fun σ H R => ta σ H fun vs H1 => ∃ p a xs, vs = [.ref a] ∧ SqB p K H1 a xs ∧ R (IteB p K a) H1
theorem pi_enumB {X : Cx} {e : Expr} {ta : TA} {p pos tpos : Pos} {elts : List Expr} {kk : Nat} (hg : Gl X "enumerate") (hm : X.mg "enumerate" = none) (ha : PA X [e] ta) (hs : starEach [e] X.env = [(false, eval e X.env)] := by rfl) :
    PI X (.Tuple elts kk tpos) (.Call (.Name "enumerate" p) [e] [] pos) (iEnumB X.K ta) := by
  refine ⟨fun pins s σ H R I h => ?_⟩
  refine Call_ (ld_blt I hg hm boot_enumerate (PyProof.Rows.callWith_type1 (thn (ha.run pos pins s σ H _ I h) fun us s1 ⟨vs, H1, I1, r1, q1⟩ => ?_) hs rfl))
  obtain ⟨p, a, xs, ex, hq, q⟩ := q1
  subst ex
  cases r1 with
  | cons r rr =>
    cases rr
    cases r
    obtain ⟨its, rv, p1⟩ := seqB I1 hq
    have al := p1.lt
    refine enum_begins1 (beginsB p a its.toArray) p1 fun h' he hit hsz hk => wpAny_pyIter_enum he ?_
    have I2 : Inv X pins σ H1 { s1 with heap := h' } := I1.kept (t' := s1.toks) hk
    refine ⟨s1.heap.objs.size + 1, [s1.heap.objs.size + 1, s1.heap.objs.size], _, _, H1, rfl, I2, turn_enumB p a (s1.heap.objs.size + 1) s1.heap.objs.size (Nat.ne_of_lt (Nat.lt_of_lt_of_le al (Nat.le_add_right _ _))) (Nat.ne_of_lt al), ⟨⟨.none, he⟩, itB_of hit, Nat.succ_ne_self _⟩, fun b hb => ?_, q⟩
    have e' : b = s1.heap.objs.size + 1 ∨ b = s1.heap.objs.size := by simpa using hb
    have hle : s1.heap.objs.size ≤ b := by
      rcases e' with z | z
      · rw [z]; exact Nat.le_add_right _ _
      · rw [z]; exact Nat.le_refl _
    exact I1.fpOk hle (I1.hok.fresh hle)
/-- a comprehension over enumerate of a row -/
theorem lc_enumB {p : Bool} {K : PySem.W.Frag} {a : Addr} {xs : List V} {g : TG} {tt : TT} {te : TE} {vs : List Nat} {σ : L2.St} {H1 : Hp} {D : Addr} {Qd : Hp → Prop} (Pv : Nat → Hp → Prop) (h0 : Pv 0 (upd H1 D (.lst [])))
    (hq : ∀ i H, Pv i H → SqB p K H a xs)
    (hs : ∀ (i : Nat) (x : V) (T : Addr) (H : Hp), xs[i]? = some x → Pv i H → H T = none → g (.ref T) (wipe σ vs) (upd H T (.tup [.int (i : Nat), x])) fun σ2 H2 => wipe σ2 vs = wipe σ vs ∧ tt σ2 H2 fun b H3 =>
      if b = true then te σ2 H3 fun y H4 => ∃ acc, H4 D = some (.lst acc) ∧ acc.length < sizeLine ∧ Pv (i + 1) (upd H4 D (.lst (acc ++ [y]))) else Pv (i + 1) H3) (hd : ∀ H, Pv xs.length H → Qd H) :
    ∃ W : Nat → Nat → Hp → Prop, (∃ m, W 0 m (upd H1 D (.lst []))) ∧ ∀ i m H, W i m H →
      (((IteB p K a).stop i H ∧ Qd H) ∨ ((IteB p K a).go i H ∧ ∃ Nx : Hp → Prop, (∀ H', Nx H' → ∃ m', m' < m ∧ W (i + 1) m' H') ∧ ∀ x H', (IteB p K a).yld i H x H' → g x (wipe σ vs) H' fun σ2 H2 => wipe σ2 vs = wipe σ vs ∧ tt σ2 H2 fun b H3 =>
        if b = true then te σ2 H3 fun y H4 => ∃ acc, H4 D = some (.lst acc) ∧ acc.length < sizeLine ∧ Nx (upd H4 D (.lst (acc ++ [y]))) else Nx H3)) := by
  refine ⟨fun i m H => m = xs.length - i ∧ i ≤ xs.length ∧ Pv i H, ⟨xs.length, by simp, Nat.zero_le _, h0⟩, ?_⟩
  rintro i m H ⟨rfl, hi, pv⟩
  have qx := hq i H pv
  by_cases hlt : i < xs.length
  · have hx : xs[i]? = some xs[i] := List.getElem?_eq_getElem hlt
    refine .inr ⟨⟨xs, xs[i], qx, hx⟩, Pv (i + 1), fun H' p' => ⟨xs.length - (i + 1), by omega, rfl, hlt, p'⟩, fun v H' y => ?_⟩
    obtain ⟨T, x', e1, n, e2, h1⟩ := y
    rw [e1, e2]
    exact hs i x' T H (h1 xs qx) pv n
  · have e : i = xs.length := by omega
    subst e
    exact .inl ⟨⟨xs, qx, rfl⟩, hd H pv⟩
end Vf

set_option maxRecDepth 100000
set_option maxHeartbeats 4000000
/-! slices of lists and tuples alike; zip of rows of any lengths, of three rows -/
namespace Vf
open PySem PySem.Spec PyProof.Rows L2
def rSlQ (K : PySem.W.Frag) : V → Option Int → Option Int → Hp → VK → Prop := fun x lo hi H Q => ∃ p a xs, x = .ref a ∧ SqB p K H a xs ∧ ∀ b H', Same H H' → SqB p K H' b (cutV xs lo hi) → Q (.ref b) H'
theorem same_new {H : Hp} {p : Addr} {o : HO} (n : H p = none) : Same H (upd H p o) := fun b u e => by rw [upd_ne (ne_of_none e n)]; exact e
theorem sl_seq {X : Cx} : SlR X (rSlQ X.K) := by
  intro pins s σ H x v vl vu lo hi sl Q I rx hs pl pu h
  obtain ⟨p, a, xs, rfl, hq, q⟩ := h
  cases p with
  | false =>
    refine sl_tupA pins s σ H _ v vl vu lo hi sl Q I rx hs pl pu ⟨a, xs, rfl, hq, fun hw => ?_, fun _ t nt => q t _ (same_new nt) (.inl (.inl upd_same))⟩
    refine q a H (Same.refl _) ?_
    have e : cutV xs lo hi = xs := by
      unfold cutV
      rw [hw.1, hw.2, Nat.sub_zero, List.drop_zero, List.take_length]
    rw [e]
    exact hq
  | true => exact sl_list pins s σ H _ v vl vu lo hi sl Q I rx hs pl pu ⟨a, xs, rfl, hq, fun t nt => q t _ (same_new nt) (.inl (.inl upd_same))⟩
/-- a comprehension over zip of two rows of any lengths -/
theorem lc_zipM {p q : Bool} {K : PySem.W.Frag} {a b : Addr} {xs ys : List V} {g : TG} {tt : TT} {te : TE} {vs : List Nat} {σ : L2.St} {H1 : Hp} {D : Addr} {Qd : Hp → Prop} (n : Nat) (hn : n = min xs.length ys.length) (Pv : Nat → Hp → Prop) (h0 : Pv 0 (upd H1 D (.lst [])))
    (hq : ∀ i H, Pv i H → SqB p K H a xs ∧ SqB q K H b ys)
    (hs : ∀ (i : Nat) (x y : V) (T : Addr) (H : Hp), i < n → xs[i]? = some x → ys[i]? = some y → Pv i H → H T = none → g (.ref T) (wipe σ vs) (upd H T (.tup [x, y])) fun σ2 H2 => wipe σ2 vs = wipe σ vs ∧ tt σ2 H2 fun b H3 =>
      if b = true then te σ2 H3 fun y H4 => ∃ acc, H4 D = some (.lst acc) ∧ acc.length < sizeLine ∧ Pv (i + 1) (upd H4 D (.lst (acc ++ [y]))) else Pv (i + 1) H3) (hd : ∀ H, Pv n H → Qd H) :
    ∃ W : Nat → Nat → Hp → Prop, (∃ m, W 0 m (upd H1 D (.lst []))) ∧ ∀ i m H, W i m H →
      (((ItzB p q K a b).stop i H ∧ Qd H) ∨ ((ItzB p q K a b).go i H ∧ ∃ Nx : Hp → Prop, (∀ H', Nx H' → ∃ m', m' < m ∧ W (i + 1) m' H') ∧ ∀ x H', (ItzB p q K a b).yld i H x H' → g x (wipe σ vs) H' fun σ2 H2 => wipe σ2 vs = wipe σ vs ∧ tt σ2 H2 fun b H3 =>
        if b = true then te σ2 H3 fun y H4 => ∃ acc, H4 D = some (.lst acc) ∧ acc.length < sizeLine ∧ Nx (upd H4 D (.lst (acc ++ [y]))) else Nx H3)) := by
  refine ⟨fun i m H => m = n - i ∧ i ≤ n ∧ Pv i H, ⟨n, by simp, Nat.zero_le _, h0⟩, ?_⟩
  rintro i m H ⟨rfl, hi, pv⟩
  obtain ⟨qx, qy⟩ := hq i H pv
  by_cases hlt : i < n
  · have h1 : i < xs.length := by omega
    have h2 : i < ys.length := by omega
    have hx : xs[i]? = some xs[i] := List.getElem?_eq_getElem h1
    have hy : ys[i]? = some ys[i] := List.getElem?_eq_getElem h2
    refine .inr ⟨⟨xs, ys, xs[i], ys[i], qx, qy, hx, hy⟩, Pv (i + 1), fun H' p' => ⟨n - (i + 1), by omega, rfl, hlt, p'⟩, fun v H' y => ?_⟩
    obtain ⟨T, x', y', e1, m, e2, h1, h2⟩ := y
    rw [e1, e2]
    exact hs i x' y' T H hlt (h1 xs qx) (h2 ys qy) pv m
  · have e : i = n := by omega
    subst e
    exact .inl ⟨⟨xs, ys, qx, qy, by omega, by omega, by omega⟩, hd H pv⟩
/-! ### three rows -/
def Itz3 (p q r : Bool) (K : PySem.W.Frag) (a b c : Addr) : It :=
  ⟨fun i H => ∃ (xs ys ws : List V) (x y w : V), SqB p K H a xs ∧ SqB q K H b ys ∧ SqB r K H c ws ∧ xs[i]? = some x ∧ ys[i]? = some y ∧ ws[i]? = some w,
    fun i H v H' => ∃ T x y w, v = .ref T ∧ H T = none ∧ H' = upd H T (.tup [x, y, w]) ∧ (∀ xs, SqB p K H a xs → xs[i]? = some x) ∧ (∀ ys, SqB q K H b ys → ys[i]? = some y) ∧ ∀ ws, SqB r K H c ws → ws[i]? = some w,
    fun i H => ∃ xs ys ws : List V, SqB p K H a xs ∧ SqB q K H b ys ∧ SqB r K H c ws ∧ i ≤ xs.length ∧ i ≤ ys.length ∧ i ≤ ws.length ∧ (xs.length = i ∨ ys.length = i ∨ ws.length = i)⟩
/-- the cells of a zip of three, the first one at n, over rows that stood before -/
theorem sep3 {n a b c : Addr} (ha : a < n) (hb : b < n) (hc : c < n) : ZipSep3 (n + 5) (n + 3) (n + 4) n (n + 1) (n + 2) [n, a] [n + 1, b] [n + 2, c] := by
  have up : ∀ {x : Addr} (k : Nat), x < n → n + k ≠ x := fun {x} k h => Nat.ne_of_gt (Nat.lt_of_lt_of_le h (Nat.le_add_right n k))
  have d : ∀ {i j : Nat}, i < j → n + i ≠ n + j := fun {i j} h => Nat.ne_of_lt (Nat.add_lt_add_left h n)
  have z : ∀ {j : Nat}, 0 < j → n + j ≠ n := fun {j} h => Nat.ne_of_gt (Nat.lt_add_of_pos_right h)
  have no : ∀ {x y w : Addr}, x ≠ y → x ≠ w → x ∉ [y, w] := fun {x y w} h1 h2 h => by
    rcases List.mem_cons.mp h with h | h
    · exact h1 h
    · exact h2 (List.mem_singleton.mp h)
  exact {
    TIz := d (by decide)
    TOz := d (by decide)
    TITO := d (by decide)
    TIi1 := z (by decide)
    mem1 := List.mem_cons_self ..
    zf1 := no (z (by decide)) (up 5 ha)
    Tf1 := no (z (by decide)) (up 4 ha)
    TIi2 := (d (by decide)).symm
    mem2 := List.mem_cons_self ..
    zf2 := no (d (by decide)).symm (up 5 hb)
    Tf2 := no (d (by decide)).symm (up 4 hb)
    TIi3 := (d (by decide)).symm
    mem3 := List.mem_cons_self ..
    zf3 := no (d (by decide)).symm (up 5 hc)
    Tf3 := no (d (by decide)).symm (up 4 hc)
    sep1_2 := no (z (by decide)).symm (Nat.ne_of_gt hb)
    sep1_3 := no (z (by decide)).symm (Nat.ne_of_gt hc)
    sep2_1 := no (z (by decide)) (up 1 ha)
    sep2_3 := no (d (by decide)) (up 1 hc)
    sep3_1 := no (z (by decide)) (up 2 ha)
    sep3_2 := no (d (by decide)).symm (up 2 hb) }
theorem turn_zip3 {P : Program} {w : World} {K : PySem.W.Frag} {elts : List Expr} {kk : Nat} {tpos : Pos} (p q r : Bool) {n a b c : Addr} (ha : a < n) (hb : b < n) (hc : c < n) :
    Turn P w K (.Tuple elts kk tpos) (Itz3 p q r K a b c) [n + 5, n + 3, n + 4, n, n + 1, n + 2] (n + 5) (fun i h => IsZip h (n + 5) (n + 3) (n + 4) .none ∧ IsTupOf3 h (n + 3) (.ref n) (.ref (n + 1)) (.ref (n + 2)) ∧ (∃ x y z, IsTupOf3 h (n + 4) x y z) ∧ ItB p h n a i ∧ ItB q h (n + 1) b i ∧ ItB r h (n + 2) c i) where
  mem := by simp
  obj := fun i h st d hd => by
    obtain ⟨hz, hTI, ⟨x, y, z, hTO⟩, h1, h2, h3⟩ := st
    have e' : d = n + 5 ∨ d = n + 3 ∨ d = n + 4 ∨ d = n ∨ d = n + 1 ∨ d = n + 2 := by simpa using hd
    rcases e' with q | q | q | q | q | q
    · rw [q]; exact ⟨_, hz, fun v q => nomatch q⟩
    · rw [q]; exact ⟨_, hTI, fun v q => nomatch q⟩
    · rw [q]; exact ⟨_, hTO, fun v q => nomatch q⟩
    · rw [q]; exact h1.obj
    · rw [q]; exact h2.obj
    · rw [q]; exact h3.obj
  keep := fun i h h' st k => by
    obtain ⟨hz, hTI, ⟨x, y, z, hTO⟩, h1, h2, h3⟩ := st
    exact ⟨k _ (by simp) _ hz, k _ (by simp) _ hTI, ⟨x, y, z, k _ (by simp) _ hTO⟩, h1.at fun o q => k _ (by simp) o q, h2.at fun o q => k _ (by simp) o q, h3.at fun o q => k _ (by simp) o q⟩
  item := by
    intro X hP hw hK hcm i pins s σ H E I hf st hg
    subst hP hw hK
    obtain ⟨hz, hTI, ⟨x0, y0, z0, hTO⟩, h1, h2, h3⟩ := st
    obtain ⟨xs, ys, ws, x, y, w', hqx, hqy, hqw, hx, hy, hw'⟩ := hg
    obtain ⟨its, rv, p1⟩ := seqB I hqx
    obtain ⟨its2, rv2, p2⟩ := seqB I hqy
    obtain ⟨its3, rv3, p3⟩ := seqB I hqw
    obtain ⟨u, hu, ru⟩ := rv.get hx
    obtain ⟨u2, hu2, ru2⟩ := rv2.get hy
    obtain ⟨u3, hu3, ru3⟩ := rv3.get hw'
    have hzl : n + 5 < s.heap.objs.size := Heap.lt_size hz
    have hh : X.A.in1.handled = none := I.ok.hd hcm
    have lt : ∀ {l : List Value} {v : Value}, l[i]? = some v → i < l.toArray.size := fun h => by
      have := (List.getElem?_eq_some_iff.mp h).1
      simpa using this
    have na : a ≠ n := Nat.ne_of_lt ha
    have nb : b ≠ n + 1 := Nat.ne_of_lt (Nat.lt_succ_of_lt hb)
    have nc : c ≠ n + 2 := Nat.ne_of_lt (Nat.lt_of_lt_of_le hc (Nat.le_add_right _ _))
    refine wpAny_pyNext_zipD3_item (sep3 ha hb hc) (drawsB p hh n a na its.toArray) (drawsB q hh (n + 1) b nb its2.toArray) (drawsB r hh (n + 2) c nc its3.toArray) hz hTI hTO ⟨h1, p1⟩ ⟨h2, p2⟩ ⟨h3, p3⟩ (lt hu) (lt hu2) (lt hu3) fun u' u2' u3' h' tk e1 e2 e3 z' TO' h1' h2' h3' hT hsz hk => ?_
    have eu : u' = u := by
      rw [List.getElem?_toArray, hu] at e1
      exact (Option.some.inj e1).symm
    have eu2 : u2' = u2 := by
      rw [List.getElem?_toArray, hu2] at e2
      exact (Option.some.inj e2).symm
    have eu3 : u3' = u3 := by
      rw [List.getElem?_toArray, hu3] at e3
      exact (Option.some.inj e3).symm
    subst eu eu2 eu3
    refine ⟨_, rfl, wpAny_letOwnedTupleGo_zip (s := { s with heap := h', toks := tk }) z' fun h'' z'' sb => ?_⟩
    have hT2 : h''.get? s.heap.objs.size = some { cls := .type "tuple", data := .seq #[u', u2', u3'] } := (sb.2 _ (Nat.ne_of_gt hzl)).trans hT
    have new : ObjOk X.prog X.w (upd H s.heap.objs.size (.tup [x, y, w'])) h'' s.heap.objs.size (.tup [x, y, w']) :=
      ⟨by show 3 ≤ sizeLine; decide, [u', u2', u3'], .cons ru (.cons ru2 (.cons ru3 .nil)), ⟨_, hT2, rfl, _, rfl⟩⟩
    have I1 : Inv X pins σ (upd H s.heap.objs.size (.tup [x, y, w'])) { s with heap := h'', toks := tk } :=
      I.turnedNew (t' := tk) (ch := [n + 5, n + 3, n + 4, n, n + 1, n + 2]) (fun c o hb q => (sb.2 c (fun q' => hb (by simp [q']))).trans (hk c o (fun q' => hb (by simp [q'])) (fun q' => hb (by simp [q'])) (fun q' => hb (by simp [q'])) (fun q' => hb (by simp [q'])) (fun q' => hb (by simp [q'])) q)) hf (Nat.le_refl _) new
    have S := sep3 ha hb hc
    refine ⟨.ref s.heap.objs.size, _, I1, rfl, ⟨_, x, y, w', rfl, I.hok.fresh (Nat.le_refl _), rfl, fun l hl => by rw [seqB_inj I hl hqx]; exact hx, fun l hl => by rw [seqB_inj I hl hqy]; exact hy, fun l hl => by rw [seqB_inj I hl hqw]; exact hw'⟩, ⟨z'', ?_, ⟨u', u2', u3', ?_⟩, ?_, ?_, ?_⟩, fun d hcm => ?_⟩
    · exact (sb.2 _ S.TIz).trans (hk _ _ S.TIz S.TITO S.TIi1 S.TIi2 S.TIi3 hTI)
    · exact (sb.2 _ S.TOz).trans TO'
    · exact h1'.1.at fun o q => (sb.2 _ S.zi1.symm).trans q
    · exact h2'.1.at fun o q => (sb.2 _ S.zi2.symm).trans q
    · exact h3'.1.at fun o q => (sb.2 _ S.zi3.symm).trans q
    · have hlt : d < s.heap.objs.size := by
        have e' : d = n + 5 ∨ d = n + 3 ∨ d = n + 4 ∨ d = n ∨ d = n + 1 ∨ d = n + 2 := by simpa using hcm
        have lo : ∀ {k : Nat}, k ≤ 5 → n + k < s.heap.objs.size := fun {k} h => Nat.lt_of_le_of_lt (Nat.add_le_add_left h n) hzl
        rcases e' with q | q | q | q | q | q
        · rw [q]; exact hzl
        · rw [q]; exact lo (by decide)
        · rw [q]; exact lo (by decide)
        · rw [q]; exact Nat.lt_of_le_of_lt (Nat.le_add_right n 5) hzl
        · rw [q]; exact lo (by decide)
        · rw [q]; exact lo (by decide)
      rw [upd_ne (Nat.ne_of_lt hlt)]
      exact (hf d hcm).1
  done := by
    intro X hP hw hK hcm i pins s σ H E I hf st hg
    subst hP hw hK
    obtain ⟨hz, hTI, ⟨x0, y0, z0, hTO⟩, h1, h2, h3⟩ := st
    obtain ⟨xs, ys, ws, hqx, hqy, hqw, le1, le2, le3, hend⟩ := hg
    obtain ⟨its, rv, p1⟩ := seqB I hqx
    obtain ⟨its2, rv2, p2⟩ := seqB I hqy
    obtain ⟨its3, rv3, p3⟩ := seqB I hqw
    have l1 := rv.length
    have l2 := rv2.length
    have l3 := rv3.length
    have hh : X.A.in1.handled = none := I.ok.hd hcm
    have s1 : its.toArray.size = its.length := by simp
    have s2 : its2.toArray.size = its2.length := by simp
    have s3 : its3.toArray.size = its3.length := by simp
    have na : a ≠ n := Nat.ne_of_lt ha
    have nb : b ≠ n + 1 := Nat.ne_of_lt (Nat.lt_succ_of_lt hb)
    have nc : c ≠ n + 2 := Nat.ne_of_lt (Nat.lt_of_lt_of_le hc (Nat.le_add_right _ _))
    refine wpAny_pyNext_zipD3_end (sep3 ha hb hc) (drawsB p hh n a na its.toArray) (drawsB q hh (n + 1) b nb its2.toArray) (drawsB r hh (n + 2) c nc its3.toArray) hz hTI hTO ⟨h1, p1⟩ ⟨h2, p2⟩ ⟨h3, p3⟩ (by rw [s1]; omega) (by rw [s2]; omega) (by rw [s3]; omega) (by rw [s1, s2, s3]; omega) fun h' tk hk => ⟨rfl, I.turnedL (t' := tk) (ch := [n + 5, n + 3, n + 4, n, n + 1, n + 2]) (fun c o hb q =>
      hk c o (fun q' => hb (by simp [q'])) (fun q' => hb (by simp [q'])) (fun q' => hb (by simp [q'])) (fun q' => hb (by simp [q'])) (fun q' => hb (by simp [q'])) q) hf⟩
  self := fun A i s Q E st h => wpAny_pyIter_zip st.1 h
def iZip3 (K : PySem.W.Frag) (ta : TA) : TI := fun σ H R => ta σ H fun vs H1 => ∃ p q r a b c xs ys ws, vs = [.ref a, .ref b, .ref c] ∧ SqB p K H1 a xs ∧ SqB q K H1 b ys ∧ SqB r K H1 c ws ∧ R (Itz3 p q r K a b c) H1
theorem pi_zip3 {X : Cx} {e e2 e3 : Expr} {ta : TA} {p pos tpos : Pos} {elts : List Expr} {kk : Nat} (hg : Gl X "zip") (hm : X.mg "zip" = none) (ha : PA X [e, e2, e3] ta)
    (hs : starEach [e, e2, e3] X.env = (false, eval e X.env) :: starEach [e2, e3] X.env := by rfl) (hpl : (backTo pos (starEach [e2, e3] X.env)).any (·.1) = false := by rfl) :
    PI X (.Tuple elts kk tpos) (.Call (.Name "zip" p) [e, e2, e3] [] pos) (iZip3 X.K ta) := by
  refine ⟨fun pins s σ H R I h => ?_⟩
  refine Call_ (ld_blt I hg hm PyProof.Rows.boot_zip (PyProof.Rows.callWith_type1 (thn (ha.run pos pins s σ H _ I h) fun us s1 ⟨vs, H1, I1, r1, q1⟩ => ?_) hs hpl))
  obtain ⟨p, q, r, a, b, c, xs, ys, ws, ex, hqx, hqy, hqw, g⟩ := q1
  subst ex
  cases r1 with
  | cons r1 rr =>
    cases rr with
    | cons r2 rr =>
      cases rr with
      | cons r3 rr =>
        cases rr
        cases r1
        cases r2
        cases r3
        have fresh : ∀ d, d ∈ [s1.heap.objs.size + 5, s1.heap.objs.size + 3, s1.heap.objs.size + 4, s1.heap.objs.size, s1.heap.objs.size + 1, s1.heap.objs.size + 2] → FpOk X pins H1 d := fun d hcm => by
          have e' : d = s1.heap.objs.size + 5 ∨ d = s1.heap.objs.size + 3 ∨ d = s1.heap.objs.size + 4 ∨ d = s1.heap.objs.size ∨ d = s1.heap.objs.size + 1 ∨ d = s1.heap.objs.size + 2 := by simpa using hcm
          have hle : s1.heap.objs.size ≤ d := by
            rcases e' with z | z | z | z | z | z
            · rw [z]; exact Nat.le_add_right _ _
            · rw [z]; exact Nat.le_add_right _ _
            · rw [z]; exact Nat.le_add_right _ _
            · rw [z]; exact Nat.le_refl _
            · rw [z]; exact Nat.le_add_right _ _
            · rw [z]; exact Nat.le_add_right _ _
          exact I1.fpOk hle (I1.hok.fresh hle)
        obtain ⟨its, rv, p1⟩ := seqB I1 hqx
        obtain ⟨its2, rv2, p2⟩ := seqB I1 hqy
        obtain ⟨its3, rv3, p3⟩ := seqB I1 hqw
        refine zip_begins3 (beginsB p a its.toArray) (beginsB q b its2.toArray) (beginsB r c its3.toArray) p1 p2 p3 fun h' hz hTI hTO h1 h2 h3 hsz hk => wpAny_pyIter_zip hz ?_
        have I2 : Inv X pins σ H1 { s1 with heap := h' } := I1.kept (t' := s1.toks) hk
        exact ⟨s1.heap.objs.size + 5, [s1.heap.objs.size + 5, s1.heap.objs.size + 3, s1.heap.objs.size + 4, s1.heap.objs.size, s1.heap.objs.size + 1, s1.heap.objs.size + 2], _, _, H1, rfl, I2, turn_zip3 p q r p1.lt p2.lt p3.lt, ⟨hz, hTI, ⟨_, _, _, hTO⟩, itB_of h1, itB_of h2, itB_of h3⟩, fresh, g⟩
/-- a loop over zip of three rows alike in length -/
theorem for_zip3 {p q r : Bool} {K : PySem.W.Frag} {a b c : Addr} {xs ys ws : List V} {g : TG} {tb : TS} {D : Ends} {σ : L2.St} {H : Hp} (hl : xs.length = ys.length) (hl2 : xs.length = ws.length) (Pv : Nat → L2.St → Hp → Prop) (h0 : Pv 0 σ H) (hq : ∀ i σ H, Pv i σ H → SqB p K H a xs ∧ SqB q K H b ys ∧ SqB r K H c ws)
    (hs : ∀ (i : Nat) (x y w : V) (T : Addr) (σ : L2.St) (H : Hp), xs[i]? = some x → ys[i]? = some y → ws[i]? = some w → Pv i σ H → H T = none → g (.ref T) σ (upd H T (.tup [x, y, w])) fun σ2 H2 => tb { D with nx := Pv (i + 1), ct := Pv (i + 1), bk := D.nx } σ2 H2) (hd : ∀ σ H, Pv xs.length σ H → D.nx σ H) :
    ∃ W : Nat → Nat → L2.St → Hp → Prop, (∃ m, W 0 m σ H) ∧ ∀ i m σ H, W i m σ H →
      ((Itz3 p q r K a b c).stop i H ∧ D.nx σ H) ∨ ((Itz3 p q r K a b c).go i H ∧ ∃ N : L2.St → Hp → Prop, (∀ σ' H', N σ' H' → ∃ m', m' < m ∧ W (i + 1) m' σ' H') ∧ ∀ v H', (Itz3 p q r K a b c).yld i H v H' → g v σ H' fun σ2 H2 => tb { D with nx := N, ct := N, bk := D.nx } σ2 H2) := by
  refine ⟨fun i m σ H => m = xs.length - i ∧ i ≤ xs.length ∧ Pv i σ H, ⟨xs.length, rfl, Nat.zero_le _, h0⟩, ?_⟩
  rintro i m σ H ⟨rfl, hi, pv⟩
  obtain ⟨qx, qy, qw⟩ := hq i σ H pv
  by_cases hlt : i < xs.length
  · have hx : xs[i]? = some xs[i] := List.getElem?_eq_getElem hlt
    have hy : ys[i]? = some (ys[i]'(by omega)) := List.getElem?_eq_getElem (by omega)
    have hw : ws[i]? = some (ws[i]'(by omega)) := List.getElem?_eq_getElem (by omega)
    refine .inr ⟨⟨xs, ys, ws, _, _, _, qx, qy, qw, hx, hy, hw⟩, Pv (i + 1), fun σ' H' p' => ⟨xs.length - (i + 1), by omega, rfl, hlt, p'⟩, fun v H' y => ?_⟩
    obtain ⟨T, x', y', w', rfl, hT, rfl, f1, f2, f3⟩ := y
    exact hs i x' y' w' T σ H (f1 xs qx) (f2 ys qy) (f3 ws qw) pv hT
  · have e : i = xs.length := by omega
    subst e
    exact .inl ⟨⟨xs, ys, ws, qx, qy, qw, Nat.le_refl _, by omega, by omega, .inl rfl⟩, hd σ H pv⟩
end Vf

set_option maxRecDepth 100000
set_option maxHeartbeats 4000000
/-! a tuple once or more often -/
namespace Vf
open PySem PySem.Spec PyProof.Rows L2
theorem tuple_mul1 (l : Addr) (items : Array Value) (n : Nat) (sl : Array (Option Value)) (dd : Option Addr) (u : Tok) :
    Meets (Builtin.«tuple.__mul__» ⟨[.ref l, .int 1 u], []⟩) (fun _ R s => s.heap.get? l = some { cls := .type "tuple", dict := dd, data := .seq items n, slots := sl } ∧
      R (.ok (.ret (Value.ref l))) s) :=
  .of_wp fun prog w A R s h => by
    obtain ⟨hp, g, d, tk, os⟩ := s
    obtain ⟨hl, h⟩ := h
    have f1 := AutoSeq1.idx_int
    have c1 : (items.isEmpty || (1 : Int) == 1) = true := by
      rw [beq_self_eq_true, Bool.or_true]
    wp_walk using wpAny_loadPart' hl
    repeat (first
      | (refine wpAny_ite_true (decide_eq_true (by rw [c1])) ?_; wp_walk using wpAny_loadPart' hl))
    exact ⟨_, rfl, h⟩
/-- t * k, k from 1 on -/
def rRepA (K : PySem.W.Frag) : R2 := fun x y H Q => ∃ l k xs, x = .ref l ∧ y = .int k ∧ SqT K H l xs ∧ xs ≠ [] ∧ 1 ≤ k ∧ k ≤ 1000 ∧ xs.length ≤ 1000 ∧ ∀ p H', Same H H' → SqT K H' p (List.replicate k.toNat xs).flatten → Q (.ref p) H'
section
variable {X : Cx}
theorem op_repA : OpR X (binaryOp .Mult) (rRepA X.K) := by
  intro pins s σ H x y v u Q I rx ry h
  obtain ⟨l, k, xs, rfl, rfl, hT, hne, h1, h2, hz, q⟩ := h
  by_cases hk : k = 1
  · subst hk
    cases rx
    obtain ⟨t, rfl⟩ := ry
    obtain ⟨its, r, ⟨⟨cls, dd, data, sl⟩, ho, hc, n, hd⟩, hs⟩ := I.tuple hT
    simp only at hc hd
    subst hc hd
    refine wpAny_binaryOp_repeat_ref (T := "tuple") (U := "int") (by decide) ⟨_, ho, rfl⟩ (fun s' => typeIs_int s' 1 t) noFill_tuple_mul F.fills_int_mul F.slot_int_rmul repeat_tuple F.slot_int_index.lookup
      (call_meets F.slot_int_rmul (typeIs_int s 1 t) F.entry_int_rmul (F.args_int_rmul_2 _ _) (int_rmul_tuple 1 t l its.toArray n dd sl)
        ⟨ho, rfl, ⟨_, ho, rfl⟩, call_meets F.slot_tuple_mul ⟨_, ho, rfl⟩ F.entry_tuple_mul (F.args_tuple_mul_2 _ _) (tuple_mul1 l its.toArray n sl dd t) ⟨ho, ?_⟩⟩)
    exact ⟨.ref l, H, I, rfl, q l H (Same.refl _) (by simpa using hT)⟩
  · exact op_repT pins s σ H _ _ v u Q I rx ry ⟨l, k, xs, rfl, rfl, hT, hne, by omega, h2, hz, fun p np => q p _ (fun b u e => by rw [upd_ne (ne_of_none e np)]; exact e) (.inl (.inl upd_same))⟩
end
end Vf

set_option maxRecDepth 100000
set_option maxHeartbeats 4000000
/-! a try whose first clauses, named, are looked at; clauses behind them are never come to -/
namespace Vf
open PySem PySem.Spec PyProof.Rows L2
inductive Some1 (X : Cx) (i : Nat) : List ExceptHandler → List (Value × (Addr → Value → Option Addr → TS)) → Prop
  | any (hds : List ExceptHandler) : Some1 X i hds []
  | cons {x n : Str} {c : Value} {ts : Addr → Value → Option Addr → TS} {b : Stmt} {bs : List Stmt} {p q : Pos} {hds : List ExceptHandler} {l : List (Value × (Addr → Value → Option Addr → TS))} (nm : Names X x c) (at_ : X.N[i]? = some n) (lo : X.env.kindOf n = some .local)
      (su : ∀ (a : Addr) (oe : Obj) (cls : Value) (d : Option Addr) (pn : List (Addr × Obj)), Zc cls d oe → (∃ vs, oe.data = .fields vs) → PSs (X.suite a ((a, oe) :: pn)) (b :: bs) (ts a cls d)) (t : Some1 X i hds l) :
      Some1 X i (.ExceptHandler (some (.Name x p)) (some n) (b :: bs) q :: hds) ((c, ts) :: l)
section
variable {X : Cx} {i : Nat} {body : List Stmt} {h1 : ExceptHandler} {hs : List ExceptHandler} {l : List (Value × (Addr → Value → Option Addr → TS))} {pos : Pos} {tb : WX → TS} {Wo : WX}
theorem ps_try_some (st : X.stack = X.env :: X.outer) (fr : X.env.frame = some X.env.locals) (nd : X.N.Nodup)
    (bd : ∀ (W : WX) (pn : List (Addr × Obj)) (xe : Value → Shared → Prop), Takes (X.tr pn xe) W → PassesOwn (model X.prog X.w) X.A X.env xe → PSs (X.tr pn xe) body (tb W)) (hd : Some1 X i (h1 :: hs) l) :
    PS X (.Try body (h1 :: hs) [] [] pos) (fun D σ H => tb (wEach X.K i (fun _ _ _ _ => False) D l) D σ H) := by
  refine ⟨fun pins s σ H D I h => wpAny_Try_except ?_⟩
  have ok := I.ok
  have A1 : X.A.frames = some (X.env :: X.outer) := ok.frames.trans (congrArg some st)
  have run := (bd (wEach X.K i (fun _ _ _ _ => False) D l) (X.pn ++ pins) (fun e s1 => wpAny (model X.prog X.w) X.A (noteFrame e X.env) (fun _ s2 => wpAny (model X.prog X.w) X.A (setFlight e none) (fun _ s3 => wpAny (model X.prog X.w) X.A (handleBy e X.env (h1 :: hs)) (SP X pins D) X.xe s3) X.xe s2) X.xe s1)
    (fun u s' xx => ?_) PassesOwn.looking).run [] s σ H D (I.toTry _) h
  · refine wpAny_mono run (fun f s1 z => ?_) fun e s1 z => z
    match f, z with
    | .next, ⟨σ', H', J, q⟩ => exact wpAny_execs_nil ⟨σ', H', J.ofTry ok, q⟩
    | .brk, ⟨σ', H', J, q⟩ => exact ⟨σ', H', J.ofTry ok, q⟩
    | .cont, ⟨σ', H', J, q⟩ => exact ⟨σ', H', J.ofTry ok, q⟩
    | .ret u, ⟨v, σ', H', J, r, q⟩ => exact ⟨v, σ', H', J.ofTry ok, r, q⟩
  · obtain ⟨a, B, sI, pins', σ1, H1, cls, d, ea, J', nb, up, sky, na, os, ag, w⟩ := xx
    subst ea
    have J : Inv X pins σ1 H1 sI := J'.ofTry ok
    rw [st] at sky
    show wpAny (model X.prog X.w) X.A (noteFrame (.ref a) X.env) _ _ _
    refine Sky.land Zc.steady A1 fr sky fun h3 fl up3 => ?_
    have J3 : Inv X pins σ1 H1 { s' with heap := h3 } := J.landed nb fl.1 (up.trans up3) os ag
    obtain ⟨oe, vs, he, hz, hdt⟩ := fl.there
    have out : a ∉ frs (X.env :: X.outer) := fun m => by
      obtain ⟨_, o2, e2, ne⟩ := fl.2.2.1.mem m
      rw [he] at e2
      cases e2
      exact ne _ hdt
    have notL : a ≠ X.env.locals := fun z => out (List.mem_filterMap.mpr ⟨X.env, List.mem_cons_self, by rw [fr, z]⟩)
    have notF : a ∉ X.fs := fun m => by
      obtain ⟨e, he, q⟩ := List.mem_filterMap.mp m
      exact out (List.mem_filterMap.mpr ⟨e, List.mem_cons_of_mem _ he, q⟩)
    have S3 := J3.suite he hdt na notL notF
    have ty : PySem.W.Looks (model X.prog X.w) h3 (typeOf (.ref a)) cls := fun A Q E s k q => wpAny_typeOf_ref (k _ _ he) (by rw [hz.1]; exact q)
    have each : ∀ (hs2 : List ExceptHandler) (l2 : List (Value × (Addr → Value → Option Addr → TS))), Some1 X i hs2 l2 → wEach X.K i (fun _ _ _ _ => False) D l2 cls d σ1 H1 → wpAny (model X.prog X.w) X.A (handleBy (.ref a) X.env hs2) (SP X pins D) X.xe { s' with heap := h3 } := by
      intro hs2 l2 hk
      induction hk with
      | any hds =>
        intro wo
        exact False.elim wo
      | @cons x n c ts b bs p q hds l3 nm at_ lo su t ih =>
        intro wo
        obtain ⟨k, hk, yes, no⟩ := wo
        refine wpAny_handleBy_cons (codeAny_handlers_test ?_) (by intro q; cases q)
        have LM := PySem.W.exm_one (M := model X.prog X.w) (J3.kIn) ty hk
        have see : ∀ {Q : Value → Shared → Prop} {E : Value → Shared → Prop}, Q c { s' with heap := h3 } → wpAny (model X.prog X.w) (X.A.mark (some (.ref a))) (eval (.Name x p) X.env) Q E { s' with heap := h3 } := by
          intro Q E q
          obtain ⟨g1, g2, g3 | ⟨g3, g4, g5⟩⟩ := nm
          · exact ld_glob (X := X.suite a ((a, oe) :: (X.pn ++ pins))) S3 g1 g3 q g2
          · exact ld_blt (X := X.suite a ((a, oe) :: (X.pn ++ pins))) S3 g1 g3 g4 q g5 g2
        refine see (LM.here ?_)
        cases k with
        | false =>
          show wpAny _ X.A (handleBy (.ref a) X.env hds) _ _ _
          exact ih (no rfl)
        | true =>
          refine codeAny_handlers_suite_as (HandSPX.lands_againZ fl fun h4 fl4 up4 => ?_)
          have J4 : Inv X pins σ1 H1 { s' with heap := h4 } := J.landed nb fl4.1 ((up.trans up3).trans up4) os ag
          obtain ⟨o4, v4, e4, z4, d4⟩ := fl4.there
          have S4 := J4.suite e4 d4 na notL notF
          refine store_ok (X := X.suite a ((a, o4) :: (X.pn ++ pins))) (v := .ref a) S4 nd at_ (.inl lo) rfl (fun s5 S5 => ?_) (.inr lo)
          refine wpAny_mono ((su a o4 cls d (X.pn ++ pins) z4 ⟨_, d4⟩).run [] s5 _ H1 _ S5 (yes rfl a na)) (fun f s6 z => ?_) (fun _ _ z => False.elim z)
          have away : ∀ {σ6 : L2.St} {H6 : Hp} {Q : Shared → Prop}, Inv (X.suite a ((a, o4) :: (X.pn ++ pins))) [] σ6 H6 s6 → (∀ s7, Inv X pins (σ6.set i none) H6 s7 → Q s7) →
              wpAny (model X.prog X.w) X.A (do bindName X.env n .none; unbindBehindTheSuite X.env n q) (fun _ s7 => Q s7) X.xe s6 := fun S6 g => gone_ok (S6.unsuite ok) nd at_ lo g
          match f, z with
          | .next, ⟨σ6, H6, S6, g⟩ => exact away S6 fun s7 J7 => ⟨_, _, J7, g⟩
          | .brk, ⟨σ6, H6, S6, g⟩ => exact away S6 fun s7 J7 => ⟨_, _, J7, g⟩
          | .cont, ⟨σ6, H6, S6, g⟩ => exact away S6 fun s7 J7 => ⟨_, _, J7, g⟩
          | .ret u, ⟨v6, σ6, H6, S6, r6, g⟩ => exact away S6 fun s7 J7 => ⟨_, _, _, J7, r6, g⟩
    exact each _ _ hd w
end
end Vf

set_option maxRecDepth 100000
set_option maxHeartbeats 4000000
/-! a text of one sign, some times -/
namespace Vf
open PySem PySem.Spec PyProof.Rows L2
def rRepS : R2 := fun x y H Q => ∃ s n, x = .str s ∧ y = .int n ∧ s.length = 1 ∧ 1 ≤ n ∧ n ≤ 1000 ∧ ∀ z, Q (.str z) H
theorem foldl_size {α : Type} (c : Array α) : ∀ (m : Nat) (acc : Array α), (List.foldl (fun x1 x2 => x1 ++ x2) acc (List.replicate m c)).size = acc.size + m * c.size
  | 0, acc => by simp
  | m + 1, acc => by
    rw [List.replicate_succ, List.foldl_cons, foldl_size c m, Array.size_append, Nat.succ_mul]
    omega
theorem op_repS {X : Cx} : OpR X (binaryOp .Mult) rRepS := by
  intro pins s σ H x y v u Q I rx ry h
  obtain ⟨z, n, rfl, rfl, hl, n1, n2, q⟩ := h
  obtain ⟨t, rfl⟩ := rx
  obtain ⟨t2, rfl⟩ := ry
  refine PySem.P.mul_str ?_ (fun _ _ => ?_) (fun _ _ => ?_) ?_
  · rw [decide_eq_false (by omega), decide_eq_false (by omega)]
    rfl
  · rw [hl]
    have : 1 ≤ (2 ^ 63 - 1) / n := Int.le_ediv_of_mul_le (by omega) (by omega)
    omega
  · rw [hl]
    show decide (1 * n.toNat > sizeLine) = false
    rw [sizeLine_eq]
    exact decide_eq_false (by omega)
  · rw [if_neg (by omega)]
    by_cases h1 : (n == 1 || z.length == 0) = true
    · rw [if_pos h1]
      exact ⟨.str z, H, I, ⟨_, rfl⟩, q z⟩
    · rw [if_neg h1]
      refine ⟨?_, .str _, H, I.tok _, ⟨_, rfl⟩, q _⟩
      show (List.foldl (fun x1 x2 => x1 ++ x2) #[] (List.replicate n.toNat z.cps)).size ≤ sizeLine
      rw [foldl_size]
      have hl : z.cps.size = 1 := hl
      rw [hl, sizeLine_eq, Array.size_empty]
      omega
end Vf

set_option maxRecDepth 100000
set_option maxHeartbeats 4000000
/-! != of tuples whose items are seen to be equal by their own == -/
namespace Vf
open PySem PySem.Spec PyProof.Rows L2
section
open PySem.SeqAt
open AutoSeq1 (wpAny_loadPart')
open MeetsSeq MeetsSeq2 MeetsSeq3 SeqRoads2
/-- the walk over the pairs of items: what came before, and what is to come -/
theorem pairs_walk {prog : Program} {w : World} {A : Around} {R : Result → Shared → Prop} {l b : Addr} {us vs : Array Value} {n m : Nat} {d1 d2 : Option Addr} {k1 k2 : Array (Option Value)} (I : Nat → Shared → Prop) (hN : us.size = vs.size)
    (step : ∀ (pre : List (Value × Value)) (p : Value × Value) (rest : List (Value × Value)) (s : Shared), us.toList.zip vs.toList = pre ++ p :: rest → I pre.length s → wpAny (model prog w) A.in1 (eqBool p.1 p.2) (fun r s' => r = true ∧ I (pre.length + 1) s') (fun e s' => R (.error e) s') s)
    (last : ∀ s, I (us.toList.zip vs.toList).length s → R (.ok (.ret (.bool false))) s) {s : Shared} (g1 : s.heap.get? l = some { cls := .type "tuple", dict := d1, data := .seq us n, slots := k1 }) (g2 : s.heap.get? b = some { cls := .type "tuple", dict := d2, data := .seq vs m, slots := k2 }) (g0 : I 0 s) :
    wpAny (model prog w) A.in1 (Builtin.«tuple.__ne__» ⟨[.ref l, .ref b], []⟩) (GQ.FinOf prog w A R) (fun e s' => R (.error e) s') s := by
  have sub := AutoSeq1.sub_tuple_tuple
  have start := g0
  obtain ⟨hp, g, d, tk, os⟩ := s
  wp_walk using wpAny_loadPart' g1, wpAny_loadPart' g2, wpAny_forIn_list _ (fun rest st s' => st.1 = none ∧ ∃ pre, us.toList.zip vs.toList = pre ++ rest ∧ I pre.length s') _
  case turn =>
    rintro p rest st s' ⟨none_, pre, cut, now⟩
    refine wpAny_bind (wpAny_mono (step pre p rest s' cut now) (fun r s2 ⟨yes, next⟩ => ?_) fun _ _ x => x)
    subst yes
    wp_walk
    refine ⟨rfl, pre ++ [p], ?_, ?_⟩
    · rw [cut, List.append_assoc]
      rfl
    · rw [List.length_append]
      exact next
  case fin =>
    rintro ⟨st, st2⟩ s' ⟨none_, pre, cut, now⟩
    simp only at none_
    subst none_
    rw [List.append_nil] at cut
    have done := last s' (by rw [cut]; exact now)
    wp_walk
    simpa [Builtin.Tuple.tupleCompareSizes, hN] using done
  case h => exact ⟨rfl, [], rfl, start⟩
end
section
variable {X : Cx} {n : Nat} {D : Eqv}
/-- x != y as an expression, x and y tuples of items that are equal -/
def rNeG (K : PySem.W.Frag) (D : Eqv) : R2 := fun x y H Q => DTup K D x y H ∧ ∀ H', Ext H H' → Q (.bl false) H'
theorem op_neG (hD : Mon D) (h : EqG X n D) (hr : Room (n + 1) X.A) : OpR X (compareOp .NotEq) (rNeG X.K D) := by
  intro pins s σ H x y v u Q I rx ry hq
  obtain ⟨⟨a, b, xs, ys, rfl, rfl, ha, hb, p⟩, q⟩ := hq
  cases rx
  cases ry
  obtain ⟨its, r, ⟨⟨c1, e1, f1, k1⟩, o1, o2, n1, o3⟩, z⟩ := I.tuple ha
  obtain ⟨its2, r2, ⟨⟨c2, e2, f2, k2⟩, p1, p2, n2, p3⟩, z2⟩ := I.tuple hb
  simp only at o2 o3 p2 p3
  subst o2 o3 p2 p3
  have len : its.length = its2.length := by rw [← r.length, ← r2.length]; exact p.1
  have sb : Sub X (n + 1) X.A := ⟨hr, rfl⟩
  show wpAny (model X.prog X.w) X.A (richCompare .NotEq (.ref a) (.ref b)) (EP X pins σ Q) X.xe s
  refine wpAny_richCompare_same_room (op := .NotEq) ⟨_, o1, rfl⟩ ⟨_, p1, rfl⟩ F.slot_tuple_ne (GQ.call_here F.slot_tuple_ne ⟨_, o1, rfl⟩ F.entry_tuple_ne (F.args_tuple_ne_2 _ _) ?_) sb.room.units0
  refine pairs_walk (R := wants (fun v s' => v ≠ .notImplemented ∧ EP X pins σ Q v s') X.xe) (fun _ s' => LoopI X pins σ H s') (by rw [List.size_toArray, List.size_toArray]; exact len) (fun pre pr rest s' cut now => ?_) (fun s' now => ⟨nofun, ?_⟩) o1 p1 ⟨H, I, Ext.rfl'⟩
  · have at_ : (its.zip its2)[pre.length]? = some pr := by
      rw [show its.zip its2 = pre ++ pr :: rest from cut, List.getElem?_append_right (Nat.le_refl _), Nat.sub_self]
      rfl
    obtain ⟨g1, g2⟩ := List.getElem?_zip_eq_some.mp at_
    have l1 : pre.length < its.toArray.size := by rw [List.size_toArray]; exact (List.getElem?_eq_some_iff.mp g1).1
    have l2 : pre.length < its2.toArray.size := by rw [List.size_toArray]; exact (List.getElem?_eq_some_iff.mp g2).1
    have t := turnG hD h sb p r r2 pre.length l1 l2 s' now
    have q1 : its.toArray[pre.length] = pr.1 := by
      obtain ⟨_, e⟩ := List.getElem?_eq_some_iff.mp g1
      simpa using e
    have q2 : its2.toArray[pre.length] = pr.2 := by
      obtain ⟨_, e⟩ := List.getElem?_eq_some_iff.mp g2
      simpa using e
    rw [q1, q2] at t
    exact t
  · obtain ⟨H', I', e'⟩ := now
    exact ⟨.bl false, H', I', rfl, q H' e'⟩
end
end Vf

set_option maxRecDepth 100000
set_option maxHeartbeats 4000000
/-! == of two different instances of a class that has no == of its own -/
namespace Vf
open PySem PySem.Spec PyProof.Rows L2
section
open PySem.SeqAt
variable {prog : Program} {w : World} {A : Around} {E : Value → Shared → Prop} {s : Shared} {K : PySem.W.Frag} {x y C : Addr} {ox oy : Obj} {od oe : Option Obj}
theorem not_the_same {r : Option Value → Shared → Prop} (X : K.In s.heap) (I : PySem.W.InstAt s.heap x ox C od) (J : PySem.W.InstAt s.heap y oy C oe) (ne : x ≠ y) (hm : PySem.W.mroIn K C (.type "object") = some true) (hs : PySem.W.findIn K (.ref C) "__eq__" = some (some (.builtin "object.__eq__"))) (q : r none s) :
    wpAny (model prog w) A (tryCompare (.ref x) "__eq__" (.ref y)) r E s := by
  unfold tryCompare
  refine wpAny_bind (HN.ifBound_objEq X I hs ?_)
  refine wpAny_call (codeAny_call_builtin F.cmp_object.eq.plain F.cmpEntry_eq (PySem.W.check_slot F.cmpKind_eq F.cmpSplit_eq (I.type.andThen (PySem.W.looks_mroIn X hm)) (F.cmpArgs_eq _ _) ?_))
  exact objEq_entry_other ne I.at_ J.at_ (by rw [I.cls]; intro z; cases z) (wpAny_pure q)
theorem inst_eq_no {r : Value → Shared → Prop} (hu : A.units < cLine) (X : K.In s.heap) (I : PySem.W.InstAt s.heap x ox C od) (J : PySem.W.InstAt s.heap y oy C oe) (ne : x ≠ y) (hm : PySem.W.mroIn K C (.type "object") = some true) (hs : PySem.W.findIn K (.ref C) "__eq__" = some (some (.builtin "object.__eq__"))) (q : r (.bool false) s) :
    wpAny (model prog w) A (richCompare .Eq (.ref x) (.ref y)) r E s := by
  simp only [richCompare, cmpInfo_Eq, oneThing_ref]
  refine wpAny_holding (wpAny_bind (wpAny_cRoomFor hu ?_))
  refine wpAny_bind (I.type.here ?_)
  refine wpAny_bind (J.type.here ?_)
  rw [if_neg (by simp)]
  refine wpAny_bind (wpAny_pure ?_)
  simp only [Bool.false_eq_true, if_false, Bool.not_false, if_true]
  refine wpAny_bind (m := tryCompare (.ref x) _ (.ref y)) (not_the_same X I J ne hm hs ?_)
  refine wpAny_bind (m := tryCompare (.ref y) _ (.ref x)) (not_the_same X J I (Ne.symm ne) hm hs ?_)
  refine wpAny_bind (wpAny_rule (wpAny_bind ?_))
  exact wpAny_isSame_ref_other ne I.at_ J.at_ (by rw [I.cls]; intro z; cases z) (wpAny_pure q)
end
/-- two instances of one class that has no == of its own -/
def rEqI (K : PySem.W.Frag) : R2 := fun x y H Q => ∃ a b C dx dy fs gs, x = .ref a ∧ y = .ref b ∧ a ≠ b ∧ H a = some (.ins C dx fs) ∧ H b = some (.ins C dy gs) ∧ PySem.W.mroIn K C (.type "object") = some true ∧ PySem.W.findIn K (.ref C) "__eq__" = some (some (.builtin "object.__eq__")) ∧ Q (.bl false) H
theorem op_eqI {X : Cx} (hu : X.A.units + 64 < cLine) : OpR X (compareOp .Eq) (rEqI X.K) := by
  intro pins s σ H x y v u Q I rx ry h
  obtain ⟨a, b, C, dx, dy, fs, gs, rfl, rfl, ne, ha, hb, hm, hs, q⟩ := h
  cases rx
  cases ry
  obtain ⟨mA, O, _⟩ := ins_get I.hok ha
  obtain ⟨od, J, _⟩ := O.look
  obtain ⟨mB, O2, _⟩ := ins_get I.hok hb
  obtain ⟨oe, J2, _⟩ := O2.look
  exact inst_eq_no (by omega) I.kIn J J2 ne hm hs ⟨.bl false, H, I, rfl, q⟩
end Vf

set_option maxRecDepth 100000
set_option maxHeartbeats 8000000
namespace Vf
open PySem PySem.Spec PyProof.Rows L2
def topS (i : Nat) : Stmt := PySem.Challenge.pw_nearcurves_k37_points_and_errors.main.body.getD i (.Pass ⟨0, 0, 0, 0⟩)
/-! ### the pen -/
def penL (l : Addr) (at_ dg ct fo : Int) : List (Key × V) := [(.inr "cells", .ref l), (.inr "at", .int at_), (.inr "digits", .int dg), (.inr "count", .int ct), (.inr "fold", .int fo)]
section
variable {l : Addr} {a d c f x : Int}
theorem pv1 : valV (penL l a d c f) (.inr "cells") = some (.ref l) := by kernel_rfl
theorem pv2 : valV (penL l a d c f) (.inr "at") = some (.int a) := by kernel_rfl
theorem pv3 : valV (penL l a d c f) (.inr "digits") = some (.int d) := by kernel_rfl
theorem pv4 : valV (penL l a d c f) (.inr "count") = some (.int c) := by kernel_rfl
theorem pv5 : valV (penL l a d c f) (.inr "fold") = some (.int f) := by kernel_rfl
theorem pp2 : putK (penL l a d c f) (.inr "at") (.int x) = penL l x d c f := by kernel_rfl
theorem pp3 : putK (penL l a d c f) (.inr "digits") (.int x) = penL l a x c f := by kernel_rfl
theorem pp4 : putK (penL l a d c f) (.inr "count") (.int x) = penL l a d x f := by kernel_rfl
theorem pp5 : putK (penL l a d c f) (.inr "fold") (.int x) = penL l a d c x := by kernel_rfl
theorem pm : mergeK [] [(.inr "cells", .ref l), (.inr "at", .int 0), (.inr "digits", .int 0), (.inr "count", .int 0), (.inr "fold", .int f)] = penL l 0 0 0 f := by kernel_rfl
end
/-- a pen at p that has been asked at most B times -/
structure PenC (at_ dg ct fo B : Int) : Prop where
  a0 : 0 ≤ at_
  d0 : 0 ≤ dg
  c0 : 0 ≤ ct
  cB : ct ≤ B
  f0 : 0 ≤ fo
  f1 : fo < 2147483587
def PenAt (H : Hp) (p l : Addr) (ns : List Int) (at_ dg ct fo : Int) : Prop := H p = some (.dK (penL l at_ dg ct fo)) ∧ H l = some (.lst (ns.map V.int)) ∧ ns.length ≤ 63
def Pen (H : Hp) (p l : Addr) (B : Int) : Prop := ∃ ns at_ dg ct fo, PenAt H p l ns at_ dg ct fo ∧ PenC at_ dg ct fo B
/-- all but p stands as it stood -/
def Kp (p : Addr) (H H' : Hp) : Prop := ∀ b o, b ≠ p → H b = some o → H' b = some o
theorem Kp.refl {p : Addr} {H : Hp} : Kp p H H := fun _ _ _ h => h
theorem Kp.trans {p : Addr} {H H1 H2 : Hp} (a : Kp p H H1) (b : Kp p H1 H2) : Kp p H H2 := fun c o n h => b c o n (a c o n h)
theorem Kp.of {p : Addr} {H H' : Hp} (s : Same H H') : Kp p H H' := fun b o _ h => s b o h
theorem same_upd {H : Hp} {p : Addr} {o : HO} (n : H p = none) : Same H (upd H p o) := fun b u e => by rw [upd_ne (ne_of_none e n)]; exact e
/-- the heap without p -/
def wo (p : Addr) (H : Hp) : Hp := fun b => if b = p then none else H b
theorem Kp.wo {p : Addr} {H H' : Hp} (k : Kp p H H') : Same (wo p H) (wo p H') := fun b o e => by
  unfold Vf.wo at e ⊢
  by_cases h : b = p
  · rw [if_pos h] at e
    cases e
  · rw [if_neg h] at e ⊢
    exact k b o h e
theorem wo_sub {p : Addr} {H : Hp} : Same (wo p H) H := fun b o e => by
  unfold Vf.wo at e
  by_cases h : b = p
  · rw [if_pos h] at e
    cases e
  · rw [if_neg h] at e
    exact e
theorem wo_at {p b : Addr} {H : Hp} {o : HO} (h : b ≠ p) (e : H b = some o) : wo p H b = some o := by
  unfold Vf.wo
  rw [if_neg h]
  exact e
theorem PenAt.ne {H : Hp} {p l : Addr} {ns : List Int} {a d c f : Int} (h : PenAt H p l ns a d c f) : l ≠ p := ne_of h.2.1 h.1 (by intro z; cases z)
theorem PenAt.same {H H' : Hp} {p l : Addr} {ns : List Int} {a d c f : Int} (h : PenAt H p l ns a d c f) (s : Same H H') : PenAt H' p l ns a d c f := ⟨s _ _ h.1, s _ _ h.2.1, h.2.2⟩
theorem Pen.same {H H' : Hp} {p l : Addr} {B : Int} (h : Pen H p l B) (s : Same H H') : Pen H' p l B := by
  obtain ⟨ns, a, d, c, f, h1, h2⟩ := h
  exact ⟨ns, a, d, c, f, h1.same s, h2⟩
theorem Pen.more {H : Hp} {p l : Addr} {B B' : Int} (h : Pen H p l B) (e : B ≤ B') : Pen H p l B' := by
  obtain ⟨ns, a, d, c, f, h1, h2⟩ := h
  exact ⟨ns, a, d, c, f, h1, h2.a0, h2.d0, h2.c0, Int.le_trans h2.cB e, h2.f0, h2.f1⟩
theorem Pen.there {H : Hp} {p l : Addr} {B : Int} (h : Pen H p l B) : ∃ o, H p = some o := by
  obtain ⟨ns, a, d, c, f, h1, h2⟩ := h
  exact ⟨_, h1.1⟩
theorem PenAt.put {H : Hp} {p l : Addr} {ns : List Int} {a d c f a' d' c' f' : Int} (h : PenAt H p l ns a d c f) : PenAt (upd H p (.dK (penL l a' d' c' f'))) p l ns a' d' c' f' :=
  ⟨upd_same, by rw [upd_ne h.ne]; exact h.2.1, h.2.2⟩
theorem kp_upd {H : Hp} {p : Addr} {o : HO} : Kp p H (upd H p o) := fun b u n e => by rw [upd_ne n]; exact e

def spPen (K : PySem.W.Frag) : Sp := fun vs H Q _ => ∃ (a : Addr) (ns : List Int), vs = [.ref a] ∧ SqL K H a (ns.map V.int) ∧ ns.length ≤ 63 ∧ ∀ (p l : Addr) (H' : Hp), Same H H' → H p = none → H l = none → Pen H' p l 0 → Q (.ref p) H'
def spDraw : Sp := fun vs H Q _ => ∃ (p l : Addr) (B many : Int), vs = [.ref p, .int many] ∧ Pen H p l B ∧ B ≤ 1000000000 ∧ 0 < many ∧ many < 2000000000000000000000000000000000 ∧
  ∀ (z : Int) (H' : Hp), 0 ≤ z → z < many → Pen H' p l (B + 1) → Kp p H H' → Q (.int z) H'
def spPick : Sp := fun vs H Q _ => ∃ (p l s : Addr) (B : Int) (xs : List V), vs = [.ref p, .ref s] ∧ Pen H p l B ∧ B ≤ 1000000000 ∧ H s = some (.lst xs) ∧ s ≠ p ∧ 0 < xs.length ∧ xs.length < 1000000 ∧
  ∀ (x : V) (H' : Hp), x ∈ xs → Pen H' p l (B + 1) → Kp p H H' → Q x H'
def spFar : Sp := fun vs H Q _ => ∃ (p l : Addr) (B : Int), vs = [.ref p] ∧ Pen H p l B ∧ B ≤ 100000000 ∧
  ∀ (z : Int) (H' : Hp), -1000000000000000000 < z → z < 1000000000000000000 → Pen H' p l (B + 8) → Kp p H H' → Q (.int z) H'
/-- built-in names that the text leaves alone -/
structure Bi (mg : Str → Option Value) : Prop where
  int : mg "int" = none
  list : mg "list" = none
  len : mg "len" = none
  range : mg "range" = none
/-- a def of the text that raises nothing -/
structure Df (P : Program) (w : World) (K : PySem.W.Frag) (mg : Str → Option Value) (base : Heap) (x : Str) (k : Nat) (ps : List Str) (sp : Sp) where
  f : Addr
  fd : FuncData
  m : mg x = some (.ref f)
  kp : PySem.W.keepIn K (.ref f) = true
  b : Binds K fd ps []
  ok : FnOk P w K mg base CX0 k f fd ps sp

abbrev sPen : Stmt := topS 45
abbrev sDraw : Stmt := topS (45 + 1)
abbrev sPick : Stmt := topS (45 + 2)
section
variable {P : Program} {w : World} {K : PySem.W.Frag} {mg : Str → Option Value} {base : Heap}
theorem scPen : FnScope ["_law_script", "_law_fold", "_law_cell"] ["_law_script"] (defScope sPen) := ⟨rfl, rfl, rfl, by decide +kernel, rfl, by decide +kernel, by decide +kernel⟩
theorem ok_pen {f : Addr} {fd : FuncData} (F : Fun K "_law_pen" "_law_pen" sPen f fd) (T : Bi mg) : FnOk P w K mg base CX0 1 f fd ["_law_script"] (spPen K) := by
  refine F.ok scPen (fun vs H Q E h => ?_) (fun cdv A outer s H vs Q E hr h => ?_)
  · obtain ⟨a, ns, rfl, _⟩ := h
    rfl
  · obtain ⟨a, ns, rfl, hS, hl, k⟩ := h
    refine ⟨_, (pss_cons (ps_set (i := 1) scPen.nd rfl (Or.inl rfl) pe_int)
      (pss_cons (ps_for PassesOwn.never rfl (pi_list (pv 0)) (pg_name (i := 2) scPen.nd rfl (Or.inl rfl))
        (pss_one (ps_set (i := 1) scPen.nd rfl (Or.inl rfl) (pe_op op_mod (pe_callTy call_int1 (by rfl) T.int (by decide +kernel) (pa_cons (pe_op op_add (pe_op op_mul (pv 1) pe_int) (pv 2)) pa_nil)) pe_int))))
      (pss_one (ps_ret (pe_disp (pps_cons pe_str (pe_callTy call_list_of (by rfl) T.list (by decide +kernel) (pa_cons (pv 0) pa_nil)) (pps_cons pe_str pe_int (pps_cons pe_str pe_int (pps_cons pe_str pe_int (pps_cons pe_str (pv 1) pps_nil))))) (by rfl) (by rfl) (fun z => by cases z) (by decide)))))), ?_⟩
    refine ⟨_, rfl, a, rfl, ⟨_, hS⟩, for_list (K := K) (a := a) (xs := ns.map V.int) (fun i σ H2 => H2 = H ∧ ∃ (z : Int) (v : Option V), σ = [some (.ref a), some (.int z), v] ∧ 0 ≤ z ∧ z < 1000000007)
      ⟨rfl, 0, none, rfl, by decide, by decide⟩ (fun i σ H2 _ ⟨e, _⟩ => by rw [e]; exact hS) ?_ ?_⟩
    · rintro i y σ H2 hi ⟨rfl, z, v, rfl, h0, h1⟩
      obtain ⟨n, rfl⟩ : ∃ n, y = V.int n := by
        rw [List.getElem?_map] at hi
        cases e : ns[i]? with
        | none =>
          rw [e] at hi
          cases hi
        | some n =>
          rw [e] at hi
          exact ⟨n, (Option.some.inj hi).symm⟩
      refine ⟨_, rfl, _, _, rfl, rfl, .inl ⟨by omega, by omega⟩, _, rfl, _, _, rfl, rfl, .inl ⟨_, rfl, _, _, rfl, rfl, (by show (0 : Int) < 1000000007; decide), ?_⟩⟩
      exact ⟨rfl, _, _, rfl, Int.emod_nonneg _ (by decide), Int.emod_lt_of_pos _ (by decide)⟩
    · rintro σ H2 ⟨rfl, z, v, rfl, h0, h1⟩
      intro p np
      refine ⟨_, rfl, a, _, rfl, .inl ((same_upd np).seq hS), fun l nl => ?_⟩
      refine ⟨_, rfl, ?_⟩
      have npl : p ≠ l := ne_of_none upd_same nl
      refine ⟨by rw [upd_ne npl]; exact upd_same, [(.inr "cells", .ref l), (.inr "at", .int 0), (.inr "digits", .int 0), (.inr "count", .int 0), (.inr "fold", .int z)], rfl, (by show 5 ≤ 15; decide), ?_⟩
      rw [pm]
      have nl2 : H2 l = none := by
        have q := nl
        rw [upd_ne npl.symm] at q
        exact q
      refine k p l _ (fun b o e => ?_) np nl2 ⟨ns, 0, 0, 0, z, ⟨upd_same, by rw [upd_ne npl.symm]; exact upd_same, hl⟩, by decide, by decide, by decide, by decide, h0, by omega⟩
      rw [upd_ne (ne_of_none e np), upd_ne (ne_of_none e nl2), upd_ne (ne_of_none e np)]
      exact e
theorem scDraw : FnScope ["_law_pen_here", "_law_many", "_law_cell", "_law_digit", "_law_mixed"] ["_law_pen_here", "_law_many"] (defScope sDraw) := ⟨rfl, rfl, rfl, by decide +kernel, rfl, by decide +kernel, by decide +kernel⟩
theorem ok_draw {f : Addr} {fd : FuncData} (F : Fun K "_law_draw" "_law_draw" sDraw f fd) (T : Bi mg) : FnOk P w K mg base CX0 1 f fd ["_law_pen_here", "_law_many"] spDraw := by
  refine F.ok scDraw (fun vs H Q E h => ?_) (fun cdv A outer s H vs Q E hr h => ?_)
  · obtain ⟨p, l, B, m, rfl, _⟩ := h
    rfl
  · obtain ⟨p, l, B, m, rfl, ⟨ns, a0, d0, c0, f0, hP, hC⟩, hB, hm0, hm1, k⟩ := h
    have hu := hu_of hr
    have small : ∀ {l : Addr} {a d c f : Int}, (penL l a d c f).length < sizeLine := by intros; show 5 < sizeLine; decide
    refine ⟨_, (pss_cons (ps_dput hu (pv 0) pe_str (pe_op op_add (pe_dget hu (pv 0) pe_str (fun _ _ => rfl)) pe_int) rfl)
  (C8.pss_cut (ps_if (PW.pt (pw_and (pt_cmpR op_eq (pe_dget hu (pv 0) pe_str (fun _ _ => rfl)) pe_int (nomark _)) (pw_and1 (pt_cmpR op_lt (pe_dget hu (pv 0) pe_str (fun _ _ => rfl)) (pe_callB call_len_seq (by rfl) T.len (by decide +kernel) (pa_cons (pe_dget hu (pv 0) pe_str (fun _ _ => rfl)) pa_nil)) (nomark _)))))
    (pss_cons (ps_set (i := 2) scDraw.nd rfl (Or.inl rfl) (pe_ix ix_list (pe_dget hu (pv 0) pe_str (fun _ _ => rfl)) (pe_dget hu (pv 0) pe_str (fun _ _ => rfl)) (fun _ _ => rfl)))
    (pss_cons (ps_dput hu (pv 0) pe_str (pe_op op_add (pe_dget hu (pv 0) pe_str (fun _ _ => rfl)) pe_int) rfl)
    (pss_one (ps_if (pt_cmpR op_ge (pv 2) (pe_op op_pow pe_int pe_int) (nomark _))
      (pss_one (ps_dput hu (pv 0) pe_str (pe_op op_sub (pv 2) (pe_op op_pow pe_int pe_int)) rfl))
      (pss_one (ps_dput hu (pv 0) pe_str (pe_op op_mod (pe_callTy call_int1 (by rfl) T.int (by decide +kernel) (pa_cons (pe_op op_add (pe_op op_mul (pe_dget hu (pv 0) pe_str (fun _ _ => rfl)) pe_int) (pv 2)) pa_nil)) pe_int) rfl))))))
    pss_nil)
  (pss_cons (ps_if (pt_cmpR op_gt (pe_dget hu (pv 0) pe_str (fun _ _ => rfl)) pe_int (nomark _))
    (pss_cons (ps_set (i := 3) scDraw.nd rfl (Or.inl rfl) (pe_op op_mod (pe_callTy call_int1 (by rfl) T.int (by decide +kernel) (pa_cons (pe_dget hu (pv 0) pe_str (fun _ _ => rfl)) pa_nil)) (pv 1)))
    (pss_cons (ps_dput hu (pv 0) pe_str (pe_op op_fdivZ (pe_dget hu (pv 0) pe_str (fun _ _ => rfl)) (pv 1)) rfl)
    (pss_one (ps_ret (pv 3)))))
    pss_nil)
  (pss_cons (ps_set (i := 4) scDraw.nd rfl (Or.inl rfl) (pe_op op_add (pe_op op_add (pe_dget hu (pv 0) pe_str (fun _ _ => rfl)) (pe_op op_mul (pe_dget hu (pv 0) pe_str (fun _ _ => rfl)) pe_int)) pe_int))
  (pss_one (ps_ret (pe_op op_mod (pe_op op_fdiv (pe_callTy call_int1 (by rfl) T.int (by decide +kernel) (pa_cons (pe_op op_mod (pe_op op_pow (pv 4) pe_int) pe_int) pa_nil)) pe_int) (pv 1)))))))), ?_⟩
    -- count
    refine ⟨_, rfl, p, .int c0, rfl, ?_, _, _, rfl, rfl, _, rfl, p, _, rfl, DPut.k (k := Sum.inr "count") hP.1 small, ?_⟩
    · have q := DGet.k (k := (Sum.inr "count" : Key)) hP.1
      rw [pv4] at q
      exact q
    rw [pp4]
    have hP1 := hP.put (a' := a0) (d' := d0) (c' := c0 + 1) (f' := f0)
    generalize hH1 : upd H p (.dK (penL l a0 d0 (c0 + 1) f0)) = H1 at hP1
    have k1 : Kp p H H1 := by rw [← hH1]; exact kp_upd
    clear hH1
    -- the cut: a pen again
    refine ⟨fun σ H2 => ∃ (v2 : Option V) (a d c f : Int), σ = [some (.ref p), some (.int m), v2, none, none] ∧ PenAt H2 p l ns a d c f ∧ PenC a d c f (B + 1) ∧ Kp p H H2, ?_, ?_⟩
    · have g3 : DGet H1 p (kV (Sum.inr "digits")) (some (.int d0)) := by
        have q := DGet.k (k := (Sum.inr "digits" : Key)) hP1.1
        rw [pv3] at q
        exact q
      have g2 : DGet H1 p (kV (Sum.inr "at")) (some (.int a0)) := by
        have q := DGet.k (k := (Sum.inr "at" : Key)) hP1.1
        rw [pv2] at q
        exact q
      have g1 : DGet H1 p (kV (Sum.inr "cells")) (some (.ref l)) := by
        have q := DGet.k (k := (Sum.inr "cells" : Key)) hP1.1
        rw [pv1] at q
        exact q
      refine ⟨_, rfl, p, _, rfl, g3, rfl, _, rfl, ?_⟩
      have stay : ∃ (v2 : Option V) (a d c f : Int), start ["_law_pen_here", "_law_many", "_law_cell", "_law_digit", "_law_mixed"] [V.ref p, V.int m] = [some (.ref p), some (.int m), v2, none, none] ∧ PenAt H1 p l ns a d c f ∧ PenC a d c f (B + 1) ∧ Kp p H H1 :=
        ⟨none, a0, d0, c0 + 1, f0, rfl, hP1, ⟨hC.a0, hC.d0, by have := hC.c0; omega, by have := hC.cB; omega, hC.f0, hC.f1⟩, k1⟩
      by_cases hd : d0 = 0
      · rw [decide_eq_true (by rw [hd])]
        refine iteT ?_
        refine ⟨_, rfl, p, _, rfl, g2, _, rfl, p, _, rfl, g1, l, _, rfl, .inl (SqL.of hP1.2.1), _, _, rfl, rfl, _, rfl, ?_⟩
        rw [List.length_map]
        by_cases ha : a0 < (ns.length : Int)
        · rw [decide_eq_true ha]
          refine iteT ?_
          have han : a0.toNat < ns.length := by have := hC.a0; omega
          have hat : (ns.map V.int)[a0.toNat]? = some (V.int ns[a0.toNat]) := by
            rw [List.getElem?_map, List.getElem?_eq_getElem han]
            rfl
          generalize ns[a0.toNat] = z at hat
          refine ⟨_, rfl, p, _, rfl, g1, _, rfl, p, _, rfl, g2, l, _, a0, .int z, rfl, rfl, SqL.of hP1.2.1, at_of (j := a0.toNat) (by have := hC.a0; omega) hat, ?_⟩
          refine ⟨_, rfl, p, _, rfl, g2, _, _, rfl, rfl, _, rfl, p, _, rfl, DPut.k (k := Sum.inr "at") hP1.1 small, ?_⟩
          rw [pp2]
          have hP2 := hP1.put (a' := a0 + 1) (d' := d0) (c' := c0 + 1) (f' := f0)
          generalize hH2 : upd H1 p (.dK (penL l (a0 + 1) d0 (c0 + 1) f0)) = H2 at hP2
          have k2 : Kp p H H2 := by rw [← hH2]; exact k1.trans kp_upd
          clear hH2
          refine ⟨_, rfl, _, _, rfl, rfl, ⟨by decide, by decide, by decide⟩, _, _, rfl, rfl, _, rfl, ?_⟩
          refine ite2 (fun hz => ?_) (fun hz => ?_)
          · have hz2 : (10 : Int) ^ (18 : Int).toNat ≤ z := of_decide_eq_true hz
            refine ⟨_, rfl, _, _, rfl, rfl, ⟨by decide, by decide, by decide⟩, _, _, rfl, rfl, _, rfl, p, _, rfl, DPut.k (k := Sum.inr "digits") hP2.1 small, ?_⟩
            rw [pp3]
            exact ⟨_, a0 + 1, _, c0 + 1, f0, rfl, hP2.put, ⟨by have := hC.a0; omega, by omega, by have := hC.c0; omega, by have := hC.cB; omega, hC.f0, hC.f1⟩, k2.trans kp_upd⟩
          · refine ⟨_, rfl, p, .int f0, rfl, ?_, _, _, rfl, rfl, .inl ⟨?_, ?_⟩, _, rfl, _, _, rfl, rfl, .inl ⟨_, rfl, _, _, rfl, rfl, (by show (0 : Int) < 2147483587; decide), _, rfl, p, _, rfl, DPut.k (k := Sum.inr "fold") hP2.1 small, ?_⟩⟩
            · have q := DGet.k (k := (Sum.inr "fold" : Key)) hP2.1
              rw [pv5] at q
              exact q
            · have := hC.f0; omega
            · have := hC.f1; omega
            rw [pp5]
            exact ⟨_, a0 + 1, d0, c0 + 1, _, rfl, hP2.put, ⟨by have := hC.a0; omega, hC.d0, by have := hC.c0; omega, by have := hC.cB; omega, Int.emod_nonneg _ (by decide), Int.emod_lt_of_pos _ (by decide)⟩, k2.trans kp_upd⟩
        · rw [decide_eq_false ha]
          refine iteF ?_
          exact stay
      · rw [decide_eq_false (fun z => hd (by have z2 := V.int.inj z; exact z2))]
        refine iteF ?_
        exact stay
    · rintro σ H2 ⟨v2, a, d, c, f, rfl, hP2, hC2, k2⟩
      have g3 : DGet H2 p (kV (Sum.inr "digits")) (some (.int d)) := by
        have q := DGet.k (k := (Sum.inr "digits" : Key)) hP2.1
        rw [pv3] at q
        exact q
      refine ⟨_, rfl, p, _, rfl, g3, _, _, rfl, rfl, _, rfl, ?_⟩
      refine ite2 (fun hz => ?_) (fun hz => ?_)
      · have hz2 : 0 < d := of_decide_eq_true hz
        refine ⟨_, rfl, p, _, rfl, g3, .inl ⟨_, rfl, _, rfl, _, _, rfl, rfl, hm0, ?_⟩⟩
        refine ⟨_, rfl, p, _, rfl, g3, _, rfl, _, _, rfl, rfl, ⟨by omega, by have := (Nat.log2_lt (n := m.natAbs) (k := 400) (by omega)).mpr (Nat.lt_of_lt_of_le (show m.natAbs < 2000000000000000000000000000000000 by omega) (by decide +kernel)); omega⟩, _, rfl, p, _, rfl, DPut.k (k := Sum.inr "digits") hP2.1 small, ?_⟩
        rw [pp3]
        exact ⟨_, rfl, k _ _ (Int.emod_nonneg _ (by omega)) (Int.emod_lt_of_pos _ hm0) ⟨ns, a, _, c, f, hP2.put, hC2.a0, Int.fdiv_nonneg hC2.d0 (by omega), hC2.c0, hC2.cB, hC2.f0, hC2.f1⟩ (k2.trans kp_upd)⟩
      · refine ⟨_, rfl, p, .int f, rfl, ?_, _, rfl, p, .int c, rfl, ?_, _, _, rfl, rfl, .inl ⟨?_, ?_⟩, _, _, rfl, rfl, _, _, rfl, rfl, ?_⟩
        · have q := DGet.k (k := (Sum.inr "fold" : Key)) hP2.1
          rw [pv5] at q
          exact q
        · have q := DGet.k (k := (Sum.inr "count" : Key)) hP2.1
          rw [pv4] at q
          exact q
        · have := hC2.c0; omega
        · have := hC2.cB; omega
        have b1 := hC2.c0
        have b2 := hC2.cB
        have b3 := hC2.f0
        have b4 := hC2.f1
        refine ⟨_, rfl, _, _, rfl, rfl, ⟨by decide, by decide, ?_⟩, _, _, rfl, rfl, (by show (0 : Int) < 2305843009213693951; decide), .inl ⟨_, rfl, _, _, rfl, rfl, ⟨by decide, by decide⟩, _, rfl, _, _, rfl, rfl, hm0, ?_⟩⟩
        · show (f + c * 7907 + 43).natAbs < 2 ^ 64
          omega
        exact k _ _ (Int.emod_nonneg _ (by omega)) (Int.emod_lt_of_pos _ hm0) ⟨ns, a, d, c, f, hP2, hC2⟩ k2
theorem scPick : FnScope ["_law_pen_here", "_law_some"] ["_law_pen_here", "_law_some"] (defScope sPick) := ⟨rfl, rfl, rfl, by decide +kernel, rfl, by decide +kernel, by decide +kernel⟩
theorem ok_pick {f : Addr} {fd : FuncData} (F : Fun K "_law_pick" "_law_pick" sPick f fd) (T : Bi mg) (G : Df P w K mg base "_law_draw" 1 ["_law_pen_here", "_law_many"] spDraw) : FnOk P w K mg base CX0 2 f fd ["_law_pen_here", "_law_some"] spPick := by
  refine F.ok scPick (fun vs H Q E h => ?_) (fun cdv A outer s H vs Q E hr h => ?_)
  · obtain ⟨p, l, s, B, xs, rfl, _⟩ := h
    rfl
  · obtain ⟨p, l, s, B, xs, rfl, hP, hB, hs, hne, h0, h1, k⟩ := h
    refine ⟨_, (pss_one (ps_ret (pe_ix ix_list (pv 1) (pe_call G.ok hr rfl G.m G.kp G.b .nil pass0 (pa_cons (pv 0) (pa_cons (pe_callB call_len_seq (by rfl) T.len (by decide +kernel) (pa_cons (pv 1) pa_nil)) pa_nil))) (fun _ _ => rfl)))), ?_⟩
    refine ⟨_, rfl, _, rfl, _, rfl, s, _, rfl, .inl (SqL.of hs), p, l, B, _, rfl, hP, hB, by omega, by omega, fun z H' z0 z1 hP' kp => ?_⟩
    have hzn : z.toNat < xs.length := by omega
    exact ⟨s, xs, z, xs[z.toNat], rfl, rfl, SqL.of (kp _ _ hne hs), at_of (j := z.toNat) (by omega) (List.getElem?_eq_getElem hzn), k _ _ (List.getElem_mem hzn) hP' kp⟩
end

end Vf

set_option maxRecDepth 100000
set_option maxHeartbeats 8000000
namespace Vf
open PySem PySem.Spec PyProof.Rows L2
/-! ### the errors' own __init__ -/
def fl (names : List Str) (xs : List V) : List (Str × V) := (names.zip xs).reverse
/-- self.f = f, for each of the names -/
def spIni (C : Addr) (names : List Str) : Sp := fun vs H Q _ => ∃ (a : Addr) (xs : List V), vs = .ref a :: xs ∧ xs.length = names.length ∧ H a = some (exo a C none) ∧
  ∀ (d : Addr) (H' : Hp), H d = none → d ≠ a → H' a = some (exo a C (some d)) → H' d = some (exd d (fl names xs)) → (∀ b o, b ≠ a → H b = some o → H' b = some o) → Q .non H'
theorem keep2 {H : Hp} {a d : Addr} {o u : HO} (n : H d = none) : ∀ b z, b ≠ a → H b = some z → upd (upd H d o) a u b = some z := fun b z h e => by
  rw [upd_ne h, upd_ne (ne_of_none e n)]
  exact e
theorem keep3 {H1 H : Hp} {a d : Addr} {u : HO} (n : H d = none) (k : ∀ b z, b ≠ a → H b = some z → H1 b = some z) : ∀ b z, b ≠ a → H b = some z → upd H1 d u b = some z := fun b z h e => by
  rw [upd_ne (ne_of_none e n)]
  exact k b z h e
section
variable {P : Program} {w : World} {K : PySem.W.Frag} {mg : Str → Option Value} {base : Heap}
theorem scBadNumber : FnScope ["self", "what", "number"] ["self", "what", "number"] (defScope (inClass (topS 4) 0)) := ⟨rfl, rfl, rfl, by decide +kernel, rfl, by decide +kernel, by decide +kernel⟩
theorem iniBadNumber {f C : Addr} {fd : FuncData} (F : Fun K "__init__" "BadNumber.__init__" (inClass (topS 4) 0) f fd) (T : OexC K C) (n1 : PySem.W.findIn K (.ref C) "what" = some none) (n2 : PySem.W.findIn K (.ref C) "number" = some none) :
    FnOk P w K mg base CX0 1 f fd ["self", "what", "number"] (spIni C ["what", "number"]) := by
  refine F.ok scBadNumber (fun vs H Q E h => ?_) (fun cdv A outer s H vs Q E hr h => ?_)
  · obtain ⟨a, xs, rfl, hl, _⟩ := h
    rw [List.length_cons, hl]
    all_goals rfl
  · obtain ⟨a, xs, rfl, hl, ha, k⟩ := h
    match xs, hl with
    | [v1, v2], _ =>
    refine ⟨_, (pss_cons (ps_ost (pv 0) (pv 1)) (pss_one (ps_ost (pv 0) (pv 2)))), ?_⟩
    refine ⟨_, rfl, _, rfl, a, C, rfl, T, n1, .inl ⟨ha, fun d nd ne => ?_⟩⟩
    have e1 : (upd (upd H d (exd d [("what", v1)])) a (exo a C (some d))) a = some (exo a C (some d)) := upd_same
    have e2 : (upd (upd H d (exd d [("what", v1)])) a (exo a C (some d))) d = some (exd d [("what", v1)]) := by rw [upd_ne ne]; exact upd_same
    have e3 := keep2 (H := H) (a := a) (d := d) (o := exd d [("what", v1)]) (u := exo a C (some d)) nd
    generalize upd (upd H d (exd d [("what", v1)])) a (exo a C (some d)) = H1 at e1 e2 e3
    refine ⟨_, rfl, _, rfl, a, C, rfl, T, n2, .inr ⟨d, _, e1, e2, (by show 1 ≤ 900; decide), ?_⟩⟩
    exact k d _ nd ne (by rw [upd_ne ne.symm]; exact e1) upd_same (keep3 nd e3)
theorem scBadRow : FnScope ["self", "row"] ["self", "row"] (defScope (inClass (topS 5) 0)) := ⟨rfl, rfl, rfl, by decide +kernel, rfl, by decide +kernel, by decide +kernel⟩
theorem iniBadRow {f C : Addr} {fd : FuncData} (F : Fun K "__init__" "BadRow.__init__" (inClass (topS 5) 0) f fd) (T : OexC K C) (n1 : PySem.W.findIn K (.ref C) "row" = some none) :
    FnOk P w K mg base CX0 1 f fd ["self", "row"] (spIni C ["row"]) := by
  refine F.ok scBadRow (fun vs H Q E h => ?_) (fun cdv A outer s H vs Q E hr h => ?_)
  · obtain ⟨a, xs, rfl, hl, _⟩ := h
    rw [List.length_cons, hl]
    all_goals rfl
  · obtain ⟨a, xs, rfl, hl, ha, k⟩ := h
    match xs, hl with
    | [v1], _ =>
    refine ⟨_, (pss_one (ps_ost (pv 0) (pv 1))), ?_⟩
    refine ⟨_, rfl, _, rfl, a, C, rfl, T, n1, .inl ⟨ha, fun d nd ne => ?_⟩⟩
    exact k d _ nd ne upd_same (by rw [upd_ne ne]; exact upd_same) (keep2 nd)
end
/-! ### ratios: the program's own defs -/
def tyD : PyData → String
  | .none => "NoneType"
  | .bool _ => "bool"
  | .int _ => "int"
  | .str _ => "str"
  | .list _ => "list"
  | .tuple _ => "tuple"
  | .dict _ => "dict"
theorem Dt.ty {K : PySem.W.Frag} {H : Hp} {v : V} {d : PyData} (h : Dt K H v d) : TyX K H v (.type (tyD d)) := by
  cases h with
  | non => exact .base .non
  | bl b => exact .base (.bl b)
  | int i => exact .base (.int i)
  | str x => exact .base (.str x)
  | lst h1 _ =>
    rcases h1 with (h1 | ⟨o, h1⟩) | ⟨o, _, _, h1, h2, _⟩
    · exact .base (.lst h1)
    · exact .base (.frz h1)
    · exact .kList h1 h2
  | tup h1 _ =>
    rcases h1 with (h1 | ⟨o, h1⟩) | ⟨o, _, _, h1, h2, _⟩
    · exact .base (.tup h1)
    · exact .fTuple h1
    · exact .kTuple h1 h2
  | dct h1 _ => exact .base (.dK h1)
def intD : PyData → Bool
  | .int _ => true
  | .bool _ => true
  | _ => false
def boolD : PyData → Bool
  | .bool _ => true
  | _ => false
def wholeD : PyData → Bool
  | .int _ => true
  | _ => false
theorem kit_int {K : PySem.W.Frag} (d : PyData) : PySem.W.kitOne K (.type (tyD d)) (.type "int") = some (intD d) := by
  cases d with
  | none => exact kit_ty (show kitB "NoneType" "int" = some false by decide +kernel)
  | bool _ => exact kit_ty (show kitB "bool" "int" = some true by decide +kernel)
  | int _ => exact kit_ty (show kitB "int" "int" = some true by decide +kernel)
  | str _ => exact kit_ty (show kitB "str" "int" = some false by decide +kernel)
  | list _ => exact kit_ty (show kitB "list" "int" = some false by decide +kernel)
  | tuple _ => exact kit_ty (show kitB "tuple" "int" = some false by decide +kernel)
  | dict _ => exact kit_ty (show kitB "dict" "int" = some false by decide +kernel)
theorem kit_bool {K : PySem.W.Frag} (d : PyData) : PySem.W.kitOne K (.type (tyD d)) (.type "bool") = some (boolD d) := by
  cases d with
  | none => exact kit_ty (show kitB "NoneType" "bool" = some false by decide +kernel)
  | bool _ => exact kit_ty (show kitB "bool" "bool" = some true by decide +kernel)
  | int _ => exact kit_ty (show kitB "int" "bool" = some false by decide +kernel)
  | str _ => exact kit_ty (show kitB "str" "bool" = some false by decide +kernel)
  | list _ => exact kit_ty (show kitB "list" "bool" = some false by decide +kernel)
  | tuple _ => exact kit_ty (show kitB "tuple" "bool" = some false by decide +kernel)
  | dict _ => exact kit_ty (show kitB "dict" "bool" = some false by decide +kernel)
/-- a ratio's top and bottom, as it is passed -/
def pair? : List PyData → Option (Int × Int)
  | [.int a, .int b] => if 0 < b then some (a, b) else none
  | _ => none
def partsD : PyData → Option (Int × Int)
  | .int i => some (i, 1)
  | .list ds => pair? ds
  | .tuple ds => pair? ds
  | _ => none
def seqD : PyData → Option (List PyData)
  | .list ds => some ds
  | .tuple ds => some ds
  | _ => none
theorem kit_seq {K : PySem.W.Frag} (d : PyData) : PySem.W.kitAny K (.type (tyD d)) [.type "tuple", .type "list"] = some (seqD d).isSome := by
  have two : ∀ {a b : Bool} {t : String}, kitB t "tuple" = some a → kitB t "list" = some b → PySem.W.kitAny K (.type t) [.type "tuple", .type "list"] = some (a || b) := fun {a b t} h1 h2 =>
    kitAny_cons (kit_ty h1) (fun e => by rw [e, Bool.false_or]; exact kitAny_cons (kit_ty h2) (fun e2 => by rw [e2]; exact kitAny_nil) (fun e2 => e2)) (fun e => by rw [e, Bool.true_or])
  cases d with
  | none => exact two (a := false) (b := false) (show kitB "NoneType" "tuple" = some false by decide +kernel) (show kitB "NoneType" "list" = some false by decide +kernel)
  | bool _ => exact two (a := false) (b := false) (show kitB "bool" "tuple" = some false by decide +kernel) (show kitB "bool" "list" = some false by decide +kernel)
  | int _ => exact two (a := false) (b := false) (show kitB "int" "tuple" = some false by decide +kernel) (show kitB "int" "list" = some false by decide +kernel)
  | str _ => exact two (a := false) (b := false) (show kitB "str" "tuple" = some false by decide +kernel) (show kitB "str" "list" = some false by decide +kernel)
  | list _ => exact two (a := false) (b := true) (show kitB "list" "tuple" = some false by decide +kernel) (show kitB "list" "list" = some true by decide +kernel)
  | tuple _ => exact two (a := true) (b := false) (show kitB "tuple" "tuple" = some true by decide +kernel) (show kitB "tuple" "list" = some false by decide +kernel)
  | dict _ => exact two (a := false) (b := false) (show kitB "dict" "tuple" = some false by decide +kernel) (show kitB "dict" "list" = some false by decide +kernel)
/-- built-in names that the text leaves alone, and gcd -/
structure Bk (mg : Str → Option Value) : Prop extends Bi mg where
  isinstance : mg "isinstance" = none
  bool : mg "bool" = none
  tuple : mg "tuple" = none
  abs : mg "abs" = none
  str : mg "str" = none
  gcd : mg "gcd" = some (.builtin "math.gcd")
/-- an error class with one __init__ of its own, as it is raised -/
structure Ex (P : Program) (w : World) (K : PySem.W.Frag) (mg : Str → Option Value) (base : Heap) (x : Str) (C : Addr) (names : List Str) where
  ox : OexC K C
  f : Addr
  fd : FuncData
  m : mg x = some (.ref C)
  iC : PySem.W.findIn K (.ref C) "__init__" = some (some (.ref f))
  tI : PySem.W.typeIn K (.ref f) = some (.type "function")
  b : Binds K fd ("self" :: names) []
  ok : FnOk P w K mg base CX0 1 f fd ("self" :: names) (spIni C names)
/-- a def of the text that may raise -/
structure Dx (P : Program) (w : World) (K : PySem.W.Frag) (mg : Str → Option Value) (base : Heap) (x : Str) (k : Nat) (ps : List Str) (sp : Sp) where
  f : Addr
  fd : FuncData
  m : mg x = some (.ref f)
  kp : PySem.W.keepIn K (.ref f) = true
  b : Binds K fd ps []
  ok : FnOk P w K mg base (L2.CX P w) k f fd ps sp
/-- what raise X(e, ..) leaves -/
theorem raise_end {C : Addr} {names : List Str} {H1 : Hp} {vs : List V} {W : XK} (hl : vs.length = names.length) (h : ∀ d H', Same H1 H' → H1 d = none → H' d = some (.xd (fl names vs)) → W (.ref C) (some d) H') :
    ∀ a, H1 a = none → spIni C names (.ref a :: (vs ++ [])) (upd H1 a (exo a C none)) (fun v H2 => v = .non ∧ ∃ (d : Addr) (fs : List (Str × V)), H2 a = some (exo a C (some d)) ∧ H2 d = some (exd d fs) ∧ H1 d = none ∧ W (.ref C) (some d) (upd (del H2 a) d (.xd fs))) (fun _ _ _ => False) := fun a na => by
  refine ⟨a, vs, by rw [List.append_nil], hl, upd_same, fun d H' nd ne ea ed k => ⟨rfl, d, fl names vs, ea, ed, ?_, ?_⟩⟩
  · rw [upd_ne ne] at nd
    exact nd
  · rw [upd_ne ne] at nd
    refine h d _ (fun b o e => ?_) nd upd_same
    have n1 := ne_of_none e na
    rw [upd_ne (ne_of_none e nd), del_ne n1]
    exact k b o n1 (by rw [upd_ne n1]; exact e)

def spWhole (K : PySem.W.Frag) : Sp := fun vs H Q _ => ∃ (v : V) (d : PyData), vs = [v] ∧ Dt K H v d ∧ Q (.bl (wholeD d)) H
def spIsRatio (K : PySem.W.Frag) : Sp := fun vs H Q _ => ∃ (v : V) (d : PyData), vs = [v] ∧ Dt K H v d ∧ ∀ H', Same H H' → Q (.bl (partsD d).isSome) H'
def big : Nat := 4000
def spLow : Sp := fun vs H Q _ => ∃ t b : Int, vs = [.int t, .int b] ∧ b ≠ 0 ∧ b.natAbs < 2 ^ big ∧ ∀ (p : Addr) (H' : Hp), Same H H' → H p = none → H' p = some (.tup [.int (low t b).1, .int (low t b).2]) → Q (.ref p) H'
/-- an error of BadNumber -/
def RaisesN (CN : Addr) (H : Hp) (wv v : V) (E : XK) : Prop := ∀ (d : Addr) (H' : Hp), Same H H' → H d = none → H' d = some (.xd (fl ["what", "number"] [wv, v])) → E (.ref CN) (some d) H'
theorem RaisesN.same {CN : Addr} {H H1 : Hp} {wv v : V} {E : XK} (s : Same H H1) (h : RaisesN CN H wv v E) : RaisesN CN H1 wv v E := fun d H' s' n e => h d H' (s.trans s') (s.free n) e
def spParts (K : PySem.W.Frag) (CN : Addr) : Sp := fun vs H Q E => ∃ (v wv : V) (d : PyData), vs = [v, wv] ∧ Dt K H v d ∧
  (∀ t b, partsD d = some (t, b) → ∀ (p : Addr) (H' : Hp), Same H H' → H' p = some (.tup [.int t, .int b]) → Q (.ref p) H') ∧ (partsD d = none → RaisesN CN H wv v E)
def spTold (K : PySem.W.Frag) (CN : Addr) : Sp := fun vs H Q E => ∃ (v wv : V) (d : PyData), vs = [v, wv] ∧ Dt K H v d ∧
  (∀ t b, partsD d = some (t, b) → b.natAbs < 2 ^ big ∧ ∀ (p : Addr) (H' : Hp), Same H H' → H' p = some (.tup [.int (low t b).1, .int (low t b).2]) → Q (.ref p) H') ∧ (partsD d = none → RaisesN CN H wv v E)
theorem pair_pos {ds : List PyData} {t b : Int} (h : pair? ds = some (t, b)) : ds = [.int t, .int b] ∧ 0 < b := by
  unfold pair? at h
  split at h
  · split at h
    · rename_i hb
      cases h
      exact ⟨rfl, hb⟩
    · cases h
  · cases h
theorem parts_pos {d : PyData} {t b : Int} (h : partsD d = some (t, b)) : 0 < b := by
  unfold partsD at h
  split at h
  · cases h
    decide
  · exact (pair_pos h).2
  · exact (pair_pos h).2
  · cases h
section
variable {P : Program} {w : World} {K : PySem.W.Frag} {mg : Str → Option Value} {base : Heap} {CN : Addr}
abbrev sIsWhole : Stmt := topS 10
abbrev sIsRatio : Stmt := topS 11
abbrev sLowest : Stmt := topS 13
abbrev sParts : Stmt := topS 14
abbrev sTold : Stmt := topS 15
theorem scIsWhole : FnScope ["value"] ["value"] (defScope sIsWhole) := ⟨rfl, rfl, rfl, by decide +kernel, rfl, by decide +kernel, by decide +kernel⟩
theorem ok_is_whole {f : Addr} {fd : FuncData} (F : Fun K "is_whole" "is_whole" sIsWhole f fd) (T : Bk mg) : FnOk P w K mg base CX0 1 f fd ["value"] (spWhole K) := by
  refine F.ok scIsWhole (fun vs H Q E h => ?_) (fun cdv A outer s H vs Q E hr h => ?_)
  · obtain ⟨v, d, rfl, _⟩ := h
    rfl
  · obtain ⟨v, d, rfl, hd, q⟩ := h
    refine ⟨_, (pss_one (ps_ret (pe_and (pe_callB call_isi (by rfl) T.isinstance (by decide +kernel) (pa_cons (pv 0) (pa_cons (pe_bltn (v := V.ty "int") (by rfl) T.int (by decide +kernel) rfl) pa_nil)))
      (pe_one (pe_not (pe_callB call_isi (by rfl) T.isinstance (by decide +kernel) (pa_cons (pv 0) (pa_cons (pe_bltn (v := V.ty "bool") (by rfl) T.bool (by decide +kernel) rfl) pa_nil)))))))), ?_⟩
    refine ⟨_, rfl, v, .ty "int", _, .type "int", _, rfl, .ty _, hd.ty, kit_int d, _, rfl, ?_⟩
    cases hi : intD d with
    | false =>
      refine iteF ?_
      have e : wholeD d = false := by cases d <;> first | rfl | (exact absurd hi (fun z => by cases z))
      rw [e] at q
      exact q
    | true =>
      refine iteT ?_
      refine ⟨_, rfl, v, .ty "bool", _, .type "bool", _, rfl, .ty _, hd.ty, kit_bool d, _, rfl, ?_⟩
      have e : wholeD d = !boolD d := by cases d <;> first | rfl | (exact absurd hi (fun z => by cases z))
      rw [e] at q
      exact q
theorem dts2 {H : Hp} {vs : List V} {a b : PyData} (h : Dts K H vs [a, b]) : ∃ x y, vs = [x, y] ∧ Dt K H x a ∧ Dt K H y b := by
  cases h with
  | cons h1 h2 =>
    cases h2 with
    | cons h3 h4 =>
      cases h4
      exact ⟨_, _, rfl, h1, h3⟩
/-- an item of a list or tuple -/
theorem seq_at {H : Hp} {a : Addr} {xs : List V} {Q : V → Hp → Prop} {z : Int} {x : V} (h : SqL K H a xs ∨ SqT K H a xs) (e : atI xs z = some x) (q : Q x H) : rIx K (.ref a) (.int z) H Q := by
  rcases h with h | h
  · exact .inl ⟨a, xs, z, x, rfl, rfl, h, e, q⟩
  · exact .inr (.inl ⟨a, xs, z, x, rfl, rfl, h, e, q⟩)
theorem Dt.seq {H : Hp} {v : V} {d : PyData} {ds : List PyData} (h : Dt K H v d) (e : seqD d = some ds) : ∃ a vs, v = .ref a ∧ (SqL K H a vs ∨ SqT K H a vs) ∧ Dts K H vs ds := by
  cases h with
  | lst h1 h2 =>
    cases e
    exact ⟨_, _, rfl, .inl h1, h2⟩
  | tup h1 h2 =>
    cases e
    exact ⟨_, _, rfl, .inr h1, h2⟩
  | _ => cases e
theorem seq_same {H H' : Hp} {a : Addr} {vs : List V} (s : Same H H') (h : SqL K H a vs ∨ SqT K H a vs) : SqL K H' a vs ∨ SqT K H' a vs := h.imp (same_sqL s) (same_sqT s)
theorem scIsRatio : FnScope ["value"] ["value"] (defScope sIsRatio) := ⟨rfl, rfl, rfl, by decide +kernel, rfl, by decide +kernel, by decide +kernel⟩
theorem ok_is_ratio {f : Addr} {fd : FuncData} (F : Fun K "is_ratio" "is_ratio" sIsRatio f fd) (T : Bk mg) (Gw : Df P w K mg base "is_whole" 1 ["value"] (spWhole K)) : FnOk P w K mg base CX0 2 f fd ["value"] (spIsRatio K) := by
  refine F.ok scIsRatio (fun vs H Q E h => ?_) (fun cdv A outer s H vs Q E hr h => ?_)
  · obtain ⟨v, d, rfl, _⟩ := h
    rfl
  · obtain ⟨v, d, rfl, hd, q⟩ := h
    refine ⟨_, (pss_cons (ps_if (pt_val (pe_callB call_isiT (by rfl) T.isinstance (by decide +kernel) (pa_cons (pv 0) (pa_cons (pe_tup (pa_cons (pe_bltn (v := V.ty "tuple") (by rfl) T.tuple (by decide +kernel) rfl) (pa_cons (pe_bltn (v := V.ty "list") (by rfl) T.list (by decide +kernel) rfl) pa_nil))) pa_nil))))
      (pss_one (ps_ret (pe_and (pe_cmpR op_eq (pe_callB call_len_seq (by rfl) T.len (by decide +kernel) (pa_cons (pv 0) pa_nil)) pe_int (nomark _)) (pe_and (pe_call Gw.ok hr rfl Gw.m Gw.kp Gw.b .nil pass0 (pa_cons (pe_ix ix_seq (pv 0) pe_int (fun _ _ => rfl)) pa_nil)) (pe_and (pe_call Gw.ok hr rfl Gw.m Gw.kp Gw.b .nil pass0 (pa_cons (pe_ix ix_seq (pv 0) pe_int (fun _ _ => rfl)) pa_nil)) (pe_one (pe_cmpR op_gt (pe_ix ix_seq (pv 0) pe_int (fun _ _ => rfl)) pe_int (nomark _))))))))
      pss_nil)
      (pss_one (ps_ret (pe_call Gw.ok hr rfl Gw.m Gw.kp Gw.b .nil pass0 (pa_cons (pv 0) pa_nil))))), ?_⟩
    refine ⟨_, rfl, (by show 2 ≤ sizeLine; decide), fun tp ntp => ?_⟩
    have s1 : Same H (upd H tp (HO.tup [V.ty "tuple", V.ty "list"])) := same_upd ntp
    have e1 : upd H tp (HO.tup [V.ty "tuple", V.ty "list"]) tp = some (HO.tup [V.ty "tuple", V.ty "list"]) := upd_same
    generalize upd H tp (HO.tup [V.ty "tuple", V.ty "list"]) = H1 at s1 e1 ⊢
    have hd1 := hd.mono s1
    have q1 := q H1 s1
    refine ⟨v, tp, _, _, [.type "tuple", .type "list"], _, rfl, e1, .cons (.ty _) (.cons (.ty _) .nil), hd1.ty, kit_seq d, _, rfl, ?_⟩
    cases hs : seqD d with
    | none =>
      refine iteF ?_
      refine ⟨_, rfl, v, d, rfl, hd1, ?_⟩
      have e : (partsD d).isSome = wholeD d := by cases d <;> first | rfl | cases hs
      rw [e] at q1
      exact q1
    | some ds =>
      refine iteT ?_
      have ep : partsD d = pair? ds := by cases d <;> first | (cases hs; rfl) | cases hs
      rw [ep] at q1
      obtain ⟨a, vs, rfl, hsq, hds⟩ := hd1.seq hs
      refine ⟨_, rfl, a, vs, rfl, hsq, rfl, _, rfl, ?_⟩
      by_cases hl : vs.length = 2
      · rw [decide_eq_true (by rw [hl]; rfl)]
        refine iteT ?_
        have hl2 : ds.length = 2 := by rw [← hds.len]; exact hl
        match ds, hl2 with
        | [d0, d1], _ =>
        obtain ⟨x, y, rfl, hx, hy⟩ := dts2 hds
        refine ⟨_, rfl, seq_at hsq (at_of (j := 0) rfl rfl) ?_⟩
        refine ⟨x, d0, rfl, hx, _, rfl, ?_⟩
        cases h0 : wholeD d0 with
        | false =>
          refine iteF ?_
          have e : pair? [d0, d1] = none := by cases d0 <;> first | rfl | (cases h0)
          rw [e] at q1
          exact q1
        | true =>
          refine iteT ?_
          refine ⟨_, rfl, seq_at hsq (at_of (j := 1) rfl rfl) ?_⟩
          refine ⟨y, d1, rfl, hy, _, rfl, ?_⟩
          cases h1 : wholeD d1 with
          | false =>
            refine iteF ?_
            have e : pair? [d0, d1] = none := by cases d0 <;> cases d1 <;> first | rfl | (cases h1) | (cases h0)
            rw [e] at q1
            exact q1
          | true =>
            refine iteT ?_
            obtain ⟨i, rfl⟩ : ∃ i, d0 = .int i := by cases d0 <;> first | exact ⟨_, rfl⟩ | cases h0
            obtain ⟨j, rfl⟩ : ∃ j, d1 = .int j := by cases d1 <;> first | exact ⟨_, rfl⟩ | cases h1
            cases hy
            refine ⟨_, rfl, seq_at hsq (at_of (j := 1) rfl rfl) ?_⟩
            refine ⟨_, _, rfl, rfl, ?_⟩
            have e : (pair? [PyData.int i, PyData.int j]).isSome = decide (0 < j) := by
              show (if 0 < j then some (i, j) else none).isSome = decide (0 < j)
              by_cases hj : 0 < j
              · rw [if_pos hj, decide_eq_true hj]; rfl
              · rw [if_neg hj, decide_eq_false hj]; rfl
            rw [e] at q1
            exact q1
      · rw [decide_eq_false (fun z => hl (by have z2 := V.int.inj z; omega))]
        refine iteF ?_
        have e : pair? ds = none := by
          cases hp : pair? ds with
          | none => rfl
          | some tb =>
            obtain ⟨t, b⟩ := tb
            have z := (pair_pos hp).1
            rw [hds.len, z] at hl
            exact absurd rfl hl
        rw [e] at q1
        exact q1
theorem scLowest : FnScope ["top", "bottom", "shared"] ["top", "bottom"] (defScope sLowest) := ⟨rfl, rfl, rfl, by decide +kernel, rfl, by decide +kernel, by decide +kernel⟩
theorem log_of {z : Int} {k : Nat} (hk : 0 < k) (h : z.natAbs < 2 ^ k) : z.natAbs.log2 < k := PySem.Flt.log2_lt_of hk h
theorem sg_cdiv {t b x : Int} (h : b ≠ 0) (hb : b.natAbs < 2 ^ big) : CDivZ x (sg t b) :=
  ⟨sg_ne h, Nat.lt_trans (log_of (k := big) (by decide) (Nat.lt_of_le_of_lt (sg_size h) hb)) (by decide)⟩
theorem ok_lowest {f : Addr} {fd : FuncData} (F : Fun K "lowest" "lowest" sLowest f fd) (T : Bk mg) : FnOk P w K mg base CX0 1 f fd ["top", "bottom"] spLow := by
  refine F.ok scLowest (fun vs H Q E h => ?_) (fun cdv A outer s H vs Q E hr h => ?_)
  · obtain ⟨t, b, rfl, _⟩ := h
    rfl
  · obtain ⟨t, b, rfl, hb, hz, q⟩ := h
    refine ⟨_, (pss_cons (ps_set (i := 2) scLowest.nd rfl (Or.inl rfl) (pe_callBfun cr_gcd (by rfl) T.gcd (pa_cons (pv 0) (pa_cons (pv 1) pa_nil))))
      (C8.pss_cut (ps_if (pt_cmpR op_lt (pv 1) pe_int (nomark _)) (pss_one (ps_set (i := 2) scLowest.nd rfl (Or.inl rfl) (pe_un un_neg (pv 2)))) pss_nil)
      (pss_one (ps_ret (pe_tup (pa_cons (pe_op op_fdivZ (pv 0) (pv 2)) (pa_cons (pe_op op_fdivZ (pv 1) (pv 2)) pa_nil))))))), ?_⟩
    refine ⟨_, rfl, _, rfl, t, b, rfl, fun σ H2 => H2 = H ∧ σ = [some (.int t), some (.int b), some (.int (sg t b))], ?_, ?_⟩
    · refine ⟨_, rfl, _, _, rfl, rfl, _, rfl, ?_⟩
      refine ite2 (fun hlt => ?_) (fun hlt => ?_)
      · have h2 : b < 0 := of_decide_eq_true hlt
        refine ⟨_, rfl, _, rfl, rfl, ?_⟩
        unfold sg
        rw [if_pos h2]
        rfl
      · have h2 : ¬ b < 0 := fun z => hlt (decide_eq_true z)
        refine ⟨rfl, ?_⟩
        unfold sg
        rw [if_neg h2]
        rfl
    · rintro σ H2 ⟨rfl, rfl⟩
      refine ⟨_, rfl, _, rfl, _, _, rfl, rfl, sg_cdiv hb hz, _, rfl, _, rfl, _, _, rfl, rfl, sg_cdiv hb hz, (by show 2 ≤ sizeLine; decide), fun p np => ?_⟩
      exact q p _ (same_upd np) np upd_same
theorem scParts : FnScope ["value", "what"] ["value", "what"] (defScope sParts) := ⟨rfl, rfl, rfl, by decide +kernel, rfl, by decide +kernel, by decide +kernel⟩
theorem ok_parts {f : Addr} {fd : FuncData} (F : Fun K "parts_of" "parts_of" sParts f fd) (T : Bk mg) (Gr : Df P w K mg base "is_ratio" 2 ["value"] (spIsRatio K)) (N : Ex P w K mg base "BadNumber" CN ["what", "number"]) :
    FnOk P w K mg base (L2.CX P w) 3 f fd ["value", "what"] (spParts K CN) := by
  refine F.okX scParts (fun vs H Q E h => ?_) (fun cdv A outer s H vs Q E hr h => ?_)
  · obtain ⟨v, wv, d, rfl, _⟩ := h
    rfl
  · obtain ⟨v, wv, d, rfl, hd, q, e⟩ := h
    refine ⟨_, (pss_cons (ps_if (pt_not (pt_val (pe_call Gr.ok hr rfl Gr.m Gr.kp Gr.b .nil pass0 (pa_cons (pv 0) pa_nil))))
        (pss_one (ps_raise rfl (takes_of rfl rfl rfl rfl) (pmk_oex N.ox N.iC N.tI N.ok hr N.b .nil pass0 (by rfl) N.m (pa_cons (pv 1) (pa_cons (pv 0) pa_nil)))))
        pss_nil)
      (pss_cons (ps_if (pt_val (pe_callB call_isi (by rfl) T.isinstance (by decide +kernel) (pa_cons (pv 0) (pa_cons (pe_bltn (v := V.ty "int") (by rfl) T.int (by decide +kernel) rfl) pa_nil))))
        (pss_one (ps_ret (pe_tup (pa_cons (pv 0) (pa_cons pe_int pa_nil)))))
        pss_nil)
      (pss_one (ps_ret (pe_tup (pa_cons (pe_ix ix_seq (pv 0) pe_int (fun _ _ => rfl)) (pa_cons (pe_ix ix_seq (pv 0) pe_int (fun _ _ => rfl)) pa_nil))))))), ?_⟩
    refine ⟨_, rfl, v, d, rfl, hd, fun H1 s1 => ⟨_, rfl, ?_⟩⟩
    have hd1 := hd.mono s1
    cases hp : partsD d with
    | none =>
      refine iteT ?_
      refine ⟨_, rfl, _, rfl, (by show 2 ≤ 1000; decide), ?_⟩
      exact raise_end rfl fun dd H' s2 n e2 => (e hp).same s1 dd H' s2 n e2
    | some tb =>
      obtain ⟨t, b⟩ := tb
      refine iteF ?_
      refine ⟨_, rfl, v, .ty "int", _, .type "int", _, rfl, .ty _, hd1.ty, kit_int d, _, rfl, ?_⟩
      cases hs : seqD d with
      | none =>
        obtain ⟨i, rfl⟩ : ∃ i, d = .int i := by cases d <;> first | exact ⟨_, rfl⟩ | cases hp | cases hs
        cases hp
        cases hd1
        refine iteT ?_
        refine ⟨_, rfl, (by show 2 ≤ sizeLine; decide), fun p np => ?_⟩
        exact q _ _ rfl p _ (s1.trans (same_upd np)) upd_same
      | some ds =>
        have hi : intD d = false := by cases d <;> first | rfl | cases hs
        rw [hi]
        refine iteF ?_
        have ep : partsD d = pair? ds := by cases d <;> first | (cases hs; rfl) | cases hs
        have hp2 := hp
        rw [ep] at hp2
        obtain ⟨rfl, hb⟩ := pair_pos hp2
        obtain ⟨a, vs, rfl, hsq, hds⟩ := hd1.seq hs
        obtain ⟨x, y, rfl, hx, hy⟩ := dts2 hds
        cases hx
        cases hy
        refine ⟨_, rfl, seq_at hsq (at_of (j := 0) rfl rfl) ?_⟩
        refine ⟨_, rfl, seq_at hsq (at_of (j := 1) rfl rfl) ?_⟩
        refine ⟨(by show 2 ≤ sizeLine; decide), fun p np => ?_⟩
        exact q _ _ hp p _ (s1.trans (same_upd np)) upd_same
theorem scTold : FnScope ["value", "what", "top", "bottom"] ["value", "what"] (defScope sTold) := ⟨rfl, rfl, rfl, by decide +kernel, rfl, by decide +kernel, by decide +kernel⟩
theorem ok_told {f : Addr} {fd : FuncData} (F : Fun K "told" "told" sTold f fd) (Gp : Dx P w K mg base "parts_of" 3 ["value", "what"] (spParts K CN)) (Gl : Df P w K mg base "lowest" 1 ["top", "bottom"] spLow) :
    FnOk P w K mg base (L2.CX P w) 4 f fd ["value", "what"] (spTold K CN) := by
  refine F.okX scTold (fun vs H Q E h => ?_) (fun cdv A outer s H vs Q E hr h => ?_)
  · obtain ⟨v, wv, d, rfl, _⟩ := h
    rfl
  · obtain ⟨v, wv, d, rfl, hd, q, e⟩ := h
    refine ⟨_, (pss_cons (ps_asg (pe_call Gp.ok hr rfl Gp.m Gp.kp Gp.b .nil (E := E) (passes_call (takes_of rfl rfl rfl rfl) (fun _ _ _ _ h => h)) (pa_cons (pv 0) (pa_cons (pv 1) pa_nil))) (pg_tup (by rfl) (pgs_cons (pg_name (i := 2) scTold.nd rfl (Or.inl rfl)) (pgs_cons (pg_name (i := 3) scTold.nd rfl (Or.inl rfl)) pgs_nil))))
      (pss_one (ps_ret (pe_call Gl.ok (hr.mono (by decide)) rfl Gl.m Gl.kp Gl.b .nil pass0 (pa_cons (pv 2) (pa_cons (pv 3) pa_nil)))))), ?_⟩
    refine ⟨_, rfl, _, rfl, v, wv, d, rfl, hd, fun t b hp p H1 s1 e1 => ?_, e⟩
    obtain ⟨hz, q⟩ := q t b hp
    have hb := parts_pos hp
    refine ⟨p, _, rfl, SqT.of e1, rfl, _, _, rfl, _, _, rfl, rfl, ?_⟩
    refine ⟨_, rfl, _, rfl, t, b, rfl, by omega, hz, fun p2 H2 s2 n2 e2 => ?_⟩
    exact q p2 H2 (s1.trans s2) e2
end

end Vf

set_option maxRecDepth 100000
set_option maxHeartbeats 8000000
namespace Vf
open PySem PySem.Spec PyProof.Rows L2
/-! ### two ratios -/
/-- below 2 ^ 1900 in size -/
def Sz (z : Int) : Prop := z.natAbs < 2 ^ 1900
theorem sz_mulW {x y : Int} (h1 : Sz x) (h2 : Sz y) : CMulW x y := wide_mul h1 h2 (by decide) (by decide) (by decide)
theorem sz_mul {x y : Int} (h1 : Sz x) (h2 : Sz y) : (x * y).natAbs < 2 ^ 3800 := wide_lt h1 h2
/-- what a def of two ratios promises: of the right ones ok, of the first wrong one the error -/
def spTwo (K : PySem.W.Frag) (CN : Addr) (ok : V → Int → Int → Int → Int → Hp → VK → XK → Prop) : Sp := fun vs H Q E => ∃ (v u : V) (d e : PyData), vs = [v, u] ∧ Dt K H v d ∧ Dt K H u e ∧
  (∀ t b x c, partsD d = some (t, b) → partsD e = some (x, c) → Sz t ∧ Sz b ∧ Sz x ∧ Sz c ∧ ok u t b x c H Q E) ∧
  (partsD d = none → RaisesN CN H (.str "ratio") v E) ∧ ((partsD d).isSome = true → partsD e = none → RaisesN CN H (.str "ratio") u E)
def okLow (g : Int → Int → Int → Int → Int × Int) : V → Int → Int → Int → Int → Hp → VK → XK → Prop := fun _ t b x c H Q _ =>
  ∀ (p : Addr) (H' : Hp), Same H H' → H' p = some (.tup [.int (low (g t b x c).1 (g t b x c).2).1, .int (low (g t b x c).1 (g t b x c).2).2]) → Q (.ref p) H'
def gPlus (t b x c : Int) : Int × Int := (t * c + x * b, b * c)
def gMinus (t b x c : Int) : Int × Int := (t * c - x * b, b * c)
def gTimes (t b x c : Int) : Int × Int := (t * x, b * c)
def gShare (t b x c : Int) : Int × Int := (t * c, b * x)
def okShare (CN : Addr) : V → Int → Int → Int → Int → Hp → VK → XK → Prop := fun u t b x c H Q E => (x = 0 → RaisesN CN H (.str "divisor") u E) ∧ (x ≠ 0 → okLow gShare u t b x c H Q E)
def okLower : V → Int → Int → Int → Int → Hp → VK → XK → Prop := fun _ t b x c H Q _ => ∀ H', Same H H' → Q (.bl (decide (t * c < x * b))) H'
section
variable {P : Program} {w : World} {K : PySem.W.Frag} {mg : Str → Option Value} {base : Heap} {CN : Addr}
abbrev sPlus : Stmt := topS 16
theorem scPlus : FnScope ["one", "other", "top", "bottom", "other_top", "other_bottom"] ["one", "other"] (defScope sPlus) := ⟨rfl, rfl, rfl, by decide +kernel, rfl, by decide +kernel, by decide +kernel⟩
theorem ok_plus {f : Addr} {fd : FuncData} (F : Fun K "plus" "plus" sPlus f fd) (Gp : Dx P w K mg base "parts_of" 3 ["value", "what"] (spParts K CN)) (Gl : Df P w K mg base "lowest" 1 ["top", "bottom"] spLow) (N : Ex P w K mg base "BadNumber" CN ["what", "number"]) :
    FnOk P w K mg base (L2.CX P w) 4 f fd ["one", "other"] (spTwo K CN (okLow gPlus)) := by
  refine F.okX scPlus (fun vs H Q E h => ?_) (fun cdv A outer s H vs Q E hr h => ?_)
  · obtain ⟨v, u, d, e, rfl, _⟩ := h
    rfl
  · obtain ⟨v, u, d, e, rfl, hd, he', q, r1, r2⟩ := h
    refine ⟨_, (pss_cons (ps_asg (pe_call Gp.ok hr rfl Gp.m Gp.kp Gp.b .nil (E := E) (passes_call (takes_of rfl rfl rfl rfl) (fun _ _ _ _ h => h)) (pa_cons (pv 0) (pa_cons pe_str pa_nil))) (pg_tup (by rfl) (pgs_cons (pg_name (i := 2) scPlus.nd rfl (Or.inl rfl)) (pgs_cons (pg_name (i := 3) scPlus.nd rfl (Or.inl rfl)) pgs_nil))))
      (pss_cons (ps_asg (pe_call Gp.ok hr rfl Gp.m Gp.kp Gp.b .nil (E := E) (passes_call (takes_of rfl rfl rfl rfl) (fun _ _ _ _ h => h)) (pa_cons (pv 1) (pa_cons pe_str pa_nil))) (pg_tup (by rfl) (pgs_cons (pg_name (i := 4) scPlus.nd rfl (Or.inl rfl)) (pgs_cons (pg_name (i := 5) scPlus.nd rfl (Or.inl rfl)) pgs_nil))))
      (pss_one (ps_ret (pe_call Gl.ok (hr.mono (by decide)) rfl Gl.m Gl.kp Gl.b .nil pass0 (pa_cons (pe_op op_add (pe_op op_mulW (pv 2) (pv 5)) (pe_op op_mulW (pv 4) (pv 3))) (pa_cons (pe_op op_mulW (pv 3) (pv 5)) pa_nil))))))), ?_⟩
    refine ⟨_, rfl, v, .str "ratio", d, rfl, hd, fun t b hp p H1 s1 e1 => ?_, r1⟩
    have r2 := r2 (by rw [hp]; rfl)
    have q := fun x c he => q t b x c hp he
    refine ⟨p, _, rfl, SqT.of e1, rfl, _, _, rfl, _, _, rfl, rfl, ?_⟩
    refine ⟨_, rfl, u, .str "ratio", e, rfl, he'.mono s1, fun x c he p2 H2 s2 e2 => ?_, fun z => (r2 z).same s1⟩
    refine ⟨p2, _, rfl, SqT.of e2, rfl, _, _, rfl, _, _, rfl, rfl, ?_⟩
    obtain ⟨ht, hb, hx, hc, q⟩ := q x c he
    have s12 := s1.trans s2
    refine ⟨_, rfl, _, rfl, _, _, rfl, rfl, sz_mulW ht hc, _, rfl, _, rfl, _, _, rfl, rfl, sz_mulW hx hb, _, _, rfl, rfl, _, rfl, _, rfl, _, _, rfl, rfl, sz_mulW hb hc, _, _, rfl, by have := parts_pos hp; have := parts_pos he; exact Int.ne_of_gt (Int.mul_pos ‹_› ‹_›), Nat.lt_trans (sz_mul hb hc) (by decide +kernel), fun p H4 s4 n4 e4 => ?_⟩
    exact q p H4 (s12.trans s4) e4
abbrev sLower : Stmt := topS 17
theorem scLower : FnScope ["one", "other", "top", "bottom", "other_top", "other_bottom"] ["one", "other"] (defScope sLower) := ⟨rfl, rfl, rfl, by decide +kernel, rfl, by decide +kernel, by decide +kernel⟩
theorem ok_lower {f : Addr} {fd : FuncData} (F : Fun K "lower" "lower" sLower f fd) (Gp : Dx P w K mg base "parts_of" 3 ["value", "what"] (spParts K CN)) (Gl : Df P w K mg base "lowest" 1 ["top", "bottom"] spLow) (N : Ex P w K mg base "BadNumber" CN ["what", "number"]) :
    FnOk P w K mg base (L2.CX P w) 4 f fd ["one", "other"] (spTwo K CN okLower) := by
  refine F.okX scLower (fun vs H Q E h => ?_) (fun cdv A outer s H vs Q E hr h => ?_)
  · obtain ⟨v, u, d, e, rfl, _⟩ := h
    rfl
  · obtain ⟨v, u, d, e, rfl, hd, he', q, r1, r2⟩ := h
    refine ⟨_, (pss_cons (ps_asg (pe_call Gp.ok hr rfl Gp.m Gp.kp Gp.b .nil (E := E) (passes_call (takes_of rfl rfl rfl rfl) (fun _ _ _ _ h => h)) (pa_cons (pv 0) (pa_cons pe_str pa_nil))) (pg_tup (by rfl) (pgs_cons (pg_name (i := 2) scLower.nd rfl (Or.inl rfl)) (pgs_cons (pg_name (i := 3) scLower.nd rfl (Or.inl rfl)) pgs_nil))))
      (pss_cons (ps_asg (pe_call Gp.ok hr rfl Gp.m Gp.kp Gp.b .nil (E := E) (passes_call (takes_of rfl rfl rfl rfl) (fun _ _ _ _ h => h)) (pa_cons (pv 1) (pa_cons pe_str pa_nil))) (pg_tup (by rfl) (pgs_cons (pg_name (i := 4) scLower.nd rfl (Or.inl rfl)) (pgs_cons (pg_name (i := 5) scLower.nd rfl (Or.inl rfl)) pgs_nil))))
      (pss_one (ps_ret (pe_cmpR op_lt (pe_op op_mulW (pv 2) (pv 5)) (pe_op op_mulW (pv 4) (pv 3)) (nomark _)))))), ?_⟩
    refine ⟨_, rfl, v, .str "ratio", d, rfl, hd, fun t b hp p H1 s1 e1 => ?_, r1⟩
    have r2 := r2 (by rw [hp]; rfl)
    have q := fun x c he => q t b x c hp he
    refine ⟨p, _, rfl, SqT.of e1, rfl, _, _, rfl, _, _, rfl, rfl, ?_⟩
    refine ⟨_, rfl, u, .str "ratio", e, rfl, he'.mono s1, fun x c he p2 H2 s2 e2 => ?_, fun z => (r2 z).same s1⟩
    refine ⟨p2, _, rfl, SqT.of e2, rfl, _, _, rfl, _, _, rfl, rfl, ?_⟩
    obtain ⟨ht, hb, hx, hc, q⟩ := q x c he
    have s12 := s1.trans s2
    refine ⟨_, rfl, _, rfl, _, _, rfl, rfl, sz_mulW ht hc, _, rfl, _, rfl, _, _, rfl, rfl, sz_mulW hx hb, _, _, rfl, rfl, ?_⟩
    exact q _ s12
end
/-! ### the law's own ratios -/
def spGcd : Sp := fun vs H Q _ => ∃ a b : Int, vs = [.int a, .int b] ∧ a.natAbs < 2 ^ big ∧ b.natAbs < 2 ^ big ∧ Q (.int ((Nat.gcd a.natAbs b.natAbs : Nat) : Int)) H
def spQ : Sp := fun vs H Q _ => ∃ t b : Int, vs = [.int t, .int b] ∧ b ≠ 0 ∧ t.natAbs < 2 ^ big ∧ b.natAbs < 2 ^ big ∧ ∀ (p : Addr) (H' : Hp), Same H H' → H p = none → H' p = some (.tup [.int (low t b).1, .int (low t b).2]) → Q (.ref p) H'
section
variable {P : Program} {w : World} {K : PySem.W.Frag} {mg : Str → Option Value} {base : Heap} {CN : Addr}
abbrev sLGcd : Stmt := topS 48
abbrev sLQ : Stmt := topS 49
theorem scLGcd : FnScope ["_law_one", "_law_two", "_law_lap"] ["_law_one", "_law_two"] (defScope sLGcd) := ⟨rfl, rfl, rfl, by decide +kernel, rfl, by decide +kernel, by decide +kernel⟩
theorem ok_lgcd {f : Addr} {fd : FuncData} (F : Fun K "_law_gcd" "_law_gcd" sLGcd f fd) (T : Bk mg) : FnOk P w K mg base CX0 1 f fd ["_law_one", "_law_two"] spGcd := by
  refine F.ok scLGcd (fun vs H Q E h => ?_) (fun cdv A outer s H vs Q E hr h => ?_)
  · obtain ⟨a, b, rfl, _⟩ := h
    rfl
  · obtain ⟨a, b, rfl, ha, hb, q⟩ := h
    refine ⟨_, (pss_cons (ps_par (i := 0) (j := 1) (by rfl) scLGcd.nd rfl rfl (by decide) rfl rfl (pa_cons (pe_callB call_abs (by rfl) T.abs (by decide +kernel) (pa_cons (pv 0) pa_nil)) (pa_cons (pe_callB call_abs (by rfl) T.abs (by decide +kernel) (pa_cons (pv 1) pa_nil)) pa_nil)) (by rfl))
      (pss_cons (ps_for PassesOwn.never rfl (pi_range1 (by rfl) T.range (pa_cons pe_int pa_nil)) (pg_name (i := 2) scLGcd.nd rfl (Or.inl rfl))
        (pss_cons (ps_if (pt_cmpR op_eq (pv 1) pe_int (nomark _)) (pss_one ps_break) pss_nil)
        (pss_one (ps_par (i := 0) (j := 1) (by rfl) scLGcd.nd rfl rfl (by decide) rfl rfl (pa_cons (pv 1) (pa_cons (pe_op op_mod (pe_callTy call_int1 (by rfl) T.int (by decide +kernel) (pa_cons (pv 0) pa_nil)) (pv 1)) pa_nil)) (by rfl)))))
      (pss_one (ps_ret (pv 0))))), ?_⟩
    refine ⟨_, rfl, _, rfl, _, rfl, _, rfl, _, _, rfl, ?_⟩
    refine ⟨50000, rfl, by decide, by decide, for_range (lo := 0) (n := 50000) (fun i σ H2 => H2 = H ∧ ∃ (x y : Int) (v : Option V), σ = [some (.int x), some (.int y), v] ∧ Lap (Nat.gcd a.natAbs b.natAbs) (a.natAbs * b.natAbs) i x y) ⟨rfl, _, _, none, rfl, lap0 a b⟩ ?_ ?_⟩
    · rintro i σ H2 hi ⟨rfl, x, y, v, rfl, h⟩
      refine ⟨_, rfl, rfl, _, rfl, ?_⟩
      by_cases hy : y = 0
      · rw [decide_eq_true (by rw [hy])]
        refine iteT ?_
        refine ⟨_, rfl, ?_⟩
        have e := lap_end h hy
        rw [e]
        exact q
      · rw [decide_eq_false (fun z => hy (by have z2 := V.int.inj z; exact z2))]
        refine iteF ?_
        have y0 := h.b0
        refine ⟨_, rfl, _, rfl, .inl ⟨_, rfl, _, rfl, _, _, rfl, rfl, (by show 0 < y; omega), _, _, rfl, ?_⟩⟩
        exact ⟨rfl, _, _, _, rfl, lap_next h hy⟩
    · rintro σ H2 ⟨rfl, x, y, v, rfl, h⟩
      have hP : a.natAbs * b.natAbs < 2 ^ (50000 - 1) := by
        have z : a.natAbs * b.natAbs < 2 ^ (big + big) := by
          rw [Nat.pow_add]
          exact Nat.mul_lt_mul'' ha hb
        exact Nat.lt_trans z (Nat.pow_lt_pow_right (by decide) (by decide))
      have e := lap_end h (lap_over h (by decide) hP)
      refine ⟨_, rfl, ?_⟩
      rw [e]
      exact q
theorem scLQ : FnScope ["_law_top", "_law_bottom", "_law_by"] ["_law_top", "_law_bottom"] (defScope sLQ) := ⟨rfl, rfl, rfl, by decide +kernel, rfl, by decide +kernel, by decide +kernel⟩
theorem ok_lq {f : Addr} {fd : FuncData} (F : Fun K "_law_q" "_law_q" sLQ f fd) (G : Df P w K mg base "_law_gcd" 1 ["_law_one", "_law_two"] spGcd) : FnOk P w K mg base CX0 2 f fd ["_law_top", "_law_bottom"] spQ := by
  refine F.ok scLQ (fun vs H Q E h => ?_) (fun cdv A outer s H vs Q E hr h => ?_)
  · obtain ⟨t, b, rfl, _⟩ := h
    rfl
  · obtain ⟨t, b, rfl, hb, ht, hz, q⟩ := h
    refine ⟨_, (pss_cons (ps_set (i := 2) scLQ.nd rfl (Or.inl rfl) (pe_call G.ok hr rfl G.m G.kp G.b .nil pass0 (pa_cons (pv 0) (pa_cons (pv 1) pa_nil))))
      (pss_cons (ps_set (i := 2) scLQ.nd rfl (Or.inl rfl) (pe_ifExp (pt_cmpR op_lt (pv 1) pe_int (nomark _)) (pe_un un_neg (pv 2)) (pv 2)))
      (pss_one (ps_ret (pe_tup (pa_cons (pe_op op_fdivZ (pv 0) (pv 2)) (pa_cons (pe_op op_fdivZ (pv 1) (pv 2)) pa_nil))))))), ?_⟩
    have tail : ∀ s : Int, s = sg t b → (∀ p, H p = none → Q (.ref p) (upd H p (.tup [.int (t.fdiv s), .int (b.fdiv s)]))) := fun s e p np => by
      rw [e]
      exact q p _ (same_upd np) np upd_same
    refine ⟨_, rfl, _, rfl, t, b, rfl, ht, hz, _, rfl, _, _, rfl, rfl, _, rfl, ?_⟩
    refine ite2 (fun hlt => ?_) (fun hlt => ?_)
    · have h2 : b < 0 := of_decide_eq_true hlt
      have e : -((Nat.gcd t.natAbs b.natAbs : Nat) : Int) = sg t b := by unfold sg; rw [if_pos h2]
      have c : ∀ x : Int, CDivZ x (-((Nat.gcd t.natAbs b.natAbs : Nat) : Int)) := fun x => by rw [e]; exact sg_cdiv hb hz
      exact ⟨_, rfl, _, rfl, _, rfl, _, rfl, _, _, rfl, rfl, c _, _, rfl, _, rfl, _, _, rfl, rfl, c _, (by show 2 ≤ sizeLine; decide), tail _ e⟩
    · have h2 : ¬ b < 0 := fun z => hlt (decide_eq_true z)
      have e : ((Nat.gcd t.natAbs b.natAbs : Nat) : Int) = sg t b := by unfold sg; rw [if_neg h2]
      have c : ∀ x : Int, CDivZ x ((Nat.gcd t.natAbs b.natAbs : Nat) : Int) := fun x => by rw [e]; exact sg_cdiv hb hz
      exact ⟨_, rfl, _, rfl, _, rfl, _, _, rfl, rfl, c _, _, rfl, _, rfl, _, _, rfl, rfl, c _, (by show 2 ≤ sizeLine; decide), tail _ e⟩
end

end Vf

set_option maxRecDepth 100000
set_option maxHeartbeats 8000000
namespace Vf
open PySem PySem.Spec PyProof.Rows L2
/-! ### the law's odd values -/
def spAny (K : PySem.W.Frag) : Sp := fun vs H Q _ => ∃ (p lc : Addr) (B : Int), vs = [.ref p] ∧ Pen H p lc B ∧ B ≤ 100000000 ∧
  ∀ (v : V) (d : PyData) (H' : Hp), Pen H' p lc (B + 1) → Kp p H H' → Dt K (nw H H') v d → partsD d = none → Gd d → (PyData.str d.shown).canLay0 = true → Q v H'
section
variable {P : Program} {w : World} {K : PySem.W.Frag} {mg : Str → Option Value} {base : Heap}
end

end Vf

set_option maxRecDepth 100000
set_option maxHeartbeats 8000000
namespace Vf
open PySem PySem.Spec PyProof.Rows L2
/-! ### the law's passed ratios, some ratios -/
/-- below 2 ^ 110 in size -/
def S80 (z : Int) : Prop := z.natAbs < 2 ^ 110
theorem s80_k {t k : Int} (h : S80 t) (h0 : 0 < k) (h3 : k ≤ 3) : (t * k).natAbs < 2 ^ 120 := by
  unfold S80 at h
  rw [Int.natAbs_mul]
  have hk : k.natAbs ≤ 3 := by omega
  have : t.natAbs * k.natAbs ≤ t.natAbs * 3 := Nat.mul_le_mul_left _ hk
  have e : (2 : Nat) ^ 120 = 2 ^ 110 * 1024 := by decide +kernel
  rw [e]
  omega
theorem gd_z {z : Int} (h : z.natAbs < 2 ^ 120) : Gd (.int z) := gd_int (Nat.lt_trans h (Nat.pow_lt_pow_right (by decide) (by decide)))
theorem gd_pair {a b : Int} (ha : a.natAbs < 2 ^ 120) (hb : b.natAbs < 2 ^ 120) : Gd (.list [.int a, .int b]) ∧ Gd (.tuple [.int a, .int b]) := by
  have ga := gd_z ha
  have gb := gd_z hb
  have all : ∀ d ∈ [PyData.int a, PyData.int b], d = .int a ∨ d = .int b := fun d hd => by simpa using hd
  have big : ∀ {z : Int}, z.natAbs < 2 ^ 120 → (PyData.int z).shown.length ≤ 2000 := fun {z} h => by
    simp only [PyData.shown]
    exact Nat.le_trans (int_text_len_1921 (log_small (Nat.lt_trans h (Nat.pow_lt_pow_right (by decide) (by decide))))) (by decide)
  refine gd_seq (ds := [.int a, .int b]) (n := 2) (m := 2000) (Nat.le_refl 2) (fun d hd => ?_) (fun d hd => ?_) (fun d hd => ?_) (by decide)
  · rcases all d hd with h | h <;> rw [h]
    · exact ga.sh
    · exact gb.sh
  · rcases all d hd with h | h <;> rw [h] <;> simp [PyData.depth]
  · rcases all d hd with h | h <;> rw [h]
    · exact big ha
    · exact big hb
def spPassed (K : PySem.W.Frag) : Sp := fun vs H Q _ => ∃ (p lc r : Addr) (B t b : Int), vs = [.ref p, .ref r] ∧ Pen H p lc B ∧ B ≤ 100000000 ∧ H r = some (.tup [.int t, .int b]) ∧ 0 < b ∧ S80 t ∧ S80 b ∧
  ∀ (v : V) (d : PyData) (k : Int) (H' : Hp), Pen H' p lc (B + 3) → Kp p H H' → Dt K (nw H H') v d → partsD d = some (t * k, b * k) → 0 < k → k ≤ 3 → Gd d → Q v H'
section
variable {P : Program} {w : World} {K : PySem.W.Frag} {mg : Str → Option Value} {base : Heap}
abbrev sPassed : Stmt := topS 55
theorem scPassed : FnScope ["_law_pen_here", "_law_ratio_here", "_law_by"] ["_law_pen_here", "_law_ratio_here"] (defScope sPassed) := ⟨rfl, rfl, rfl, by decide +kernel, rfl, by decide +kernel, by decide +kernel⟩
theorem ok_passed {f : Addr} {fd : FuncData} (F : Fun K "_law_passed" "_law_passed" sPassed f fd) (Gd_ : Df P w K mg base "_law_draw" 1 ["_law_pen_here", "_law_many"] spDraw) (Gp : Df P w K mg base "_law_pick" 2 ["_law_pen_here", "_law_some"] spPick) : FnOk P w K mg base CX0 3 f fd ["_law_pen_here", "_law_ratio_here"] (spPassed K) := by
  refine F.ok scPassed (fun vs H Q E h => ?_) (fun cdv A outer s H vs Q E hr h => ?_)
  · obtain ⟨p, lc, r, B, t, b, rfl, _⟩ := h
    rfl
  · obtain ⟨p, lc, r, B, t, b, rfl, hP, hB, hr0, hb, ht, hbz, q⟩ := h
    have rp : r ≠ p := by
      obtain ⟨_, _, _, _, _, g1, _⟩ := hP
      exact ne_of hr0 g1.1 (by intro z; cases z)
    refine ⟨_, (C8.pss_cut (ps_if (PW.pt (pw_and (pt_cmpR op_eq (pe_ix ix_tup (pv 1) pe_int (fun _ _ => rfl)) pe_int (nomark _)) (pw_and1 (pt_cmpR op_eq (pe_call Gd_.ok (hr.mono (by decide)) rfl Gd_.m Gd_.kp Gd_.b .nil pass0 (pa_cons (pv 0) (pa_cons pe_int pa_nil))) pe_int (nomark _)))))
        (pss_one (ps_ret (pe_ix ix_tup (pv 1) pe_int (fun _ _ => rfl))))
        pss_nil)
      (pss_cons (ps_set (i := 2) scPassed.nd rfl (Or.inl rfl) (pe_call Gp.ok hr rfl Gp.m Gp.kp Gp.b .nil pass0 (pa_cons (pv 0) (pa_cons (pe_lst (pa_cons pe_int (pa_cons pe_int (pa_cons pe_int (pa_cons pe_int pa_nil))))) pa_nil))))
      (pss_one (ps_ret (pe_call Gp.ok hr rfl Gp.m Gp.kp Gp.b .nil pass0 (pa_cons (pv 0) (pa_cons (pe_lst (pa_cons (pe_tup (pa_cons (pe_op op_mul (pe_ix ix_tup (pv 1) pe_int (fun _ _ => rfl)) (pv 2)) (pa_cons (pe_op op_mul (pe_ix ix_tup (pv 1) pe_int (fun _ _ => rfl)) (pv 2)) pa_nil))) (pa_cons (pe_lst (pa_cons (pe_op op_mul (pe_ix ix_tup (pv 1) pe_int (fun _ _ => rfl)) (pv 2)) (pa_cons (pe_op op_mul (pe_ix ix_tup (pv 1) pe_int (fun _ _ => rfl)) (pv 2)) pa_nil))) pa_nil))) pa_nil))))))), ?_⟩
    refine ⟨fun σ H2 => ∃ B1, σ = [some (.ref p), some (.ref r), none] ∧ Pen H2 p lc B1 ∧ B1 ≤ B + 1 ∧ Kp p H H2, ?_, ?_⟩
    · refine ⟨_, rfl, r, _, _, .int b, rfl, rfl, SqT.of hr0, at_of (j := 1) rfl rfl, rfl, _, rfl, ?_⟩
      by_cases hb1 : b = 1
      · rw [decide_eq_true (by rw [hb1])]
        refine iteT ?_
        refine ⟨_, rfl, p, lc, B, _, rfl, hP, by omega, by decide, by decide, fun z H1 z0 z1 hP1 k1 => ⟨rfl, _, rfl, ?_⟩⟩
        have hr1 := k1 _ _ rp hr0
        by_cases hz : z = 0
        · rw [decide_eq_true (by rw [hz])]
          refine iteT ?_
          refine ⟨_, rfl, r, _, _, .int t, rfl, rfl, SqT.of hr1, at_of (j := 0) rfl rfl, ?_⟩
          exact q (.int t) (.int t) 1 H1 (hP1.more (by omega)) k1 (.int t) (by show some (t, 1) = some (t * 1, b * 1); rw [hb1, Int.mul_one, Int.mul_one]) (by decide) (by decide) (gd_z (Nat.lt_trans ht (by decide +kernel)))
        · rw [decide_eq_false (fun h => hz (by have h2 := V.int.inj h; exact h2))]
          refine iteF ?_
          exact ⟨B + 1, rfl, hP1, Int.le_refl _, k1⟩
      · rw [decide_eq_false (fun h => hb1 (by have h2 := V.int.inj h; exact h2))]
        refine iteF ?_
        exact ⟨B, rfl, hP, by omega, Kp.refl⟩
    · rintro σ H1 ⟨B1, rfl, hP1, hB1, k1⟩
      have hr1 := k1 _ _ rp hr0
      refine ⟨_, rfl, (by show 4 ≤ sizeLine; decide), fun l nl => ?_⟩
      have el : upd H1 l (HO.lst [V.int 1, V.int 1, V.int 2, V.int 3]) l = some (HO.lst [V.int 1, V.int 1, V.int 2, V.int 3]) := upd_same
      have s1 : Same H1 (upd H1 l (HO.lst [V.int 1, V.int 1, V.int 2, V.int 3])) := same_upd nl
      have lp : l ≠ p := by
        obtain ⟨o, e⟩ := hP1.there
        exact (ne_of_none e nl).symm
      generalize upd H1 l (HO.lst [V.int 1, V.int 1, V.int 2, V.int 3]) = H2 at el s1 ⊢
      refine ⟨p, lc, l, B1, _, rfl, hP1.same s1, by omega, el, lp, (by show 0 < 4; decide), (by show 4 < 1000000; decide), fun x H3 hx hP3 k3 => ?_⟩
      obtain ⟨k, rfl, hk0, hk3⟩ : ∃ k : Int, x = .int k ∧ 0 < k ∧ k ≤ 3 := by
        simp only [List.mem_cons, List.not_mem_nil, or_false] at hx
        rcases hx with h | h | h | h
        · exact ⟨1, h, by decide, by decide⟩
        · exact ⟨1, h, by decide, by decide⟩
        · exact ⟨2, h, by decide, by decide⟩
        · exact ⟨3, h, by decide, by decide⟩
      have k13 : Kp p H H3 := (k1.trans (Kp.of s1)).trans k3
      have hr3 := k13 _ _ rp hr0
      have mk : ∀ z : Int, CMul z k := fun z => .inr ⟨by omega, by omega⟩
      refine ⟨_, rfl, _, rfl, r, _, _, .int t, rfl, rfl, SqT.of hr3, at_of (j := 0) rfl rfl, _, rfl, _, _, rfl, rfl, mk _, _, rfl, r, _, _, .int b, rfl, rfl, SqT.of hr3, at_of (j := 1) rfl rfl, _, rfl, _, _, rfl, rfl, mk _, (by show 2 ≤ sizeLine; decide), fun t1 n1 => ?_⟩
      have e1 : upd H3 t1 (HO.tup [V.int (t * k), V.int (b * k)]) t1 = some (HO.tup [V.int (t * k), V.int (b * k)]) := upd_same
      have s4 : Same H3 (upd H3 t1 (HO.tup [V.int (t * k), V.int (b * k)])) := same_upd n1
      have tp : t1 ≠ p := by
        obtain ⟨o, e⟩ := hP3.there
        exact (ne_of_none e n1).symm
      generalize upd H3 t1 (HO.tup [V.int (t * k), V.int (b * k)]) = H4 at e1 s4 ⊢
      have hP4 := hP3.same s4
      have hr4 := s4 _ _ hr3
      refine ⟨_, rfl, r, _, _, .int t, rfl, rfl, SqT.of hr4, at_of (j := 0) rfl rfl, _, rfl, _, _, rfl, rfl, mk _, _, rfl, r, _, _, .int b, rfl, rfl, SqT.of hr4, at_of (j := 1) rfl rfl, _, rfl, _, _, rfl, rfl, mk _, (by show 2 ≤ sizeLine; decide), fun l2 n2 => ?_⟩
      have e2 : upd H4 l2 (HO.lst [V.int (t * k), V.int (b * k)]) l2 = some (HO.lst [V.int (t * k), V.int (b * k)]) := upd_same
      have s5 : Same H4 (upd H4 l2 (HO.lst [V.int (t * k), V.int (b * k)])) := same_upd n2
      have l2p : l2 ≠ p := by
        obtain ⟨o, e⟩ := hP4.there
        exact (ne_of_none e n2).symm
      generalize upd H4 l2 (HO.lst [V.int (t * k), V.int (b * k)]) = H5 at e2 s5 ⊢
      have hP5 := hP4.same s5
      refine ⟨(by show 2 ≤ sizeLine; decide), fun l3 n3 => ?_⟩
      have e3 : upd H5 l3 (HO.lst [V.ref t1, V.ref l2]) l3 = some (HO.lst [V.ref t1, V.ref l2]) := upd_same
      have s6 : Same H5 (upd H5 l3 (HO.lst [V.ref t1, V.ref l2])) := same_upd n3
      have l3p : l3 ≠ p := by
        obtain ⟨o, e⟩ := hP5.there
        exact (ne_of_none e n3).symm
      generalize upd H5 l3 (HO.lst [V.ref t1, V.ref l2]) = H6 at e3 s6 ⊢
      have hP6 := hP5.same s6
      refine ⟨p, lc, l3, _, _, rfl, hP6, by omega, e3, l3p, (by show 0 < 2; decide), (by show 2 < 1000000; decide), fun x H7 hx hP7 k7 => ?_⟩
      have k17 : Kp p H H7 := ((k13.trans (Kp.of s4)).trans (Kp.of (s5.trans s6))).trans k7
      have hbk : 0 < b * k := Int.mul_pos hb hk0
      have pr : pair? [.int (t * k), .int (b * k)] = some (t * k, b * k) := by
        show (if 0 < b * k then some (t * k, b * k) else none) = some (t * k, b * k)
        rw [if_pos hbk]
      have gp := gd_pair (s80_k ht hk0 hk3) (s80_k hbz hk0 hk3)
      simp only [List.mem_cons, List.not_mem_nil, or_false] at hx
      rcases hx with h | h
      · rw [h]
        exact q _ (.tuple [.int (t * k), .int (b * k)]) k H7 (hP7.more (by omega)) k17 (.tup (SqT.of (nw_at (some_free k13 hP3.there.choose_spec n1) (k7 _ _ tp (s6 _ _ (s5 _ _ e1))))) (.cons (.int _) (.cons (.int _) .nil))) pr hk0 hk3 gp.2
      · rw [h]
        exact q _ (.list [.int (t * k), .int (b * k)]) k H7 (hP7.more (by omega)) k17 (.lst (SqL.of (nw_at (some_free k13 hP3.there.choose_spec (s4.free n2)) (k7 _ _ l2p (s6 _ _ e2)))) (.cons (.int _) (.cons (.int _) .nil))) pr hk0 hk3 gp.1
end

end Vf

set_option maxRecDepth 100000
set_option maxHeartbeats 8000000
namespace Vf
open PySem PySem.Spec PyProof.Rows L2
/-! ### the law's why: a lambda called in a try -/
/-- the classes that it names -/
structure Wc (K : PySem.W.Frag) (mg : Str → Option Value) (C : Nat → Addr) : Prop where
  m0 : mg "BadText" = some (.ref (C 0))
  m1 : mg "BadNumber" = some (.ref (C 1))
  m2 : mg "BadRow" = some (.ref (C 2))
  m3 : mg "TooMany" = some (.ref (C 3))
  m4 : mg "Unlike" = some (.ref (C 4))
  m5 : mg "TooWide" = some (.ref (C 5))
  m6 : mg "Pole" = some (.ref (C 6))
  xf : ∀ k, k < 7 → XfC K (C k)
  ex : ∀ k j, k < 7 → j < 7 → PySem.W.exmOne K (.ref (C k)) (.ref (C j)) = some (decide (k = j))
  n0 : PySem.W.findIn K (.ref (C 0)) "column" = some none
  n1 : PySem.W.findIn K (.ref (C 1)) "what" = some none
  n1b : PySem.W.findIn K (.ref (C 1)) "number" = some none
  n2 : PySem.W.findIn K (.ref (C 2)) "row" = some none
  n3 : PySem.W.findIn K (.ref (C 3)) "what" = some none
  n3b : PySem.W.findIn K (.ref (C 3)) "limit" = some none
  n4 : PySem.W.findIn K (.ref (C 4)) "what" = some none
  repr : mg "repr" = none
/-- repr of data, by the units alone (in a suite too) -/
theorem call_reprU {X : Cx} (K : PySem.W.Frag) (hg : X.A.guards = some []) (hu : X.A.units + 150 < cLine) (m : M1 X.base) (hK : X.K = K := by rfl) :
    CallR X (.builtin "repr") (fun xs H Q => ∃ v d, xs = [v] ∧ Dt K H v d ∧ small d ∧ Q (.str d.shown) H) := by
  subst hK
  intro pins s σ H xs us Q I r h
  obtain ⟨v, d, rfl, hd, ⟨hs, hz, hl⟩, q⟩ := h
  obtain ⟨u, rfl, ru⟩ := vals1 r
  obtain ⟨as, rd, na⟩ := Dt.reads I m hd ru
  have hu2 : X.A.units + (d.depth + 1) < cLine := by omega
  cases rd with
  | none => exact PySem.P.repr_of_none ⟨.str _, H, I.tok _, ⟨_, rfl⟩, by simpa only [PyData.shown] using q⟩
  | bool b => exact PySem.P.repr_of_bool ⟨.str _, H, I.tok _, ⟨_, rfl⟩, by simpa only [PyData.shown] using q⟩
  | int i t => exact PySem.P.repr_of_int (by simpa [PyData.showable] using hs) ⟨.str _, H, I.tok _, ⟨_, rfl⟩, by simpa only [PyData.shown] using q⟩
  | str x t => exact PySem.P.repr_of_str ⟨.str _, H, I.tok _, ⟨_, rfl⟩, by simpa only [PyData.shown] using q⟩ (by simpa only [PyData.shown] using hl)
  | list a1 a2 a3 a4 => exact repr_of_reads' (.list a1 a2 a3 a4) hs (fun _ => na) hg hu2 (fun _ _ e => e) (fun h' u tk hk => ⟨.str _, H, I.kept hk, ⟨_, rfl⟩, q⟩) hl
  | tuple a1 a2 a3 a4 => exact repr_of_reads' (.tuple a1 a2 a3 a4) hs (fun _ => na) hg hu2 (fun _ _ e => e) (fun h' u tk hk => ⟨.str _, H, I.kept hk, ⟨_, rfl⟩, q⟩) hl
  | dict a1 a2 a3 a4 a5 => exact repr_of_reads' (.dict a1 a2 a3 a4 a5) hs (fun _ => na) hg hu2 (fun _ _ e => e) (fun h' u tk hk => ⟨.str _, H, I.kept hk, ⟨_, rfl⟩, q⟩) hl
/-- what is taken, where the slots are as many as the names -/
theorem takes_len {X : Cx} {W : WX} (tk : Takes X W) : Takes X (fun cls d σ H => σ.length = X.N.length → W cls d σ H) := fun u s' z => by
  obtain ⟨a, B, sI, pins, σ, H, cls, d, e, J, nb, up, sky, na, os, ag, w⟩ := z
  exact tk u s' ⟨a, B, sI, pins, σ, H, cls, d, e, J, nb, up, sky, na, os, ag, w J.len⟩
/-! ### what stands while lambdas are made -/
open LamX (ExtN Tabs TabS)
theorem sqL_n {K : PySem.W.Frag} {H H' : Hp} {a : Addr} {xs : List V} (e : ExtN H H') (h : SqL K H a xs) : SqL K H' a xs := by
  rcases h with (h | ⟨o, h⟩) | h
  · exact Or.inl (Or.inl (e a _ h (fun ps z => by cases z)))
  · exact Or.inl (Or.inr ⟨o, e a _ h (fun ps z => by cases z)⟩)
  · exact Or.inr h
theorem sqT_n {K : PySem.W.Frag} {H H' : Hp} {a : Addr} {xs : List V} (e : ExtN H H') (h : SqT K H a xs) : SqT K H' a xs := by
  rcases h with (h | ⟨o, h⟩) | h
  · exact Or.inl (Or.inl (e a _ h (fun ps z => by cases z)))
  · exact Or.inl (Or.inr ⟨o, e a _ h (fun ps z => by cases z)⟩)
  · exact Or.inr h
mutual
theorem Dt.n {K : PySem.W.Frag} {H H' : Hp} (e : ExtN H H') : ∀ {v : V} {d : PyData}, Dt K H v d → Dt K H' v d
  | _, _, .non => .non
  | _, _, .bl b => .bl b
  | _, _, .int i => .int i
  | _, _, .str x => .str x
  | _, _, .lst h1 h2 => .lst (sqL_n e h1) (Dts.n e h2)
  | _, _, .tup h1 h2 => .tup (sqT_n e h1) (Dts.n e h2)
  | _, _, .dct h1 h2 => .dct (e _ _ h1 (fun ps z => by cases z)) (Dts.n e h2)
theorem Dts.n {K : PySem.W.Frag} {H H' : Hp} (e : ExtN H H') : ∀ {vs : List V} {ds : List PyData}, Dts K H vs ds → Dts K H' vs ds
  | _, _, .nil => .nil
  | _, _, .cons h1 h2 => .cons (Dt.n e h1) (Dts.n e h2)
end
/-- all but p and the tables stands as it stood -/
def Kn (p : Addr) (H H' : Hp) : Prop := ∀ b o, b ≠ p → H b = some o → (∀ ps, o ≠ .tbl ps) → H' b = some o
theorem Kn.of {p : Addr} {H H' : Hp} (k : Kp p H H') : Kn p H H' := fun b o n e _ => k b o n e
theorem Kn.ext {p : Addr} {H H' : Hp} (k : ExtN H H') : Kn p H H' := fun b o _ e t => k b o e t
theorem Kn.same {p : Addr} {H H' : Hp} (k : Same H H') : Kn p H H' := fun b o _ e _ => k b o e
theorem Kn.trans {p : Addr} {H H1 H2 : Hp} (a : Kn p H H1) (b : Kn p H1 H2) : Kn p H H2 := fun c o n e t => b c o n (a c o n e t) t
theorem Kn.refl {p : Addr} {H : Hp} : Kn p H H := fun _ _ _ e _ => e
theorem Kn.wo {p : Addr} {H H' : Hp} (k : Kn p H H') : ExtN (wo p H) (wo p H') := fun b o e t => by
  unfold Vf.wo at e ⊢
  by_cases h : b = p
  · rw [if_pos h] at e
    cases e
  · rw [if_neg h] at e ⊢
    exact k b o h e t
theorem Pen.n {H H' : Hp} {p l : Addr} {B : Int} (h : Pen H p l B) (e : ExtN H H') : Pen H' p l B := by
  obtain ⟨ns, a, d, c, f, ⟨g1, g2, g3⟩, h2⟩ := h
  exact ⟨ns, a, d, c, f, ⟨e _ _ g1 (fun ps z => by cases z), e _ _ g2 (fun ps z => by cases z), g3⟩, h2⟩
/-- the pen's turns leave the tables -/
theorem tabs_kp {T : List (Addr × Str)} {H H' : Hp} {p l : Addr} {B : Int} (hP : Pen H p l B) (k : Kp p H H') (t : Tabs T H) : Tabs T H' := fun y hy => by
  obtain ⟨ns, a, d, c, f, g1, _⟩ := hP
  obtain ⟨ps, h1, h2, h3⟩ := t y hy
  refine ⟨ps, k _ _ (ne_of h1 g1.1 (by intro z; cases z)) h1, h2, fun pos cv hc => ?_⟩
  obtain ⟨c', e1, e2⟩ := h3 pos cv hc
  exact ⟨c', e1, k _ _ (ne_of e2 g1.1 (by intro z; unfold LamX.CodeO at z; cases z)) e2⟩
/-- a def of several that a slot may hold, called there; it may raise -/
structure HeldX (P : Program) (w : World) (K : PySem.W.Frag) (mg : Str → Option Value) (base : Heap) (k : Nat) (f : Addr) (sp : Sp) : Prop where
  ex : ∃ (fd : FuncData) (ps : List Str), FnOk P w K mg base (L2.CX P w) k f fd ps sp ∧ PySem.W.keepIn K (.ref f) = true ∧ Binds K fd ps []
def tCallF (i : Nat) (S : Addr → Prop) (sp : Sp) (E : XK) (t : TA) : TE := fun σ H Q => ∃ f, σ[i]? = some (some (.ref f)) ∧ S f ∧ t σ H fun vs H1 => sp vs H1 Q E
theorem pe_callF {X : Cx} {S : Addr → Prop} {sp : Sp} {k i : Nat} {E : XK} {x : Str} {p pos : Pos} {e : Expr} {es : List Expr} {t : TA} (A : ∀ f, S f → HeldX X.prog X.w X.K X.mg X.base k f sp) (hr : Room k X.A) (hN : X.N[i]? = some x) (hv : Vis X.env.scope x)
    (hx : Passes (L2.CX X.prog X.w) X E) (ha : PA X (e :: es) t) (hdb : (x == ("__debug__" : Str)) = false := by decide) (hcd : (x == ("__classdict__" : Str)) = false := by decide)
    (he : starEach (e :: es) X.env = (false, eval e X.env) :: starEach es X.env := by rfl) (hpl : (backTo pos (starEach es X.env)).any (·.1) = false := by rfl) : PE X (.Call (.Name x p) (e :: es) [] pos) (tCallF i S sp E t) := by
  refine ⟨fun pins s σ H Q I h => ?_⟩
  obtain ⟨f, hs, hS, ht⟩ := h
  obtain ⟨fd, ps, F, kp, b⟩ := (A f hS).ex
  refine (pe_callL (i := i) (f := f) (dvs := []) (E := E) F hr hN hv kp b .nil hx ha hdb hcd he hpl).run pins s σ H Q I ⟨hs, ?_⟩
  have z : (fun (vs : List V) (H1 : Hp) => sp (vs ++ []) H1 Q E) = fun vs H1 => sp vs H1 Q E := by
    funext vs H1
    rw [List.append_nil]
  rw [z]
  exact ht

end Vf

set_option maxRecDepth 100000
set_option maxHeartbeats 8000000
namespace Vf
open PySem PySem.Spec PyProof.Rows L2
section
variable {P : Program} {w : World} {K : PySem.W.Frag} {mg : Str → Option Value} {base : Heap} {CN : Addr}
abbrev sLPoly : Stmt := topS 59
/-- the law's own row without zeros behind -/
def spLPoly (K : PySem.W.Frag) : Sp := fun vs H Q _ => ∃ (a : Addr) (as : List Addr) (ps : List (Int × Int)), vs = [.ref a] ∧ SqL K H a (as.map V.ref) ∧ Tups H as ps ∧ as.length ≤ 1000 ∧
  ∀ (l : Addr) (as' : List Addr) (H' : Hp), Same H H' → H l = none → H' l = some (.lst (as'.map V.ref)) → Tups H' as' (strip ps) → Q (.ref l) H'
theorem scLPoly : FnScope ["_law_numbers", "_law_found", "_law_lap"] ["_law_numbers"] (defScope sLPoly) := ⟨rfl, rfl, rfl, by decide +kernel, rfl, by decide +kernel, by decide +kernel⟩
theorem ok_lpoly {f : Addr} {fd : FuncData} (F : Fun K "_law_poly" "_law_poly" sLPoly f fd) (T : Bk mg) (hm1 : M1 base) : FnOk P w K mg base CX0 1 f fd ["_law_numbers"] (spLPoly K) := by
  refine F.ok scLPoly (fun vs H Q E h => ?_) (fun cdv A outer s H vs Q E hr h => ?_)
  · obtain ⟨a, as, ps, rfl, _⟩ := h
    rfl
  · obtain ⟨a, as, ps, rfl, hS, hT, hz, q⟩ := h
    refine ⟨_, (pss_cons (ps_set (i := 1) scLPoly.nd rfl (Or.inl rfl) (pe_callTy call_list_of (by rfl) T.list (by decide +kernel) (pa_cons (pv 0) pa_nil)))
  (pss_cons (ps_for PassesOwn.never rfl (pi_range1 (by rfl) T.range (pa_cons (pe_callB call_len_seq (by rfl) T.len (by decide +kernel) (pa_cons (pv 0) pa_nil)) pa_nil)) (pg_name (i := 2) scLPoly.nd rfl (Or.inl rfl))
    (pss_cons (ps_if (PW.pt (pw_or (pt_cmpR (op_eqT hr.units hm1) (pv 1) (pe_lst pa_nil) (nomark _)) (pw_or1 (pt_cmpR op_ne (pe_ix ix_tup (pe_ix ix_list (pv 1) (pe_un un_neg pe_int) (fun _ _ => rfl)) pe_int (fun _ _ => rfl)) pe_int (nomark _)))))
      (pss_one ps_break)
      pss_nil)
    (pss_one (ps_expr (pe_bm0 PySem.F.plainAttrs_list PySem.F.slot_list_pop PySem.F.type_list_pop mt_pop (pv 1))))))
  (pss_one (ps_ret (pv 1))))), ?_⟩
    refine ⟨_, rfl, a, _, rfl, .inl hS, fun l nl => ?_⟩
    have el : upd H l (HO.lst (as.map V.ref)) l = some (HO.lst (as.map V.ref)) := upd_same
    have sl : Same H (upd H l (HO.lst (as.map V.ref))) := same_upd nl
    generalize upd H l (HO.lst (as.map V.ref)) = H1 at el sl ⊢
    have lm : (as.map V.ref).length = as.length := List.length_map ..
    refine ⟨_, rfl, a, _, rfl, .inl (same_sqL sl hS), _, rfl, by omega, by omega, for_range (lo := 0) (n := (((as.map V.ref).length : Nat) : Int).toNat) (fun i σ H2 => ∃ as' qs v, σ = [some (.ref a), some (.ref l), v] ∧ Same H H2 ∧ H2 l = some (.lst (as'.map V.ref)) ∧ Tups H2 as' qs ∧ strip qs = strip ps ∧ as'.length + i = as.length)
      ⟨as, ps, none, rfl, sl, el, hT.same sl, rfl, rfl⟩ ?_ ?_⟩
    · rintro i σ H2 hi ⟨as', qs, v, rfl, s2, e2, t2, hst, hn⟩
      refine ⟨_, rfl, (by show 0 ≤ sizeLine; decide), fun l0 n0 => ?_⟩
      have l0l : l0 ≠ l := (ne_of_none e2 n0).symm
      have s3 : Same H2 (upd H2 l0 (HO.lst [])) := same_upd n0
      have e0 : upd H2 l0 (HO.lst []) l0 = some (HO.lst []) := upd_same
      generalize upd H2 l0 (HO.lst []) = H3 at s3 e0 ⊢
      have e3 := s3 _ _ e2
      have t3 := t2.same s3
      refine ⟨.list (qs.map pairD), .list (([] : List (Int × Int)).map pairD), .lst (SqL.of e3) t3.dts, .lst (SqL.of e0) .nil, (plain_row _).2, (plain_row _).2, (depth_row _).2, _, rfl, ?_⟩
      rw [eqv_rowL]
      rcases snoc_cases qs with rfl | ⟨qs, y, rfl⟩
      · rw [decide_eq_true rfl]
        refine iteT ?_
        cases t3
        refine iteT ?_
        exact ⟨_, rfl, q l [] H3 (s2.trans s3) nl e3 (by rw [← hst]; exact .nil)⟩
      · rw [decide_eq_false (by simp)]
        refine iteF ?_
        obtain ⟨as2, r, rfl, t4, er⟩ := t3.unsnoc
        refine ⟨_, rfl, _, rfl, l, _, _, .ref r, rfl, rfl, SqL.of e3, (by rw [List.map_append]; exact atI_last _ _), r, _, _, .int y.1, rfl, rfl, SqT.of er, at_of (j := 0) rfl rfl, rfl, _, rfl, ?_⟩
        by_cases y0 : y.1 = 0
        · rw [decide_eq_true (by rw [y0])]
          refine iteF ?_
          refine ⟨_, rfl, .inl ⟨rfl, _, SqL.of e3⟩, l, _, .ref r, rfl, rfl, e3, (by simp), ?_⟩
          refine ⟨as2, qs, _, rfl, fun b o eb => ?_, ?_, ?_, ?_, ?_⟩
          · rw [upd_ne (ne_of_none eb nl)]
            exact s3 _ _ (s2 _ _ eb)
          · rw [upd_same, List.map_append]
            simp
          · refine t4.imp fun c p z => ?_
            rw [upd_ne (ne_of z e3 (by intro z; cases z))]
            exact z
          · rw [strip_snoc, if_pos y0] at hst
            exact hst
          · rw [List.length_append] at hn
            simp at hn
            omega
        · rw [decide_eq_false (fun z => y0 (by have z2 := V.int.inj z; exact z2))]
          refine iteT ?_
          refine ⟨_, rfl, q l (as2 ++ [r]) H3 (s2.trans s3) nl e3 ?_⟩
          rw [← hst, strip_snoc, if_neg y0]
          exact t3
    · rintro σ H2 ⟨as', qs, v, rfl, s2, e2, t2, hst, hn⟩
      have h0 : as'.length = 0 := by omega
      have h1 := t2.len
      have h2 : as' = [] := List.length_eq_zero_iff.mp h0
      have h3 : qs = [] := List.length_eq_zero_iff.mp (by omega)
      subst h2 h3
      exact ⟨_, rfl, q l [] H2 s2 nl e2 (by rw [← hst]; exact .nil)⟩
end

/-! ### the law's own polynomials -/
def spL2 (g : Rat → Rat → Rat) : Sp := fun vs H Q _ => ∃ (r1 r2 : Addr) (a b : Rat), vs = [.ref r1, .ref r2] ∧ TR H r1 a ∧ TR H r2 b ∧ Sr a ∧ Sr b ∧ ∀ (r : Addr) (H' : Hp), Same H H' → H r = none → TR H' r (g a b) → Q (.ref r) H'
def rAdd (a b : Rat) : Rat := a + b
def rMul (a b : Rat) : Rat := a * b
/-- every number is small -/
def SrL (a : List Rat) : Prop := ∀ i, Sr (cf a i)
theorem sr_zero : Sr 0 := ⟨by show (0 : Nat) < 2 ^ 1900; exact Nat.pow_pos (by decide), by show 1 < 2 ^ 1900; exact Nat.one_lt_pow (by decide) (by decide)⟩
def spLPP : Sp := fun vs H Q _ => ∃ (l1 l2 : Addr) (a b : List Rat), vs = [.ref l1, .ref l2] ∧ RL H l1 a ∧ RL H l2 b ∧ a.length ≤ 500 ∧ b.length ≤ 500 ∧ SrL a ∧ SrL b ∧ ∀ (l : Addr) (H' : Hp), Same H H' → RL H' l (stripQ (padd a b)) → Q (.ref l) H'
def spLPS : Sp := fun vs H Q _ => ∃ (l1 r : Addr) (a : List Rat) (c : Rat), vs = [.ref l1, .ref r] ∧ RL H l1 a ∧ TR H r c ∧ a.length ≤ 500 ∧ SrL a ∧ Sr c ∧ ∀ (l : Addr) (H' : Hp), Same H H' → RL H' l (stripQ (pscale a c)) → Q (.ref l) H'
def spLPM : Sp := fun vs H Q _ => ∃ (l1 l2 : Addr) (a b : List Rat), vs = [.ref l1, .ref l2] ∧ RL H l1 a ∧ RL H l2 b ∧ a.length ≤ 500 ∧ b.length ≤ 500 ∧ SrL a ∧ SrL b ∧ ∀ (l : Addr) (H' : Hp), Same H H' → RL H' l (stripQ (padd a (stripQ (pscale b (-1))))) → Q (.ref l) H'
theorem stripQ_len (l : List Rat) : (stripQ l).length ≤ l.length := stp_len (stripQ_stp l) (cf_stripQ l)
section
variable {P : Program} {w : World} {K : PySem.W.Frag} {mg : Str → Option Value} {base : Heap} {CN : Addr}
abbrev sLPlus : Stmt := topS 50
abbrev sLTimes : Stmt := topS 52
theorem scLPlus : FnScope ["_law_one", "_law_two"] ["_law_one", "_law_two"] (defScope sLPlus) := ⟨rfl, rfl, rfl, by decide +kernel, rfl, by decide +kernel, by decide +kernel⟩
theorem den_ne (a b : Rat) : ((a.den : Int) * (b.den : Int)) ≠ 0 := by
  have h1 := a.den_nz
  have h2 := b.den_nz
  exact Int.mul_ne_zero (by omega) (by omega)
theorem ok_lplus {f : Addr} {fd : FuncData} (F : Fun K "_law_plus" "_law_plus" sLPlus f fd) (Gq : Df P w K mg base "_law_q" 2 ["_law_top", "_law_bottom"] spQ) : FnOk P w K mg base CX0 3 f fd ["_law_one", "_law_two"] (spL2 rAdd) := by
  refine F.ok scLPlus (fun vs H Q E h => ?_) (fun cdv A outer s H vs Q E hr h => ?_)
  · obtain ⟨r1, r2, a, b, rfl, _⟩ := h
    rfl
  · obtain ⟨r1, r2, a, b, rfl, h1, h2, za, zb, q⟩ := h
    refine ⟨_, (pss_one (ps_ret (pe_call Gq.ok (hr.mono (by decide)) rfl Gq.m Gq.kp Gq.b .nil pass0 (pa_cons (pe_op op_add (pe_op op_mulW (pe_ix ix_tup (pv 0) pe_int (fun _ _ => rfl)) (pe_ix ix_tup (pv 1) pe_int (fun _ _ => rfl))) (pe_op op_mulW (pe_ix ix_tup (pv 1) pe_int (fun _ _ => rfl)) (pe_ix ix_tup (pv 0) pe_int (fun _ _ => rfl)))) (pa_cons (pe_op op_mulW (pe_ix ix_tup (pv 0) pe_int (fun _ _ => rfl)) (pe_ix ix_tup (pv 1) pe_int (fun _ _ => rfl))) pa_nil))))), ?_⟩
    obtain ⟨s1, s2, s3⟩ := sr_sum za zb
    refine ⟨_, rfl, r1, _, _, .int a.num, rfl, rfl, SqT.of h1, at_of (j := 0) rfl rfl, _, rfl, r2, _, _, .int b.den, rfl, rfl, SqT.of h2, at_of (j := 1) rfl rfl, _, _, rfl, rfl, big_mulW za.n zb.d, ?_⟩
    refine ⟨_, rfl, r2, _, _, .int b.num, rfl, rfl, SqT.of h2, at_of (j := 0) rfl rfl, _, rfl, r1, _, _, .int a.den, rfl, rfl, SqT.of h1, at_of (j := 1) rfl rfl, _, _, rfl, rfl, big_mulW zb.n za.d, ?_⟩
    refine ⟨_, _, rfl, rfl, ?_⟩
    refine ⟨_, rfl, r1, _, _, .int a.den, rfl, rfl, SqT.of h1, at_of (j := 1) rfl rfl, _, rfl, r2, _, _, .int b.den, rfl, rfl, SqT.of h2, at_of (j := 1) rfl rfl, _, _, rfl, rfl, big_mulW za.d zb.d, ?_⟩
    refine ⟨_, _, rfl, den_ne a b, s1, s2, fun r H' ss nr er => ?_⟩
    rw [low_add] at er
    exact q r H' ss nr er
theorem scLTimes : FnScope ["_law_one", "_law_two"] ["_law_one", "_law_two"] (defScope sLTimes) := ⟨rfl, rfl, rfl, by decide +kernel, rfl, by decide +kernel, by decide +kernel⟩
theorem ok_ltimes {f : Addr} {fd : FuncData} (F : Fun K "_law_times" "_law_times" sLTimes f fd) (Gq : Df P w K mg base "_law_q" 2 ["_law_top", "_law_bottom"] spQ) : FnOk P w K mg base CX0 3 f fd ["_law_one", "_law_two"] (spL2 rMul) := by
  refine F.ok scLTimes (fun vs H Q E h => ?_) (fun cdv A outer s H vs Q E hr h => ?_)
  · obtain ⟨r1, r2, a, b, rfl, _⟩ := h
    rfl
  · obtain ⟨r1, r2, a, b, rfl, h1, h2, za, zb, q⟩ := h
    refine ⟨_, (pss_one (ps_ret (pe_call Gq.ok (hr.mono (by decide)) rfl Gq.m Gq.kp Gq.b .nil pass0 (pa_cons (pe_op op_mulW (pe_ix ix_tup (pv 0) pe_int (fun _ _ => rfl)) (pe_ix ix_tup (pv 1) pe_int (fun _ _ => rfl))) (pa_cons (pe_op op_mulW (pe_ix ix_tup (pv 0) pe_int (fun _ _ => rfl)) (pe_ix ix_tup (pv 1) pe_int (fun _ _ => rfl))) pa_nil))))), ?_⟩
    obtain ⟨s1, s2, s3⟩ := sr_sum za zb
    refine ⟨_, rfl, r1, _, _, .int a.num, rfl, rfl, SqT.of h1, at_of (j := 0) rfl rfl, _, rfl, r2, _, _, .int b.num, rfl, rfl, SqT.of h2, at_of (j := 0) rfl rfl, _, _, rfl, rfl, big_mulW za.n zb.n, ?_⟩
    refine ⟨_, rfl, r1, _, _, .int a.den, rfl, rfl, SqT.of h1, at_of (j := 1) rfl rfl, _, rfl, r2, _, _, .int b.den, rfl, rfl, SqT.of h2, at_of (j := 1) rfl rfl, _, _, rfl, rfl, big_mulW za.d zb.d, ?_⟩
    refine ⟨_, _, rfl, den_ne a b, s3, s2, fun r H' ss nr er => ?_⟩
    rw [low_times] at er
    exact q r H' ss nr er
/-- the law's stripping, on numbers -/
theorem lpoly_q {K : PySem.W.Frag} {H : Hp} {l : Addr} {qs : List Rat} {Q : VK} (h : RL H l qs) (hl : qs.length ≤ 1000) (k : ∀ (l' : Addr) (H' : Hp), Same H H' → RL H' l' (stripQ qs) → Q (.ref l') H') {E : XK} : spLPoly K [.ref l] H Q E := by
  obtain ⟨as, e, t⟩ := h
  have := t.lenQ
  refine ⟨l, as, qs.map pq, rfl, SqL.of e, t, by omega, fun l' as' H' s n e' t' => k l' H' s ⟨as', e', ?_⟩⟩
  rw [strip_map] at t'
  exact t'
theorem cf_pscale (a : List Rat) (c : Rat) (i : Nat) : cf (pscale a c) i = cf a i * c := by
  unfold pscale
  exact cf_map (f := fun x => x * c) (Rat.zero_mul c) a i
theorem sr_neg {q : Rat} (h : Sr q) : Sr (q * -1) := by
  have e : q * -1 = -q := by grind
  rw [e]
  exact ⟨by rw [Rat.neg_num, Int.natAbs_neg]; exact h.1, by rw [Rat.neg_den]; exact h.2⟩
end

end Vf

set_option maxRecDepth 100000
set_option maxHeartbeats 8000000
namespace Vf
open PySem PySem.Spec PyProof.Rows L2
/-- the value by Horner's steps -/
def hor (x : Rat) : List Rat → Rat
  | [] => 0
  | c :: l => hor x l * x + c
theorem hor_step {x : Rat} {a : List Rat} {j : Nat} (h : j < a.length) : hor x (a.drop (a.length - (j + 1))) = hor x (a.drop (a.length - j)) * x + cf a (a.length - 1 - j) := by
  have h1 : a.length - (j + 1) < a.length := by omega
  rw [List.drop_eq_getElem_cons h1]
  show hor x (a.drop (a.length - (j + 1) + 1)) * x + _ = _
  rw [show a.length - (j + 1) + 1 = a.length - j by omega, cf_lt (show a.length - 1 - j < a.length by omega)]
  congr 2
  omega
theorem rev_at {a : List Rat} {j : Nat} {as : List Addr} {r : Addr} (hl : as.length = a.length) (h : (as.map V.ref).reverse[j]? = some (V.ref r)) : as[a.length - 1 - j]? = some r ∧ j < a.length := by
  have hj : j < a.length := by
    have := (List.getElem?_eq_some_iff.mp h).1
    rw [List.length_reverse, List.length_map] at this
    omega
  rw [List.getElem?_reverse (by rw [List.length_map]; omega), List.length_map, List.getElem?_map, hl] at h
  refine ⟨?_, hj⟩
  cases e : as[a.length - 1 - j]? with
  | none => rw [e] at h; cases h
  | some r' =>
    rw [e] at h
    cases h
    rfl
theorem fr_hor {M N B L W j : Nat} {y x c : Rat} (hB : B ≤ W) (hL : L ≤ W) (hy : Fr (M * B ^ j) (N * (j * W ^ j)) y) (hx : Fr B L x) (hc : Fr M N c) : Fr (M * B ^ (j + 1)) (N * ((j + 1) * W ^ (j + 1))) (y * x + c) := by
  have h1 := hy.mul hx
  have h2 := hc.scale (B ^ (j + 1))
  rw [Nat.mul_assoc, ← Nat.pow_succ] at h1
  refine (h1.add h2).le ?_
  have e1 : N * (j * W ^ j) * L ≤ N * (j * W ^ (j + 1)) := by
    rw [Nat.mul_assoc, Nat.mul_assoc, Nat.pow_succ]
    exact Nat.mul_le_mul_left _ (Nat.mul_le_mul_left _ (Nat.mul_le_mul_left _ hL))
  have e2 : N * B ^ (j + 1) ≤ N * W ^ (j + 1) := Nat.mul_le_mul_left _ (Nat.pow_le_pow_left hB _)
  have e3 : N * ((j + 1) * W ^ (j + 1)) = N * (j * W ^ (j + 1)) + N * W ^ (j + 1) := by rw [Nat.succ_mul, Nat.mul_add]
  omega
def spLPA : Sp := fun vs H Q _ => ∃ (l1 r : Addr) (a : List Rat) (x : Rat) (M N B L W : Nat), vs = [.ref l1, .ref r] ∧ RL H l1 a ∧ TR H r x ∧ (∀ i, Fr M N (cf a i)) ∧ Fr B L x ∧ 0 < M ∧ 0 < B ∧ B ≤ W ∧ L ≤ W ∧
  M * W ^ (a.length + 1) < 2 ^ 1900 ∧ N * ((a.length + 1) * W ^ (a.length + 1)) < 2 ^ 1900 ∧ L < 2 ^ 1900 ∧ ∀ (r' : Addr) (H' : Hp), Same H H' → TR H' r' (hor x a) → Q (.ref r') H'
def pslope (a : List Rat) : List Rat := tab (a.length - 1) fun j => cf a (j + 1) * ((j + 1 : Nat) : Rat)
def spLPSl : Sp := fun vs H Q _ => ∃ (l1 : Addr) (a : List Rat), vs = [.ref l1] ∧ RL H l1 a ∧ a.length ≤ 500 ∧ SrL a ∧ ∀ (l : Addr) (H' : Hp), Same H H' → RL H' l (stripQ (pslope a)) → Q (.ref l) H'
/-- the law's moving, step by step -/
def mvl (s t : Rat) : List Rat → List Rat
  | [] => []
  | c :: l => stripQ (padd (stripQ (pmul (mvl s t l) (stripQ [s, t]))) (stripQ [c]))
theorem mvl_len (s t : Rat) : ∀ a : List Rat, (mvl s t a).length ≤ a.length
  | [] => Nat.le_refl _
  | c :: l => by
    have ih := mvl_len s t l
    show (stripQ _).length ≤ _
    have h1 := stripQ_len (padd (stripQ (pmul (mvl s t l) (stripQ [s, t]))) (stripQ [c]))
    have h2 := stripQ_len (pmul (mvl s t l) (stripQ [s, t]))
    have h3 := stripQ_len [s, t]
    have h4 := stripQ_len [c]
    have e1 : (padd (stripQ (pmul (mvl s t l) (stripQ [s, t]))) (stripQ [c])).length = max (stripQ (pmul (mvl s t l) (stripQ [s, t]))).length (stripQ [c]).length := by unfold padd; rw [tab_len]
    have e2 : (pmul (mvl s t l) (stripQ [s, t])).length = (mvl s t l).length + (stripQ [s, t]).length - 1 := by unfold pmul; rw [tab_len]
    simp only [List.length_cons, List.length_nil] at *
    omega
theorem pc_line {a b : List Rat} (hb : ∀ k, 2 ≤ k → cf b k = 0) : ∀ i, pc a b i = cf a i * cf b 0 + if i = 0 then 0 else cf a (i - 1) * cf b 1
  | 0 => by
    unfold pc
    show sm (fun x => cf a x * cf b (0 - x)) 0 + cf a 0 * cf b (0 - 0) = _
    rw [if_pos rfl, Rat.add_zero]
    show (0 : Rat) + _ = _
    rw [Rat.zero_add]
  | k + 1 => by
    unfold pc
    show sm (fun x => cf a x * cf b (k + 1 - x)) k + cf a k * cf b (k + 1 - k) + cf a (k + 1) * cf b (k + 1 - (k + 1)) = _
    rw [sm_zero fun x hx => by rw [hb _ (by omega), Rat.mul_zero], if_neg (by omega), show k + 1 - k = 1 by omega, Nat.sub_self, Nat.add_sub_cancel, Rat.zero_add, Rat.add_comm]
theorem cf_pair (s t : Rat) (k : Nat) : cf (stripQ [s, t]) k = if k = 0 then s else if k = 1 then t else 0 := by
  rw [cf_stripQ]
  match k with
  | 0 => rfl
  | 1 => rfl
  | k + 2 => rw [if_neg (by omega), if_neg (by omega), cf_ge (by simp)]
theorem cf_one (c : Rat) (k : Nat) : cf (stripQ [c]) k = if k = 0 then c else 0 := by
  rw [cf_stripQ]
  match k with
  | 0 => rfl
  | k + 1 => rw [if_neg (by omega), cf_ge (by simp)]
theorem cf_mvl (s t c : Rat) (l : List Rat) (i : Nat) : cf (mvl s t (c :: l)) i = cf (mvl s t l) i * s + (if i = 0 then 0 else cf (mvl s t l) (i - 1) * t) + if i = 0 then c else 0 := by
  show cf (stripQ _) i = _
  rw [cf_stripQ, cf_padd, cf_stripQ, cf_pmul, pc_line (fun k hk => by rw [cf_pair, if_neg (by omega), if_neg (by omega)]), cf_pair, cf_pair, cf_one, if_pos rfl]
  rfl
theorem fr_mvl {M N B L W : Nat} {s t : Rat} (hB : B ≤ W) (hL : 2 * L ≤ W) (hs : Fr B L s) (ht : Fr B L t) : ∀ {a : List Rat}, (∀ x ∈ a, Fr M N x) → ∀ i, Fr (M * B ^ a.length) (N * (a.length * W ^ a.length)) (cf (mvl s t a) i)
  | [], _, i => Fr.zero _ _
  | c :: l, h, i => by
    have ih := fr_mvl hB hL hs ht (a := l) fun x hx => h x (List.mem_cons_of_mem _ hx)
    have hc := h c (List.mem_cons_self ..)
    rw [cf_mvl]
    show Fr (M * B ^ (l.length + 1)) (N * ((l.length + 1) * W ^ (l.length + 1))) _
    have h1 := (ih i).mul hs
    have h2 : Fr (M * B ^ l.length * B) (N * (l.length * W ^ l.length) * L) (if i = 0 then 0 else cf (mvl s t l) (i - 1) * t) := by
      split
      · exact Fr.zero _ _
      · exact (ih (i - 1)).mul ht
    have h3 : Fr (M * B ^ (l.length + 1)) (N * B ^ (l.length + 1)) (if i = 0 then c else 0) := by
      split
      · exact hc.scale _
      · exact Fr.zero _ _
    rw [Nat.mul_assoc, ← Nat.pow_succ] at h1 h2
    refine ((h1.add h2).add h3).le ?_
    have e1 : N * (l.length * W ^ l.length) * L + N * (l.length * W ^ l.length) * L ≤ N * (l.length * W ^ (l.length + 1)) := by
      have e : N * (l.length * W ^ l.length) * L + N * (l.length * W ^ l.length) * L = N * (l.length * W ^ l.length) * (2 * L) := by rw [← Nat.mul_add, Nat.two_mul]
      rw [e, Nat.mul_assoc, Nat.mul_assoc, Nat.pow_succ]
      exact Nat.mul_le_mul_left _ (Nat.mul_le_mul_left _ (Nat.mul_le_mul_left _ hL))
    have e2 : N * B ^ (l.length + 1) ≤ N * W ^ (l.length + 1) := Nat.mul_le_mul_left _ (Nat.pow_le_pow_left hB _)
    have e3 : N * ((l.length + 1) * W ^ (l.length + 1)) = N * (l.length * W ^ (l.length + 1)) + N * W ^ (l.length + 1) := by rw [Nat.succ_mul, Nat.mul_add]
    omega
def spLPMv : Sp := fun vs H Q _ => ∃ (l1 r1 r2 : Addr) (a : List Rat) (s t : Rat) (M N B L W : Nat), vs = [.ref l1, .ref r1, .ref r2] ∧ RL H l1 a ∧ TR H r1 s ∧ TR H r2 t ∧ a.length ≤ 30 ∧ (∀ i, Fr M N (cf a i)) ∧ Fr B L s ∧ Fr B L t ∧ 0 < M ∧ 0 < N ∧ 0 < B ∧ 0 < L ∧ B ≤ W ∧ 2 * L ≤ W ∧
  M * W ^ (a.length + 1) < 2 ^ 1800 ∧ N * ((a.length + 1) * W ^ (a.length + 1)) < 2 ^ 1800 ∧ ∀ (l : Addr) (H' : Hp), Same H H' → RL H' l (mvl s t a) → Q (.ref l) H'
section
variable {P : Program} {w : World} {K : PySem.W.Frag} {mg : Str → Option Value} {base : Heap} {CN : Addr}
abbrev sLPAt : Stmt := topS 60
theorem pow_le_W {B W j n : Nat} (hB : B ≤ W) (h0 : 0 < B) (hj : j ≤ n) : B ^ j ≤ W ^ n := Nat.le_trans (Nat.pow_le_pow_left hB j) (Nat.pow_le_pow_right (by omega) hj)
theorem scLPAt : FnScope ["_law_one", "_law_point", "_law_total", "_law_number"] ["_law_one", "_law_point"] (defScope sLPAt) := ⟨rfl, rfl, rfl, by decide +kernel, rfl, by decide +kernel, by decide +kernel⟩
theorem ok_lpat {f : Addr} {fd : FuncData} (F : Fun K "_law_p_at" "_law_p_at" sLPAt f fd) (Gplus : Df P w K mg base "_law_plus" 3 ["_law_one", "_law_two"] (spL2 rAdd)) (Gtimes : Df P w K mg base "_law_times" 3 ["_law_one", "_law_two"] (spL2 rMul)) :
    FnOk P w K mg base CX0 4 f fd ["_law_one", "_law_point"] spLPA := by
  refine F.ok scLPAt (fun vs H Q E h => ?_) (fun cdv A outer s H vs Q E hr h => ?_)
  · obtain ⟨l1, r, a, x, M, N, B, L, W, rfl, _⟩ := h
    rfl
  · obtain ⟨l1, r, a, x, M, N, B, L, W, rfl, ⟨as, e1, t1⟩, rx, fa, fx, hM, hB0, hB, hL, z1, z2, z3, q⟩ := h
    refine ⟨_, (pss_cons (ps_set (i := 2) scLPAt.nd rfl (Or.inl rfl) (pe_tup (pa_cons pe_int (pa_cons pe_int pa_nil))))
  (pss_cons (ps_for PassesOwn.never rfl (pi_list (pe_revL (pv 0))) (pg_name (i := 3) scLPAt.nd rfl (Or.inl rfl))
    (pss_one (ps_set (i := 2) scLPAt.nd rfl (Or.inl rfl) (pe_call Gplus.ok (hr.mono (by decide)) rfl Gplus.m Gplus.kp Gplus.b .nil pass0 (pa_cons (pe_call Gtimes.ok (hr.mono (by decide)) rfl Gtimes.m Gtimes.kp Gtimes.b .nil pass0 (pa_cons (pv 2) (pa_cons (pv 1) pa_nil))) (pa_cons (pv 3) pa_nil))))))
  (pss_one (ps_ret (pv 2))))), ?_⟩
    have n1 := t1.lenQ
    refine ⟨(by show 2 ≤ sizeLine; decide), fun t0 nt0 => ?_⟩
    have et0 : upd H t0 (HO.tup [V.int 0, V.int 1]) t0 = some (HO.tup [V.int 0, V.int 1]) := upd_same
    have s1 : Same H (upd H t0 (HO.tup [V.int 0, V.int 1])) := same_upd nt0
    generalize upd H t0 (HO.tup [V.int 0, V.int 1]) = H1 at et0 s1 ⊢
    refine ⟨_, rfl, l1, _, rfl, SqL.of (s1 _ _ e1), fun lr nlr => ?_⟩
    have elr : upd H1 lr (HO.lst (as.map V.ref).reverse) lr = some (HO.lst (as.map V.ref).reverse) := upd_same
    have s2 : Same H1 (upd H1 lr (HO.lst (as.map V.ref).reverse)) := same_upd nlr
    generalize upd H1 lr (HO.lst (as.map V.ref).reverse) = H2 at elr s2 ⊢
    have s12 := s1.trans s2
    have frj : ∀ j, j ≤ a.length → Fr (M * B ^ j) (N * (j * W ^ j)) (hor x (a.drop (a.length - j))) := fun j => by
      induction j with
      | zero =>
        intro _
        rw [Nat.sub_zero, List.drop_length]
        exact Fr.zero _ _
      | succ j ih =>
        intro hj
        rw [hor_step (by omega)]
        exact fr_hor hB hL (ih (by omega)) fx (fa _)
    have bM : ∀ j, j ≤ a.length + 1 → M * B ^ j < 2 ^ 1900 := fun j hj => Nat.lt_of_le_of_lt (Nat.mul_le_mul_left _ (pow_le_W hB hB0 hj)) z1
    have W0 : 0 < W := by omega
    have bN : ∀ j, j ≤ a.length + 1 → N * (j * W ^ j) < 2 ^ 1900 := fun j hj => Nat.lt_of_le_of_lt (Nat.mul_le_mul_left _ (Nat.mul_le_mul hj (Nat.pow_le_pow_right W0 hj))) z2
    have sx : Sr x := fx.sr hB0 (by
      have h1 := bM 1 (by omega)
      rw [Nat.pow_one] at h1
      have := Nat.le_mul_of_pos_left B hM
      omega) z3
    have sa : SrL a := fun i => (fa i).sr hM (by have h1 := bM 0 (by omega); rw [Nat.pow_zero, Nat.mul_one] at h1; exact h1) (by
      have h1 : N * 1 ≤ N * ((a.length + 1) * W ^ (a.length + 1)) := Nat.mul_le_mul_left _ (Nat.mul_pos (by omega) (Nat.pow_pos W0))
      omega)
    have bNL : ∀ j, j ≤ a.length → N * (j * W ^ j) * L < 2 ^ 1900 := fun j hj => by
      have e1 : N * (j * W ^ j) * L ≤ N * ((a.length + 1) * W ^ (a.length + 1)) := by
        rw [Nat.mul_assoc, Nat.mul_assoc]
        refine Nat.mul_le_mul_left _ (Nat.mul_le_mul (by omega) ?_)
        have : W ^ j * L ≤ W ^ j * W := Nat.mul_le_mul_left _ hL
        rw [← Nat.pow_succ] at this
        exact Nat.le_trans this (Nat.pow_le_pow_right W0 (by omega))
      omega
    refine ⟨lr, rfl, ⟨_, SqL.of elr⟩, for_list (K := K) (a := lr) (xs := (as.map V.ref).reverse) (fun j σ H' => ∃ r2 v3, σ = [some (.ref l1), some (.ref r), some (.ref r2), v3] ∧ Same H2 H' ∧ TR H' r2 (hor x (a.drop (a.length - j)))) ⟨t0, none, rfl, Same.refl _, ?_⟩ (fun j σ H' _ ⟨_, _, _, ss, _⟩ => SqL.of (ss _ _ elr)) ?_ ?_⟩
    · rw [Nat.sub_zero, List.drop_length]
      exact s2 _ _ et0
    · rintro j y σ H3 hj ⟨r2, v3, rfl, s3, t3⟩
      obtain ⟨ry, rfl⟩ : ∃ ry, y = V.ref ry := by
        obtain ⟨b, hb, e⟩ := List.mem_map.mp (List.mem_reverse.mp (List.mem_of_getElem? hj))
        exact ⟨b, e.symm⟩
      obtain ⟨g1, hjl⟩ := rev_at n1 hj
      obtain ⟨qy, g2, g3⟩ := t1.atQ g1
      have cy : qy = cf a (a.length - 1 - j) := (cf_get g2).symm
      have hf := frj j (by omega)
      refine ⟨_, rfl, _, rfl, r2, r, _, x, rfl, t3, rx.same (s12.trans s3), hf.sr (Nat.mul_pos hM (Nat.pow_pos hB0)) (bM j (by omega)) (bN j (by omega)), sx, fun r4 H4 s4 nr4 er4 => ?_⟩
      have hfm := hf.mul fx
      refine ⟨_, rfl, r4, ry, _, qy, rfl, er4, g3.same (s12.trans (s3.trans s4)), hfm.sr (Nat.mul_pos (Nat.mul_pos hM (Nat.pow_pos hB0)) hB0) (by rw [Nat.mul_assoc, ← Nat.pow_succ]; exact bM (j + 1) (by omega)) (bNL j (by omega)), (by rw [cy]; exact sa _), fun r5 H5 s5 nr5 er5 => ?_⟩
      refine ⟨r5, _, rfl, s3.trans (s4.trans s5), ?_⟩
      rw [hor_step hjl, ← cy]
      exact er5
    · rintro σ H3 ⟨r2, v3, rfl, s3, t3⟩
      refine ⟨_, rfl, q r2 H3 (s12.trans s3) ?_⟩
      rw [List.length_reverse, List.length_map, n1, Nat.sub_self, List.drop_zero] at t3
      exact t3
theorem sr_nat {k : Nat} (h : k ≤ 1000) : Sr ((k : Nat) : Rat) := ⟨by rw [Rat.num_natCast, Int.natAbs_natCast]; exact Nat.lt_of_le_of_lt h (Nat.lt_of_lt_of_le (show 1000 < 2 ^ 10 by decide) (Nat.pow_le_pow_right (by decide) (by decide))), by rw [Rat.den_natCast]; exact Nat.one_lt_pow (by decide) (by decide)⟩
end

end Vf

set_option maxRecDepth 100000
set_option maxHeartbeats 8000000
namespace Vf
open PySem PySem.Spec PyProof.Rows L2
/-! ### the class of polynomials -/
/-- the class, as the written part tells it -/
structure PoC (K : PySem.W.Frag) (mg : Str → Option Value) (CP : Addr) : Prop where
  m : mg "Poly" = some (.ref CP)
  cl : Cls K CP
  nf : NoAttr K CP "numbers"
  ca : PySem.W.findIn K (.ref CP) "__class__" = some (some (.builtin "object.__class__"))
  cn : PySem.W.specialIn K (.builtin "object.__class__") "__get__" = some (some (.builtin "getset_descriptor.__get__"))
  ct : PySem.W.takesIn K (.builtin "object.__class__") = some true
  cm : PySem.W.mroIn K CP (.type "object") = some true
  no : ∀ d : PyData, PySem.W.kitOne K (.type (tyD d)) (.ref CP) = some false
  fs : PySem.W.notFirst K CP (.ref CP) = true
  fd : ∀ d : PyData, PySem.W.notFirst K CP (.type (tyD d)) = true
theorem PoC.io {K : PySem.W.Frag} {mg : Str → Option Value} {CP : Addr} (_ : PoC K mg CP) : PySem.W.kitOne K (.ref CP) (.ref CP) = some true := by
  unfold PySem.W.kitOne
  rw [if_pos (by simp)]
/-- a polynomial with these numbers stands at a -/
def PolyAt (K : PySem.W.Frag) (CP : Addr) (H : Hp) (a : Addr) (rs : List (Int × Int)) : Prop := ∃ dx q as, H a = some (.ins CP dx [("numbers", .ref q)]) ∧ H q = some (.tup (as.map V.ref)) ∧ Tups H as rs
theorem PolyAt.imp {K : PySem.W.Frag} {CP : Addr} {H H' : Hp} {a : Addr} {rs : List (Int × Int)} (h : PolyAt K CP H a rs) (e : ∀ b o, H b = some o → ((∃ fs dx, o = .ins CP dx fs) ∨ ∃ xs, o = .tup xs) → H' b = some o) : PolyAt K CP H' a rs := by
  obtain ⟨dx, q, as, h1, h2, h3⟩ := h
  exact ⟨dx, q, as, e _ _ h1 (.inl ⟨_, _, rfl⟩), e _ _ h2 (.inr ⟨_, rfl⟩), h3.imp fun a p z => e _ _ z (.inr ⟨_, rfl⟩)⟩
theorem PolyAt.same {K : PySem.W.Frag} {CP : Addr} {H H' : Hp} {a : Addr} {rs : List (Int × Int)} (h : PolyAt K CP H a rs) (s : Same H H') : PolyAt K CP H' a rs := h.imp fun b o e _ => s b o e
theorem PolyAt.n {K : PySem.W.Frag} {CP : Addr} {H H' : Hp} {a : Addr} {rs : List (Int × Int)} (h : PolyAt K CP H a rs) (s : LamX.ExtN H H') : PolyAt K CP H' a rs := h.imp fun b o e t => s b o e (fun ps z => by
  rcases t with ⟨_, _, t⟩ | ⟨_, t⟩ <;> rw [t] at z <;> cases z)
theorem PolyAt.kp {K : PySem.W.Frag} {CP : Addr} {H H' : Hp} {a p l : Addr} {B : Int} {rs : List (Int × Int)} (h : PolyAt K CP H a rs) (hP : Pen H p l B) (s : Kp p H H') : PolyAt K CP H' a rs := by
  obtain ⟨ns, a0, d0, c0, f0, g1, _⟩ := hP
  refine h.imp fun b o e t => s b o (fun z => ?_) e
  rw [z, g1.1] at e
  cases e
  rcases t with ⟨_, _, t⟩ | ⟨_, t⟩ <;> cases t
theorem PolyAt.ty {K : PySem.W.Frag} {mg : Str → Option Value} {CP : Addr} {H : Hp} {a : Addr} {rs : List (Int × Int)} (C : PoC K mg CP) (h : PolyAt K CP H a rs) : TyX K H (.ref a) (.ref CP) := by
  obtain ⟨dx, q, as, h1, _⟩ := h
  exact .base (.ins h1 C.cl C.ca C.cn C.ct C.cm)
/-- a row of ratios, as data -/
def rowD : PyData → Option (List (Int × Int))
  | .list ds => ds.mapM partsD
  | .tuple ds => ds.mapM partsD
  | _ => none
theorem rowD_seq {d : PyData} {ds : List PyData} (h : seqD d = some ds) : rowD d = ds.mapM partsD := by
  cases d <;> first | (cases h; rfl) | cases h
theorem rowD_none {d : PyData} (h : seqD d = none) : rowD d = none := by
  cases d <;> first | rfl | cases h
theorem mapM_some : ∀ {ds : List PyData} {ps : List (Int × Int)}, ds.mapM partsD = some ps → ds.length = ps.length ∧ ∀ (i : Nat) (d : PyData), ds[i]? = some d → ∃ p, ps[i]? = some p ∧ partsD d = some p
  | [], ps, h => by
    rw [List.mapM_nil] at h
    cases h
    exact ⟨rfl, fun i d e => by simp at e⟩
  | d0 :: ds, ps, h => by
    rw [List.mapM_cons] at h
    cases e0 : partsD d0 with
    | none => rw [e0] at h; cases h
    | some p0 =>
      rw [e0] at h
      cases e1 : ds.mapM partsD with
      | none => rw [e1] at h; cases h
      | some ps1 =>
        rw [e1] at h
        cases h
        obtain ⟨h1, h2⟩ := mapM_some e1
        refine ⟨by simp [h1], fun i d e => ?_⟩
        cases i with
        | zero =>
          simp at e
          subst e
          exact ⟨p0, rfl, e0⟩
        | succ i => simpa using h2 i d (by simpa using e)
theorem mapM_all : ∀ ds : List PyData, (ds.map fun d => (partsD d).isSome).all id = (ds.mapM partsD).isSome
  | [] => by rw [List.mapM_nil]; rfl
  | d :: ds => by
    rw [List.mapM_cons, List.map_cons, List.all_cons, mapM_all ds]
    cases partsD d with
    | none => rfl
    | some p =>
      cases ds.mapM partsD <;> rfl
def spIsRow (K : PySem.W.Frag) : Sp := fun vs H Q _ => ∃ (v : V) (d : PyData), vs = [v] ∧ Dt K H v d ∧ (∀ ds, seqD d = some ds → ds.length ≤ 1000) ∧ ∀ H', Same H H' → Q (.bl (rowD d).isSome) H'
/-- an error of BadRow -/
def RaisesR (CR : Addr) (H : Hp) (v : V) (E : XK) : Prop := ∀ (d : Addr) (H' : Hp), Same H H' → H d = none → H' d = some (.xd (fl ["row"] [v])) → E (.ref CR) (some d) H'
theorem RaisesR.same {CR : Addr} {H H1 : Hp} {v : V} {E : XK} (s : Same H H1) (h : RaisesR CR H v E) : RaisesR CR H1 v E := fun d H' s' n e => h d H' (s.trans s') (s.free n) e
/-- the numbers of a row, in lowest terms -/
def lowP (p : Int × Int) : Int × Int := low p.1 p.2
/-- a Poly is made of a value -/
def spPolyI (K : PySem.W.Frag) (CP CR : Addr) : Sp := fun vs H Q E => ∃ (x dx : Addr) (v : V) (d : PyData), vs = [.ref x, v] ∧ H x = some (.ins CP dx []) ∧ Dt K H v d ∧ (∀ ds, seqD d = some ds → ds.length ≤ 1000) ∧
  (∀ ps, rowD d = some ps → (∀ p ∈ ps, p.2.natAbs < 2 ^ big) ∧ ∀ H', Kp x H H' → PolyAt K CP H' x (strip (ps.map lowP)) → Q .non H') ∧ (rowD d = none → RaisesR CR H v E)
/-- what the call Poly(v) comes to -/
theorem poly_made {K : PySem.W.Frag} {CP CR : Addr} {H : Hp} {v : V} {d : PyData} {Qd : Addr → Hp → Prop} {E : XK} (hd : Dt K H v d) (hl : ∀ ds, seqD d = some ds → ds.length ≤ 1000)
    (k : ∀ ps, rowD d = some ps → (∀ p ∈ ps, p.2.natAbs < 2 ^ big) ∧ ∀ (x : Addr) (H' : Hp), Same H H' → H x = none → PolyAt K CP H' x (strip (ps.map lowP)) → Qd x H') (r : rowD d = none → RaisesR CR H v E) :
    ∀ x dx, H x = none → H dx = none → dx ≠ x → spPolyI K CP CR (.ref x :: ([v] ++ [])) (upd (upd H dx (.own x)) x (.ins CP dx [])) (fun w H2 => w = .non ∧ Qd x H2) E := by
  intro x dx nx nd ne
  have s1 : Same H (upd (upd H dx (.own x)) x (.ins CP dx [])) := (same_upd nd).trans (same_upd (by rw [upd_ne (Ne.symm ne)]; exact nx))
  refine ⟨x, dx, v, d, rfl, upd_same, hd.mono s1, hl, fun ps hp => ?_, fun hn => (r hn).same s1⟩
  obtain ⟨k1, k2⟩ := k ps hp
  refine ⟨k1, fun H' kp hP => ⟨rfl, k2 x H' (fun b o e => kp b o (ne_of_none e nx) (s1 _ _ e)) nx hP⟩⟩
section
variable {P : Program} {w : World} {K : PySem.W.Frag} {mg : Str → Option Value} {base : Heap} {CP CR CN : Addr}
abbrev sIsRow : Stmt := topS 12
abbrev sPolyI : Stmt := inClass (topS 25) 0
abbrev sPolyE : Stmt := inClass (topS 25) 1
abbrev sPolyD : Stmt := inClass (topS 25) 9
theorem scIsRow : FnScope ["value", "item"] ["value"] (defScope sIsRow) := ⟨rfl, rfl, rfl, by decide +kernel, rfl, by decide +kernel, by decide +kernel⟩
theorem map_take_snoc {α β : Type} {l : List α} {f : α → β} {i : Nat} {x : α} (h : l[i]? = some x) : (l.take i).map f ++ [f x] = (l.take (i + 1)).map f := by
  rw [List.take_succ, h, List.map_append]
  rfl
theorem ok_is_row {f : Addr} {fd : FuncData} (F : Fun K "is_ratio_row" "is_ratio_row" sIsRow f fd) (T : Bk mg) (hall : mg "all" = none) (Gr : Df P w K mg base "is_ratio" 2 ["value"] (spIsRatio K)) : FnOk P w K mg base CX0 3 f fd ["value"] (spIsRow K) := by
  refine F.ok scIsRow (fun vs H Q E h => ?_) (fun cdv A outer s H vs Q E hr h => ?_)
  · obtain ⟨v, d, rfl, _⟩ := h
    rfl
  · obtain ⟨v, d, rfl, hd, hlen, q⟩ := h
    refine ⟨_, (pss_one (ps_ret (pe_and (pe_callB call_isiT (by rfl) T.isinstance (by decide +kernel) (pa_cons (pv 0) (pa_cons (pe_tup (pa_cons (pe_bltn (v := V.ty "tuple") (by rfl) T.tuple (by decide +kernel) rfl) (pa_cons (pe_bltn (v := V.ty "list") (by rfl) T.list (by decide +kernel) rfl) pa_nil))) pa_nil)))
      (pe_one (pe_callB (cr_all rfl) (by rfl) hall (by decide +kernel) (pa_cons (pe_lc (own := [("item", 1)]) (g := gName 1) (tt := tYes) rfl scIsRow.nd (pi_seq (pv 0)) (blkOk_by (N := ["value", "item"]) (sc := defScope sIsRow) (by decide +kernel)) (fun _ _ _ _ _ => pg_name (i := 1) scIsRow.nd rfl (Or.inl rfl)) (fun _ _ _ _ _ => pts_nil)
        (fun _ _ _ _ _ => pe_call Gr.ok hr rfl Gr.m Gr.kp Gr.b .nil pass0 (pa_cons (pv 1) pa_nil))) pa_nil)))))), ?_⟩
    refine ⟨_, rfl, (by show 2 ≤ sizeLine; decide), fun tp ntp => ?_⟩
    have s1 : Same H (upd H tp (HO.tup [V.ty "tuple", V.ty "list"])) := same_upd ntp
    have e1 : upd H tp (HO.tup [V.ty "tuple", V.ty "list"]) tp = some (HO.tup [V.ty "tuple", V.ty "list"]) := upd_same
    generalize upd H tp (HO.tup [V.ty "tuple", V.ty "list"]) = H1 at s1 e1 ⊢
    have hd1 := hd.mono s1
    refine ⟨v, tp, _, _, [.type "tuple", .type "list"], _, rfl, e1, .cons (.ty _) (.cons (.ty _) .nil), hd1.ty, kit_seq d, _, rfl, ?_⟩
    cases hs : seqD d with
    | none =>
      refine iteF ?_
      have z := q H1 s1
      rw [rowD_none hs] at z
      exact z
    | some ds =>
      refine iteT ?_
      obtain ⟨a, xs, rfl, hsq, hds⟩ := hd1.seq hs
      have hl := hds.len
      have hl2 := hlen ds hs
      refine ⟨_, rfl, a, rfl, lc_seq (xs := xs) hsq (fun D i H2 => Same H1 H2 ∧ H2 D = some (.lst ((ds.take i).map fun d => V.bl (partsD d).isSome))) ?_ ?_ ?_ ?_⟩
      · intro D hD
        exact ⟨same_upd hD, upd_same⟩
      · intro D i H2 hD ⟨s2, _⟩
        exact ⟨same_sqL s2, same_sqT s2⟩
      · intro D i x H2 hD hi ⟨s2, e2⟩
        obtain ⟨di, h1, h2⟩ := hds.at hi
        refine ⟨rfl, ?_⟩
        refine ⟨_, rfl, x, di, rfl, h2.mono s2, fun H3 s3 => ?_⟩
        refine ⟨_, s3 _ _ e2, ?_, (fun b o e => ?_), ?_⟩
        · rw [List.length_map, List.length_take, sizeLine_eq]
          omega
        · rw [upd_ne (ne_of_none e hD)]
          exact s3 _ _ (s2 _ _ e)
        · rw [upd_same, map_take_snoc h1]
      · intro D H2 hD ⟨s2, e2⟩
        refine ⟨D, ds.map fun d => (partsD d).isSome, rfl, ?_, ?_⟩
        · rw [List.map_map]
          refine SqL.of ?_
          rw [e2, hl, List.take_length]
          rfl
        · rw [mapM_all]
          have z := q H2 (s1.trans s2)
          rw [rowD_seq hs] at z
          exact z
theorem scPolyI : FnScope ["self", "numbers", "row", "number"] ["self", "numbers"] (defScope sPolyI) := ⟨rfl, rfl, rfl, by decide +kernel, rfl, by decide +kernel, by decide +kernel⟩
theorem ok_poly_init {f : Addr} {fd : FuncData} (F : Fun K "__init__" "Poly.__init__" sPolyI f fd) (T : Bk mg) (C : PoC K mg CP) (N : Ex P w K mg base "BadRow" CR ["row"]) (Gi : Df P w K mg base "is_ratio_row" 3 ["value"] (spIsRow K)) (Gt : Dx P w K mg base "told" 4 ["value", "what"] (spTold K CN)) :
    FnOk P w K mg base (L2.CX P w) 5 f fd ["self", "numbers"] (spPolyI K CP CR) := by
  refine F.okX scPolyI (fun vs H Q E h => ?_) (fun cdv A outer s H vs Q E hr h => ?_)
  · obtain ⟨x, dx, v, d, rfl, _⟩ := h
    rfl
  · obtain ⟨x, dx, v, d, rfl, hx, hd, hlen, q, e⟩ := h
    refine ⟨_, (pss_cons (ps_if (pt_not (pt_val (pe_call Gi.ok (hr.mono (by decide)) rfl Gi.m Gi.kp Gi.b .nil pass0 (pa_cons (pv 1) pa_nil))))
        (pss_one (ps_raise rfl (takes_of rfl rfl rfl rfl) (pmk_oex N.ox N.iC N.tI N.ok (hr.mono (by decide)) N.b .nil pass0 (by rfl) N.m (pa_cons (pv 1) pa_nil))))
        pss_nil)
      (PSs.nox (pss_cons (ps_setLc (i := 2) (own := [("number", 3)]) (g := gName 3) (tt := tYes) rfl scPolyI.nd rfl rfl (sw_true rfl rfl rfl (by decide +kernel)) (pi_seq (pv 1)) (blkOk_by (N := ["self", "numbers", "row", "number"]) (sc := defScope sPolyI) (by decide +kernel)) (fun _ _ _ _ _ => pg_name (i := 3) scPolyI.nd rfl (Or.inl rfl)) (fun _ _ _ _ _ => pts_nil)
          (fun _ _ _ _ _ => pe_call Gt.ok hr rfl Gt.m Gt.kp Gt.b .nil passL (pa_cons (pv 3) (pa_cons pe_str pa_nil))))
      (pss_cons (ps_while PassesOwn.never (PW.pt (pw_and (pt_truth (pv 2) (by intro _; rfl)) (pw_and1 (pt_cmpR op_eq (pe_ix ix_tup (pe_ix ix_list (pv 2) (pe_un un_neg pe_int) (fun _ _ => rfl)) pe_int (fun _ _ => rfl)) pe_int (nomark _)))))
        (pss_one (ps_expr (pe_bm0 PySem.F.plainAttrs_list PySem.F.slot_list_pop PySem.F.type_list_pop mt_pop (pv 2)))))
      (pss_one (ps_fld (pv 0) (pe_callTy call_tuple_of (by rfl) T.tuple (by decide +kernel) (pa_cons (pv 2) pa_nil)) rfl)))))), ?_⟩
    refine ⟨_, rfl, v, d, rfl, hd, hlen, fun H1 s1 => ⟨_, rfl, ?_⟩⟩
    have hd1 := hd.mono s1
    cases hp : rowD d with
    | none =>
      refine iteT ?_
      refine ⟨_, rfl, (by show 1 ≤ 1000; decide), ?_⟩
      exact raise_end rfl fun dd H' s2 n e2 => (e hp).same s1 dd H' s2 n e2
    | some ps =>
      refine iteF ?_
      obtain ⟨hbig, q⟩ := q ps hp
      obtain ⟨ds, hs⟩ : ∃ ds, seqD d = some ds := by
        cases hs : seqD d with
        | none => rw [rowD_none hs] at hp; cases hp
        | some ds => exact ⟨ds, rfl⟩
      have hm := hp
      rw [rowD_seq hs] at hm
      obtain ⟨ml, mi⟩ := mapM_some hm
      obtain ⟨a, xs, rfl, hsq, hds⟩ := hd1.seq hs
      have hl := hds.len
      have hl2 := hlen ds hs
      refine ⟨_, rfl, a, rfl, lc_seq (xs := xs) hsq (fun D i H2 => Same H1 H2 ∧ ∃ as, H2 D = some (.lst (as.map V.ref)) ∧ Tups H2 as ((ps.map lowP).take i)) ?_ ?_ ?_ ?_⟩
      · intro D hD
        exact ⟨same_upd hD, [], upd_same, .nil⟩
      · intro D i H2 hD ⟨s2, _⟩
        exact ⟨same_sqL s2, same_sqT s2⟩
      · intro D i y H2 hD hi ⟨s2, as, e2, t2⟩
        obtain ⟨di, h1, h2⟩ := hds.at hi
        obtain ⟨p, h3, h4⟩ := mi i di h1
        obtain ⟨t, b⟩ := p
        refine ⟨rfl, ?_⟩
        refine ⟨_, rfl, y, .str "number", di, rfl, h2.mono s2, fun t' b' hp' => ?_, fun z => by rw [h4] at z; cases z⟩
        rw [h4] at hp'
        cases hp'
        refine ⟨hbig (t, b) (List.mem_of_getElem? h3), fun r H3 s3 e3 => ?_⟩
        have rD : r ≠ D := ne_of e3 (s3 _ _ e2) (by intro z; cases z)
        have up : ∀ (a : Addr) (p : Int × Int), H3 a = some (.tup [.int p.1, .int p.2]) → upd H3 D (.lst (as.map V.ref ++ [V.ref r])) a = some (.tup [.int p.1, .int p.2]) := fun a p z => by
          rw [upd_ne (ne_of z (s3 _ _ e2) (by intro z; cases z))]
          exact z
        refine ⟨_, s3 _ _ e2, ?_, (fun b o e => ?_), as ++ [r], ?_, ?_⟩
        · have := t2.len
          rw [List.length_take, List.length_map] at this
          rw [List.length_map, sizeLine_eq]
          omega
        · rw [upd_ne (ne_of_none e hD)]
          exact s3 _ _ (s2 _ _ e)
        · rw [upd_same, List.map_append]
          rfl
        · rw [List.take_succ, List.getElem?_map, h3]
          exact ((t2.same s3).imp up).snoc (up _ _ e3)
      · intro lr H2 nlr ⟨s2, as, e2, t2⟩
        have tk : (ps.map lowP).take xs.length = ps.map lowP := by
          rw [hl, ml]
          exact List.take_of_length_le (by rw [List.length_map]; exact Nat.le_refl _)
        rw [tk] at t2
        refine ⟨fun m σ H3 => ∃ as qs, m = List.length as ∧ (∃ v3, σ = [some (.ref x), some (.ref a), some (.ref lr), v3]) ∧ Same H1 H3 ∧ H3 lr = some (.lst (as.map V.ref)) ∧ Tups H3 as qs ∧ strip qs = strip (ps.map lowP) ∧ as.length ≤ 1000, ⟨_, as, _, rfl, ⟨_, rfl⟩, s2, e2, t2, rfl, ?_⟩, ?_⟩
        · have := t2.len
          rw [List.length_map] at this
          omega
        · rintro m σ H3 ⟨as, qs, rfl, ⟨v3, rfl⟩, s3, e3, t3, hst, hz⟩
          have fin : strip qs = qs → sFld K (tVar 0) (tCB (fun xs H Q => ∃ p ys, xs = [.ref p] ∧ ((SqL K H p ys ∧ ∀ l, H l = none → Q (.ref l) (upd H l (.tup ys))) ∨ (SqT K H p ys ∧ Q (.ref p) H))) (tCons (tVar 2) tNil)) "numbers" { nx := fun _ H' => Q .non H', rt := Q } [some (.ref x), some (.ref a), some (.ref lr), v3] H3 := fun hqs => by
            refine ⟨_, rfl, lr, _, rfl, .inl ⟨SqL.of e3, fun tq ntq => ?_⟩⟩
            have hx3 := s3 _ _ (s1 _ _ hx)
            have hxq : x ≠ tq := ne_of_none hx3 ntq
            refine ⟨_, rfl, x, CP, dx, [], rfl, (by rw [upd_ne hxq]; exact hx3), C.cl, C.nf, (by decide), ?_⟩
            refine q _ (fun b o nb eb => ?_) ⟨dx, tq, as, upd_same, (by rw [upd_ne hxq.symm]; exact upd_same), ?_⟩
            · have eb3 := s3 _ _ (s1 _ _ eb)
              rw [upd_ne nb, upd_ne (ne_of_none eb3 ntq)]
              exact eb3
            · rw [← hst, hqs]
              refine t3.imp fun c p z => ?_
              rw [upd_ne (ne_of z hx3 (by intro z; cases z)), upd_ne (ne_of_none z ntq)]
              exact z
          rcases snoc_cases qs with rfl | ⟨qs, y, rfl⟩
          · cases t3
            refine ⟨_, rfl, false, .inl ⟨[], SqL.of e3, rfl⟩, ?_⟩
            refine iteF ?_
            refine iteF ?_
            exact fin strip_nil
          · obtain ⟨as', r, rfl, t4, er⟩ := t3.unsnoc
            refine ⟨_, rfl, true, .inl ⟨_, SqL.of e3, by simp⟩, ?_⟩
            refine iteT ?_
            refine ⟨_, rfl, _, rfl, lr, _, _, .ref r, rfl, rfl, SqL.of e3, (by rw [List.map_append]; exact atI_last _ _), r, _, _, .int y.1, rfl, rfl, SqT.of er, at_of (j := 0) rfl rfl, rfl, _, rfl, ?_⟩
            by_cases y0 : y.1 = 0
            · rw [decide_eq_true (by rw [y0])]
              refine iteT ?_
              refine ⟨fun σ' H' => ∃ qs', (∃ v3, σ' = [some (.ref x), some (.ref a), some (.ref lr), v3]) ∧ Same H1 H' ∧ H' lr = some (.lst (as'.map V.ref)) ∧ Tups H' as' qs' ∧ strip qs' = strip (ps.map lowP) ∧ as'.length ≤ 1000, fun σ' H' ⟨qs', h1, h2, h3, h4, h5, h6⟩ => ⟨as'.length, by rw [List.length_append]; simp, as', qs', rfl, h1, h2, h3, h4, h5, h6⟩, ?_⟩
              refine ⟨_, rfl, .inl ⟨rfl, _, SqL.of e3⟩, lr, _, .ref r, rfl, rfl, e3, ?_, ?_⟩
              · simp
              · refine ⟨qs, ⟨_, rfl⟩, fun b o eb => ?_, ?_, ?_, ?_, ?_⟩
                · rw [upd_ne (ne_of_none eb nlr)]
                  exact s3 _ _ eb
                · rw [upd_same, List.map_append]
                  simp
                · refine t4.imp fun c p z => ?_
                  rw [upd_ne (ne_of z e3 (by intro z; cases z))]
                  exact z
                · rw [strip_snoc, if_pos y0] at hst
                  exact hst
                · rw [List.length_append] at hz
                  omega
            · rw [decide_eq_false (fun z => y0 (by have z2 := V.int.inj z; exact z2))]
              refine iteF ?_
              exact fin (by rw [strip_snoc, if_neg y0])
def spPolyE (K : PySem.W.Frag) (CP : Addr) : Sp := fun vs H Q _ => ∃ (a : Addr) (rs : List (Int × Int)) (v : V), vs = [.ref a, v] ∧ PolyAt K CP H a rs ∧
  ((∃ (b : Addr) (rs2 : List (Int × Int)), v = .ref b ∧ PolyAt K CP H b rs2 ∧ Q (.bl (decide (rs = rs2))) H) ∨ (∃ d, Dt K H v d ∧ Q (.bl false) H))
def spPolyD (K : PySem.W.Frag) (CP : Addr) : Sp := fun vs H Q _ => ∃ (a : Addr) (rs : List (Int × Int)), vs = [.ref a] ∧ PolyAt K CP H a rs ∧ Q (.int ((rs.length : Int) - 1)) H
def leadP (rs : List (Int × Int)) : Int × Int := rs.getLast?.getD (0, 1)
def spPolyL (K : PySem.W.Frag) (CP : Addr) : Sp := fun vs H Q _ => ∃ (a : Addr) (rs : List (Int × Int)), vs = [.ref a] ∧ PolyAt K CP H a rs ∧ ∀ (r : Addr) (H' : Hp), Same H H' → H' r = some (.tup [.int (leadP rs).1, .int (leadP rs).2]) → Q (.ref r) H'
theorem scPolyE : FnScope ["self", "other"] ["self", "other"] (defScope sPolyE) := ⟨rfl, rfl, rfl, by decide +kernel, rfl, by decide +kernel, by decide +kernel⟩
theorem ok_poly_eq {f : Addr} {fd : FuncData} (F : Fun K "__eq__" "Poly.__eq__" sPolyE f fd) (T : Bk mg) (hm1 : M1 base) (C : PoC K mg CP) : FnOk P w K mg base CX0 1 f fd ["self", "other"] (spPolyE K CP) := by
  refine F.ok scPolyE (fun vs H Q E h => ?_) (fun cdv A outer s H vs Q E hr h => ?_)
  · obtain ⟨a, rs, v, rfl, _⟩ := h
    rfl
  · obtain ⟨a, rs, v, rfl, ha, q⟩ := h
    refine ⟨_, (pss_one (ps_ret (pe_and (pe_callB call_isi (by rfl) T.isinstance (by decide +kernel) (pa_cons (pv 1) (pa_cons (pe_glob (v := V.ref CP) rfl C.m rfl) pa_nil))) (pe_one (pe_cmpR (op_eqT hr.units hm1) (pe_fld (pv 0) rfl) (pe_fld (pv 1) rfl) (nomark _)))))), ?_⟩
    rcases q with ⟨b, rs2, rfl, hb, q⟩ | ⟨d, hd, q⟩
    · refine ⟨_, rfl, .ref b, .ref CP, _, .ref CP, _, rfl, .own _, hb.ty C, C.io, _, rfl, ?_⟩
      refine iteT ?_
      obtain ⟨dx, t, as, h1, h2, h3⟩ := ha
      obtain ⟨dx2, t2, as2, g1, g2, g3⟩ := hb
      refine ⟨_, rfl, a, CP, dx, _, .ref t, rfl, h1, C.cl, C.nf, (by kernel_rfl), _, rfl, b, CP, dx2, _, .ref t2, rfl, g1, C.cl, C.nf, (by kernel_rfl), ?_⟩
      refine ⟨.tuple (rs.map pairD), .tuple (rs2.map pairD), .tup (SqT.of h2) h3.dts, .tup (SqT.of g2) g3.dts, (plain_row _).1, (plain_row _).1, (depth_row _).1, ?_⟩
      rw [eqv_row]
      exact q
    · refine ⟨_, rfl, v, .ref CP, _, .ref CP, _, rfl, .own _, hd.ty, C.no d, _, rfl, ?_⟩
      refine iteF ?_
      exact q
theorem scPolyD : FnScope ["self"] ["self"] (defScope sPolyD) := ⟨rfl, rfl, rfl, by decide +kernel, rfl, by decide +kernel, by decide +kernel⟩
theorem ok_poly_degree {f : Addr} {fd : FuncData} (F : Fun K "degree" "Poly.degree" sPolyD f fd) (T : Bk mg) (C : PoC K mg CP) : FnOk P w K mg base CX0 1 f fd ["self"] (spPolyD K CP) := by
  refine F.ok scPolyD (fun vs H Q E h => ?_) (fun cdv A outer s H vs Q E hr h => ?_)
  · obtain ⟨a, rs, rfl, _⟩ := h
    rfl
  · obtain ⟨a, rs, rfl, ⟨dx, t, as, h1, h2, h3⟩, q⟩ := h
    refine ⟨_, (pss_one (ps_ret (pe_op op_sub (pe_callB call_len_seq (by rfl) T.len (by decide +kernel) (pa_cons (pe_fld (pv 0) rfl) pa_nil)) pe_int))), ?_⟩
    refine ⟨_, rfl, a, CP, dx, _, .ref t, rfl, h1, C.cl, C.nf, (by kernel_rfl), t, _, rfl, .inr (SqT.of h2), _, _, rfl, rfl, ?_⟩
    rw [List.length_map, h3.len]
    exact q
end

end Vf

set_option maxRecDepth 100000
set_option maxHeartbeats 8000000
namespace Vf
open PySem PySem.Spec PyProof.Rows L2
/-! ### the program's rows -/
/-- a row, a list or a tuple, of the pairs of these numbers -/
def RS (K : PySem.W.Frag) (H : Hp) (l : Addr) (qs : List Rat) : Prop := ∃ as, (SqL K H l (as.map V.ref) ∨ SqT K H l (as.map V.ref)) ∧ Tups H as (qs.map pq)
theorem RS.same {K : PySem.W.Frag} {H H' : Hp} {l : Addr} {qs : List Rat} (h : RS K H l qs) (s : Same H H') : RS K H' l qs := by
  obtain ⟨as, e, t⟩ := h
  exact ⟨as, e.imp (same_sqL s) (same_sqT s), t.same s⟩
theorem RS.of {K : PySem.W.Frag} {H : Hp} {l : Addr} {qs : List Rat} (h : RL H l qs) : RS K H l qs := by
  obtain ⟨as, e, t⟩ := h
  exact ⟨as, .inl (SqL.of e), t⟩
theorem low_Z {q : Rat} : low q.num q.den = pq q := low_id (pq_low q)
theorem parts_q (q : Rat) : partsD (pairD (pq q)) = some (q.num, (q.den : Int)) := by
  show (if 0 < (q.den : Int) then some (q.num, (q.den : Int)) else none) = _
  rw [if_pos (by have := q.den_pos; omega)]
/-- below 2 ^ 1900 above and below -/
def Z2 (q : Rat) : Prop := Sz q.num ∧ Sz (q.den : Int)
theorem z2_zero : Z2 0 := ⟨by show (0 : Nat) < 2 ^ 1900; decide +kernel, by show (1 : Nat) < 2 ^ 1900; decide +kernel⟩
theorem z2_neg {q : Rat} (h : Z2 q) : Z2 (-q) := by
  refine ⟨?_, ?_⟩
  · show (-q).num.natAbs < _
    rw [Rat.neg_num, Int.natAbs_neg]
    exact h.1
  · show ((-q).den : Int).natAbs < _
    rw [Rat.neg_den]
    exact h.2
def rIxS (K : PySem.W.Frag) : R2 := fun x y H Q => ∃ p xs i v, x = .ref p ∧ y = .int i ∧ (SqL K H p xs ∨ SqT K H p xs) ∧ atI xs i = some v ∧ Q v H
theorem ix_seq {X : Cx} : IxR X (rIxS X.K) := by
  intro value slice pins s σ H x y v u Q I rx ry h hs
  obtain ⟨p, xs, i, z, e1, e2, hq, he, q⟩ := h
  rcases hq with hq | hq
  · exact ix_list value slice pins s σ H x y v u Q I rx ry ⟨p, xs, i, z, e1, e2, hq, he, q⟩ hs
  · exact ix_tup value slice pins s σ H x y v u Q I rx ry ⟨p, xs, i, z, e1, e2, hq, he, q⟩ hs
theorem RS.getQ {K : PySem.W.Frag} {H : Hp} {l : Addr} {qs : List Rat} (h : RS K H l qs) : ∃ xs : List V, (SqL K H l xs ∨ SqT K H l xs) ∧ xs.length = qs.length ∧ ∀ i, i < qs.length → ∃ a, xs[i]? = some (.ref a) ∧ TR H a (cf qs i) := by
  obtain ⟨as, e, t⟩ := h
  refine ⟨_, e, by rw [List.length_map, t.lenQ], fun i hi => ?_⟩
  obtain ⟨a, h1, h2⟩ := t.getQ hi
  exact ⟨a, by rw [List.getElem?_map, h1]; rfl, h2⟩
def spNumOf (K : PySem.W.Frag) : Sp := fun vs H Q _ => ∃ (l : Addr) (a : List Rat) (i : Nat), vs = [.ref l, .int i] ∧ RS K H l a ∧ ∀ (r : Addr) (H' : Hp), Same H H' → TR H' r (cf a i) → Q (.ref r) H'
def spSums (K : PySem.W.Frag) : Sp := fun vs H Q _ => ∃ (l1 l2 : Addr) (a b : List Rat), vs = [.ref l1, .ref l2] ∧ RS K H l1 a ∧ RS K H l2 b ∧ a.length ≤ 500 ∧ b.length ≤ 500 ∧ (∀ i, Z2 (cf a i)) ∧ (∀ i, Z2 (cf b i)) ∧ ∀ (l : Addr) (H' : Hp), Same H H' → RL H' l (padd a b) → Q (.ref l) H'
def spOpp (K : PySem.W.Frag) : Sp := fun vs H Q _ => ∃ (l1 : Addr) (a : List Rat), vs = [.ref l1] ∧ RS K H l1 a ∧ a.length ≤ 500 ∧ ∀ (l : Addr) (H' : Hp), Same H H' → RL H' l (a.map (- ·)) → Q (.ref l) H'
section
variable {P : Program} {w : World} {K : PySem.W.Frag} {mg : Str → Option Value} {base : Heap} {CP CR CN : Addr}
abbrev sNumOf : Stmt := topS 27
abbrev sSums : Stmt := topS 28
abbrev sOpp : Stmt := topS 29
theorem scNumOf : FnScope ["numbers", "power"] ["numbers", "power"] (defScope sNumOf) := ⟨rfl, rfl, rfl, by decide +kernel, rfl, by decide +kernel, by decide +kernel⟩
theorem ok_num_of {f : Addr} {fd : FuncData} (F : Fun K "number_of" "number_of" sNumOf f fd) (T : Bk mg) : FnOk P w K mg base CX0 1 f fd ["numbers", "power"] (spNumOf K) := by
  refine F.ok scNumOf (fun vs H Q E h => ?_) (fun cdv A outer s H vs Q E hr h => ?_)
  · obtain ⟨l, a, i, rfl, _⟩ := h
    rfl
  · obtain ⟨l, a, i, rfl, hl, q⟩ := h
    refine ⟨_, (pss_one (ps_ret (pe_ifExp (pt_cmpR op_lt (pv 1) (pe_callB call_len_seq (by rfl) T.len (by decide +kernel) (pa_cons (pv 0) pa_nil)) (nomark _)) (pe_ix ix_seq (pv 0) (pv 1) (fun _ _ => rfl)) (pe_tup (pa_cons pe_int (pa_cons pe_int pa_nil)))))), ?_⟩
    obtain ⟨xs, hx, hn, get⟩ := hl.getQ
    refine ⟨_, rfl, _, rfl, l, xs, rfl, hx, _, _, rfl, rfl, _, rfl, ?_⟩
    rw [hn]
    by_cases hi : i < a.length
    · rw [decide_eq_true (show (i : Int) < (a.length : Nat) by omega)]
      refine iteT ?_
      obtain ⟨r, h1, h2⟩ := get i hi
      exact ⟨_, rfl, _, rfl, l, xs, _, _, rfl, rfl, hx, at_of (j := i) rfl h1, q r H (Same.refl _) h2⟩
    · rw [decide_eq_false (show ¬(i : Int) < (a.length : Nat) by omega)]
      refine iteF ?_
      refine ⟨(by show 2 ≤ sizeLine; decide), fun t nt => q t _ (same_upd nt) ?_⟩
      rw [cf_ge (by omega)]
      exact tr_zero upd_same
theorem scSums : FnScope ["one", "other", "powers", "power"] ["one", "other"] (defScope sSums) := ⟨rfl, rfl, rfl, by decide +kernel, rfl, by decide +kernel, by decide +kernel⟩
theorem ok_sums {f : Addr} {fd : FuncData} (F : Fun K "sums_of" "sums_of" sSums f fd) (T : Bk mg) (hmax : mg "max" = none) (Gn : Df P w K mg base "number_of" 1 ["numbers", "power"] (spNumOf K)) (Gp : Dx P w K mg base "plus" 4 ["one", "other"] (spTwo K CN (okLow gPlus))) : FnOk P w K mg base (L2.CX P w) 5 f fd ["one", "other"] (spSums K) := by
  refine F.okX scSums (fun vs H Q E h => ?_) (fun cdv A outer s H vs Q E hr h => ?_)
  · obtain ⟨l1, l2, a, b, rfl, _⟩ := h
    rfl
  · obtain ⟨l1, l2, a, b, rfl, h1, h2, la, lb, za, zb, q⟩ := h
    refine ⟨_, (pss_cons (ps_set (i := 2) scSums.nd rfl (Or.inl rfl) (pe_callTy cr_range1 (by rfl) T.range (by decide +kernel) (pa_cons (pe_callB (call_max2 rfl) (by rfl) hmax (by decide +kernel) (pa_cons (pe_callB call_len_seq (by rfl) T.len (by decide +kernel) (pa_cons (pv 0) pa_nil)) (pa_cons (pe_callB call_len_seq (by rfl) T.len (by decide +kernel) (pa_cons (pv 1) pa_nil)) pa_nil))) pa_nil)))
      (pss_one (ps_ret (pe_lc (own := [("power", 3)]) (g := gName 3) (tt := tYes) rfl scSums.nd (pi_rng (pv 2)) (blkOk_by (N := ["one", "other", "powers", "power"]) (sc := defScope sSums) (by decide +kernel)) (fun _ _ _ _ _ => pg_name (i := 3) scSums.nd rfl (Or.inl rfl)) (fun _ _ _ _ _ => pts_nil)
        (fun _ _ _ _ _ => (pe_call Gp.ok (hr.mono (by decide)) rfl Gp.m Gp.kp Gp.b .nil passL (pa_cons (pe_call Gn.ok (hr.mono (by decide)) rfl Gn.m Gn.kp Gn.b .nil pass0 (pa_cons (pv 0) (pa_cons (pv 3) pa_nil))) (pa_cons (pe_call Gn.ok (hr.mono (by decide)) rfl Gn.m Gn.kp Gn.b .nil pass0 (pa_cons (pv 1) (pa_cons (pv 3) pa_nil))) pa_nil)))))))), ?_⟩
    obtain ⟨xs, hx, hn, _⟩ := h1.getQ
    obtain ⟨ys, hy, hm, _⟩ := h2.getQ
    refine ⟨_, rfl, l1, xs, rfl, hx, _, rfl, l2, ys, rfl, hy, _, _, rfl, ?_⟩
    rw [hn, hm]
    have em : (if ((b.length : Nat) : Int) > ((a.length : Nat) : Int) then ((b.length : Nat) : Int) else ((a.length : Nat) : Int)) = ((max a.length b.length : Nat) : Int) := by split <;> omega
    rw [em]
    generalize hmx : max a.length b.length = n
    refine ⟨_, rfl, fun p np => ?_⟩
    have ep : upd H p (HO.rng 0 (n : Int)) p = some (HO.rng 0 (n : Int)) := upd_same
    have s1 : Same H (upd H p (HO.rng 0 (n : Int))) := same_upd np
    generalize upd H p (HO.rng 0 (n : Int)) = H1 at ep s1 ⊢
    refine ⟨_, rfl, p, 0, n, rfl, ep, by omega, fun D hD => ?_⟩
    rw [show ((n : Int) - 0).toNat = n by omega]
    refine lc_range (lo := 0) (n := n) (fun i H' => Same H1 H' ∧ ∃ zs, H' D = some (.lst (zs.map V.ref)) ∧ Tups H' zs ((tab i fun j => cf a j + cf b j).map pq)) ⟨same_upd hD, [], upd_same, .nil⟩ ?_ ?_
    · rintro i H' hi ⟨ss, zs, eD, tz⟩
      have e0 : (0 + (i : Int)) = (i : Int) := by omega
      refine ⟨rfl, ?_⟩
      rw [e0]
      refine ⟨_, rfl, _, rfl, l1, a, i, rfl, (h1.same s1).same ss, fun ra H2 s2 tra => ?_⟩
      refine ⟨_, rfl, _, rfl, l2, b, i, rfl, ((h2.same s1).same ss).same s2, fun rb H3 s3 trb => ?_⟩
      refine ⟨_, _, pairD (pq (cf a i)), pairD (pq (cf b i)), rfl, .tup (SqT.of (s3 _ _ tra)) (.cons (.int _) (.cons (.int _) .nil)), .tup (SqT.of trb) (.cons (.int _) (.cons (.int _) .nil)), fun t b' x c h3 h4 => ?_, (fun z => by rw [parts_q] at z; cases z), (fun _ z => by rw [parts_q] at z; cases z)⟩
      rw [parts_q] at h3 h4
      cases h3
      cases h4
      refine ⟨(za i).1, (za i).2, (zb i).1, (zb i).2, fun r' H'' s' er => ?_⟩
      have er : TR H'' r' (cf a i + cf b i) := by
        have z := low_add (cf a i) (cf b i)
        unfold gPlus at er
        rw [z] at er
        exact er
      have eD' := s' _ _ (s3 _ _ (s2 _ _ eD))
      refine ⟨_, eD', ?_, (fun b' o' e' => ?_), zs ++ [r'], ?_, ?_⟩
      · have := tz.lenQ
        rw [tab_len] at this
        rw [List.length_map, sizeLine_eq]
        omega
      · rw [upd_ne (ne_of_none e' hD)]
        exact s' _ _ (s3 _ _ (s2 _ _ (ss _ _ e')))
      · rw [upd_same, List.map_append]
        rfl
      · rw [tab_snoc]
        have up : ∀ (c : Addr) (p : Int × Int), H'' c = some (.tup [.int p.1, .int p.2]) → upd H'' D (.lst (zs.map V.ref ++ [V.ref r'])) c = some (.tup [.int p.1, .int p.2]) := fun c p z => by
          rw [upd_ne (ne_of z eD' (by intro z; cases z))]
          exact z
        exact Tups.snocQ ((((tz.same s2).same s3).same s').imp up) (up _ (pq _) er)
    · rintro H' ⟨ss, zs, eD, tz⟩
      refine q D H' (s1.trans ss) ⟨zs, eD, ?_⟩
      unfold padd
      rw [hmx]
      exact tz
theorem scOpp : FnScope ["numbers", "top", "bottom"] ["numbers"] (defScope sOpp) := ⟨rfl, rfl, rfl, by decide +kernel, rfl, by decide +kernel, by decide +kernel⟩
theorem ok_opp {f : Addr} {fd : FuncData} (F : Fun K "opposites_of" "opposites_of" sOpp f fd) : FnOk P w K mg base CX0 1 f fd ["numbers"] (spOpp K) := by
  refine F.ok scOpp (fun vs H Q E h => ?_) (fun cdv A outer s H vs Q E hr h => ?_)
  · obtain ⟨l1, a, rfl, _⟩ := h
    rfl
  · obtain ⟨l1, a, rfl, ⟨as, e1, t1⟩, la, q⟩ := h
    refine ⟨_, (pss_one (ps_ret (pe_lc (own := [("top", 1), ("bottom", 2)]) (g := gTup K 2 (gCons (gName 1) (gCons (gName 2) gNil))) (tt := tYes) rfl scOpp.nd (pi_seq (pv 0)) (blkOk_by (N := ["numbers", "top", "bottom"]) (sc := defScope sOpp) (by decide +kernel)) (fun _ _ _ _ _ => pg_tup rfl (pgs_cons (pg_name (i := 1) scOpp.nd rfl (Or.inl rfl)) (pgs_cons (pg_name (i := 2) scOpp.nd rfl (Or.inl rfl)) pgs_nil))) (fun _ _ _ _ _ => pts_nil)
      (fun _ _ _ _ _ => (pe_tup (pa_cons (pe_un un_neg (pv 1)) (pa_cons (pv 2) pa_nil))))))), ?_⟩
    have n1 := t1.lenQ
    refine ⟨_, rfl, l1, rfl, lc_seq (xs := as.map V.ref) e1 (fun D i H' => Same H H' ∧ ∃ zs, H' D = some (.lst (zs.map V.ref)) ∧ Tups H' zs ((tab i fun j => -cf a j).map pq)) ?_ ?_ ?_ ?_⟩
    · intro D hD
      exact ⟨same_upd hD, [], upd_same, .nil⟩
    · intro D i H2 hD ⟨s2, _⟩
      exact ⟨same_sqL s2, same_sqT s2⟩
    · intro D i x H' hD hi ⟨ss, zs, eD, tz⟩
      rw [List.getElem?_map] at hi
      cases hr0 : as[i]? with
      | none => rw [hr0] at hi; cases hi
      | some r =>
        rw [hr0] at hi
        cases hi
        obtain ⟨qq, hq1, hq2⟩ := t1.atQ hr0
        have hc := cf_get hq1
        refine ⟨r, _, rfl, SqT.of (ss _ _ hq2), rfl, _, _, rfl, _, _, rfl, rfl, rfl, ?_⟩
        refine ⟨_, rfl, _, rfl, _, rfl, (by show 2 ≤ sizeLine; decide), fun t nt => ?_⟩
        have et : TR (upd H' t (HO.tup [V.int (-qq.num), V.int (qq.den : Int)])) t (-cf a i) := by
          rw [hc]
          unfold TR
          rw [upd_same, Rat.neg_num, Rat.neg_den]
        have st : Same H' (upd H' t (HO.tup [V.int (-qq.num), V.int (qq.den : Int)])) := same_upd nt
        generalize upd H' t (HO.tup [V.int (-qq.num), V.int (qq.den : Int)]) = H2 at et st ⊢
        have eD' := st _ _ eD
        refine ⟨_, eD', ?_, (fun b' o' e' => ?_), zs ++ [t], ?_, ?_⟩
        · have := tz.lenQ
          have := (List.getElem?_eq_some_iff.mp hr0).1
          rw [tab_len] at *
          rw [List.length_map, sizeLine_eq]
          omega
        · rw [upd_ne (ne_of_none e' hD)]
          exact st _ _ (ss _ _ e')
        · rw [upd_same, List.map_append]
          rfl
        · rw [tab_snoc]
          have up : ∀ (c : Addr) (p : Int × Int), H2 c = some (.tup [.int p.1, .int p.2]) → upd H2 D (.lst (zs.map V.ref ++ [V.ref t])) c = some (.tup [.int p.1, .int p.2]) := fun c p z => by
            rw [upd_ne (ne_of z eD' (by intro z; cases z))]
            exact z
          exact Tups.snocQ ((tz.same st).imp up) (up t (pq (-cf a i)) et)
    · intro D H' hD ⟨ss, zs, eD, tz⟩
      rw [List.length_map, n1] at tz
      have e : (tab a.length fun j => -cf a j) = a.map (- ·) := by
        refine List.ext_getElem? fun i => ?_
        unfold tab
        rw [List.getElem?_map, List.getElem?_map]
        by_cases h : i < a.length
        · rw [List.getElem?_range h, List.getElem?_eq_getElem h]
          show some (-cf a i) = some (-a[i])
          rw [cf_lt h]
        · rw [List.getElem?_eq_none_iff.mpr (by rw [List.length_range]; omega), List.getElem?_eq_none_iff.mpr (by omega)]
          rfl
      rw [e] at tz
      exact q D H' ss ⟨zs, eD, tz⟩
end

end Vf

set_option maxRecDepth 100000
set_option maxHeartbeats 8000000
namespace Vf
open PySem PySem.Spec PyProof.Rows L2
/-! ### rows over one bottom -/
/-- the numbers of a Poly of the law -/
def Sm (q : Rat) : Prop := q.num.natAbs ≤ 2 ^ 13 ∧ q.den ≤ 2 ^ 12
theorem sm_zero' : Sm 0 := ⟨Nat.zero_le _, by show 1 ≤ 2 ^ 12; decide⟩
theorem num_den (q : Rat) : q * ((q.den : Nat) : Rat) = ((q.num : Int) : Rat) := by
  obtain ⟨n, e, h⟩ := Fr.self q
  have h0 : (q.den : Rat) ≠ 0 := by
    have := q.den_nz
    exact_mod_cast this
  have z : (q.num : Rat) / (q.den : Rat) = q := by
    have := Rat.num_divInt_den q
    rw [Rat.divInt_eq_div] at this
    exact_mod_cast this
  have := Rat.div_mul_cancel (a := (q.num : Rat)) h0
  rw [z] at this
  exact this
theorem over_one {q : Rat} {b : Nat} (h : q.den ∣ b) : q * (b : Rat) = ((q.num * ((b : Int) / (q.den : Int)) : Int) : Rat) := by
  obtain ⟨k, rfl⟩ := h
  have e : ((q.den * k : Nat) : Int) / (q.den : Int) = (k : Int) := by
    have := q.den_nz
    rw [Int.natCast_mul, Int.mul_ediv_cancel_left _ (by omega)]
  rw [e]
  have e2 : ((q.den * k : Nat) : Rat) = (q.den : Rat) * (k : Rat) := by exact_mod_cast rfl
  have e3 : ((q.num * (k : Int) : Int) : Rat) = (q.num : Rat) * (k : Rat) := by exact_mod_cast rfl
  rw [e2, e3, ← Rat.mul_assoc, num_den]
def spOver (K : PySem.W.Frag) : Sp := fun vs H Q _ => ∃ (l : Addr) (as : List Addr) (a : List Rat), vs = [.ref l] ∧ SqT K H l (as.map V.ref) ∧ Tups H as (a.map pq) ∧ a.length ≤ 13 ∧ (∀ i, Sm (cf a i)) ∧
  ∀ (r l' : Addr) (ns : List Int) (b : Nat) (H' : Hp), Same H H' → H' r = some (.tup [.ref l', .int (b : Int)]) → H' l' = some (.lst (ns.map V.int)) → 0 < b → b ≤ 2 ^ 156 → ns.length = a.length → (∀ i, cf a i * (b : Rat) = ((ci ns i : Int) : Rat)) → (∀ i, (ci ns i).natAbs ≤ 2 ^ 169) → Q (.ref r) H'
section
variable {P : Program} {w : World} {K : PySem.W.Frag} {mg : Str → Option Value} {base : Heap} {CP CR CN : Addr}
abbrev sOver : Stmt := topS 31
theorem scOver : FnScope ["numbers", "below", "number", "top", "bottom"] ["numbers"] (defScope sOver) := ⟨rfl, rfl, rfl, by decide +kernel, rfl, by decide +kernel, by decide +kernel⟩
theorem lt_4000 {b : Nat} {k : Nat} (h : b ≤ 2 ^ k) (hk : k < 3900) : b < 2 ^ 3900 := Nat.lt_of_le_of_lt h (Nat.pow_lt_pow_right (by decide) hk)
theorem ok_over {f : Addr} {fd : FuncData} (F : Fun K "over_one_bottom" "over_one_bottom" sOver f fd) (hlcm : mg "lcm" = some (.builtin "math.lcm")) : FnOk P w K mg base CX0 1 f fd ["numbers"] (spOver K) := by
  refine F.ok scOver (fun vs H Q E h => ?_) (fun cdv A outer s H vs Q E hr h => ?_)
  · obtain ⟨l, as, a, rfl, _⟩ := h
    rfl
  · obtain ⟨l, as, a, rfl, hS, t1, la, sa, q⟩ := h
    refine ⟨_, (pss_cons (ps_set (i := 1) scOver.nd rfl (Or.inr rfl) pe_int)
  (pss_cons (ps_for PassesOwn.never rfl (pi_tup (pv 0)) (pg_name (i := 2) scOver.nd rfl (Or.inl rfl))
    (pss_one (ps_set (i := 1) scOver.nd rfl (Or.inr rfl) (pe_callBfun cr_lcm (by rfl) hlcm (pa_cons (pv 1) (pa_cons (pe_ix ix_tup (pv 2) pe_int (fun _ _ => rfl)) pa_nil))))))
  (pss_one (ps_ret (pe_tup (pa_cons (pe_lc (own := [("top", 3), ("bottom", 4)]) (g := gTup K 2 (gCons (gName 3) (gCons (gName 4) gNil))) (tt := tYes) rfl scOver.nd (pi_seq (pv 0)) (blkOk_by (N := ["numbers", "below", "number", "top", "bottom"]) (sc := defScope sOver) (by decide +kernel)) (fun _ _ _ _ _ => pg_tup rfl (pgs_cons (pg_name (i := 3) scOver.nd rfl (Or.inl rfl)) (pgs_cons (pg_name (i := 4) scOver.nd rfl (Or.inl rfl)) pgs_nil))) (fun _ _ _ _ _ => pts_nil) (fun _ _ _ _ _ => (pe_op op_mulW (pv 3) (pe_op op_fdivW (pv 1) (pv 4))))) (pa_cons (pv 1) pa_nil))))))), ?_⟩
    have n1 := t1.lenQ
    refine ⟨_, rfl, l, rfl, ⟨_, hS⟩, for_tup (K := K) (a := l) (xs := as.map V.ref) (fun i σ H' => ∃ (b : Nat) (v : Option V), σ = [some (.ref l), some (.int (b : Int)), v, none, none] ∧ Same H H' ∧ 0 < b ∧ b ≤ (2 ^ 12) ^ i ∧ ∀ j, j < i → (cf a j).den ∣ b)
      ⟨1, none, rfl, Same.refl _, by decide, by decide, fun j hj => by omega⟩ (fun i σ H' _ ⟨_, _, _, ss, _⟩ => same_sqT ss hS) ?_ ?_⟩
    · rintro i x σ H' hi ⟨b, v, rfl, ss, b0, bi, dv⟩
      rw [List.getElem?_map] at hi
      cases hr0 : as[i]? with
      | none => rw [hr0] at hi; cases hi
      | some r =>
        rw [hr0] at hi
        cases hi
        obtain ⟨qq, hq1, hq2⟩ := t1.atQ hr0
        have hc := cf_get hq1
        have hi13 : i < 13 := by
          have := (List.getElem?_eq_some_iff.mp hr0).1
          omega
        have hb : b < 2 ^ 4000 := by
          have e : ((2 : Nat) ^ 12) ^ i = 2 ^ (12 * i) := (Nat.pow_mul _ _ _).symm
          rw [e] at bi
          exact Nat.lt_of_le_of_lt bi (Nat.pow_lt_pow_right (by decide) (by omega))
        have hd : qq.den ≤ 2 ^ 12 := by rw [← hc]; exact (sa i).2
        have hd0 := qq.den_pos
        refine ⟨_, rfl, _, rfl, r, _, _, .int (qq.den : Int), rfl, rfl, SqT.of (ss _ _ hq2), at_of (j := 1) rfl rfl, _, _, rfl, by rw [Int.natAbs_natCast]; exact hb, by rw [Int.natAbs_natCast]; exact Nat.lt_of_le_of_lt hd (Nat.pow_lt_pow_right (by decide) (by decide)), ?_⟩
        rw [Int.natAbs_natCast, Int.natAbs_natCast]
        refine ⟨b.lcm qq.den, _, rfl, ss, Nat.lcm_pos b0 hd0, ?_, fun j hj => ?_⟩
        · have le : b.lcm qq.den ≤ b * qq.den := Nat.le_of_dvd (Nat.mul_pos b0 hd0) (Nat.lcm_dvd_mul b qq.den)
          rw [Nat.pow_succ]
          exact Nat.le_trans le (Nat.mul_le_mul bi hd)
        · by_cases e : j = i
          · rw [e, hc]
            exact Nat.dvd_lcm_right _ _
          · exact Nat.dvd_trans (dv j (by omega)) (Nat.dvd_lcm_left _ _)
    · rintro σ H' ⟨b, v, rfl, ss, b0, bi, dv⟩
      rw [List.length_map, n1] at bi dv
      have b156 : b ≤ 2 ^ 156 := by
        have e : ((2 : Nat) ^ 12) ^ a.length = 2 ^ (12 * a.length) := (Nat.pow_mul _ _ _).symm
        rw [e] at bi
        exact Nat.le_trans bi (Nat.pow_le_pow_right (by decide) (by omega))
      have hS' := same_sqT ss hS
      have t1' := t1.same ss
      let g : Nat → Int := fun i => (cf a i).num * ((b : Int) / ((cf a i).den : Int))
      have hg : ∀ i, i < a.length → (g i).natAbs ≤ 2 ^ 169 := fun i hi => by
        show ((cf a i).num * ((b : Int) / ((cf a i).den : Int))).natAbs ≤ _
        rw [Int.natAbs_mul, show (2 : Nat) ^ 169 = 2 ^ 13 * 2 ^ 156 from by decide +kernel]
        refine Nat.mul_le_mul (sa i).1 (Nat.le_trans ?_ b156)
        rw [← Int.natCast_ediv, Int.natAbs_natCast]
        exact Nat.div_le_self _ _
      refine ⟨_, rfl, l, rfl, lc_seq (xs := as.map V.ref) (.inr hS') (fun D i H2 => Same H' H2 ∧ H2 D = some (.lst ((tabI i g).map V.int))) ?_ ?_ ?_ ?_⟩
      · intro D hD
        exact ⟨same_upd hD, upd_same⟩
      · intro D i H2 hD ⟨s2, _⟩
        exact ⟨same_sqL s2, same_sqT s2⟩
      · intro D i x H2 hD hi ⟨s2, eD⟩
        rw [List.getElem?_map] at hi
        cases hr0 : as[i]? with
        | none => rw [hr0] at hi; cases hi
        | some r =>
          rw [hr0] at hi
          cases hi
          obtain ⟨qq, hq1, hq2⟩ := t1'.atQ hr0
          have hc := cf_get hq1
          have hi13 := (List.getElem?_eq_some_iff.mp hr0).1
          have h1 : (qq.num).natAbs < 2 ^ 3900 := lt_4000 (by rw [← hc]; exact (sa i).1) (by decide)
          have h2 : ((b : Int) / (qq.den : Int)).natAbs < 2 ^ 3900 := by
            rw [← Int.natCast_ediv, Int.natAbs_natCast]
            exact lt_4000 (Nat.le_trans (Nat.div_le_self _ _) b156) (by decide)
          refine ⟨r, _, rfl, SqT.of (s2 _ _ hq2), rfl, _, _, rfl, _, _, rfl, rfl, rfl, ?_⟩
          refine ⟨_, rfl, _, rfl, _, rfl, _, _, rfl, rfl, ?_, _, _, rfl, rfl, big_mulW h1 h2, ?_⟩
          · have := qq.den_pos
            refine ⟨by omega, ?_⟩
            rw [Int.natAbs_natCast]
            have h3 : qq.den < 2 ^ 4000 := Nat.lt_of_le_of_lt (show qq.den ≤ 2 ^ 12 by rw [← hc]; exact (sa i).2) (Nat.pow_lt_pow_right (by decide) (by decide))
            exact Nat.lt_trans (log_4000 h3) (by decide)
          · refine ⟨_, eD, ?_, (fun b' o' e' => ?_), ?_⟩
            · rw [List.length_map, tabI_len, sizeLine_eq]
              omega
            · rw [upd_ne (ne_of_none e' hD)]
              exact s2 _ _ e'
            · rw [upd_same, tabI_snoc, List.map_append]
              show _ = some (HO.lst (_ ++ [V.int (g i)]))
              simp only [g, hc]
      · intro D H2 hD ⟨s2, eD⟩
        rw [List.length_map, n1] at eD
        refine ⟨_, rfl, (by show 2 ≤ sizeLine; decide), fun r nr => ?_⟩
        have s3 : Same H2 (upd H2 r (HO.tup [V.ref D, V.int (b : Int)])) := same_upd nr
        refine q r D _ b _ ((ss.trans s2).trans s3) upd_same (s3 _ _ eD) b0 b156 (tabI_len _ _) (fun i => ?_) (fun i => ?_)
        · rw [ci_tab]
          by_cases hi : i < a.length
          · rw [if_pos hi]
            exact over_one (dv i hi)
          · rw [if_neg hi, cf_ge (by omega), Rat.zero_mul]
            rfl
        · rw [ci_tab]
          by_cases hi : i < a.length
          · rw [if_pos hi]
            exact hg i hi
          · rw [if_neg hi]
            exact Nat.zero_le _
end

end Vf

set_option maxRecDepth 100000
set_option maxHeartbeats 8000000
namespace Vf
open PySem PySem.Spec PyProof.Rows L2
open LamX (ExtN Tabs TabS)
/-- a law's body, nothing leaves it, its own code object known -/
theorem fnG_of1 {P : Program} {w : World} {K : PySem.W.Frag} {mg : Str → Option Value} {base : Heap} {x qual : Str} {st : Stmt} {f : Addr} {fd : FuncData} {N ps : List Str} {k : Nat} {sp : Sp} (F : Fun K x qual st f fd) (S : FnScope N ps (defScope st))
    (ar : ∀ vs H Q E, sp vs H Q E → vs.length = ps.length)
    (body : ∀ (cdv : Value) (A : Around) (out : List Env) (s : Shared) (H : Hp) (vs : List V) (Q : VK) (E : XK), A.guards = some [] → Room k (A.deeper (envOfC qual (defScope st) s.heap.objs.size f cdv)) → fd.code = cdv → sp vs H Q E →
      ∃ t, PSs (cxOf CX0 P w K mg base N qual (defScope st) f cdv A out s H E).nox (defBody st) t ∧ t { nx := fun _ H' => Q .non H', rt := Q } (start N vs) H) : FnG P w K mg base CX0 (k + 1) f fd ps sp := by
  obtain ⟨oc, od, kV, doc, pm, an, cdv, ct, osl, e, lk, hcd⟩ := F.ex
  subst e
  refine ⟨ar, fun {A out s H args us vs Q E} hgu hr e0 hb r h => LamX.run_ofS lk hcd S hr e0 hb r (ar _ _ _ _ h) fun hr' => ?_⟩
  obtain ⟨t, z, q⟩ := body cdv A out s H vs Q E hgu hr' rfl h
  exact ⟨t, z.nox, q⟩
/-- the class of polynomials with its defs -/
structure PoM (P : Program) (w : World) (K : PySem.W.Frag) (mg : Str → Option Value) (base : Heap) (CP CR : Addr) where
  C : PoC K mg CP
  fI : Addr
  dI : FuncData
  mkI : Mk K CP fI
  bI : Binds K dI ["self", "numbers"] []
  okI : FnOk P w K mg base (L2.CX P w) 5 fI dI ["self", "numbers"] (spPolyI K CP CR)
  fE : Addr
  dE : FuncData
  aE : PySem.W.findIn K (.ref CP) "__eq__" = some (some (.ref fE))
  nE : PySem.W.isFn K (.ref fE) = true
  bE : Binds K dE ["self", "other"] []
  okE : FnOk P w K mg base CX0 1 fE dE ["self", "other"] (spPolyE K CP)
theorem rNe_no {x y : Str} {H : Hp} {B : Bool → Hp → Prop} (h : x = y) (g : B false H) : rNe (.str x) (.str y) H (fun v H' => ∃ k, v = V.bl k ∧ B k H') := by
  subst h
  exact ⟨rfl, false, by rw [decide_eq_true rfl]; rfl, g⟩
theorem rNe_int {x y : Int} {H : Hp} {B : Bool → Hp → Prop} (g : x = y → B false H) (h : x ≠ y → B true H) : rNe (.int x) (.int y) H (fun v H' => ∃ k, v = V.bl k ∧ B k H') := by
  by_cases e : x = y
  · exact ⟨rfl, false, by rw [decide_eq_true (by rw [e])]; rfl, g e⟩
  · exact ⟨rfl, true, by rw [decide_eq_false (fun z => e (V.int.inj z))]; rfl, h e⟩
theorem rNe_bl {x y : Bool} {H : Hp} {B : Bool → Hp → Prop} (e : x = y) (g : B false H) : rNe (.bl x) (.bl y) H (fun v H' => ∃ k, v = V.bl k ∧ B k H') := by
  subst e
  exact ⟨rfl, false, by rw [decide_eq_true rfl]; rfl, g⟩
theorem qual_eq {P : Program} {w : World} {K : PySem.W.Frag} {mg : Str → Option Value} {base : Heap} {N : List Str} {qual : Str} {sc : Scope} {f : Addr} {cd : Value} {A : Around} {o : List Env} {s : Shared} {H : Hp} {E : XK} {CT : CXT} : (cxOf CT P w K mg base N qual sc f cd A o s H E).nox.env.qual = qual ++ ".<locals>." := rfl
/-- the table of the law's own code objects -/
def Ts (Pt : Addr) : List (Addr × Str) := [(Pt, (Str.ofString "law" ++ Str.ofString ".<locals>.") ++ Str.ofString "<lambda>")]
theorem ts_mem (Pt : Addr) : (Pt, (Str.ofString "law" ++ Str.ofString ".<locals>.") ++ Str.ofString "<lambda>") ∈ Ts Pt := List.mem_singleton.mpr rfl
theorem ts_only (Pt : Addr) : ∀ p ∈ Ts Pt, p.1 = Pt → p.2 = (Str.ofString "law" ++ Str.ofString ".<locals>.") ++ Str.ofString "<lambda>" := fun p hp _ => by rw [List.mem_singleton.mp hp]
theorem seq_kp {K : PySem.W.Frag} {p a : Addr} {H H' : Hp} {xs : List V} (n : a ≠ p) (k : Kp p H H') : (SqL K H a xs → SqL K H' a xs) ∧ (SqT K H a xs → SqT K H' a xs) := by
  refine ⟨fun h => ?_, fun h => ?_⟩
  · rcases h with (h | ⟨o, h⟩) | h
    · exact Or.inl (Or.inl (k a _ n h))
    · exact Or.inl (Or.inr ⟨o, k a _ n h⟩)
    · exact Or.inr h
  · rcases h with (h | ⟨o, h⟩) | h
    · exact Or.inl (Or.inl (k a _ n h))
    · exact Or.inl (Or.inr ⟨o, k a _ n h⟩)
    · exact Or.inr h
/-- the law's promise -/
def spLaw (K : PySem.W.Frag) (Pt : Addr) : Sp := fun vs H Q _ => ∃ (a : Addr) (ns : List Int), vs = [.ref a] ∧ SqL K H a (ns.map V.int) ∧ ns.length ≤ 63 ∧ H Pt = some (.tbl #[]) ∧ ∀ H', Q (.bl true) H'
/-- a method of the class that raises nothing -/
structure Me (P : Program) (w : World) (K : PySem.W.Frag) (mg : Str → Option Value) (base : Heap) (CP : Addr) (x : Str) (k : Nat) (ps : List Str) (sp : Sp) where
  f : Addr
  fd : FuncData
  m : Meth K CP x f
  b : Binds K fd ps []
  ok : FnOk P w K mg base CX0 k f fd ps sp
/-- changes at lists and at the pen alone -/
theorem Pen.put {H H' : Hp} {p l b : Addr} {B : Int} (h : Pen H p l B) (k : ∀ c u, c ≠ b → H c = some u → H' c = some u) (h1 : b ≠ p) (h2 : b ≠ l) : Pen H' p l B := by
  obtain ⟨ns, a, d, c, f, ⟨g1, g2, g3⟩, hc⟩ := h
  exact ⟨ns, a, d, c, f, ⟨k _ _ h1.symm g1, k _ _ h2.symm g2, g3⟩, hc⟩
theorem Pen.lc {H : Hp} {p l : Addr} {B : Int} (h : Pen H p l B) : ∃ xs, H l = some (.lst xs) := by
  obtain ⟨ns, a, d, c, f, ⟨g1, g2, g3⟩, hc⟩ := h
  exact ⟨_, g2⟩
theorem Pen.ne_new {H : Hp} {p l b : Addr} {B : Int} (h : Pen H p l B) (n : H b = none) : b ≠ p ∧ b ≠ l := by
  obtain ⟨o, e⟩ := h.there
  obtain ⟨xs, e2⟩ := h.lc
  exact ⟨(ne_of_none e n).symm, (ne_of_none e2 n).symm⟩
theorem tabs_lst {T : List (Addr × Str)} {H H' : Hp} {b : Addr} {xs : List V} (hb : H b = some (.lst xs)) (k : ∀ c u, c ≠ b → H c = some u → H' c = some u) (t : Tabs T H) : Tabs T H' := fun y hy => by
  obtain ⟨ps, h1, h2, h3⟩ := t y hy
  refine ⟨ps, k _ _ (ne_of h1 hb (by intro z; cases z)) h1, h2, fun pos cv hc => ?_⟩
  obtain ⟨c', e1, e2⟩ := h3 pos cv hc
  exact ⟨c', e1, k _ _ (ne_of e2 hb (by intro z; unfold LamX.CodeO at z; cases z)) e2⟩
theorem upd_away {H : Hp} {b : Addr} {o : HO} : ∀ c u, c ≠ b → H c = some u → upd H b o c = some u := fun c u h e => by rw [upd_ne h]; exact e
theorem Tups.lst {H H' : Hp} {b : Addr} {xs : List V} (hb : H b = some (.lst xs)) (k : ∀ c u, c ≠ b → H c = some u → H' c = some u) {as : List Addr} {ps : List (Int × Int)} (h : Tups H as ps) : Tups H' as ps :=
  h.imp fun a p z => k _ _ (ne_of z hb (by intro z; cases z)) z
theorem Tups.kp {H H' : Hp} {p l : Addr} {B : Int} (hP : Pen H p l B) (k : Kp p H H') {as : List Addr} {ps : List (Int × Int)} (h : Tups H as ps) : Tups H' as ps := by
  obtain ⟨ns, a, d, c, f, ⟨g1, g2, g3⟩, hc⟩ := hP
  exact h.imp fun a p z => k _ _ (ne_of z g1 (by intro z; cases z)) z
theorem Tups.rep {H : Hp} {a : Addr} {p : Int × Int} (h : H a = some (.tup [.int p.1, .int p.2])) : ∀ n : Nat, Tups H (List.replicate n a) (List.replicate n p)
  | 0 => .nil
  | n + 1 => .cons h (Tups.rep h n)
theorem flat_rep (n : Nat) (a : Addr) : (List.replicate n [V.ref a]).flatten = (List.replicate n a).map V.ref := by
  rw [List.flatten_replicate_singleton, List.map_replicate]
theorem cut_to (xs : List V) (k : Nat) : cutV xs none (some (k : Int)) = xs.take k := by
  unfold cutV
  rw [HT.sIx_none, HT.sIx_nat, Nat.sub_zero, List.drop_zero]
  by_cases h : k ≤ xs.length
  · rw [Nat.min_eq_left h]
  · rw [Nat.min_eq_right (by omega), List.take_of_length_le (by omega), List.take_of_length_le (by omega)]
/-- what ratios have that are drawn -/
structure RatOk (p : Int × Int) : Prop where
  lw : Low p.1 p.2
  zt : S80 p.1
  zb : S80 p.2
theorem lowP_id {p : Int × Int} (h : RatOk p) : lowP p = p := low_id h.lw
theorem lowP_ids : ∀ {ps : List (Int × Int)}, (∀ p ∈ ps, RatOk p) → ps.map lowP = ps
  | [], _ => rfl
  | p :: ps, h => by
    rw [List.map_cons, lowP_id (h p (List.mem_cons_self ..)), lowP_ids fun x hx => h x (List.mem_cons_of_mem _ hx)]
theorem ratOk_big {p : Int × Int} (h : RatOk p) : p.2.natAbs < 2 ^ big := Nat.lt_trans h.zb (Nat.pow_lt_pow_right (by decide) (by decide))
theorem parts_pairD {p : Int × Int} (h : 0 < p.2) : partsD (pairD p) = some p := by
  obtain ⟨t, b⟩ := p
  show (if 0 < b then some (t, b) else none) = some (t, b)
  rw [if_pos h]
def pairL (p : Int × Int) : PyData := .list [.int p.1, .int p.2]
theorem parts_pairL {p : Int × Int} (h : 0 < p.2) : partsD (pairL p) = some p := by
  obtain ⟨t, b⟩ := p
  show (if 0 < b then some (t, b) else none) = some (t, b)
  rw [if_pos h]
theorem mapM_of {f : Int × Int → PyData} : ∀ {ps : List (Int × Int)}, (∀ p ∈ ps, partsD (f p) = some p) → (ps.map f).mapM partsD = some ps
  | [], _ => by rw [List.map_nil, List.mapM_nil]; rfl
  | p :: ps, h => by
    rw [List.map_cons, List.mapM_cons, h p (List.mem_cons_self ..), mapM_of fun x hx => h x (List.mem_cons_of_mem _ hx)]
    rfl
theorem mapM_snoc : ∀ {ds : List PyData} {ps : List (Int × Int)} {d : PyData} {p : Int × Int}, ds.mapM partsD = some ps → partsD d = some p → (ds ++ [d]).mapM partsD = some (ps ++ [p])
  | [], ps, d, p, h, e => by
    rw [List.mapM_nil] at h
    cases h
    rw [List.nil_append, List.mapM_cons, e, List.mapM_nil]
    rfl
  | d0 :: ds, ps, d, p, h, e => by
    rw [List.mapM_cons] at h
    cases e0 : partsD d0 with
    | none => rw [e0] at h; cases h
    | some p0 =>
      rw [e0] at h
      cases e1 : ds.mapM partsD with
      | none => rw [e1] at h; cases h
      | some ps1 =>
        rw [e1] at h
        cases h
        rw [List.cons_append, List.mapM_cons, e0, mapM_snoc e1 e]
        rfl
theorem mapM_odd {ds : List PyData} {d : PyData} (h : d ∈ ds) (e : partsD d = none) : ds.mapM partsD = none := by
  have z := mapM_all ds
  have a : (ds.map fun d => (partsD d).isSome).all id = false := by
    rw [List.all_eq_false]
    exact ⟨_, List.mem_map.mpr ⟨d, h, rfl⟩, by rw [e]; decide⟩
  rw [a] at z
  cases hm : ds.mapM partsD with
  | none => rfl
  | some ps => rw [hm] at z; cases z
theorem gd_pairD {p : Int × Int} (h : RatOk p) : Gd (pairD p) :=
  (gd_pair (Nat.lt_trans h.zt (Nat.pow_lt_pow_right (by decide) (by decide))) (Nat.lt_trans h.zb (Nat.pow_lt_pow_right (by decide) (by decide)))).2
theorem small_row {rs : List (Int × Int)} (hl : rs.length ≤ 100) (h : ∀ p ∈ rs, RatOk p) : small (.tuple (rs.map pairD)) :=
  (small_of_gd (by rw [List.length_map]; exact hl) fun d hd => by
    obtain ⟨p, hp, e⟩ := List.mem_map.mp hd
    rw [← e]
    exact gd_pairD (h p hp)).2
/-- ratios as they are passed -/
inductive Giv : List PyData → List (Int × Int) → Prop
  | nil : Giv [] []
  | cons {d : PyData} {p : Int × Int} {k : Int} {ds : List PyData} {ps : List (Int × Int)} : partsD d = some (p.1 * k, p.2 * k) → 0 < k → k ≤ 3 → Gd d → Giv ds ps → Giv (d :: ds) (p :: ps)
theorem Giv.len : ∀ {ds : List PyData} {ps : List (Int × Int)}, Giv ds ps → ds.length = ps.length
  | _, _, .nil => rfl
  | _, _, .cons _ _ _ _ t => congrArg (· + 1) t.len
theorem Giv.snoc : ∀ {ds : List PyData} {ps : List (Int × Int)} {d : PyData} {p : Int × Int} {k : Int}, Giv ds ps → partsD d = some (p.1 * k, p.2 * k) → 0 < k → k ≤ 3 → Gd d → Giv (ds ++ [d]) (ps ++ [p])
  | _, _, _, _, _, .nil, h1, h2, h3, h4 => .cons h1 h2 h3 h4 .nil
  | _, _, _, _, _, .cons g1 g2 g3 g4 t, h1, h2, h3, h4 => .cons g1 g2 g3 g4 (t.snoc h1 h2 h3 h4)
theorem Giv.row : ∀ {ds : List PyData} {ps : List (Int × Int)}, Giv ds ps → (∀ p ∈ ps, RatOk p) → ∃ qs, ds.mapM partsD = some qs ∧ qs.map lowP = ps ∧ ∀ q ∈ qs, q.2.natAbs < 2 ^ big
  | _, _, .nil, _ => ⟨[], by rw [List.mapM_nil]; rfl, rfl, fun q h => by cases h⟩
  | _, _, .cons (p := p) (k := k) h1 h2 h3 h4 t, h => by
    obtain ⟨qs, e1, e2, e3⟩ := t.row fun x hx => h x (List.mem_cons_of_mem _ hx)
    have ok := h p (List.mem_cons_self ..)
    refine ⟨(p.1 * k, p.2 * k) :: qs, ?_, ?_, ?_⟩
    · rw [List.mapM_cons, h1, e1]
      rfl
    · rw [List.map_cons, e2]
      congr 1
      exact low_back ok.lw h2
    · intro q hq
      rcases List.mem_cons.mp hq with z | z
      · rw [z]
        exact Nat.lt_trans (s80_k ok.zb h2 h3) (Nat.pow_lt_pow_right (by decide) (by decide))
      · exact e3 q z
theorem parts_plain {d : PyData} {p : Int × Int} (h : partsD d = some p) : d.plain = true ∧ d.depth ≤ 1 := by
  cases d with
  | int i => exact ⟨rfl, by simp [PyData.depth]⟩
  | list ds =>
    have z := (pair_pos (ds := ds) (t := p.1) (b := p.2) h).1
    rw [z]
    exact ⟨by simp [PyData.plain, PyData.plainAll], by simp [PyData.depth, PyData.depthAll]⟩
  | tuple ds =>
    have z := (pair_pos (ds := ds) (t := p.1) (b := p.2) h).1
    rw [z]
    exact ⟨by simp [PyData.plain, PyData.plainAll], by simp [PyData.depth, PyData.depthAll]⟩
  | _ => cases h
theorem Giv.plain : ∀ {ds : List PyData} {ps : List (Int × Int)}, Giv ds ps → PyData.plainAll ds = true ∧ PyData.depthAll ds ≤ 1
  | _, _, .nil => ⟨by simp only [PyData.plainAll], by simp only [PyData.depthAll]; omega⟩
  | _, _, .cons h1 _ _ _ t => by
    obtain ⟨a, b⟩ := parts_plain h1
    obtain ⟨c, d⟩ := t.plain
    simp only [PyData.plainAll, PyData.depthAll]
    exact ⟨by rw [a, c]; rfl, Nat.max_le.mpr ⟨b, d⟩⟩
theorem Giv.gd : ∀ {ds : List PyData} {ps : List (Int × Int)}, Giv ds ps → ∀ d ∈ ds, Gd d
  | _, _, .nil, d, h => by cases h
  | _, _, .cons _ _ _ h4 t, d, h => by
    rcases List.mem_cons.mp h with z | z
    · rw [z]; exact h4
    · exact t.gd d z
theorem eqv_nilL : ∀ ds : List PyData, PyData.eqv (.list ds) (.list []) = decide (ds = [])
  | [] => by simp [PyData.eqv, PyData.eqvAll]
  | d :: ds => by simp [PyData.eqv, PyData.eqvAll]
theorem Dts.setAt {K : PySem.W.Frag} {H : Hp} : ∀ {vs : List V} {ds : List PyData} (i : Nat) {v : V} {d : PyData}, Dts K H vs ds → Dt K H v d → Dts K H (vs.set i v) (ds.set i d)
  | _, _, _, _, _, .nil, _ => .nil
  | _, _, 0, _, _, .cons _ t, h => .cons h t
  | _, _, i + 1, _, _, .cons a t, h => .cons a (t.setAt i h)
/-- lists of two whole numbers each -/
inductive Lsts (H : Hp) : List Addr → List (Int × Int) → Prop
  | nil : Lsts H [] []
  | cons {a : Addr} {as : List Addr} {p : Int × Int} {ps : List (Int × Int)} : H a = some (.lst [.int p.1, .int p.2]) → Lsts H as ps → Lsts H (a :: as) (p :: ps)
theorem Lsts.len {H : Hp} : ∀ {as : List Addr} {ps : List (Int × Int)}, Lsts H as ps → as.length = ps.length
  | _, _, .nil => rfl
  | _, _, .cons _ t => congrArg (· + 1) t.len
theorem Lsts.imp {H H' : Hp} : ∀ {as : List Addr} {ps : List (Int × Int)}, (∀ a ∈ as, ∀ (p : Int × Int), H a = some (.lst [.int p.1, .int p.2]) → H' a = some (.lst [.int p.1, .int p.2])) → Lsts H as ps → Lsts H' as ps
  | _, _, _, .nil => .nil
  | _, _, e, .cons h t => .cons (e _ (List.mem_cons_self ..) _ h) (t.imp fun a ha => e a (List.mem_cons_of_mem _ ha))
theorem Lsts.snoc {H : Hp} : ∀ {as : List Addr} {ps : List (Int × Int)} {a : Addr} {p : Int × Int}, Lsts H as ps → H a = some (.lst [.int p.1, .int p.2]) → Lsts H (as ++ [a]) (ps ++ [p])
  | _, _, _, _, .nil, h => .cons h .nil
  | _, _, _, _, .cons h t, h2 => .cons h (t.snoc h2)
theorem Lsts.dts {K : PySem.W.Frag} {H : Hp} : ∀ {as : List Addr} {ps : List (Int × Int)}, Lsts H as ps → Dts K H (as.map V.ref) (ps.map pairL)
  | _, _, .nil => .nil
  | _, _, .cons h t => .cons (.lst (SqL.of h) (.cons (.int _) (.cons (.int _) .nil))) t.dts
theorem Lsts.mem {H : Hp} : ∀ {as : List Addr} {ps : List (Int × Int)}, Lsts H as ps → ∀ a ∈ as, ∃ x y : Int, H a = some (.lst [.int x, .int y])
  | _, _, .nil, a, h => by cases h
  | _, _, .cons h t, a, hm => by
    rcases List.mem_cons.mp hm with z | z
    · rw [z]; exact ⟨_, _, h⟩
    · exact t.mem a z

end Vf

set_option maxRecDepth 100000
set_option maxHeartbeats 8000000
namespace Vf
open PySem PySem.Spec PyProof.Rows L2
/-! ### Polys out of rows -/
def RW (H : Hp) (l : Addr) (ps : List (Int × Int)) : Prop := ∃ as, H l = some (.lst (as.map V.ref)) ∧ Tups H as ps
def PolyQ (K : PySem.W.Frag) (CP : Addr) (H : Hp) (a : Addr) (qs : List Rat) : Prop := PolyAt K CP H a (qs.map pq)
theorem PolyQ.same {K : PySem.W.Frag} {CP : Addr} {H H' : Hp} {a : Addr} {qs : List Rat} (h : PolyQ K CP H a qs) (s : Same H H') : PolyQ K CP H' a qs := PolyAt.same h s
/-- what Poly(row) comes to -/
theorem poly_row {K : PySem.W.Frag} {CP CR : Addr} {H : Hp} {l : Addr} {ps : List (Int × Int)} {qs : List Rat} {Qd : Addr → Hp → Prop} {E : XK} (h : RW H l ps) (hl : ps.length ≤ 1000) (hp : ∀ p ∈ ps, 0 < p.2 ∧ p.2.natAbs < 2 ^ big) (hq : ps.map lowP = qs.map pq)
    (k : ∀ (x : Addr) (H' : Hp), Same H H' → H x = none → PolyQ K CP H' x (stripQ qs) → Qd x H') :
    ∀ x dx, H x = none → H dx = none → dx ≠ x → spPolyI K CP CR (.ref x :: ([V.ref l] ++ [])) (upd (upd H dx (.own x)) x (.ins CP dx [])) (fun w H2 => w = .non ∧ Qd x H2) E := by
  obtain ⟨as, e, t⟩ := h
  have rd : rowD (.list (ps.map pairD)) = some ps := mapM_of fun p h => parts_pairD (hp p h).1
  refine poly_made (d := .list (ps.map pairD)) (.lst (SqL.of e) t.dts) (fun ds' h => ?_) (fun ps' h => ?_) (fun z => by rw [rd] at z; cases z)
  · cases h
    rw [List.length_map]
    exact hl
  rw [rd] at h
  cases h
  refine ⟨fun p h => (hp p h).2, fun x H' s nx made => k x H' s nx ?_⟩
  rw [hq, strip_map] at made
  exact made
theorem poly_rl {K : PySem.W.Frag} {CP CR : Addr} {H : Hp} {l : Addr} {qs : List Rat} {Qd : Addr → Hp → Prop} {E : XK} (h : RL H l qs) (hl : qs.length ≤ 1000) (hz : ∀ q ∈ qs, q.den < 2 ^ big)
    (k : ∀ (x : Addr) (H' : Hp), Same H H' → H x = none → PolyQ K CP H' x (stripQ qs) → Qd x H') :
    ∀ x dx, H x = none → H dx = none → dx ≠ x → spPolyI K CP CR (.ref x :: ([V.ref l] ++ [])) (upd (upd H dx (.own x)) x (.ins CP dx [])) (fun w H2 => w = .non ∧ Qd x H2) E := by
  refine poly_row (ps := qs.map pq) h (by rw [List.length_map]; exact hl) (fun p hp => ?_) ?_ k
  · obtain ⟨q, hq, rfl⟩ := List.mem_map.mp hp
    have := q.den_pos
    refine ⟨by show (0 : Int) < (q.den : Int); omega, ?_⟩
    show (q.den : Int).natAbs < _
    rw [Int.natAbs_natCast]
    exact hz q hq
  · rw [List.map_map]
    refine List.map_congr_left fun q _ => ?_
    exact low_id (pq_low q)
def pmQ (a b : List Rat) : List Rat := if a = [] ∨ b = [] then [] else tab (a.length + b.length - 1) (pc a b)
theorem pmQ_strip (a b : List Rat) : stripQ (pmQ a b) = stripQ (pmul a b) := by
  refine stripQ_ext fun i => ?_
  rw [cf_pmul]
  unfold pmQ
  split
  · rename_i h
    rw [cf_nil]
    symm
    unfold pc
    refine sm_zero fun j _ => ?_
    rcases h with h | h <;> rw [h, cf_nil]
    · exact Rat.zero_mul _
    · exact Rat.mul_zero _
  · rw [cf_tab]
    split
    · rfl
    · rw [pc_zero (by omega)]
def spProds (K : PySem.W.Frag) : Sp := fun vs H Q _ => ∃ (l1 l2 : Addr) (as bs : List Addr) (a b : List Rat), vs = [.ref l1, .ref l2] ∧ SqT K H l1 (as.map V.ref) ∧ Tups H as (a.map pq) ∧ SqT K H l2 (bs.map V.ref) ∧ Tups H bs (b.map pq) ∧ a.length ≤ 13 ∧ b.length ≤ 13 ∧ (∀ i, Sm (cf a i)) ∧ (∀ i, Sm (cf b i)) ∧
  ∀ (l : Addr) (ps : List (Int × Int)) (H' : Hp), Same H H' → RW H' l ps → ps.length ≤ 1000 → (∀ p ∈ ps, 0 < p.2 ∧ p.2.natAbs < 2 ^ big) → ps.map lowP = (pmQ a b).map pq → Q (.ref l) H'
section
variable {P : Program} {w : World} {K : PySem.W.Frag} {mg : Str → Option Value} {base : Heap} {CP CR CN : Addr}
abbrev sProds : Stmt := topS 30
theorem scProds : FnScope ["one", "other", "row", "bottom", "other_row", "other_bottom", "below", "top"] ["one", "other"] (defScope sProds) := ⟨rfl, rfl, rfl, by decide +kernel, rfl, by decide +kernel, by decide +kernel⟩
end

end Vf

set_option maxRecDepth 100000
set_option maxHeartbeats 8000000
namespace Vf
open PySem PySem.Spec PyProof.Rows L2
/-- a small drawn ratio -/
def spRatio : Sp := fun vs H Q _ => ∃ (p lc : Addr) (B m : Int), vs = [.ref p, .int m] ∧ 1 ≤ m ∧ m ≤ 1000 ∧ Pen H p lc B ∧ B ≤ 10000000 ∧
  ∀ (r : Addr) (t b : Int) (H' : Hp), Pen H' p lc (B + 3) → Kp p H H' → H' r = some (.tup [.int t, .int b]) → Low t b → (t.natAbs : Int) ≤ m * 99 → b.natAbs ≤ 99 → Q (.ref r) H'
section
variable {P : Program} {w : World} {K : PySem.W.Frag} {mg : Str → Option Value} {base : Heap} {CN : Addr}
abbrev sLRatio : Stmt := topS 56
theorem scLRatio : FnScope ["_law_pen_here", "_law_most", "_law_bottom"] ["_law_pen_here", "_law_most"] (defScope sLRatio) := ⟨rfl, rfl, rfl, by decide +kernel, rfl, by decide +kernel, by decide +kernel⟩
theorem small_mulW {x y : Int} (h1 : x.natAbs < 2 ^ 200) (h2 : y.natAbs < 2 ^ 200) : CMulW x y := wide_mul h1 h2 (by decide) (by decide) (by decide)
theorem ok_lratio {f : Addr} {fd : FuncData} (F : Fun K "_law_ratio" "_law_ratio" sLRatio f fd) (Gd_ : Df P w K mg base "_law_draw" 1 ["_law_pen_here", "_law_many"] spDraw) (Gp : Df P w K mg base "_law_pick" 2 ["_law_pen_here", "_law_some"] spPick) (Gq : Df P w K mg base "_law_q" 2 ["_law_top", "_law_bottom"] spQ) :
    FnOk P w K mg base CX0 3 f fd ["_law_pen_here", "_law_most"] spRatio := by
  refine F.ok scLRatio (fun vs H Q E h => ?_) (fun cdv A outer s H vs Q E hr h => ?_)
  · obtain ⟨p, lc, B, m, rfl, _⟩ := h
    rfl
  · obtain ⟨p, lc, B, m, rfl, hm1, hm9, hP, hB, q⟩ := h
    refine ⟨_, (pss_cons (ps_set (i := 2) scLRatio.nd rfl (Or.inl rfl) (pe_call Gp.ok (hr.mono (by decide)) rfl Gp.m Gp.kp Gp.b .nil pass0 (pa_cons (pv 0) (pa_cons (pe_lst (pa_cons pe_int (pa_cons pe_int (pa_cons pe_int (pa_cons pe_int (pa_cons pe_int (pa_cons pe_int (pa_cons (pe_op op_add pe_int (pe_call Gd_.ok (hr.mono (by decide)) rfl Gd_.m Gd_.kp Gd_.b .nil pass0 (pa_cons (pv 0) (pa_cons pe_int pa_nil)))) pa_nil)))))))) pa_nil))))
      (pss_one (ps_ret (pe_call Gq.ok (hr.mono (by decide)) rfl Gq.m Gq.kp Gq.b .nil pass0 (pa_cons (pe_op op_sub (pe_call Gd_.ok (hr.mono (by decide)) rfl Gd_.m Gd_.kp Gd_.b .nil pass0 (pa_cons (pv 0) (pa_cons (pe_op op_add (pe_op op_mulW (pe_op op_mulW pe_int (pv 1)) (pv 2)) pe_int) pa_nil))) (pe_op op_mulW (pv 1) (pv 2))) (pa_cons (pv 2) pa_nil)))))), ?_⟩
    refine ⟨_, rfl, _, rfl, p, lc, B, 99, rfl, hP, by omega, by decide, by decide, fun z H1 z0 z1 hP1 k1 => ⟨_, _, rfl, rfl, ?_⟩⟩
    refine ⟨(by show 7 ≤ sizeLine; decide), fun l nl => ?_⟩
    have el : upd H1 l (HO.lst [V.int 1, V.int 1, V.int 2, V.int 3, V.int 7, V.int 10, V.int (1 + z)]) l = some (HO.lst [V.int 1, V.int 1, V.int 2, V.int 3, V.int 7, V.int 10, V.int (1 + z)]) := upd_same
    have sl : Same H1 (upd H1 l (HO.lst [V.int 1, V.int 1, V.int 2, V.int 3, V.int 7, V.int 10, V.int (1 + z)])) := same_upd nl
    have lp : l ≠ p := by
      obtain ⟨o, e⟩ := hP1.there
      exact (ne_of_none e nl).symm
    generalize upd H1 l (HO.lst [V.int 1, V.int 1, V.int 2, V.int 3, V.int 7, V.int 10, V.int (1 + z)]) = H2 at el sl ⊢
    have hP2 := hP1.same sl
    refine ⟨p, lc, l, _, _, rfl, hP2, by omega, el, lp, (by show 0 < 7; decide), (by show 7 < 1000000; decide), fun x H3 hx hP3 k3 => ?_⟩
    obtain ⟨b, rfl, b0, b1⟩ : ∃ b : Int, x = .int b ∧ 1 ≤ b ∧ b ≤ 99 := by
      simp only [List.mem_cons, List.not_mem_nil, or_false] at hx
      rcases hx with h | h | h | h | h | h | h <;> exact ⟨_, h, by omega, by omega⟩
    have sz : ∀ {i : Int}, 0 ≤ i → i ≤ 1000000 → i.natAbs < 2 ^ 200 := fun {i} h0 h1 => Nat.lt_trans (show i.natAbs < 2 ^ 20 by omega) (by decide +kernel)
    have k13 : Kp p H H3 := (k1.trans (Kp.of sl)).trans k3
    have hmb : m * b ≤ 1000 * 99 := Int.mul_le_mul hm9 b1 (by omega) (by decide)
    have hmb0 : 0 < m * b := Int.mul_pos (by omega) (by omega)
    have e2 : 2 * m * b = 2 * (m * b) := Int.mul_assoc _ _ _
    refine ⟨_, rfl, _, rfl, _, _, rfl, rfl, small_mulW (sz (by decide) (by decide)) (sz (by omega) (by omega)), _, rfl, _, _, rfl, rfl, small_mulW (sz (by omega) (by omega)) (sz (by omega) (by omega)), _, _, rfl, rfl, p, lc, _, _, rfl, hP3, by omega, by omega, by omega, fun y H4 y0 y1 hP4 k4 => ?_⟩
    refine ⟨_, rfl, _, rfl, _, _, rfl, rfl, small_mulW (sz (by omega) (by omega)) (sz (by omega) (by omega)), _, _, rfl, rfl, _, rfl, ?_⟩
    have hb : b ≠ 0 := by omega
    have lt : (2 : Nat) ^ 20 < 2 ^ big := Nat.pow_lt_pow_right (by decide) (by decide)
    refine ⟨_, _, rfl, hb, Nat.lt_trans (show (y - m * b).natAbs < 2 ^ 20 by omega) lt, Nat.lt_trans (show b.natAbs < 2 ^ 20 by omega) lt, fun r H5 s5 n5 e5 => ?_⟩
    obtain ⟨z1, z2⟩ := low_size (t := y - m * b) hb
    have mb : m * b ≤ m * 99 := Int.mul_le_mul_of_nonneg_left b1 (by omega)
    exact q r _ _ H5 ((hP4.more (by omega)).same s5) ((k13.trans k4).trans (Kp.of s5)) e5 (low_is hb) (by omega) (by omega)
end

/-! ### drawn polynomials -/
def SmD (m : Int) (q : Rat) : Prop := (q.num.natAbs : Int) ≤ m * 99 ∧ q.den ≤ 99
theorem RL.kp {H H' : Hp} {p lc l : Addr} {B : Int} {qs : List Rat} (h : RL H l qs) (hP : Pen H p lc B) (k : Kp p H H') : RL H' l qs := by
  obtain ⟨as, e, t⟩ := h
  refine ⟨as, k _ _ ?_ e, t.kp hP k⟩
  obtain ⟨_, _, _, _, _, g1, _⟩ := hP
  exact ne_of e g1.1 (by intro z; cases z)
theorem RL.ne {H : Hp} {p lc l : Addr} {B : Int} {qs : List Rat} (h : RL H l qs) (hP : Pen H p lc B) : l ≠ p := by
  obtain ⟨as, e, t⟩ := h
  obtain ⟨_, _, _, _, _, g1, _⟩ := hP
  exact ne_of e g1.1 (by intro z; cases z)
theorem TR.kp {H H' : Hp} {p lc r : Addr} {B : Int} {q : Rat} (h : TR H r q) (hP : Pen H p lc B) (k : Kp p H H') : TR H' r q := by
  obtain ⟨_, _, _, _, _, g1, _⟩ := hP
  exact k _ _ (ne_of h g1.1 (by intro z; cases z)) h
theorem PolyQ.kp {K : PySem.W.Frag} {CP : Addr} {H H' : Hp} {a p l : Addr} {B : Int} {qs : List Rat} (h : PolyQ K CP H a qs) (hP : Pen H p l B) (k : Kp p H H') : PolyQ K CP H' a qs := PolyAt.kp h hP k
def spDrawn : Sp := fun vs H Q _ => ∃ (p lc : Addr) (B g m : Int), vs = [.ref p, .int g, .int m] ∧ Pen H p lc B ∧ B ≤ 1000000 ∧ 0 ≤ g ∧ g ≤ 12 ∧ 1 ≤ m ∧ m ≤ 50 ∧
  ∀ (l : Addr) (qs : List Rat) (H' : Hp), Pen H' p lc (B + 100) → Kp p H H' → RL H' l qs → qs.length ≤ 13 → stripQ qs = qs → (∀ i, SmD m (cf qs i)) → Q (.ref l) H'
def spMade (K : PySem.W.Frag) (CP : Addr) : Sp := fun vs H Q _ => ∃ (p lc l : Addr) (B : Int) (a : List Rat), vs = [.ref p, .ref l] ∧ Pen H p lc B ∧ B ≤ 1000000 ∧ RL H l a ∧ a.length ≤ 13 ∧ stripQ a = a ∧ (∀ i, RatOk (pq (cf a i))) ∧
  ∀ (x : Addr) (H' : Hp), Pen H' p lc (B + 100) → Kp p H H' → PolyQ K CP H' x a → Q (.ref x) H'
theorem sm_s80 {q : Rat} (h : Sm q) : RatOk (pq q) := by
  refine ⟨pq_low q, Nat.lt_of_le_of_lt h.1 (Nat.pow_lt_pow_right (by decide) (by decide)), ?_⟩
  show (q.den : Int).natAbs < 2 ^ 110
  rw [Int.natAbs_natCast]
  exact Nat.lt_of_le_of_lt h.2 (Nat.pow_lt_pow_right (by decide) (by decide))
theorem mem_cf {qs : List Rat} {q : Rat} (h : q ∈ qs) : ∃ i, q = cf qs i := by
  obtain ⟨i, hi, e⟩ := List.mem_iff_getElem.mp h
  exact ⟨i, by rw [cf_lt hi, e]⟩
theorem Dts.rep0 {K : PySem.W.Frag} {H : Hp} : ∀ n : Nat, Dts K H (List.replicate n (V.int 0)) (List.replicate n (PyData.int 0))
  | 0 => .nil
  | n + 1 => .cons (.int 0) (Dts.rep0 n)
theorem giv_rep0 {ds : List PyData} {ps : List (Int × Int)} (h : Giv ds ps) : ∀ n : Nat, Giv (ds ++ List.replicate n (PyData.int 0)) (ps ++ List.replicate n (0, 1))
  | 0 => by rw [List.replicate_zero, List.replicate_zero, List.append_nil, List.append_nil]; exact h
  | n + 1 => by
    rw [List.replicate_succ', List.replicate_succ', ← List.append_assoc, ← List.append_assoc]
    exact (giv_rep0 h n).snoc (k := 1) (p := (0, 1)) rfl (by decide) (by decide) (gd_int (by show (0 : Int).natAbs < _; exact Nat.pow_pos (by decide)))
section
variable {P : Program} {w : World} {K : PySem.W.Frag} {mg : Str → Option Value} {base : Heap} {CP CR CN : Addr}
abbrev sDrawn : Stmt := topS 62
abbrev sMade : Stmt := topS 61
theorem scDrawn : FnScope ["_law_pen_here", "_law_degree", "_law_most", "_law_k"] ["_law_pen_here", "_law_degree", "_law_most"] (defScope sDrawn) := ⟨rfl, rfl, rfl, by decide +kernel, rfl, by decide +kernel, by decide +kernel⟩
theorem ok_drawn {f : Addr} {fd : FuncData} (F : Fun K "_law_drawn" "_law_drawn" sDrawn f fd) (T : Bk mg) (Gd_ : Df P w K mg base "_law_draw" 1 ["_law_pen_here", "_law_many"] spDraw) (Gr : Df P w K mg base "_law_ratio" 3 ["_law_pen_here", "_law_most"] spRatio) (Gpoly : Df P w K mg base "_law_poly" 1 ["_law_numbers"] (spLPoly K)) : FnOk P w K mg base CX0 4 f fd ["_law_pen_here", "_law_degree", "_law_most"] spDrawn := by
  refine F.ok scDrawn (fun vs H Q E h => ?_) (fun cdv A outer s H vs Q E hr h => ?_)
  · obtain ⟨p, lc, B, g, m, rfl, _⟩ := h
    rfl
  · obtain ⟨p, lc, B, g, m, rfl, hP, hB, g0, g12, m1, m5, q⟩ := h
    refine ⟨_, (pss_one (ps_ret (pe_call Gpoly.ok (hr.mono (by decide)) rfl Gpoly.m Gpoly.kp Gpoly.b .nil pass0 (pa_cons (pe_lc (own := [("_law_k", 3)]) (g := gName 3) (tt := tYes) rfl scDrawn.nd (pi_range1 (by rfl) T.range (pa_cons (pe_op op_add pe_int (pe_call Gd_.ok (hr.mono (by decide)) rfl Gd_.m Gd_.kp Gd_.b .nil pass0 (pa_cons (pv 0) (pa_cons (pe_op op_add (pv 1) pe_int) pa_nil)))) pa_nil)) (blkOk_by (N := ["_law_pen_here", "_law_degree", "_law_most", "_law_k"]) (sc := defScope sDrawn) (by decide +kernel)) (fun _ _ _ _ _ => pg_name (i := 3) scDrawn.nd rfl (Or.inl rfl)) (fun _ _ _ _ _ => pts_nil)
      (fun _ _ _ _ _ => (pe_call Gr.ok (hr.mono (by decide)) rfl Gr.m Gr.kp Gr.b .nil pass0 (pa_cons (pv 0) (pa_cons (pv 2) pa_nil))))) pa_nil)))), ?_⟩
    refine ⟨_, rfl, _, rfl, _, _, rfl, rfl, p, lc, B, _, rfl, hP, by omega, by omega, by omega, fun z H1 z0 z1 hP1 k1 => ⟨_, _, rfl, rfl, ?_⟩⟩
    refine ⟨_, rfl, by omega, by omega, fun D hD => lc_range (lo := 0) (n := (1 + z).toNat) (fun i H' => Kp p H1 H' ∧ Pen H' p lc (B + 1 + 3 * i) ∧ ∃ zs qs, H' D = some (.lst (zs.map V.ref)) ∧ Tups H' zs (qs.map pq) ∧ qs.length = i ∧ ∀ i, SmD m (cf qs i)) ?_ ?_ ?_⟩
    · exact ⟨Kp.of (same_upd hD), (hP1.same (same_upd hD)).more (by omega), [], [], upd_same, .nil, rfl, fun i => ⟨by show ((0 : Nat) : Int) ≤ _; omega, by show 1 ≤ 99; decide⟩⟩
    · rintro i H' hi ⟨kk, hP', zs, qs, eD, tz, lq, sq⟩
      obtain ⟨d1, d2⟩ := hP1.ne_new hD
      refine ⟨rfl, ?_⟩
      refine ⟨_, rfl, _, rfl, p, lc, _, m, rfl, m1, by omega, hP', by omega, fun r t b H2 hP2 k2 e2 lw zt zb => ?_⟩
      obtain ⟨qq, eq⟩ := low_is_pq (p := (t, b)) lw
      have eD' := k2 _ _ d1 eD
      have er : TR H2 r qq := by
        unfold TR
        rw [e2]
        have h1 : t = qq.num := congrArg Prod.fst eq
        have h2 : b = (qq.den : Int) := congrArg Prod.snd eq
        rw [h1, h2]
      have hq : SmD m qq := by
        have h1 : t = qq.num := congrArg Prod.fst eq
        have h2 : b = (qq.den : Int) := congrArg Prod.snd eq
        refine ⟨by rw [← h1]; exact zt, ?_⟩
        rw [h2, Int.natAbs_natCast] at zb
        exact zb
      refine ⟨_, eD', ?_, ?_, (hP2.put upd_away d1 d2).more (by omega), zs ++ [r], qs ++ [qq], ?_, ?_, by rw [List.length_append, lq]; rfl, fun j => ?_⟩
      · have := tz.lenQ
        rw [List.length_map, sizeLine_eq]
        omega
      · exact fun b o nb eb => by
          rw [upd_ne (ne_of_none eb hD)]
          exact k2 b o nb (kk b o nb eb)
      · rw [upd_same, List.map_append]
        rfl
      · have up : ∀ (c : Addr) (p : Int × Int), H2 c = some (.tup [.int p.1, .int p.2]) → upd H2 D (.lst (zs.map V.ref ++ [V.ref r])) c = some (.tup [.int p.1, .int p.2]) := fun c p z => by
          rw [upd_ne (ne_of z eD' (by intro z; cases z))]
          exact z
        exact Tups.snocQ ((tz.kp hP' k2).imp up) (up r (pq qq) er)
      · rw [cf_app]
        split
        · exact sq j
        · rename_i hj
          by_cases h0 : j - qs.length = 0
          · rw [h0]; exact hq
          · rw [cf_ge (show ([qq] : List Rat).length ≤ j - qs.length by show 1 ≤ _; omega)]
            exact ⟨by show ((0 : Nat) : Int) ≤ _; omega, by show 1 ≤ 99; decide⟩
    · rintro H' ⟨kk, hP', zs, qs, eD, tz, lq, sq⟩
      refine lpoly_q (E := E0) ⟨zs, eD, tz⟩ (by omega) fun l H2 s2 rl => ?_
      refine q l _ H2 ((hP'.more (by omega)).same s2) (k1.trans (kk.trans (Kp.of s2))) rl ?_ (stripQ_id (stripQ_stp _)) fun i => by rw [cf_stripQ]; exact sq i
      have := stripQ_len qs
      omega
theorem scMade : FnScope ["_law_pen_here", "_law_one", "_law_numbers", "_law_number"] ["_law_pen_here", "_law_one"] (defScope sMade) := ⟨rfl, rfl, rfl, by decide +kernel, rfl, by decide +kernel, by decide +kernel⟩
theorem ok_made {f : Addr} {fd : FuncData} (F : Fun K "_law_made_poly" "_law_made_poly" sMade f fd) (T : Bk mg) (PM : PoM P w K mg base CP CR) (Gd_ : Df P w K mg base "_law_draw" 1 ["_law_pen_here", "_law_many"] spDraw) (Gp : Df P w K mg base "_law_pick" 2 ["_law_pen_here", "_law_some"] spPick) (Gs : Df P w K mg base "_law_passed" 3 ["_law_pen_here", "_law_ratio_here"] (spPassed K)) : FnOk P w K mg base CX0 7 f fd ["_law_pen_here", "_law_one"] (spMade K CP) := by
  refine F.ok scMade (fun vs H Q E h => ?_) (fun cdv A outer s H vs Q E hr h => ?_)
  · obtain ⟨p, lc, l, B, a, rfl, _⟩ := h
    rfl
  · obtain ⟨p, lc, l, B, a, rfl, hP, hB, ⟨as, el, ta⟩, la, st, sa, q⟩ := h
    refine ⟨_, (pss_cons (ps_set (i := 2) scMade.nd rfl (Or.inl rfl) (pe_op op_cat (pe_lc (own := [("_law_number", 3)]) (g := gName 3) (tt := tYes) rfl scMade.nd (pi_seq (pv 1)) (blkOk_by (N := ["_law_pen_here", "_law_one", "_law_numbers", "_law_number"]) (sc := defScope sMade) (by decide +kernel)) (fun _ _ _ _ _ => pg_name (i := 3) scMade.nd rfl (Or.inl rfl)) (fun _ _ _ _ _ => pts_nil) (fun _ _ _ _ _ => (pe_call Gs.ok (hr.mono (by decide)) rfl Gs.m Gs.kp Gs.b .nil pass0 (pa_cons (pv 0) (pa_cons (pv 3) pa_nil))))) (pe_op op_rep (pe_lst (pa_cons pe_int pa_nil)) (pe_call Gd_.ok (hr.mono (by decide)) rfl Gd_.m Gd_.kp Gd_.b .nil pass0 (pa_cons (pv 0) (pa_cons pe_int pa_nil))))))
  (pss_one (ps_ret (pe_make PM.mkI PM.okI (hr.mono (by decide)) rfl PM.C.m PM.bI .nil passL (pa_cons (pe_call Gp.ok (hr.mono (by decide)) rfl Gp.m Gp.kp Gp.b .nil pass0 (pa_cons (pv 0) (pa_cons (pe_lst (pa_cons (pe_callTy call_tuple_of (by rfl) T.tuple (by decide +kernel) (pa_cons (pv 2) pa_nil)) (pa_cons (pv 2) pa_nil))) pa_nil))) pa_nil))))), ?_⟩
    have lp : l ≠ p := RL.ne ⟨as, el, ta⟩ hP
    have leq := ta.lenQ
    refine ⟨_, rfl, l, rfl, lc_seq (xs := as.map V.ref) (.inl (SqL.of el)) (fun D k H' => Kp p H H' ∧ Pen H' p lc (B + 3 * k) ∧ ∃ vs ds, H' D = some (.lst vs) ∧ Dts K (fz D p H') vs ds ∧ Giv ds ((a.map pq).take k)) ?_ ?_ ?_ ?_⟩
    · intro D hD
      exact ⟨Kp.of (same_upd hD), (hP.same (same_upd hD)).more (by omega), [], [], upd_same, .nil, .nil⟩
    · intro D k H' hD ⟨kk, _⟩
      exact seq_kp lp kk
    · intro D k x H' hD hk ⟨kk, hP', vs, ds, eD, dts, giv⟩
      obtain ⟨d1, d2⟩ := hP.ne_new hD
      rw [List.getElem?_map] at hk
      cases hr0 : as[k]? with
      | none => rw [hr0] at hk; cases hk
      | some r =>
        rw [hr0] at hk
        cases hk
        obtain ⟨qq, hq, er⟩ := ta.atQ hr0
        have rp : r ≠ p := by
          obtain ⟨_, _, _, _, _, g1, _⟩ := hP
          exact ne_of er g1.1 (by intro z; cases z)
        have okq : RatOk (pq qq) := by have := sa k; rw [cf_get hq] at this; exact this
        have hk13 : k < 13 := by
          have := (List.getElem?_eq_some_iff.mp hr0).1
          omega
        refine ⟨rfl, ?_⟩
        refine ⟨_, rfl, _, rfl, p, lc, r, _, (pq qq).1, (pq qq).2, rfl, hP', by omega, kk _ _ rp er, okq.lw.pos, okq.zt, okq.zb, fun v d kz H2 hP2 kp' hd pa k0 k3 gd => ?_⟩
        have eD' := kp' _ _ d1 eD
        have hDl : vs.length < sizeLine := by
          have := dts.len
          have := giv.len
          rw [List.length_take] at this
          rw [sizeLine_eq]
          omega
        have hp := hP'.there.choose_spec
        refine ⟨_, eD', hDl, ?_, (hP2.put upd_away d1 d2).more (by omega), vs ++ [v], ds ++ [d], upd_same, ?_, ?_⟩
        · exact fun b o nb eb => by
            rw [upd_ne (ne_of_none eb hD)]
            exact kp' b o nb (kk b o nb eb)
        · have up : Same (fz D p H2) (fz D p (upd H2 D (.lst (vs ++ [v])))) := fz_mono fun b o h1 h2 e => by rw [upd_ne h1]; exact e
          exact (dts.mono ((fz_mono fun b o h1 h2 e => kp' b o h2 e).trans up)).app (.cons (hd.mono ((nw_fz eD hp).trans up)) .nil)
        · have z := giv.snoc (p := pq qq) pa k0 k3 gd
          have e : (a.map pq).take (k + 1) = (a.map pq).take k ++ [pq qq] := by rw [List.take_succ, List.getElem?_map, hq]; rfl
          rw [e]
          exact z
    · intro lg H11 nlg ⟨k11, hP11, vs, ds, elg, dts, giv⟩
      obtain ⟨lgp, lgc⟩ := hP.ne_new nlg
      have etk : (a.map pq).take (as.map V.ref).length = a.map pq := by rw [List.length_map, leq]; exact List.take_of_length_le (by rw [List.length_map]; exact Nat.le_refl _)
      rw [etk] at giv
      have hP11 := hP11.more (show _ ≤ B + 60 by rw [List.length_map]; omega)
      have lenv : vs.length ≤ 13 := by
        have h1 := dts.len
        have h2 := giv.len
        rw [List.length_map] at h2
        omega
      refine ⟨(by show 1 ≤ sizeLine; decide), fun l1 nl1 => ?_⟩
      have el1 : upd H11 l1 (HO.lst [V.int 0]) l1 = some (HO.lst [V.int 0]) := upd_same
      have s12 : Same H11 (upd H11 l1 (HO.lst [V.int 0])) := same_upd nl1
      have l1p := (hP11.ne_new nl1).1
      generalize upd H11 l1 (HO.lst [V.int 0]) = H12 at el1 s12 ⊢
      have hP12 := hP11.same s12
      refine ⟨_, rfl, p, lc, _, 2, rfl, hP12, by omega, by decide, by decide, fun m H13 m0 m1 hP13 k13 => ?_⟩
      refine ⟨l1, m, _, rfl, rfl, k13 _ _ l1p el1, by omega, by omega, (by rw [sizeLine_eq]; show 1 * m.toNat ≤ _; omega), fun l2 nl2 => ?_⟩
      have el2 : upd H13 l2 (HO.lst (List.replicate m.toNat [V.int 0]).flatten) l2 = some (HO.lst (List.replicate m.toNat (V.int 0))) := by rw [upd_same, List.flatten_replicate_singleton]
      have s14 : Same H13 (upd H13 l2 (HO.lst (List.replicate m.toNat [V.int 0]).flatten)) := same_upd nl2
      generalize upd H13 l2 (HO.lst (List.replicate m.toNat [V.int 0]).flatten) = H14 at el2 s14 ⊢
      have elg14 := s14 _ _ (k13 _ _ lgp (s12 _ _ elg))
      refine ⟨lg, l2, _, _, rfl, rfl, elg14, el2, (by rw [List.length_replicate, sizeLine_eq]; omega), fun nb nnb => ?_⟩
      have enb : upd H14 nb (HO.lst (vs ++ List.replicate m.toNat (V.int 0))) nb = some (HO.lst (vs ++ List.replicate m.toNat (V.int 0))) := upd_same
      have s15 : Same H14 (upd H14 nb (HO.lst (vs ++ List.replicate m.toNat (V.int 0)))) := same_upd nnb
      have hP14 := hP13.same s14
      have nbp := (hP14.ne_new nnb).1
      generalize upd H14 nb (HO.lst (vs ++ List.replicate m.toNat (V.int 0))) = H15 at enb s15 ⊢
      have hP15 := hP14.same s15
      refine ⟨_, rfl, _, rfl, nb, _, rfl, .inl ⟨SqL.of enb, fun tg ntg => ?_⟩⟩
      have etg : upd H15 tg (HO.tup (vs ++ List.replicate m.toNat (V.int 0))) tg = some (HO.tup (vs ++ List.replicate m.toNat (V.int 0))) := upd_same
      have s16 : Same H15 (upd H15 tg (HO.tup (vs ++ List.replicate m.toNat (V.int 0)))) := same_upd ntg
      have tgp := (hP15.ne_new ntg).1
      generalize upd H15 tg (HO.tup (vs ++ List.replicate m.toNat (V.int 0))) = H16 at etg s16 ⊢
      have hP16 := hP15.same s16
      refine ⟨_, rfl, (by show 2 ≤ sizeLine; decide), fun l4 nl4 => ?_⟩
      have el4 : upd H16 l4 (HO.lst [V.ref tg, V.ref nb]) l4 = some (HO.lst [V.ref tg, V.ref nb]) := upd_same
      have s17 : Same H16 (upd H16 l4 (HO.lst [V.ref tg, V.ref nb])) := same_upd nl4
      have l4p := (hP16.ne_new nl4).1
      generalize upd H16 l4 (HO.lst [V.ref tg, V.ref nb]) = H17 at el4 s17 ⊢
      have hP17 := hP16.same s17
      refine ⟨p, lc, l4, _, _, rfl, hP17, by omega, el4, l4p, (by show 0 < 2; decide), (by show 2 < 1000000; decide), fun x H18 hx hP18 k18 => ?_⟩
      have k1118 : Kp p H11 H18 := ((Kp.of s12).trans k13).trans ((Kp.of (s14.trans (s15.trans (s16.trans s17)))).trans k18)
      have dts18 : Dts K H18 (vs ++ List.replicate m.toNat (V.int 0)) (ds ++ List.replicate m.toNat (PyData.int 0)) := (dts.mono ((fz_mono fun b o _ h e => k1118 b o h e).trans fz_sub)).app (Dts.rep0 _)
      have giv2 := giv_rep0 giv m.toNat
      have ok2 : ∀ y ∈ a.map pq ++ List.replicate m.toNat (0, 1), RatOk y := fun y hy => by
        rcases List.mem_append.mp hy with h | h
        · obtain ⟨q0, hq0, rfl⟩ := List.mem_map.mp h
          obtain ⟨i, rfl⟩ := mem_cf hq0
          exact sa i
        · rw [List.eq_of_mem_replicate h]
          exact sm_s80 sm_zero'
      obtain ⟨dg, hdg, sdg⟩ : ∃ dg, Dt K H18 x dg ∧ seqD dg = some (ds ++ List.replicate m.toNat (PyData.int 0)) := by
        simp only [List.mem_cons, List.not_mem_nil, or_false] at hx
        rcases hx with h | h
        · rw [h]
          exact ⟨.tuple _, .tup (SqT.of (k18 _ _ tgp (s17 _ _ etg))) dts18, rfl⟩
        · rw [h]
          exact ⟨.list _, .lst (SqL.of (k18 _ _ nbp (s17 _ _ (s16 _ _ enb)))) dts18, rfl⟩
      obtain ⟨qs, hqs, eqs, bqs⟩ := giv2.row ok2
      have rdg : rowD dg = some qs := by rw [rowD_seq sdg]; exact hqs
      refine poly_made hdg (fun ds' h => ?_) (fun ps' h => ?_) (fun z => by rw [rdg] at z; cases z)
      · rw [sdg] at h
        cases h
        have := dts18.len
        rw [List.length_append, List.length_replicate] at this
        omega
      rw [rdg] at h
      cases h
      refine ⟨bqs, fun md H19 s19 nmd made => q md H19 ((hP18.more (by omega)).same s19) (k11.trans (k1118.trans (Kp.of s19))) ?_⟩
      have e : a.map pq ++ List.replicate m.toNat (0, 1) = (a ++ List.replicate m.toNat 0).map pq := by
        rw [List.map_append, List.map_replicate]
        rfl
      have e2 : stripQ (a ++ List.replicate m.toNat 0) = a := by
        rw [← st]
        refine (stripQ_ext fun i => ?_).trans (by rw [st])
        rw [st, cf_app]
        split
        · rfl
        · rw [cf_rep0, cf_ge (by omega)]
      rw [eqs, e, strip_map, e2] at made
      exact made
end

end Vf

set_option maxRecDepth 100000
set_option maxHeartbeats 8000000
namespace Vf
open PySem PySem.Spec PyProof.Rows L2
/-! ### points -/
/-- the pair at a place -/
def pr (ps : List (Int × Int)) (i : Nat) : Int × Int := ps.getD i (0, 1)
theorem pr_at {ps : List (Int × Int)} {i : Nat} {p : Int × Int} (h : ps[i]? = some p) : pr ps i = p := by
  unfold pr
  rw [List.getD_eq_getElem?_getD, h]
  rfl
def ltP (p q : Int × Int) : Bool := decide (p.1 * q.2 < q.1 * p.2)
def ascB (ps : List (Int × Int)) : Bool := ((List.range (ps.length - 1)).map fun i => ltP (pr ps i) (pr ps (i + 1))).all id
/-- a row of ratios, passed -/
structure Rw (K : PySem.W.Frag) (H : Hp) (v : V) (d : PyData) (ps : List (Int × Int)) : Prop where
  e : ∃ ds, Dt K H v d ∧ seqD d = some ds ∧ ds.mapM partsD = some ps ∧ ds.length ≤ 1000
  z : ∀ p ∈ ps, Sz p.1 ∧ Sz p.2
theorem Rw.same {K : PySem.W.Frag} {H H' : Hp} {v : V} {d : PyData} {ps : List (Int × Int)} (h : Rw K H v d ps) (s : Same H H') : Rw K H' v d ps := by
  obtain ⟨⟨ds, h1, h2, h3, h4⟩, z⟩ := h
  exact ⟨⟨ds, h1.mono s, h2, h3, h4⟩, z⟩
/-- read item by item -/
theorem Rw.at {K : PySem.W.Frag} {H : Hp} {v : V} {d : PyData} {ps : List (Int × Int)} (h : Rw K H v d ps) : ∃ (a : Addr) (q : Bool) (xs : List V), v = .ref a ∧ SqB q K H a xs ∧ xs.length = ps.length ∧ xs.length ≤ 1000 ∧
    ∀ i x, xs[i]? = some x → ∃ di, Dt K H x di ∧ partsD di = some (pr ps i) ∧ Sz (pr ps i).1 ∧ Sz (pr ps i).2 := by
  obtain ⟨⟨ds, h1, h2, h3, h4⟩, z⟩ := h
  obtain ⟨ml, mi⟩ := mapM_some h3
  obtain ⟨a, xs, e, hsq, hds⟩ := h1.seq h2
  obtain ⟨q, hq⟩ := sqB_or hsq
  have dl := hds.len
  refine ⟨a, q, xs, e, hq, by omega, by omega, fun i x hx => ?_⟩
  obtain ⟨di, g1, g2⟩ := hds.at hx
  obtain ⟨p, g3, g4⟩ := mi i di g1
  rw [pr_at g3]
  exact ⟨di, g2, g4, z p (List.mem_of_getElem? g3)⟩
theorem sz_01 : Sz 0 ∧ Sz 1 := ⟨by show (0 : Nat) < 2 ^ 1900; exact Nat.pow_pos (by decide), by show (1 : Nat) < 2 ^ 1900; exact Nat.one_lt_pow (by decide) (by decide)⟩
theorem cut1 (xs : List V) : cutV xs (some 1) none = xs.drop 1 := by
  unfold cutV
  have e : HT.sIx xs.length 0 (some 1) = min 1 xs.length := by
    unfold HT.sIx
    simp
    try omega
  have e2 : HT.sIx xs.length xs.length none = xs.length := rfl
  rw [e, e2]
  cases xs with
  | nil => rfl
  | cons x l =>
    have m : min 1 (x :: l).length = 1 := by rw [List.length_cons]; omega
    rw [m]
    show (l.take ((x :: l).length - 1)) = l
    rw [List.length_cons, Nat.add_sub_cancel]
    exact List.take_length
def spAsc (K : PySem.W.Frag) : Sp := fun vs H Q _ => ∃ (v : V) (d : PyData) (ps : List (Int × Int)), vs = [v] ∧ Rw K H v d ps ∧ ∀ H', Same H H' → Q (.bl (ascB ps)) H'
def spTRow (K : PySem.W.Frag) : Sp := fun vs H Q _ => ∃ (v : V) (d : PyData) (ps : List (Int × Int)), vs = [v] ∧ Rw K H v d ps ∧ ∀ (t : Addr) (as : List Addr) (H' : Hp), Same H H' → H' t = some (.tup (as.map V.ref)) → Tups H' as (ps.map lowP) → Q (.ref t) H'
/-- a value as an object keeps it -/
def spHeld (K : PySem.W.Frag) : Sp := fun vs H Q _ => ∃ (v : V) (t : Value), vs = [v] ∧ TyX K H v t ∧ ((PySem.W.kitOne K t (.type "list") = some false ∧ Q v H) ∨ (PySem.W.kitOne K t (.type "list") = some true ∧ ∃ l xs, v = .ref l ∧ SqL K H l xs ∧ ∀ (a : Addr) (H' : Hp), Same H H' → H a = none → H' a = some (.tup xs) → Q (.ref a) H'))
def spRaised : Sp := fun vs H Q _ => ∃ (n : Int) (k : Nat), vs = [.int n, .int (k : Int)] ∧ n.natAbs ≤ 2 ^ 14 ∧ k ≤ 30 ∧ Q (.int (n ^ k)) H
section
variable {P : Program} {w : World} {K : PySem.W.Frag} {mg : Str → Option Value} {base : Heap} {CP CR CN : Addr}
abbrev sHeld : Stmt := topS 19
theorem scHeld : FnScope ["value"] ["value"] (defScope sHeld) := ⟨rfl, rfl, rfl, by decide +kernel, rfl, by decide +kernel, by decide +kernel⟩
theorem ok_held {f : Addr} {fd : FuncData} (F : Fun K "held" "held" sHeld f fd) (T : Bk mg) : FnOk P w K mg base CX0 1 f fd ["value"] (spHeld K) := by
  refine F.ok scHeld (fun vs H Q E h => ?_) (fun cdv A outer s H vs Q E hr h => ?_)
  · obtain ⟨v, t, rfl, _⟩ := h
    rfl
  · obtain ⟨v, t, rfl, ht, h⟩ := h
    refine ⟨_, (pss_one (ps_ret (pe_ifExp (pt_val (pe_callB call_isi (by rfl) T.isinstance (by decide +kernel) (pa_cons (pv 0) (pa_cons (pe_bltn (v := V.ty "list") (by rfl) T.list (by decide +kernel) rfl) pa_nil)))) (pe_callTy call_tuple_of (by rfl) T.tuple (by decide +kernel) (pa_cons (pv 0) pa_nil)) (pv 0)))), ?_⟩
    rcases h with ⟨hk, q⟩ | ⟨hk, l, xs, rfl, hl, q⟩
    · refine ⟨_, rfl, v, .ty "list", t, .type "list", _, rfl, .ty _, ht, hk, _, rfl, ?_⟩
      refine iteF ?_
      exact ⟨_, rfl, q⟩
    · refine ⟨_, rfl, .ref l, .ty "list", t, .type "list", _, rfl, .ty _, ht, hk, _, rfl, ?_⟩
      refine iteT ?_
      exact ⟨_, rfl, l, xs, rfl, .inl ⟨hl, fun a na => q a _ (same_upd na) na upd_same⟩⟩
abbrev sRaised : Stmt := topS 33
theorem scRaised : FnScope ["number", "many", "product", "_"] ["number", "many"] (defScope sRaised) := ⟨rfl, rfl, rfl, by decide +kernel, rfl, by decide +kernel, by decide +kernel⟩
theorem ok_raised {f : Addr} {fd : FuncData} (F : Fun K "raised" "raised" sRaised f fd) (T : Bk mg) : FnOk P w K mg base CX0 1 f fd ["number", "many"] spRaised := by
  refine F.ok scRaised (fun vs H Q E h => ?_) (fun cdv A outer s H vs Q E hr h => ?_)
  · obtain ⟨n, k, rfl, _⟩ := h
    rfl
  · obtain ⟨n, k, rfl, hn, hk, q⟩ := h
    refine ⟨_, (pss_cons (ps_set (i := 2) scRaised.nd rfl (Or.inl rfl) pe_int)
  (pss_cons (ps_for PassesOwn.never rfl (pi_range1 (by rfl) T.range (pa_cons (pv 1) pa_nil)) (pg_name (i := 3) scRaised.nd rfl (Or.inl rfl))
    (pss_one (ps_set (i := 2) scRaised.nd rfl (Or.inl rfl) (pe_op op_mulW (pv 2) (pv 0)))))
  (pss_one (ps_ret (pv 2))))), ?_⟩
    refine ⟨_, rfl, _, rfl, by omega, by omega, for_range (lo := 0) (n := ((k : Nat) : Int).toNat) (fun i σ H' => ∃ v, σ = [some (.int n), some (.int (k : Int)), some (.int (n ^ i)), v] ∧ H' = H) ⟨none, by rw [Int.pow_zero]; rfl, rfl⟩ ?_ ?_⟩
    · rintro i σ H' hi ⟨v, rfl, rfl⟩
      have hz : (n ^ i).natAbs < 2 ^ 3900 := by
        rw [Int.natAbs_pow]
        have h1 : n.natAbs ^ i ≤ (2 ^ 14) ^ i := Nat.pow_le_pow_left hn i
        rw [← Nat.pow_mul] at h1
        exact Nat.lt_of_le_of_lt h1 (Nat.pow_lt_pow_right (by decide) (by omega))
      have hz2 : n.natAbs < 2 ^ 3900 := Nat.lt_of_le_of_lt hn (Nat.pow_lt_pow_right (by decide) (by decide))
      refine ⟨_, rfl, _, rfl, _, _, rfl, rfl, big_mulW hz hz2, ?_⟩
      exact ⟨_, by rw [Int.pow_succ]; rfl, rfl⟩
    · rintro σ H' ⟨v, rfl, rfl⟩
      refine ⟨_, rfl, ?_⟩
      rw [Int.toNat_natCast]
      exact q
abbrev sTRow : Stmt := topS 42
theorem scTRow : FnScope ["ratios", "ratio"] ["ratios"] (defScope sTRow) := ⟨rfl, rfl, rfl, by decide +kernel, rfl, by decide +kernel, by decide +kernel⟩
theorem ok_trow {f : Addr} {fd : FuncData} (F : Fun K "told_row" "told_row" sTRow f fd) (T : Bk mg) (G_told : Dx P w K mg base "told" 4 ["value", "what"] (spTold K CN)) : FnOk P w K mg base CX0 5 f fd ["ratios"] (spTRow K) := by
  refine F.ok scTRow (fun vs H Q E h => ?_) (fun cdv A outer s H vs Q E hr h => ?_)
  · obtain ⟨v, d, ps, rfl, _⟩ := h
    rfl
  · obtain ⟨v, d, ps, rfl, h, q⟩ := h
    refine ⟨_, (pss_one (ps_ret (pe_callTy call_tuple_of (by rfl) T.tuple (by decide +kernel) (pa_cons (pe_lc (own := [("ratio", 1)]) (g := (gName 1)) (tt := tYes) rfl scTRow.nd (pi_seq (pv 0)) (blkOk_by (N := ["ratios", "ratio"]) (sc := defScope sTRow) (by decide +kernel)) (fun _ _ _ _ _ => pg_name (i := 1) scTRow.nd rfl (Or.inl rfl)) (fun _ _ _ _ _ => pts_nil) (fun _ _ _ _ _ => (pe_call G_told.ok (hr.mono (by decide)) rfl G_told.m G_told.kp G_told.b .nil passL (pa_cons (pv 1) (pa_cons pe_str pa_nil))))) pa_nil)))), ?_⟩
    obtain ⟨a, p, xs, rfl, hS, hl, h1000, hi⟩ := h.at
    refine ⟨_, rfl, a, rfl, lc_seq (xs := xs) (sqB_to hS) (fun D i H2 => Same H H2 ∧ ∃ as, H2 D = some (.lst (as.map V.ref)) ∧ Tups H2 as ((ps.map lowP).take i)) ?_ ?_ ?_ ?_⟩
    · intro D nD
      exact ⟨same_upd nD, [], upd_same, .nil⟩
    · intro D i H2 nD ⟨s2, _⟩
      exact ⟨same_sqL s2, same_sqT s2⟩
    · intro D i y H2 nD hy ⟨s2, as, e2, t2⟩
      have ilt := (List.getElem?_eq_some_iff.mp hy).1
      obtain ⟨di, h2, h4, z1, z2⟩ := hi i y hy
      refine ⟨rfl, ?_⟩
      refine ⟨_, rfl, y, .str "ratio", di, rfl, h2.mono s2, fun t' b' hp' => ?_, fun z => by rw [h4] at z; cases z⟩
      rw [h4] at hp'
      have hp' := Option.some.inj hp'
      refine ⟨?_, fun r H3 s3 e3 => ?_⟩
      · have e : b' = (pr ps i).2 := by rw [hp']
        rw [e]
        exact Nat.lt_trans z2 (Nat.pow_lt_pow_right (by decide) (by decide))
      have rD : r ≠ D := ne_of e3 (s3 _ _ e2) (by intro z; cases z)
      have up : ∀ (a : Addr) (p : Int × Int), H3 a = some (.tup [.int p.1, .int p.2]) → upd H3 D (.lst (as.map V.ref ++ [V.ref r])) a = some (.tup [.int p.1, .int p.2]) := fun a p z => by
        rw [upd_ne (ne_of z (s3 _ _ e2) (by intro z; cases z))]
        exact z
      refine ⟨_, s3 _ _ e2, ?_, (fun b o e => ?_), as ++ [r], ?_, ?_⟩
      · have := t2.len
        rw [List.length_take, List.length_map] at this
        rw [List.length_map, sizeLine_eq]
        omega
      · rw [upd_ne (ne_of_none e nD)]
        exact s3 _ _ (s2 _ _ e)
      · rw [upd_same, List.map_append]
        rfl
      · have hps : ps[i]? = some (pr ps i) := by
          unfold pr
          rw [List.getD_eq_getElem?_getD, List.getElem?_eq_getElem (by omega)]
          rfl
        rw [List.take_succ, List.getElem?_map, hps]
        refine ((t2.same s3).imp up).snoc (up _ _ ?_)
        have hp2 : pr ps i = (t', b') := hp'
        rw [hp2]
        exact e3
    · intro D H2 nD ⟨s2, as, e2, t2⟩
      have tk : (ps.map lowP).take xs.length = ps.map lowP := by
        rw [hl]
        exact List.take_of_length_le (by rw [List.length_map]; exact Nat.le_refl _)
      rw [tk] at t2
      refine ⟨D, _, rfl, .inl ⟨SqL.of e2, fun l nl => ?_⟩⟩
      exact q l as _ (s2.trans (same_upd nl)) upd_same (t2.same (same_upd nl))
abbrev sAsc : Stmt := topS 20
theorem scAsc : FnScope ["ratios", "one", "other"] ["ratios"] (defScope sAsc) := ⟨rfl, rfl, rfl, by decide +kernel, rfl, by decide +kernel, by decide +kernel⟩
theorem ok_asc {f : Addr} {fd : FuncData} (F : Fun K "is_ascending" "is_ascending" sAsc f fd) (T : Bk mg) (hall : mg "all" = none) (hzip : mg "zip" = none) (G_lower : Dx P w K mg base "lower" 4 ["one", "other"] (spTwo K CN okLower)) : FnOk P w K mg base CX0 5 f fd ["ratios"] (spAsc K) := by
  refine F.ok scAsc (fun vs H Q E h => ?_) (fun cdv A outer s H vs Q E hr h => ?_)
  · obtain ⟨v, d, ps, rfl, _⟩ := h
    rfl
  · obtain ⟨v, d, ps, rfl, h, q⟩ := h
    refine ⟨_, (pss_one (ps_ret (pe_callB (cr_all rfl) (by rfl) hall (by decide +kernel) (pa_cons (pe_lc (own := [("one", 1), ("other", 2)]) (g := (gTup K 2 (gCons (gName 1) (gCons (gName 2) gNil)))) (tt := tYes) rfl scAsc.nd (pi_zipB (by rfl) hzip (pa_cons (pv 0) (pa_cons (pe_slice sl_seq (pv 0) (po_some pe_int) po_none) pa_nil))) (blkOk_by (N := ["ratios", "one", "other"]) (sc := defScope sAsc) (by decide +kernel)) (fun _ _ _ _ _ => pg_tup rfl (pgs_cons (pg_name (i := 1) scAsc.nd rfl (Or.inl rfl)) (pgs_cons (pg_name (i := 2) scAsc.nd rfl (Or.inl rfl)) pgs_nil))) (fun _ _ _ _ _ => pts_nil) (fun _ _ _ _ _ => (pe_call G_lower.ok (hr.mono (by decide)) rfl G_lower.m G_lower.kp G_lower.b .nil passL (pa_cons (pv 1) (pa_cons (pv 2) pa_nil))))) pa_nil)))), ?_⟩
    obtain ⟨a, p, xs, rfl, hS, hl, h1000, hi⟩ := h.at
    refine ⟨_, rfl, _, rfl, _, rfl, p, a, xs, rfl, hS, fun b H1 s1 hb => ?_⟩
    rw [cut1] at hb
    have hS1 := hS.same s1
    have ln : (xs.drop 1).length = xs.length - 1 := List.length_drop ..
    refine ⟨p, p, a, b, xs, xs.drop 1, rfl, hS1, hb, fun D nD => lc_zipM (xs.length - 1) (by omega) (fun i H2 => Same H1 H2 ∧ H2 D = some (.lst (((List.range i).map fun j => ltP (pr ps j) (pr ps (j + 1))).map V.bl))) ⟨same_upd nD, upd_same⟩ (fun i H2 ⟨s2, _⟩ => ⟨hS1.same s2, hb.same s2⟩) ?_ ?_⟩
    · intro i x y T' H2 hi' hx hy ⟨s2, e2⟩ nT
      have hx1 : xs[i + 1]? = some y := by
        rw [List.getElem?_drop, Nat.add_comm] at hy
        exact hy
      obtain ⟨d1, a1, a2, z1, z2⟩ := hi i x hx
      obtain ⟨d2, b1, b2, w1, w2⟩ := hi (i + 1) y hx1
      have sT : Same H2 (upd H2 T' (.tup [x, y])) := same_upd nT
      have nTD : D ≠ T' := ne_of_none e2 nT
      refine ⟨T', _, rfl, SqT.of upd_same, rfl, ?_⟩
      refine ⟨_, _, rfl, _, _, rfl, rfl, rfl, ?_⟩
      have st : Same H (upd H2 T' (.tup [x, y])) := (s1.trans s2).trans sT
      refine ⟨_, rfl, _, rfl, x, y, d1, d2, rfl, a1.mono st, b1.mono st, (fun t b' u c g1 g2 => ?_), (fun z => by cases a2.symm.trans z), (fun _ z => by cases b2.symm.trans z)⟩
      rw [a2] at g1
      rw [b2] at g2
      have g1 := Option.some.inj g1
      have g2 := Option.some.inj g2
      rw [g1] at z1 z2
      rw [g2] at w1 w2
      refine ⟨z1, z2, w1, w2, fun H3 s3 => ?_⟩
      have e3 := s3 _ _ ((upd_ne nTD).trans e2)
      refine ⟨_, e3, ?_, ?_⟩
      · rw [List.length_map, List.length_map, List.length_range, sizeLine_eq]
        omega
      · refine ⟨fun b o e => ?_, ?_⟩
        · rw [upd_ne (ne_of_none e nD)]
          exact s3 _ _ (sT _ _ (s2 _ _ e))
        · rw [upd_same, List.range_succ, List.map_append, List.map_append]
          have e4 : ltP (pr ps i) (pr ps (i + 1)) = decide (t * c < u * b') := by
            rw [g1, g2]
            rfl
          show some (HO.lst (_ ++ [V.bl (decide (t * c < u * b'))])) = some (HO.lst (_ ++ [V.bl (ltP (pr ps i) (pr ps (i + 1)))]))
          rw [e4]
    · intro H2 ⟨s2, e2⟩
      refine ⟨D, _, rfl, SqL.of e2, ?_⟩
      have e : ((List.range (xs.length - 1)).map fun j => ltP (pr ps j) (pr ps (j + 1))).all id = ascB ps := by
        rw [hl]
        rfl
      rw [e]
      exact q H2 (s1.trans s2)
end

end Vf

set_option maxRecDepth 100000
set_option maxHeartbeats 8000000
namespace Vf
open PySem PySem.Spec PyProof.Rows L2
/-! ### values and errors at points -/
theorem hor_over {c h x X N V S b B : Rat} (e1 : c * B = N) (e2 : x * b = X) (e3 : h * (B * S) = V * b) : (h * x + c) * (B * (S * b)) = (V * X + N * S) * b := by
  rw [← e1, ← e2]
  have : (V * (x * b) + c * B * S) * b = (V * b) * (x * b) + c * B * S * b := by grind
  rw [this, ← e3]
  grind
theorem size_step {v X n s : Int} {j : Nat} (hj : v.natAbs ≤ 2 ^ (170 + 15 * j)) (hX : X.natAbs ≤ 2 ^ 14) (hn : n.natAbs ≤ 2 ^ 169) (hs : s.natAbs ≤ 2 ^ (14 * j)) : (v * X + n * s).natAbs ≤ 2 ^ (170 + 15 * (j + 1)) := by
  have h1 : (v * X).natAbs ≤ 2 ^ (170 + 15 * j + 14) := by
    rw [Int.natAbs_mul, Nat.pow_add]
    exact Nat.mul_le_mul hj hX
  have h2 : (n * s).natAbs ≤ 2 ^ (169 + 14 * j) := by
    rw [Int.natAbs_mul, Nat.pow_add]
    exact Nat.mul_le_mul hn hs
  have h3 : (2 : Nat) ^ (169 + 14 * j) ≤ 2 ^ (170 + 15 * j + 14) := Nat.pow_le_pow_right (by decide) (by omega)
  have h4 : (2 : Nat) ^ (170 + 15 * (j + 1)) = 2 ^ (170 + 15 * j + 14) * 2 := by rw [← Nat.pow_succ]; congr 1
  have := Int.natAbs_add_le (v * X) (n * s)
  omega
theorem rev_ci {ns : List Int} {j : Nat} {y : V} (h : (ns.map V.int).reverse[j]? = some y) : y = .int (ci ns (ns.length - 1 - j)) ∧ j < ns.length := by
  have hj : j < ns.length := by
    have := (List.getElem?_eq_some_iff.mp h).1
    rw [List.length_reverse, List.length_map] at this
    exact this
  rw [List.getElem?_reverse (by rw [List.length_map]; exact hj), List.length_map, List.getElem?_map, ci_lt (by omega)] at h
  cases h
  exact ⟨rfl, hj⟩
def RI (H : Hp) (l : Addr) (ns : List Int) : Prop := H l = some (.lst (ns.map V.int))
def spVal (K : PySem.W.Frag) : Sp := fun vs H Q _ => ∃ (l : Addr) (ns : List Int) (A : List Rat) (B : Nat) (x : Rat), vs = [.ref l, .int x.num, .int (x.den : Int)] ∧ RI H l ns ∧ ns.length = A.length ∧ A.length ≤ 13 ∧ (∀ i, cf A i * (B : Rat) = ((ci ns i : Int) : Rat)) ∧ (∀ i, (ci ns i).natAbs ≤ 2 ^ 169) ∧ x.num.natAbs ≤ 2 ^ 14 ∧ x.den ≤ 2 ^ 14 ∧
  ∀ (val : Int) (H' : Hp), Same H H' → val.natAbs ≤ 2 ^ 365 → hor x A * ((B : Rat) * (((x.den : Int) ^ A.length : Int) : Rat)) = (val : Rat) * ((x.den : Nat) : Rat) → Q (.int val) H'
section
variable {P : Program} {w : World} {K : PySem.W.Frag} {mg : Str → Option Value} {base : Heap} {CP CR CN : Addr}
abbrev sVal : Stmt := topS 35
theorem scVal : FnScope ["row", "top", "bottom", "value", "scale", "number"] ["row", "top", "bottom"] (defScope sVal) := ⟨rfl, rfl, rfl, by decide +kernel, rfl, by decide +kernel, by decide +kernel⟩
theorem ok_val {f : Addr} {fd : FuncData} (F : Fun K "value_at" "value_at" sVal f fd) (T : Bk mg) : FnOk P w K mg base CX0 1 f fd ["row", "top", "bottom"] (spVal K) := by
  refine F.ok scVal (fun vs H Q E h => ?_) (fun cdv A0 outer s H vs Q E hr h => ?_)
  · obtain ⟨l, ns, A, B, x, rfl, _⟩ := h
    rfl
  · obtain ⟨l, xs, A, B, x, rfl, ex2, nx, lA, fx, bx, xn, xd, q⟩ := h
    refine ⟨_, (pss_cons (ps_set (i := 3) scVal.nd rfl (Or.inl rfl) pe_int)
  (pss_cons (ps_set (i := 4) scVal.nd rfl (Or.inl rfl) pe_int)
  (pss_cons (ps_for PassesOwn.never rfl (pi_list (pe_revL (pv 0))) (pg_name (i := 5) scVal.nd rfl (Or.inl rfl))
    (pss_cons (ps_set (i := 3) scVal.nd rfl (Or.inl rfl) (pe_op op_add (pe_op op_mulW (pv 3) (pv 1)) (pe_op op_mulW (pv 5) (pv 4))))
    (pss_one (ps_set (i := 4) scVal.nd rfl (Or.inl rfl) (pe_op op_mulW (pv 4) (pv 2))))))
  (pss_one (ps_ret (pv 3)))))), ?_⟩
    refine ⟨_, rfl, l, _, rfl, SqL.of ex2, fun lr nlr => ?_⟩
    have elr : upd H lr (HO.lst (xs.map V.int).reverse) lr = some (HO.lst (xs.map V.int).reverse) := upd_same
    have s3 : Same H (upd H lr (HO.lst (xs.map V.int).reverse)) := same_upd nlr
    generalize upd H lr (HO.lst (xs.map V.int).reverse) = H3 at elr s3 ⊢
    have bd : ((x.den : Int)).natAbs ≤ 2 ^ 14 := by rw [Int.natAbs_natCast]; exact xd
    have sz : ∀ {z : Int} {k : Nat}, z.natAbs ≤ 2 ^ k → k < 3900 → z.natAbs < 2 ^ 3900 := fun h1 h2 => lt_4000 h1 h2
    refine ⟨lr, rfl, ⟨_, SqL.of elr⟩, for_list (K := K) (a := lr) (xs := (xs.map V.int).reverse) (fun j σ H' => ∃ (val : Int) (v8 : Option V), σ = [some (.ref l), some (.int x.num), some (.int (x.den : Int)), some (.int val), some (.int ((x.den : Int) ^ j)), v8] ∧ Same H3 H' ∧ val.natAbs ≤ 2 ^ (170 + 15 * j) ∧ hor x (A.drop (A.length - j)) * ((B : Rat) * (((x.den : Int) ^ j : Int) : Rat)) = (val : Rat) * ((x.den : Nat) : Rat))
      ⟨0, none, rfl, Same.refl _, Nat.zero_le _, ?_⟩ (fun j σ H' _ ⟨_, _, _, ss, _⟩ => SqL.of (ss _ _ elr)) ?_ ?_⟩
    · rw [Nat.sub_zero, List.drop_length]
      show (0 : Rat) * _ = ((0 : Int) : Rat) * _
      rw [Rat.zero_mul, show ((0 : Int) : Rat) = 0 from rfl, Rat.zero_mul]
    · rintro j y σ H4 hj ⟨val, v8, rfl, s4, zv, hv⟩
      obtain ⟨rfl, hjl⟩ := rev_ci hj
      have hs : ((x.den : Int) ^ j).natAbs ≤ 2 ^ (14 * j) := by
        rw [Int.natAbs_pow, Nat.pow_mul]
        exact Nat.pow_le_pow_left bd _
      have k1 := sz zv (by omega)
      have k2 := sz (k := 14) xn (by decide)
      have k3 := sz (bx (xs.length - 1 - j)) (by decide)
      have k4 := sz hs (by omega)
      have k5 := sz bd (by decide)
      refine ⟨_, rfl, _, rfl, _, _, rfl, rfl, big_mulW k1 k2, _, rfl, _, rfl, _, _, rfl, rfl, big_mulW k3 k4, _, _, rfl, rfl, ?_⟩
      refine ⟨_, rfl, _, rfl, _, _, rfl, rfl, big_mulW k4 k5, ?_⟩
      refine ⟨val * x.num + ci xs (xs.length - 1 - j) * (x.den : Int) ^ j, some (.int (ci xs (xs.length - 1 - j))), ?_, s4, size_step zv xn (bx _) hs, ?_⟩
      · rw [Int.pow_succ]
        rfl
      · rw [hor_step (by omega), Int.pow_succ, Rat.intCast_mul, Rat.intCast_add, Rat.intCast_mul, Rat.intCast_mul]
        have e1 := fx (A.length - 1 - j)
        have e2 := num_den x
        rw [← nx] at e1
        rw [nx] at e1 ⊢
        exact hor_over e1 e2 hv
    · rintro σ H4 ⟨val, v8, rfl, s4, zv, hv⟩
      rw [List.length_reverse, List.length_map, nx] at zv hv ⊢
      rw [Nat.sub_self, List.drop_zero] at hv
      refine ⟨_, rfl, q val H4 (s3.trans s4) (Nat.le_trans zv (Nat.pow_le_pow_right (by decide) (by omega))) hv⟩
end

end Vf

set_option maxRecDepth 100000
set_option maxHeartbeats 8000000
namespace Vf
open PySem PySem.Spec PyProof.Rows L2
/-! ### the class Points -/
structure PtC (K : PySem.W.Frag) (mg : Str → Option Value) (CT : Addr) : Prop where
  m : mg "Points" = some (.ref CT)
  cl : Cls K CT
  np : NoAttr K CT "points"
  nn : NoAttr K CT "numbers"
  nw : NoAttr K CT "weights"
/-! ### all but instances stands as it stood -/
def ExtI (H H' : Hp) : Prop := ∀ b o, H b = some o → (∀ C dx fs, o ≠ .ins C dx fs) → H' b = some o
theorem ExtI.kp {x C dx : Addr} {fs : List (Str × V)} {H H' : Hp} (hx : H x = some (.ins C dx fs)) (k : Kp x H H') : ExtI H H' := fun b o e n => k b o (fun z => by
  subst z
  rw [hx] at e
  cases e
  exact n _ _ _ rfl) e
theorem sqL_i {K : PySem.W.Frag} {H H' : Hp} {a : Addr} {xs : List V} (e : ExtI H H') (h : SqL K H a xs) : SqL K H' a xs := by
  rcases h with (h | ⟨o, h⟩) | h
  · exact Or.inl (Or.inl (e a _ h (fun _ _ _ z => by cases z)))
  · exact Or.inl (Or.inr ⟨o, e a _ h (fun _ _ _ z => by cases z)⟩)
  · exact Or.inr h
theorem sqT_i {K : PySem.W.Frag} {H H' : Hp} {a : Addr} {xs : List V} (e : ExtI H H') (h : SqT K H a xs) : SqT K H' a xs := by
  rcases h with (h | ⟨o, h⟩) | h
  · exact Or.inl (Or.inl (e a _ h (fun _ _ _ z => by cases z)))
  · exact Or.inl (Or.inr ⟨o, e a _ h (fun _ _ _ z => by cases z)⟩)
  · exact Or.inr h
mutual
theorem Dt.i {K : PySem.W.Frag} {H H' : Hp} (e : ExtI H H') : ∀ {v : V} {d : PyData}, Dt K H v d → Dt K H' v d
  | _, _, .non => .non
  | _, _, .bl b => .bl b
  | _, _, .int i => .int i
  | _, _, .str x => .str x
  | _, _, .lst h1 h2 => .lst (sqL_i e h1) (Dts.i e h2)
  | _, _, .tup h1 h2 => .tup (sqT_i e h1) (Dts.i e h2)
  | _, _, .dct h1 h2 => .dct (e _ _ h1 (fun _ _ _ z => by cases z)) (Dts.i e h2)
theorem Dts.i {K : PySem.W.Frag} {H H' : Hp} (e : ExtI H H') : ∀ {vs : List V} {ds : List PyData}, Dts K H vs ds → Dts K H' vs ds
  | _, _, .nil => .nil
  | _, _, .cons h1 h2 => .cons (Dt.i e h1) (Dts.i e h2)
end
theorem Rw.i {K : PySem.W.Frag} {H H' : Hp} {v : V} {d : PyData} {ps : List (Int × Int)} (h : Rw K H v d ps) (s : ExtI H H') : Rw K H' v d ps := by
  obtain ⟨⟨ds, h1, h2, h3, h4⟩, z⟩ := h
  exact ⟨⟨ds, h1.i s, h2, h3, h4⟩, z⟩
/-- t * k, k from 1 on, for a tuple that stands in the heap -/
def rRepX : R2 := fun x y H Q => ∃ l k xs, x = .ref l ∧ y = .int k ∧ H l = some (.tup xs) ∧ xs ≠ [] ∧ 1 ≤ k ∧ k ≤ 1000 ∧ xs.length ≤ 1000 ∧ ∀ p H', Same H H' → H' p = some (.tup (List.replicate k.toNat xs).flatten) → Q (.ref p) H'
theorem op_repX {X : Cx} : OpR X (binaryOp .Mult) rRepX := by
  intro pins s σ H x y v u Q I rx ry h
  obtain ⟨l, k, xs, rfl, rfl, hl, hne, h1, h2, hz, q⟩ := h
  have hT : SqT X.K H l xs := .of hl
  by_cases hk : k = 1
  · subst hk
    cases rx
    obtain ⟨t, rfl⟩ := ry
    obtain ⟨its, r, ⟨⟨cls, dd, data, sl⟩, ho, hc, n, hd⟩, hs⟩ := I.tuple hT
    simp only at hc hd
    subst hc hd
    refine wpAny_binaryOp_repeat_ref (T := "tuple") (U := "int") (by decide) ⟨_, ho, rfl⟩ (fun s' => typeIs_int s' 1 t) noFill_tuple_mul F.fills_int_mul F.slot_int_rmul repeat_tuple F.slot_int_index.lookup
      (call_meets F.slot_int_rmul (typeIs_int s 1 t) F.entry_int_rmul (F.args_int_rmul_2 _ _) (int_rmul_tuple 1 t l its.toArray n dd sl)
        ⟨ho, rfl, ⟨_, ho, rfl⟩, call_meets F.slot_tuple_mul ⟨_, ho, rfl⟩ F.entry_tuple_mul (F.args_tuple_mul_2 _ _) (tuple_mul1 l its.toArray n sl dd t) ⟨ho, ?_⟩⟩)
    exact ⟨.ref l, H, I, rfl, q l H (Same.refl _) (by simpa using hl)⟩
  · exact op_repT pins s σ H _ _ v u Q I rx ry ⟨l, k, xs, rfl, rfl, hT, hne, by omega, h2, hz, fun p np => q p _ (fun b u e => by rw [upd_ne (ne_of_none e np)]; exact e) upd_same⟩
/-- a row of ratios stands at a tuple -/
def TRw (H : Hp) (t : Addr) (ps : List (Int × Int)) : Prop := ∃ as, H t = some (.tup (as.map V.ref)) ∧ Tups H as ps
theorem TRw.imp {H H' : Hp} {t : Addr} {ps : List (Int × Int)} (h : TRw H t ps) (e : ∀ b xs, H b = some (.tup xs) → H' b = some (.tup xs)) : TRw H' t ps := by
  obtain ⟨as, h1, h2⟩ := h
  exact ⟨as, e _ _ h1, h2.imp fun a p z => e _ _ z⟩
theorem TRw.i {H H' : Hp} {t : Addr} {ps : List (Int × Int)} (h : TRw H t ps) (s : ExtI H H') : TRw H' t ps := h.imp fun b xs z => s b _ z fun _ _ _ z => by cases z
theorem TRw.same {H H' : Hp} {t : Addr} {ps : List (Int × Int)} (h : TRw H t ps) (s : Same H H') : TRw H' t ps := h.imp fun b xs z => s b _ z
def PtsAt (CT : Addr) (H : Hp) (a : Addr) (ps ns ws : List (Int × Int)) : Prop := ∃ dx tw tp tn, H a = some (.ins CT dx [("weights", .ref tw), ("points", .ref tp), ("numbers", .ref tn)]) ∧ TRw H tp ps ∧ TRw H tn ns ∧ TRw H tw ws
theorem PtsAt.same {CT : Addr} {H H' : Hp} {a : Addr} {ps ns ws : List (Int × Int)} (h : PtsAt CT H a ps ns ws) (s : Same H H') : PtsAt CT H' a ps ns ws := by
  obtain ⟨dx, tw, tp, tn, h1, h2, h3, h4⟩ := h
  exact ⟨dx, tw, tp, tn, s _ _ h1, h2.same s, h3.same s, h4.same s⟩
def Lz (d : PyData) : Prop := ∀ ds, seqD d = some ds → ds.length ≤ 1000
def posB (ws : List (Int × Int)) : Bool := (ws.map fun p => decide (0 < p.1)).all id
/-- rows that Points refuses, or takes -/
def BadP (K : PySem.W.Frag) (H : Hp) (v : V) (d : PyData) : Prop := rowD d = none ∨ ∃ ps, Rw K H v d ps ∧ (ps = [] ∨ ascB ps = false)
def BadN (d : PyData) (n : Nat) : Prop := rowD d = none ∨ ∃ ps, rowD d = some ps ∧ ps.length ≠ n
def BadW (K : PySem.W.Frag) (H : Hp) (v : V) (d : PyData) (n : Nat) : Prop := rowD d = none ∨ (∃ ps, rowD d = some ps ∧ ps.length ≠ n) ∨ ∃ ps, Rw K H v d ps ∧ ps.length = n ∧ posB ps = false
/-- what making Points comes to: q the ending with rows, e the ending with an error for a value -/
def PtEnd (K : PySem.W.Frag) (H : Hp) (vp vn vw : V) (q : List (Int × Int) → List (Int × Int) → List (Int × Int) → Prop) (e : V → Prop) : Prop :=
  ∃ dp dn dw, Dt K H vp dp ∧ Lz dp ∧ Dt K H vn dn ∧ Lz dn ∧ Dt K H vw dw ∧ Lz dw ∧
   ((BadP K H vp dp ∧ e vp) ∨ ∃ ps, Rw K H vp dp ps ∧ ps ≠ [] ∧ ascB ps = true ∧
     ((BadN dn ps.length ∧ e vn) ∨ ∃ ns, Rw K H vn dn ns ∧ ns.length = ps.length ∧
       ((dw = .none ∧ q (ps.map lowP) (ns.map lowP) (List.replicate ps.length (1, 1))) ∨ (dw ≠ .none ∧ BadW K H vw dw ps.length ∧ e vw) ∨
         ∃ ws, Rw K H vw dw ws ∧ ws.length = ps.length ∧ posB ws = true ∧ q (ps.map lowP) (ns.map lowP) (ws.map lowP))))
def spPtI (K : PySem.W.Frag) (CT CR : Addr) : Sp := fun vs H Q E => ∃ (x dx : Addr) (vp vn vw : V), vs = [.ref x, vp, vn, vw] ∧ H x = some (.ins CT dx []) ∧
  PtEnd K H vp vn vw (fun ps ns ws => ∀ H', Kp x H H' → PtsAt CT H' x ps ns ws → Q .non H') (fun v => RaisesR CR H v E)
theorem pos_range (ws : List (Int × Int)) : ((List.range ws.length).map fun j => decide (0 < (pr ws j).1)).all id = posB ws := by
  unfold posB
  congr 1
  refine List.ext_getElem? fun i => ?_
  rw [List.getElem?_map, List.getElem?_map]
  by_cases h : i < ws.length
  · rw [List.getElem?_range h, List.getElem?_eq_getElem h]
    show some (decide (0 < (pr ws i).1)) = _
    rw [pr_at (List.getElem?_eq_getElem h)]
    rfl
  · rw [List.getElem?_eq_none_iff.mpr (by rw [List.length_range]; omega), List.getElem?_eq_none_iff.mpr (by omega)]
    rfl
theorem put2 (v w : V) : putF (Str.ofString "points") v [(Str.ofString "weights", w)] = [(Str.ofString "weights", w), (Str.ofString "points", v)] := by
  unfold putF
  rw [if_neg (by decide +kernel)]
  rfl
theorem put3 (u v w : V) : putF (Str.ofString "numbers") u [(Str.ofString "weights", w), (Str.ofString "points", v)] = [(Str.ofString "weights", w), (Str.ofString "points", v), (Str.ofString "numbers", u)] := by
  unfold putF
  rw [if_neg (by decide +kernel)]
  unfold putF
  rw [if_neg (by decide +kernel)]
  rfl
theorem tups_rep {H : Hp} {t : Addr} {p : Int × Int} (e : H t = some (.tup [.int p.1, .int p.2])) : ∀ n, Tups H (List.replicate n t) (List.replicate n p)
  | 0 => .nil
  | n + 1 => .cons e (tups_rep e n)
theorem Rw.row {K : PySem.W.Frag} {H : Hp} {v : V} {d : PyData} {ps : List (Int × Int)} (h : Rw K H v d ps) : Dt K H v d ∧ rowD d = some ps ∧ Lz d := by
  obtain ⟨⟨ds, h1, h2, h3, h4⟩, z⟩ := h
  refine ⟨h1, by rw [rowD_seq h2]; exact h3, fun ds' e => ?_⟩
  rw [h2] at e
  cases e
  exact h4
theorem row_sq {K : PySem.W.Frag} {H : Hp} {v : V} {d : PyData} {ps : List (Int × Int)} (h : Dt K H v d) (e : rowD d = some ps) : ∃ (a : Addr) (q : Bool) (xs : List V), v = .ref a ∧ SqB q K H a xs ∧ xs.length = ps.length := by
  obtain ⟨ds, hs⟩ : ∃ ds, seqD d = some ds := by
    cases hs : seqD d with
    | none => rw [rowD_none hs] at e; cases e
    | some ds => exact ⟨ds, rfl⟩
  rw [rowD_seq hs] at e
  obtain ⟨ml, _⟩ := mapM_some e
  obtain ⟨a, xs, rfl, hsq, hds⟩ := h.seq hs
  obtain ⟨q, hq⟩ := sqB_or hsq
  have dl := hds.len
  exact ⟨a, q, xs, rfl, hq, by omega⟩
section
variable {P : Program} {w : World} {K : PySem.W.Frag} {mg : Str → Option Value} {base : Heap} {CP CR CN CT : Addr}
abbrev sPtI : Stmt := inClass (topS 37) 0
theorem scPtI : FnScope ["self", "points", "numbers", "weights", "item"] ["self", "points", "numbers", "weights"] (defScope sPtI) := ⟨rfl, rfl, rfl, by decide +kernel, rfl, by decide +kernel, by decide +kernel⟩
theorem ok_pti {f : Addr} {fd : FuncData} (F : FunD K "__init__" "Points.__init__" (defArgs sPtI) (defBody sPtI) (defScope sPtI) [V.non] [] f fd) (T : Bk mg) (C : PtC K mg CT) (N_BadRow : Ex P w K mg base "BadRow" CR ["row"]) (hall : mg "all" = none) (G_is_ratio_row : Df P w K mg base "is_ratio_row" 3 ["value"] (spIsRow K))
    (G_is_ascending : Df P w K mg base "is_ascending" 5 ["ratios"] (spAsc K)) (G_lower : Dx P w K mg base "lower" 4 ["one", "other"] (spTwo K CN okLower)) (G_told_row : Df P w K mg base "told_row" 5 ["ratios"] (spTRow K)) :
    FnOk P w K mg base (L2.CX P w) 6 f fd ["self", "points", "numbers", "weights"] (spPtI K CT CR) := by
  refine FunD.ok (CX := L2.CX P w) F scPtI (fun vs H Q E h => ?_) (fun cdv A outer s H vs Q E hr h => ?_)
  · obtain ⟨x, dx, vp, vn, vw, rfl, _⟩ := h
    rfl
  · obtain ⟨x, dx, vp, vn, vw, rfl, hx, dp, dn, dw, hdp, lp, hdn, ln, hdw, lw, h⟩ := h
    refine ⟨_, (pss_cons (ps_if (PW.pt (pw_or (pt_not (pt_val (pe_call G_is_ratio_row.ok (hr.mono (by decide)) rfl G_is_ratio_row.m G_is_ratio_row.kp G_is_ratio_row.b .nil pass0 (pa_cons (pv 1) pa_nil)))) (pw_or (pt_cmpR op_eq (pe_callB call_len_seq (by rfl) T.len (by decide +kernel) (pa_cons (pv 1) pa_nil)) pe_int (nomark _)) (pw_or1 (pt_not (pt_val (pe_call G_is_ascending.ok (hr.mono (by decide)) rfl G_is_ascending.m G_is_ascending.kp G_is_ascending.b .nil pass0 (pa_cons (pv 1) pa_nil))))))))
    (pss_one (ps_raise rfl (takes_of rfl rfl rfl rfl) (pmk_oex N_BadRow.ox N_BadRow.iC N_BadRow.tI N_BadRow.ok (hr.mono (by decide)) N_BadRow.b .nil pass0 (by rfl) N_BadRow.m (pa_cons (pv 1) pa_nil))))
    pss_nil)
  (pss_cons (ps_if (PW.pt (pw_or (pt_not (pt_val (pe_call G_is_ratio_row.ok (hr.mono (by decide)) rfl G_is_ratio_row.m G_is_ratio_row.kp G_is_ratio_row.b .nil pass0 (pa_cons (pv 2) pa_nil)))) (pw_or1 (pt_cmpR op_ne (pe_callB call_len_seq (by rfl) T.len (by decide +kernel) (pa_cons (pv 2) pa_nil)) (pe_callB call_len_seq (by rfl) T.len (by decide +kernel) (pa_cons (pv 1) pa_nil)) (nomark _)))))
    (pss_one (ps_raise rfl (takes_of rfl rfl rfl rfl) (pmk_oex N_BadRow.ox N_BadRow.iC N_BadRow.tI N_BadRow.ok (hr.mono (by decide)) N_BadRow.b .nil pass0 (by rfl) N_BadRow.m (pa_cons (pv 2) pa_nil))))
    pss_nil)
  (pss_cons (ps_if (pt_cmpR op_isN (pv 3) pe_non (nomark _))
    (pss_one (ps_fld (pv 0) (pe_op op_repX (pe_tup (pa_cons (pe_tup (pa_cons pe_int (pa_cons pe_int pa_nil))) pa_nil)) (pe_callB call_len_seq (by rfl) T.len (by decide +kernel) (pa_cons (pv 1) pa_nil))) rfl))
    (pss_one (ps_if (PW.pt (pw_and (pt_val (pe_call G_is_ratio_row.ok (hr.mono (by decide)) rfl G_is_ratio_row.m G_is_ratio_row.kp G_is_ratio_row.b .nil pass0 (pa_cons (pv 3) pa_nil))) (pw_and (pt_cmpR op_eq (pe_callB call_len_seq (by rfl) T.len (by decide +kernel) (pa_cons (pv 3) pa_nil)) (pe_callB call_len_seq (by rfl) T.len (by decide +kernel) (pa_cons (pv 1) pa_nil)) (nomark _)) (pw_and1 (pt_val (pe_callB (cr_all rfl) (by rfl) hall (by decide +kernel) (pa_cons (pe_lc (own := [("item", 4)]) (g := (gName 4)) (tt := tYes) rfl scPtI.nd (pi_seq (pv 3)) (blkOk_by (N := ["self", "points", "numbers", "weights", "item"]) (sc := defScope sPtI) (by decide +kernel)) (fun _ _ _ _ _ => pg_name (i := 4) scPtI.nd rfl (Or.inl rfl)) (fun _ _ _ _ _ => pts_nil) (fun _ _ _ _ _ => (pe_call G_lower.ok (hr.mono (by decide)) rfl G_lower.m G_lower.kp G_lower.b .nil passL (pa_cons pe_int (pa_cons (pv 4) pa_nil))))) pa_nil)))))))
      (pss_one (ps_fld (pv 0) (pe_call G_told_row.ok (hr.mono (by decide)) rfl G_told_row.m G_told_row.kp G_told_row.b .nil pass0 (pa_cons (pv 3) pa_nil)) rfl))
      (pss_one (ps_raise rfl (takes_of rfl rfl rfl rfl) (pmk_oex N_BadRow.ox N_BadRow.iC N_BadRow.tI N_BadRow.ok (hr.mono (by decide)) N_BadRow.b .nil pass0 (by rfl) N_BadRow.m (pa_cons (pv 3) pa_nil)))))))
  (pss_cons (ps_fld (pv 0) (pe_call G_told_row.ok (hr.mono (by decide)) rfl G_told_row.m G_told_row.kp G_told_row.b .nil pass0 (pa_cons (pv 1) pa_nil)) rfl)
  (pss_one (ps_fld (pv 0) (pe_call G_told_row.ok (hr.mono (by decide)) rfl G_told_row.m G_told_row.kp G_told_row.b .nil pass0 (pa_cons (pv 2) pa_nil)) rfl)))))), ?_⟩
    refine ⟨_, rfl, vp, dp, rfl, hdp, lp, fun H1 s1 => ?_⟩
    have raiseP : ∀ {H2 : Hp} {v : V} {W : XK}, Same H H2 → RaisesR CR H v W → _ := fun {H2 v W} s2 e => raise_end (C := CR) (names := ["row"]) (H1 := H2) (vs := [v]) (W := W) rfl fun dd H' s3 n e2 => (RaisesR.same s2 e) dd H' s3 n e2
    rcases h with ⟨hb, e⟩ | ⟨ps, hR, hne, hasc, h⟩
    · rcases hb with hn | ⟨ps, hR, hb⟩
      · rw [hn]
        refine ⟨_, rfl, ?_⟩
        refine iteT ?_
        refine ⟨_, rfl, (by show 1 ≤ 1000; decide), ?_⟩
        exact raiseP s1 e
      · obtain ⟨hdt, hrow, _⟩ := hR.row
        rw [hrow]
        refine ⟨_, rfl, ?_⟩
        refine iteF ?_
        obtain ⟨a, p, xs, rfl, hS, hl, h1000, hi⟩ := hR.at
        refine ⟨_, rfl, a, xs, rfl, sqB_to (hS.same s1), rfl, _, rfl, ?_⟩
        rw [dec_int]
        by_cases h0 : ps = []
        · rw [show (((xs.length : Nat) : Int) == 0) = true by rw [hl, h0]; rfl]
          refine iteT ?_
          refine ⟨_, rfl, (by show 1 ≤ 1000; decide), ?_⟩
          exact raiseP s1 e
        · have hp : ps.length ≠ 0 := fun z => h0 (List.eq_nil_of_length_eq_zero z)
          rw [show (((xs.length : Nat) : Int) == 0) = false from beq_false_of_ne (by omega)]
          refine iteF ?_
          have hb : ascB ps = false := hb.resolve_left h0
          refine ⟨_, rfl, .ref a, dp, ps, rfl, hR.same s1, fun H2 s2 => ?_⟩
          rw [hb]
          refine ⟨_, rfl, ?_⟩
          refine iteT ?_
          refine ⟨_, rfl, (by show 1 ≤ 1000; decide), ?_⟩
          exact raiseP (s1.trans s2) e
    · obtain ⟨hdt, hrow, _⟩ := hR.row
      have hp : ps.length ≠ 0 := fun z => hne (List.eq_nil_of_length_eq_zero z)
      rw [hrow]
      refine ⟨_, rfl, ?_⟩
      refine iteF ?_
      obtain ⟨a, p, xs, rfl, hS, hl, h1000, hi⟩ := hR.at
      refine ⟨_, rfl, a, xs, rfl, sqB_to (hS.same s1), rfl, _, rfl, ?_⟩
      rw [dec_int, show (((xs.length : Nat) : Int) == 0) = false from beq_false_of_ne (by omega)]
      refine iteF ?_
      refine ⟨_, rfl, .ref a, dp, ps, rfl, hR.same s1, fun H2 s2 => ?_⟩
      rw [hasc]
      refine ⟨_, rfl, ?_⟩
      refine iteF ?_
      have s2 := s1.trans s2
      refine ⟨_, rfl, vn, dn, rfl, hdn.mono s2, ln, fun H3 s3 => ?_⟩
      have s3 := s2.trans s3
      rcases h with ⟨hb, e⟩ | ⟨ns, hN, nl, h⟩
      · rcases hb with hn | ⟨ns, hrn, hb⟩
        · rw [hn]
          refine ⟨_, rfl, ?_⟩
          refine iteT ?_
          refine ⟨_, rfl, (by show 1 ≤ 1000; decide), ?_⟩
          exact raiseP s3 e
        · rw [hrn]
          refine ⟨_, rfl, ?_⟩
          refine iteF ?_
          obtain ⟨b, p2, ys, rfl, hS2, hl2⟩ := row_sq hdn hrn
          refine ⟨_, rfl, b, ys, rfl, sqB_to (hS2.same s3), _, rfl, a, xs, rfl, sqB_to (hS.same s3), rNe_int (fun z => ?_) (fun _ => ?_)⟩
          · exfalso
            omega
          · refine iteT ?_
            refine ⟨_, rfl, (by show 1 ≤ 1000; decide), ?_⟩
            exact raiseP s3 e
      · obtain ⟨hdtn, hrn, _⟩ := hN.row
        rw [hrn]
        refine ⟨_, rfl, ?_⟩
        refine iteF ?_
        obtain ⟨b, p2, ys, rfl, hS2, hl2⟩ := row_sq hdn hrn
        refine ⟨_, rfl, b, ys, rfl, sqB_to (hS2.same s3), _, rfl, a, xs, rfl, sqB_to (hS.same s3), rNe_int (fun _ => ?_) (fun z => absurd (by omega) z)⟩
        refine iteF ?_
        have fin : ∀ (H5 : Hp) (tw : Addr) (W : List (Int × Int)), Kp x H H5 → H5 x = some (.ins CT dx [("weights", .ref tw)]) → TRw H5 tw W → (∀ H', Kp x H H' → PtsAt CT H' x (ps.map lowP) (ns.map lowP) W → Q .non H') →
            tSeq (sFld K (tVar 0) (tCall (spTRow K) [] E0 (tCons (tVar 1) tNil)) "points") (sFld K (tVar 0) (tCall (spTRow K) [] E0 (tCons (tVar 2) tNil)) "numbers") { nx := fun _ H' => Q .non H', rt := Q } (L2.start ["self", "points", "numbers", "weights", "item"] [V.ref x, V.ref a, V.ref b, vw]) H5 := fun H5 tw W k5 hx5 hw5 q => by
          have i5 := ExtI.kp hx k5
          refine ⟨_, rfl, .ref a, dp, ps, rfl, hR.i i5, fun tp as1 H6 s6 et6 tu6 => ?_⟩
          have hx6 := s6 _ _ hx5
          have tp6 : TRw H6 tp (ps.map lowP) := ⟨as1, et6, tu6⟩
          refine ⟨_, rfl, x, CT, dx, _, rfl, hx6, C.cl, C.np, (by show 1 < 1000; decide), ?_⟩
          rw [put2]
          have i7 : ExtI H6 (upd H6 x (.ins CT dx [("weights", .ref tw), ("points", .ref tp)])) := ExtI.kp hx6 kp_upd
          have k7 : Kp x H (upd H6 x (.ins CT dx [("weights", .ref tw), ("points", .ref tp)])) := (k5.trans (Kp.of s6)).trans kp_upd
          have hx7 : upd H6 x (.ins CT dx [("weights", .ref tw), ("points", .ref tp)]) x = some (.ins CT dx [("weights", .ref tw), ("points", .ref tp)]) := upd_same
          have hw7 := (hw5.same s6).i i7
          have tp7 := tp6.i i7
          generalize upd H6 x (.ins CT dx [("weights", .ref tw), ("points", .ref tp)]) = H7 at k7 hx7 hw7 tp7 ⊢
          refine ⟨_, rfl, .ref b, dn, ns, rfl, hN.i (ExtI.kp hx k7), fun tn as2 H8 s8 et8 tu8 => ?_⟩
          have hx8 := s8 _ _ hx7
          have tn8 : TRw H8 tn (ns.map lowP) := ⟨as2, et8, tu8⟩
          refine ⟨_, rfl, x, CT, dx, _, rfl, hx8, C.cl, C.nn, (by show 2 < 1000; decide), ?_⟩
          rw [put3]
          have i9 : ExtI H8 (upd H8 x (.ins CT dx [("weights", .ref tw), ("points", .ref tp), ("numbers", .ref tn)])) := ExtI.kp hx8 kp_upd
          have k9 : Kp x H (upd H8 x (.ins CT dx [("weights", .ref tw), ("points", .ref tp), ("numbers", .ref tn)])) := (k7.trans (Kp.of s8)).trans kp_upd
          exact q _ k9 ⟨dx, tw, tp, tn, upd_same, (tp7.same s8).i i9, tn8.i i9, (hw7.same s8).i i9⟩
        rcases h with ⟨hw, q⟩ | ⟨hw, hb, e⟩ | ⟨ws, hW, wl, wp, q⟩
        · subst hw
          cases hdw
          refine ⟨_, rfl, rfl, _, rfl, ?_⟩
          refine iteT ?_
          refine ⟨(by show 2 ≤ sizeLine; decide), fun t1 n1 => ?_⟩
          have e1 : upd H3 t1 (HO.tup [V.int 1, V.int 1]) t1 = some (HO.tup [V.int 1, V.int 1]) := upd_same
          have s4 : Same H3 (upd H3 t1 (HO.tup [V.int 1, V.int 1])) := same_upd n1
          generalize upd H3 t1 (HO.tup [V.int 1, V.int 1]) = H4 at e1 s4 ⊢
          have s4 := s3.trans s4
          refine ⟨(by show 1 ≤ sizeLine; decide), fun t2 n2 => ?_⟩
          have e2 : upd H4 t2 (HO.tup [V.ref t1]) t2 = some (HO.tup [V.ref t1]) := upd_same
          have e1' : upd H4 t2 (HO.tup [V.ref t1]) t1 = some (HO.tup [V.int 1, V.int 1]) := by rw [upd_ne (ne_of_none e1 n2)]; exact e1
          have s5 : Same H4 (upd H4 t2 (HO.tup [V.ref t1])) := same_upd n2
          generalize upd H4 t2 (HO.tup [V.ref t1]) = H5 at e2 e1' s5 ⊢
          have s5 := s4.trans s5
          refine ⟨_, rfl, a, xs, rfl, sqB_to (hS.same s5), t2, _, _, rfl, rfl, e2, (by intro z; cases z), (by omega), (by omega), (by show 1 ≤ 1000; decide), fun tw H6 s6 etw => ?_⟩
          have hx6 := s6 _ _ (s5 _ _ hx)
          have k6 : Kp x H (upd H6 x (.ins CT dx [("weights", .ref tw)])) := ((Kp.of s5).trans (Kp.of s6)).trans kp_upd
          refine ⟨_, rfl, x, CT, dx, _, rfl, hx6, C.cl, C.nw, (by decide), ?_⟩
          refine fin _ tw (List.replicate ps.length (1, 1)) k6 upd_same (TRw.i ⟨List.replicate ps.length t1, ?_, tups_rep (s6 _ _ e1') _⟩ (ExtI.kp hx6 kp_upd)) q
          rw [etw, Int.toNat_natCast, hl]
          congr 2
          rw [List.map_replicate]
          generalize ps.length = m
          induction m with
          | zero => rfl
          | succ m ih => rw [List.replicate_succ, List.replicate_succ, List.flatten_cons, ih]; rfl
        · have nn : vw ≠ .non := fun z => by
            subst z
            cases hdw
            exact hw rfl
          refine ⟨_, rfl, rfl, _, rfl, ?_⟩
          rw [decide_eq_false nn]
          refine iteF ?_
          refine ⟨_, rfl, vw, dw, rfl, hdw.mono s3, lw, fun H4 s4 => ?_⟩
          have s4 := s3.trans s4
          rcases hb with hn | ⟨ws, hr', hlw⟩ | ⟨ws, hW, wl, wp⟩
          · rw [hn]
            refine ⟨_, rfl, ?_⟩
            refine iteF ?_
            refine ⟨_, rfl, (by show 1 ≤ 1000; decide), ?_⟩
            exact raiseP s4 e
          · rw [hr']
            refine ⟨_, rfl, ?_⟩
            refine iteT ?_
            obtain ⟨c, p3, zs, rfl, hS3, hl3⟩ := row_sq hdw hr'
            refine ⟨_, rfl, c, zs, rfl, sqB_to (hS3.same s4), _, rfl, a, xs, rfl, sqB_to (hS.same s4), rfl, _, rfl, ?_⟩
            rw [dec_int, show (((zs.length : Nat) : Int) == ((xs.length : Nat) : Int)) = false from beq_false_of_ne (by omega)]
            refine iteF ?_
            refine ⟨_, rfl, (by show 1 ≤ 1000; decide), ?_⟩
            exact raiseP s4 e
          · obtain ⟨hdtw, hrw, _⟩ := hW.row
            rw [hrw]
            refine ⟨_, rfl, ?_⟩
            refine iteT ?_
            obtain ⟨c, p3, zs, rfl, hS3, hl3, hz1000, hiw⟩ := hW.at
            refine ⟨_, rfl, c, zs, rfl, sqB_to (hS3.same s4), _, rfl, a, xs, rfl, sqB_to (hS.same s4), rfl, _, rfl, ?_⟩
            rw [dec_int, show (((zs.length : Nat) : Int) == ((xs.length : Nat) : Int)) = true from beq_iff_eq.mpr (by omega)]
            refine iteT ?_
            refine ⟨_, rfl, c, rfl, lc_seq (xs := zs) (sqB_to (hS3.same s4)) (fun D i H5 => Same H4 H5 ∧ H5 D = some (.lst (((List.range i).map fun j => decide (0 < (pr ws j).1)).map V.bl))) ?_ ?_ ?_ ?_⟩
            · intro D nD
              exact ⟨same_upd nD, upd_same⟩
            · intro D i H5 nD ⟨s5, _⟩
              exact ⟨same_sqL s5, same_sqT s5⟩
            · intro D i y H5 nD hy ⟨s5, e5⟩
              have ilt := (List.getElem?_eq_some_iff.mp hy).1
              obtain ⟨di, g1, g2, z1, z2⟩ := hiw i y hy
              refine ⟨rfl, ?_⟩
              refine ⟨_, rfl, .int 0, y, .int 0, di, rfl, .int 0, (g1.mono s4).mono s5, fun t b' t2 b2 e3 e4 => ?_, (fun z => by cases z), (fun _ z => by cases g2.symm.trans z)⟩
              cases e3
              have hb2 := parts_pos e4
              rw [g2] at e4
              have e4 := Option.some.inj e4
              rw [e4] at z1 z2
              refine ⟨sz_01.1, sz_01.2, z1, z2, fun H6 s6 => ?_⟩
              refine ⟨_, s6 _ _ e5, ?_, (fun b o e => ?_), ?_⟩
              · rw [List.length_map, List.length_map, List.length_range, sizeLine_eq]
                omega
              · rw [upd_ne (ne_of_none e nD)]
                exact s6 _ _ (s5 _ _ e)
              · rw [upd_same, List.range_succ, List.map_append, List.map_append]
                have e7 : decide (0 < (pr ws i).1) = decide ((0 : Int) * b2 < t2 * 1) := by
                  rw [e4, Int.zero_mul, Int.mul_one]
                show some (HO.lst (_ ++ [V.bl (decide ((0 : Int) * b2 < t2 * 1))])) = some (HO.lst (_ ++ [V.bl (decide (0 < (pr ws i).1))]))
                rw [e7]
            intro D H5 nD ⟨s5, e5⟩
            refine ⟨D, _, rfl, SqL.of e5, ?_⟩
            rw [show ((List.range zs.length).map fun j => decide (0 < (pr ws j).1)).all id = posB ws from by rw [hl3]; exact pos_range ws]
            · rw [wp]
              refine ⟨_, rfl, ?_⟩
              refine iteF ?_
              refine ⟨_, rfl, (by show 1 ≤ 1000; decide), ?_⟩
              exact raiseP (s4.trans s5) e
        · obtain ⟨hdtw, hrw, _⟩ := hW.row
          obtain ⟨c, p3, zs, rfl, hS3, hl3, hz1000, hiw⟩ := hW.at
          refine ⟨_, rfl, rfl, _, rfl, ?_⟩
          rw [decide_eq_false (by intro z; cases z)]
          refine iteF ?_
          refine ⟨_, rfl, .ref c, dw, rfl, hdw.mono s3, lw, fun H4 s4 => ?_⟩
          have s4 := s3.trans s4
          rw [hrw]
          refine ⟨_, rfl, ?_⟩
          refine iteT ?_
          refine ⟨_, rfl, c, zs, rfl, sqB_to (hS3.same s4), _, rfl, a, xs, rfl, sqB_to (hS.same s4), rfl, _, rfl, ?_⟩
          rw [dec_int, show (((zs.length : Nat) : Int) == ((xs.length : Nat) : Int)) = true from beq_iff_eq.mpr (by omega)]
          refine iteT ?_
          refine ⟨_, rfl, c, rfl, lc_seq (xs := zs) (sqB_to (hS3.same s4)) (fun D i H5 => Same H4 H5 ∧ H5 D = some (.lst (((List.range i).map fun j => decide (0 < (pr ws j).1)).map V.bl))) ?_ ?_ ?_ ?_⟩
          · intro D nD
            exact ⟨same_upd nD, upd_same⟩
          · intro D i H5 nD ⟨s5, _⟩
            exact ⟨same_sqL s5, same_sqT s5⟩
          · intro D i y H5 nD hy ⟨s5, e5⟩
            have ilt := (List.getElem?_eq_some_iff.mp hy).1
            obtain ⟨di, g1, g2, z1, z2⟩ := hiw i y hy
            refine ⟨rfl, ?_⟩
            refine ⟨_, rfl, .int 0, y, .int 0, di, rfl, .int 0, (g1.mono s4).mono s5, fun t b' t2 b2 e3 e4 => ?_, (fun z => by cases z), (fun _ z => by cases g2.symm.trans z)⟩
            cases e3
            have hb2 := parts_pos e4
            rw [g2] at e4
            have e4 := Option.some.inj e4
            rw [e4] at z1 z2
            refine ⟨sz_01.1, sz_01.2, z1, z2, fun H6 s6 => ?_⟩
            refine ⟨_, s6 _ _ e5, ?_, (fun b o e => ?_), ?_⟩
            · rw [List.length_map, List.length_map, List.length_range, sizeLine_eq]
              omega
            · rw [upd_ne (ne_of_none e nD)]
              exact s6 _ _ (s5 _ _ e)
            · rw [upd_same, List.range_succ, List.map_append, List.map_append]
              have e7 : decide (0 < (pr ws i).1) = decide ((0 : Int) * b2 < t2 * 1) := by
                rw [e4, Int.zero_mul, Int.mul_one]
              show some (HO.lst (_ ++ [V.bl (decide ((0 : Int) * b2 < t2 * 1))])) = some (HO.lst (_ ++ [V.bl (decide (0 < (pr ws i).1))]))
              rw [e7]
          intro D H5 nD ⟨s5, e5⟩
          refine ⟨D, _, rfl, SqL.of e5, ?_⟩
          rw [show ((List.range zs.length).map fun j => decide (0 < (pr ws j).1)).all id = posB ws from by rw [hl3]; exact pos_range ws]
          · rw [wp]
            refine ⟨_, rfl, ?_⟩
            refine iteT ?_
            have s5 := s4.trans s5
            refine ⟨_, rfl, .ref c, dw, ws, rfl, hW.same s5, fun tw as0 H6 s6 et6 tu6 => ?_⟩
            have hx6 := s6 _ _ (s5 _ _ hx)
            refine ⟨_, rfl, x, CT, dx, _, rfl, hx6, C.cl, C.nw, (by decide), ?_⟩
            have k6 : Kp x H (upd H6 x (.ins CT dx [("weights", .ref tw)])) := ((Kp.of s5).trans (Kp.of s6)).trans kp_upd
            exact fin _ tw (ws.map lowP) k6 upd_same (TRw.i ⟨as0, et6, tu6⟩ (ExtI.kp hx6 kp_upd)) q
end

end Vf

set_option maxRecDepth 100000
set_option maxHeartbeats 8000000
namespace Vf
open PySem PySem.Spec PyProof.Rows L2
/-! ### the error of a polynomial -/
def absQ (q : Rat) : Rat := if q < 0 then -q else q
theorem absQ_nonneg (q : Rat) : 0 ≤ absQ q := by
  unfold absQ
  split
  · grind
  · grind
theorem absQ_mul {q c : Rat} (h : 0 < c) : absQ (q * c) = absQ q * c := by
  unfold absQ
  by_cases hq : q < 0
  · have : q * c < 0 := by
      have := Rat.mul_pos (show 0 < -q by grind) h
      grind
    rw [if_pos hq, if_pos this]
    grind
  · have : ¬ q * c < 0 := by
      have := Rat.mul_nonneg (show 0 ≤ q by grind) (show 0 ≤ c by grind)
      grind
    rw [if_neg hq, if_neg this]
theorem absQ_cast (z : Int) : absQ (z : Rat) = (((z.natAbs : Nat) : Int) : Rat) := by
  unfold absQ
  by_cases h : z < 0
  · rw [if_pos (by exact_mod_cast h), show ((z.natAbs : Nat) : Int) = -z by omega, Rat.intCast_neg]
  · rw [if_neg (by intro q; exact h (by exact_mod_cast q)), show ((z.natAbs : Nat) : Int) = z by omega]
theorem absQ_pq (q : Rat) : pq (absQ q) = (((q.num.natAbs : Nat) : Int), (q.den : Int)) := by
  unfold absQ
  by_cases h : q < 0
  · have : q.num < 0 := by
      by_cases z : q.num < 0
      · exact z
      · exact absurd (Rat.num_nonneg.mp (show 0 ≤ q.num by omega)) (by grind)
    rw [if_pos h]
    show ((-q).num, ((-q).den : Int)) = _
    rw [Rat.neg_num, Rat.neg_den, show ((q.num.natAbs : Nat) : Int) = -q.num by omega]
  · have : 0 ≤ q.num := Rat.num_nonneg.mpr (by grind)
    rw [if_neg h]
    show (q.num, (q.den : Int)) = _
    rw [show ((q.num.natAbs : Nat) : Int) = q.num by omega]
theorem lt_cross {g e : Rat} {t b x c : Int} (hg : g * (b : Rat) = (t : Rat)) (he : e * (c : Rat) = (x : Rat)) (hb : 0 < b) (hc : 0 < c) : (t * c < x * b) ↔ g < e := by
  have hb' : (0 : Rat) < (b : Rat) := by exact_mod_cast hb
  have hc' : (0 : Rat) < (c : Rat) := by exact_mod_cast hc
  have h1 : (t * c < x * b) ↔ ((t : Rat) * (c : Rat) < (x : Rat) * (b : Rat)) := by
    rw [← Rat.intCast_mul, ← Rat.intCast_mul]
    exact_mod_cast Iff.rfl
  rw [h1, ← hg, ← he]
  have hbc := Rat.mul_pos hb' hc'
  constructor
  · intro h
    by_cases z : g < e
    · exact z
    · have := Rat.mul_nonneg (show 0 ≤ g - e by grind) (show 0 ≤ (b : Rat) * c by grind)
      grind
  · intro h
    have := Rat.mul_pos (show 0 < e - g by grind) hbc
    grind
/-- the error at a point -/
def errAt (A : List Rat) (x y w : Rat) : Rat := w * absQ (hor x A - y)
def errN (A xs ys ws : List Rat) : Nat → Rat
  | 0 => 0
  | i + 1 => if errN A xs ys ws i < errAt A (cf xs i) (cf ys i) (cf ws i) then errAt A (cf xs i) (cf ys i) (cf ws i) else errN A xs ys ws i
def Pz (k : Nat) (q : Rat) : Prop := q.num.natAbs ≤ 2 ^ k ∧ q.den ≤ 2 ^ k
theorem err_eq {A : List Rat} {x y w : Rat} {val S : Int} (h : hor x A * (S : Rat) = (val : Rat) * ((x.den : Nat) : Rat)) (hS : 0 < S) :
    errAt A x y w * ((S * (y.den : Int) * (w.den : Int) : Int) : Rat) = ((((val * (x.den : Int) * (y.den : Int) - y.num * S).natAbs : Nat) : Int) * w.num : Int) := by
  have hS' : (0 : Rat) < (S : Rat) := by exact_mod_cast hS
  have hy : (0 : Rat) < ((y.den : Nat) : Rat) := by exact_mod_cast y.den_pos
  have ey := num_den y
  have ew := num_den w
  have e1 : ((val * (x.den : Int) * (y.den : Int) - y.num * S : Int) : Rat) = (hor x A - y) * ((S : Rat) * ((y.den : Nat) : Rat)) := by
    rw [Rat.intCast_sub, Rat.intCast_mul, Rat.intCast_mul, Rat.intCast_mul, ← ey, Rat.intCast_natCast, Rat.intCast_natCast, ← h]
    grind
  have e2 : (((val * (x.den : Int) * (y.den : Int) - y.num * S).natAbs : Nat) : Int) = (((((val * (x.den : Int) * (y.den : Int) - y.num * S).natAbs : Nat) : Int) : Int)) := rfl
  rw [Rat.intCast_mul, Rat.intCast_mul, Rat.intCast_mul, ← absQ_cast, e1, absQ_mul (Rat.mul_pos hS' hy), ← ew, Rat.intCast_natCast, Rat.intCast_natCast]
  unfold errAt
  grind
def spErr (K : PySem.W.Frag) (CP CT : Addr) : Sp := fun vs H Q _ => ∃ (a b : Addr) (A xs ys ws : List Rat), vs = [.ref a, .ref b] ∧ PtsAt CT H a (xs.map pq) (ys.map pq) (ws.map pq) ∧ PolyQ K CP H b A ∧ A.length ≤ 13 ∧ (∀ i, Sm (cf A i)) ∧ xs.length = ys.length ∧ xs.length = ws.length ∧
  (∀ i, Pz 14 (cf xs i)) ∧ (∀ i, Pz 110 (cf ys i)) ∧ (∀ i, Pz 14 (cf ws i)) ∧ ∀ (r : Addr) (H' : Hp), Same H H' → TR H' r (errN A xs ys ws xs.length) → Q (.ref r) H'

end Vf

set_option maxRecDepth 100000
set_option maxHeartbeats 8000000
namespace Vf
open PySem PySem.Spec PyProof.Rows L2
section
variable {P : Program} {w : World} {K : PySem.W.Frag} {mg : Str → Option Value} {base : Heap} {CP CR CN CT : Addr}
theorem sz_le {z : Int} {k : Nat} (h : z.natAbs ≤ 2 ^ k) (hk : k < 1900) : Sz z := Nat.lt_of_le_of_lt h (Nat.pow_lt_pow_right (by decide) hk)
theorem mul_le {a b : Int} {i j k : Nat} (ha : a.natAbs ≤ 2 ^ i) (hb : b.natAbs ≤ 2 ^ j) (h : i + j ≤ k) : (a * b).natAbs ≤ 2 ^ k := by
  rw [Int.natAbs_mul]
  refine Nat.le_trans (Nat.mul_le_mul ha hb) ?_
  rw [← Nat.pow_add]
  exact Nat.pow_le_pow_right (by decide) h
theorem sub_le {a b : Int} {k : Nat} (ha : a.natAbs ≤ 2 ^ k) (hb : b.natAbs ≤ 2 ^ k) : (a - b).natAbs ≤ 2 ^ (k + 1) := by
  rw [Nat.pow_succ]
  omega
theorem le_39 {z : Int} {k : Nat} (h : z.natAbs ≤ 2 ^ k) (hk : k < 3900) : z.natAbs < 2 ^ 3900 := lt_4000 h hk
theorem dt_pair {H : Hp} {r : Addr} {x y : Int} (h : H r = some (.tup [.int x, .int y])) : Dt K H (.ref r) (pairD (x, y)) := .tup (SqT.of h) (.cons (.int _) (.cons (.int _) .nil))
theorem if_abs (i : Int) : (if i < 0 then -i else i) = ((i.natAbs : Nat) : Int) := by
  split <;> omega
abbrev sErr : Stmt := topS 43
theorem scErr : FnScope ["points", "poly", "row", "below", "greatest", "point", "number", "weight", "scale", "difference", "error"] ["points", "poly"] (defScope sErr) := ⟨rfl, rfl, rfl, by decide +kernel, rfl, by decide +kernel, by decide +kernel⟩
theorem ok_err {f : Addr} {fd : FuncData} (F : Fun K "error_of" "error_of" sErr f fd) (T : Bk mg) (hzip : mg "zip" = none) (C : PtC K mg CT) (CPo : PoC K mg CP) (G_over_one_bottom : Df P w K mg base "over_one_bottom" 1 ["numbers"] (spOver K)) (G_raised : Df P w K mg base "raised" 1 ["number", "many"] spRaised) (G_value_at : Df P w K mg base "value_at" 1 ["row", "top", "bottom"] (spVal K))
    (G_lower : Dx P w K mg base "lower" 4 ["one", "other"] (spTwo K CN okLower)) (G_lowest : Df P w K mg base "lowest" 1 ["top", "bottom"] spLow) : FnOk P w K mg base CX0 5 f fd ["points", "poly"] (spErr K CP CT) := by
  refine F.ok scErr (fun vs H Q E h => ?_) (fun cdv A0 outer s H vs Q E hr h => ?_)
  · obtain ⟨a, b, A, xs, ys, ws, rfl, _⟩ := h
    rfl
  · obtain ⟨a, b, A, xs, ys, ws, rfl, hP, ⟨dx, t, as, h1, h2, h3⟩, lA, sA, lxy, lxw, bx, by_, bw, q⟩ := h
    refine ⟨_, (pss_cons (ps_asg (pe_call G_over_one_bottom.ok (hr.mono (by decide)) rfl G_over_one_bottom.m G_over_one_bottom.kp G_over_one_bottom.b .nil pass0 (pa_cons (pe_fld (pv 1) rfl) pa_nil)) (pg_tup (by rfl) (pgs_cons (pg_name (i := 2) scErr.nd rfl (Or.inl rfl)) (pgs_cons (pg_name (i := 3) scErr.nd rfl (Or.inl rfl)) pgs_nil))))
  (pss_cons (ps_set (i := 4) scErr.nd rfl (Or.inl rfl) (pe_tup (pa_cons pe_int (pa_cons pe_int pa_nil))))
  (pss_cons (ps_for PassesOwn.never rfl (pi_zip3 (by rfl) hzip (pa_cons (pe_fld (pv 0) rfl) (pa_cons (pe_fld (pv 0) rfl) (pa_cons (pe_fld (pv 0) rfl) pa_nil)))) (pg_tup rfl (pgs_cons (pg_name (i := 5) scErr.nd rfl (Or.inl rfl)) (pgs_cons (pg_name (i := 6) scErr.nd rfl (Or.inl rfl)) (pgs_cons (pg_name (i := 7) scErr.nd rfl (Or.inl rfl)) pgs_nil))))
    (pss_cons (ps_set (i := 8) scErr.nd rfl (Or.inl rfl) (pe_op op_mulW (pv 3) (pe_call G_raised.ok (hr.mono (by decide)) rfl G_raised.m G_raised.kp G_raised.b .nil pass0 (pa_cons (pe_ix ix_tup (pv 5) pe_int (fun _ _ => rfl)) (pa_cons (pe_callB call_len_seq (by rfl) T.len (by decide +kernel) (pa_cons (pv 2) pa_nil)) pa_nil)))))
    (pss_cons (ps_set (i := 9) scErr.nd rfl (Or.inl rfl) (pe_op op_sub (pe_op op_mulW (pe_op op_mulW (pe_call G_value_at.ok (hr.mono (by decide)) rfl G_value_at.m G_value_at.kp G_value_at.b .nil pass0 (pa_cons (pv 2) (pa_cons (pe_ix ix_tup (pv 5) pe_int (fun _ _ => rfl)) (pa_cons (pe_ix ix_tup (pv 5) pe_int (fun _ _ => rfl)) pa_nil)))) (pe_ix ix_tup (pv 5) pe_int (fun _ _ => rfl))) (pe_ix ix_tup (pv 6) pe_int (fun _ _ => rfl))) (pe_op op_mulW (pe_ix ix_tup (pv 6) pe_int (fun _ _ => rfl)) (pv 8))))
    (pss_cons (ps_set (i := 10) scErr.nd rfl (Or.inl rfl) (pe_tup (pa_cons (pe_op op_mulW (pe_callB call_abs (by rfl) T.abs (by decide +kernel) (pa_cons (pv 9) pa_nil)) (pe_ix ix_tup (pv 7) pe_int (fun _ _ => rfl))) (pa_cons (pe_op op_mulW (pe_op op_mulW (pv 8) (pe_ix ix_tup (pv 6) pe_int (fun _ _ => rfl))) (pe_ix ix_tup (pv 7) pe_int (fun _ _ => rfl))) pa_nil))))
    (pss_one (ps_if (pt_val (pe_call G_lower.ok (hr.mono (by decide)) rfl G_lower.m G_lower.kp G_lower.b .nil passL (pa_cons (pv 4) (pa_cons (pv 10) pa_nil))))
      (pss_one (ps_set (i := 4) scErr.nd rfl (Or.inl rfl) (pv 10)))
      pss_nil))))))
  (pss_one (ps_ret (pe_call G_lowest.ok (hr.mono (by decide)) rfl G_lowest.m G_lowest.kp G_lowest.b .nil pass0 (pa_cons (pe_ix ix_tup (pv 4) pe_int (fun _ _ => rfl)) (pa_cons (pe_ix ix_tup (pv 4) pe_int (fun _ _ => rfl)) pa_nil)))))))), ?_⟩
    refine ⟨_, rfl, b, CP, dx, _, .ref t, rfl, h1, CPo.cl, CPo.nf, (by kernel_rfl), ?_⟩
    refine ⟨t, as, A, rfl, SqT.of h2, h3, lA, sA, fun r' xl ns B H2 s2 er2 ex2 B0 B156 nx fx bn => ?_⟩
    refine ⟨r', _, rfl, SqT.of er2, rfl, _, _, rfl, _, _, rfl, rfl, ?_⟩
    refine ⟨(by show 2 ≤ sizeLine; decide), fun g0 ng0 => ?_⟩
    have eg0 : upd H2 g0 (HO.tup [V.int 0, V.int 1]) g0 = some (HO.tup [V.int 0, V.int 1]) := upd_same
    have s3 : Same H2 (upd H2 g0 (HO.tup [V.int 0, V.int 1])) := same_upd ng0
    generalize upd H2 g0 (HO.tup [V.int 0, V.int 1]) = H3 at eg0 s3 ⊢
    have s3 := s2.trans s3
    have ex3 : H3 xl = some (.lst (ns.map V.int)) := by
      have := s3 
      exact (show Same H2 H3 from by assumption) _ _ ex2
    obtain ⟨dp, tw, tp, tn, p1, ⟨ap, p2, p2t⟩, ⟨an, p3, p3t⟩, ⟨aw, p4, p4t⟩⟩ := hP.same s3
    refine ⟨_, rfl, a, CT, dp, _, .ref tp, rfl, p1, C.cl, C.np, (by kernel_rfl), _, rfl, a, CT, dp, _, .ref tn, rfl, p1, C.cl, C.nn, (by kernel_rfl), _, rfl, a, CT, dp, _, .ref tw, rfl, p1, C.cl, C.nw, (by kernel_rfl), ?_⟩
    have la := p2t.lenQ
    have ln := p3t.lenQ
    have lw := p4t.lenQ
    have sz0 : Sz 0 := sz_01.1
    refine ⟨false, false, false, tp, tn, tw, ap.map V.ref, an.map V.ref, aw.map V.ref, rfl, SqT.of p2, SqT.of p3, SqT.of p4,
      for_zip3 (by rw [List.length_map, List.length_map]; omega) (by rw [List.length_map, List.length_map]; omega) (fun i σ H' => ∃ (g : Addr) (tt bb : Int) (v5 v6 v7 v8 v9 v10 : Option V), σ = [some (.ref a), some (.ref b), some (.ref xl), some (.int (B : Int)), some (.ref g), v5, v6, v7, v8, v9, v10] ∧ Same H3 H' ∧ H' g = some (.tup [.int tt, .int bb]) ∧ 0 < bb ∧ tt.natAbs ≤ 2 ^ 520 ∧ bb.natAbs ≤ 2 ^ 520 ∧ errN A xs ys ws i * (bb : Rat) = (tt : Rat))
        ⟨g0, 0, 1, none, none, none, none, none, none, rfl, Same.refl _, eg0, by decide, by decide +kernel, by decide +kernel, by show (0 : Rat) * _ = _; rw [Rat.zero_mul]; rfl⟩ (fun i σ H' ⟨_, _, _, _, _, _, _, _, _, _, ss, _⟩ => ⟨SqT.of (ss _ _ p2), SqT.of (ss _ _ p3), SqT.of (ss _ _ p4)⟩) ?_ ?_⟩
    · rintro i x y w' T' σ H4 hx hy hw ⟨g, tt, bb, v5, v6, v7, v8, v9, v10, rfl, s4, eg, b0, zt, zb, hg⟩ nT
      have ilt : i < xs.length := by
        have := (List.getElem?_eq_some_iff.mp hx).1
        rw [List.length_map] at this
        omega
      obtain ⟨rx, gx, ex⟩ := (p2t.same s4).getQ ilt
      obtain ⟨ry, gy, ey⟩ := (p3t.same s4).getQ (show i < ys.length by omega)
      obtain ⟨rw_, gw, ew⟩ := (p4t.same s4).getQ (show i < ws.length by omega)
      rw [List.getElem?_map, gx] at hx
      rw [List.getElem?_map, gy] at hy
      rw [List.getElem?_map, gw] at hw
      cases hx
      cases hy
      cases hw
      have s5 : Same H4 (upd H4 T' (.tup [.ref rx, .ref ry, .ref rw_])) := same_upd nT
      have eT : upd H4 T' (.tup [.ref rx, .ref ry, .ref rw_]) T' = some (.tup [.ref rx, .ref ry, .ref rw_]) := upd_same
      generalize upd H4 T' (.tup [.ref rx, .ref ry, .ref rw_]) = H5 at s5 eT ⊢
      have ex := s5 _ _ ex
      have ey := s5 _ _ ey
      have ew := s5 _ _ ew
      have eg := s5 _ _ eg
      have s35 := s4.trans s5
      refine ⟨T', _, rfl, SqT.of eT, rfl, ?_⟩
      refine ⟨_, _, rfl, _, _, rfl, _, _, rfl, rfl, ?_⟩
      have bx' := bx i
      have by' := by_ i
      have bw' := bw i
      have bxd : (((cf xs i).den : Nat) : Int).natAbs ≤ 2 ^ 14 := by rw [Int.natAbs_natCast]; exact bx'.2
      have byd : (((cf ys i).den : Nat) : Int).natAbs ≤ 2 ^ 110 := by rw [Int.natAbs_natCast]; exact by'.2
      have bwd : (((cf ws i).den : Nat) : Int).natAbs ≤ 2 ^ 14 := by rw [Int.natAbs_natCast]; exact bw'.2
      have bB : ((B : Int)).natAbs ≤ 2 ^ 156 := by rw [Int.natAbs_natCast]; exact B156
      have bS : ((((cf xs i).den : Nat) : Int) ^ A.length).natAbs ≤ 2 ^ 182 := by
        rw [Int.natAbs_pow]
        refine Nat.le_trans (Nat.pow_le_pow_left bxd _) ?_
        rw [← Nat.pow_mul]
        exact Nat.pow_le_pow_right (by decide) (by omega)
      have b8 := mul_le bB bS (k := 338) (by decide)
      have S0 : (0 : Int) < (B : Int) * (((cf xs i).den : Nat) : Int) ^ A.length := Int.mul_pos (by omega) (Int.pow_pos (by have := (cf xs i).den_pos; omega))
      refine ⟨_, rfl, _, rfl, rx, _, _, .int _, rfl, rfl, SqT.of ex, at_of (j := 1) rfl rfl, _, rfl, xl, _, rfl, .inl (SqL.of (s35 _ _ ex3)), (((cf xs i).den : Nat) : Int), A.length, by rw [List.length_map, nx]; rfl, bxd, by omega, _, _, rfl, rfl, big_mulW (le_39 bB (by decide)) (le_39 bS (by decide)), ?_⟩
      refine ⟨_, rfl, _, rfl, rx, _, _, .int _, rfl, rfl, SqT.of ex, at_of (j := 0) rfl rfl, _, rfl, rx, _, _, .int _, rfl, rfl, SqT.of ex, at_of (j := 1) rfl rfl, xl, ns, A, B, cf xs i, rfl, s35 _ _ ex3, nx, lA, fx, bn, bx'.1, bx'.2, fun val H6 s6 zv hv => ?_⟩
      have ex := s6 _ _ ex
      have ey := s6 _ _ ey
      have ew := s6 _ _ ew
      have eg := s6 _ _ eg
      have s36 := s35.trans s6
      have z1 := mul_le zv bxd (k := 379) (by decide)
      have z2 := mul_le z1 byd (k := 489) (by decide)
      have z3 := mul_le by'.1 b8 (k := 489) (by decide)
      have z4 := sub_le z2 z3
      refine ⟨_, rfl, rx, _, _, .int _, rfl, rfl, SqT.of ex, at_of (j := 1) rfl rfl, _, _, rfl, rfl, big_mulW (le_39 zv (by decide)) (le_39 bxd (by decide)), ?_⟩
      refine ⟨_, rfl, ry, _, _, .int _, rfl, rfl, SqT.of ey, at_of (j := 1) rfl rfl, _, _, rfl, rfl, big_mulW (le_39 z1 (by decide)) (le_39 byd (by decide)), ?_⟩
      refine ⟨_, rfl, ry, _, _, .int _, rfl, rfl, SqT.of ey, at_of (j := 0) rfl rfl, _, rfl, _, _, rfl, rfl, big_mulW (le_39 by'.1 (by decide)) (le_39 b8 (by decide)), _, _, rfl, rfl, ?_⟩
      have z5 := mul_le (show ((((val * (((cf xs i).den : Nat) : Int) * (((cf ys i).den : Nat) : Int) - (cf ys i).num * ((B : Int) * (((cf xs i).den : Nat) : Int) ^ A.length)).natAbs : Nat) : Int)).natAbs ≤ 2 ^ 490 by rw [Int.natAbs_natCast]; exact z4) bw'.1 (k := 504) (by decide)
      have z6 := mul_le b8 byd (k := 448) (by decide)
      have z7 := mul_le z6 bwd (k := 462) (by decide)
      refine ⟨_, rfl, _, rfl, ?_⟩
      rw [if_abs]
      refine ⟨_, rfl, rw_, _, _, .int _, rfl, rfl, SqT.of ew, at_of (j := 0) rfl rfl, _, _, rfl, rfl, big_mulW (by rw [Int.natAbs_natCast]; exact le_39 z4 (by decide)) (le_39 bw'.1 (by decide)), ?_⟩
      refine ⟨_, rfl, _, rfl, ry, _, _, .int _, rfl, rfl, SqT.of ey, at_of (j := 1) rfl rfl, _, _, rfl, rfl, big_mulW (le_39 b8 (by decide)) (le_39 byd (by decide)), ?_⟩
      refine ⟨_, rfl, rw_, _, _, .int _, rfl, rfl, SqT.of ew, at_of (j := 1) rfl rfl, _, _, rfl, rfl, big_mulW (le_39 z6 (by decide)) (le_39 bwd (by decide)), (by show 2 ≤ sizeLine; decide), fun e0 ne0 => ?_⟩
      have h7 := err_eq (A := A) (x := cf xs i) (y := cf ys i) (w := cf ws i) (val := val) (S := (B : Int) * (((cf xs i).den : Nat) : Int) ^ A.length) (by rw [Rat.intCast_mul, Rat.intCast_natCast]; exact hv) S0
      have ee : upd H6 e0 (HO.tup [V.int ((((val * (((cf xs i).den : Nat) : Int) * (((cf ys i).den : Nat) : Int) - (cf ys i).num * ((B : Int) * (((cf xs i).den : Nat) : Int) ^ A.length)).natAbs : Nat) : Int) * (cf ws i).num), V.int ((B : Int) * (((cf xs i).den : Nat) : Int) ^ A.length * (((cf ys i).den : Nat) : Int) * (((cf ws i).den : Nat) : Int))]) e0 = some (HO.tup [V.int ((((val * (((cf xs i).den : Nat) : Int) * (((cf ys i).den : Nat) : Int) - (cf ys i).num * ((B : Int) * (((cf xs i).den : Nat) : Int) ^ A.length)).natAbs : Nat) : Int) * (cf ws i).num), V.int ((B : Int) * (((cf xs i).den : Nat) : Int) ^ A.length * (((cf ys i).den : Nat) : Int) * (((cf ws i).den : Nat) : Int))]) := upd_same
      have s7 : Same H6 (upd H6 e0 (HO.tup [V.int ((((val * (((cf xs i).den : Nat) : Int) * (((cf ys i).den : Nat) : Int) - (cf ys i).num * ((B : Int) * (((cf xs i).den : Nat) : Int) ^ A.length)).natAbs : Nat) : Int) * (cf ws i).num), V.int ((B : Int) * (((cf xs i).den : Nat) : Int) ^ A.length * (((cf ys i).den : Nat) : Int) * (((cf ws i).den : Nat) : Int))])) := same_upd ne0
      generalize upd H6 e0 (HO.tup [V.int ((((val * (((cf xs i).den : Nat) : Int) * (((cf ys i).den : Nat) : Int) - (cf ys i).num * ((B : Int) * (((cf xs i).den : Nat) : Int) ^ A.length)).natAbs : Nat) : Int) * (cf ws i).num), V.int ((B : Int) * (((cf xs i).den : Nat) : Int) ^ A.length * (((cf ys i).den : Nat) : Int) * (((cf ws i).den : Nat) : Int))]) = H7 at ee s7 ⊢
      have Y0 : (0 : Int) < (B : Int) * (((cf xs i).den : Nat) : Int) ^ A.length * (((cf ys i).den : Nat) : Int) * (((cf ws i).den : Nat) : Int) := Int.mul_pos (Int.mul_pos S0 (by have := (cf ys i).den_pos; omega)) (by have := (cf ws i).den_pos; omega)
      generalize (((val * (((cf xs i).den : Nat) : Int) * (((cf ys i).den : Nat) : Int) - (cf ys i).num * ((B : Int) * (((cf xs i).den : Nat) : Int) ^ A.length)).natAbs : Nat) : Int) * (cf ws i).num = X at ee z5 h7
      generalize (B : Int) * (((cf xs i).den : Nat) : Int) ^ A.length * (((cf ys i).den : Nat) : Int) * (((cf ws i).den : Nat) : Int) = Y at ee z7 h7 Y0
      have eg := s7 _ _ eg
      have s37 := s36.trans s7
      have pt := Nat.pow_le_pow_right (n := 2) (by decide) (show 504 ≤ 520 by decide)
      have pb := Nat.pow_le_pow_right (n := 2) (by decide) (show 462 ≤ 520 by decide)
      refine ⟨_, rfl, _, rfl, .ref g, .ref e0, pairD (tt, bb), pairD (X, Y), rfl, dt_pair eg, dt_pair ee, (fun t1 b1 t2 b2 e1 e2 => ?_), (fun z => by rw [parts_pairD (p := (tt, bb)) b0] at z; cases z), (fun _ z => by rw [parts_pairD (p := (X, Y)) Y0] at z; cases z)⟩
      rw [parts_pairD (p := (tt, bb)) b0] at e1
      rw [parts_pairD (p := (X, Y)) Y0] at e2
      cases e1
      cases e2
      refine ⟨sz_le zt (by decide), sz_le zb (by decide), sz_le z5 (by decide), sz_le z7 (by decide), fun H8 s8 => ?_⟩
      refine ⟨_, rfl, ?_⟩
      have hlt := lt_cross hg h7 b0 Y0
      by_cases hc : tt * Y < X * bb
      · rw [decide_eq_true hc]
        refine iteT ?_
        refine ⟨_, rfl, e0, X, Y, _, _, _, _, _, _, rfl, s37.trans s8, s8 _ _ ee, Y0, Nat.le_trans z5 pt, Nat.le_trans z7 pb, ?_⟩
        rw [show errN A xs ys ws (i + 1) = errAt A (cf xs i) (cf ys i) (cf ws i) from if_pos (hlt.mp hc)]
        exact h7
      · rw [decide_eq_false hc]
        refine iteF ?_
        refine ⟨g, tt, bb, _, _, _, _, _, _, rfl, s37.trans s8, s8 _ _ eg, b0, zt, zb, ?_⟩
        rw [show errN A xs ys ws (i + 1) = errN A xs ys ws i from if_neg (fun z => hc (hlt.mpr z))]
        exact hg
    · rintro σ H4 ⟨g, tt, bb, v5, v6, v7, v8, v9, v10, rfl, s4, eg, b0, zt, zb, hg⟩
      refine ⟨_, rfl, g, _, _, .int _, rfl, rfl, SqT.of eg, at_of (j := 0) rfl rfl, _, rfl, g, _, _, .int _, rfl, rfl, SqT.of eg, at_of (j := 1) rfl rfl, tt, bb, rfl, by omega, Nat.lt_of_le_of_lt zb (Nat.pow_lt_pow_right (by decide) (by decide)), fun r H5 s5 n5 e5 => ?_⟩
      rw [List.length_map, show ap.length = xs.length by omega] at hg
      rw [low_mul (by omega) hg] at e5
      exact q r H5 (s3.trans (s4.trans s5)) e5
end

end Vf

set_option maxRecDepth 100000
set_option maxHeartbeats 8000000
namespace Vf
open PySem PySem.Spec PyProof.Rows L2
/-! ### Nearest, Barred, Boundless, Reach -/
structure InC (K : PySem.W.Frag) (mg : Str → Option Value) (name : Str) (C : Addr) (fs : List Str) : Prop where
  m : mg name = some (.ref C)
  cl : Cls K C
  nf : ∀ f ∈ fs, NoAttr K C f
def HK (K : PySem.W.Frag) (CP : Addr) (H : Hp) (v : V) : Prop := (∃ a A, v = .ref a ∧ PolyQ K CP H a A) ∨ (∃ a xs, v = .ref a ∧ H a = some (.tup xs)) ∨ (∃ l xs, v = .ref l ∧ H l = some (.lst xs))
def HR (H H' : Hp) (v b : V) : Prop := (b = v ∧ ∀ l xs, v = .ref l → H l ≠ some (.lst xs)) ∨ ∃ l xs t, v = .ref l ∧ H l = some (.lst xs) ∧ b = .ref t ∧ H' t = some (.tup xs)
theorem HR.i {H H1 H2 : Hp} {v b : V} (h : HR H H1 v b) (s : ExtI H1 H2) : HR H H2 v b := by
  rcases h with h | ⟨l, xs, t, h1, h2, h3, h4⟩
  · exact .inl h
  · exact .inr ⟨l, xs, t, h1, h2, h3, s _ _ h4 fun _ _ _ z => by cases z⟩
theorem HR.same {H H1 H2 : Hp} {v b : V} (h : HR H H1 v b) (s : Same H1 H2) : HR H H2 v b := h.i fun b o e _ => s b o e
theorem HK.kp {K : PySem.W.Frag} {CP x C dx : Addr} {H H' : Hp} {v : V} (h : HK K CP H v) (hx : H x = some (.ins C dx [])) (k : Kp x H H') : HK K CP H' v := by
  have i := ExtI.kp hx k
  rcases h with ⟨a, A, e, dy, q, as, h1, h2, h3⟩ | ⟨a, xs, e, h⟩ | ⟨a, xs, e, h⟩
  · refine .inl ⟨a, A, e, dy, q, as, k a _ (fun z => ?_) h1, i _ _ h2 (fun _ _ _ z => by cases z), h3.imp fun a p z => i _ _ z (fun _ _ _ z => by cases z)⟩
    subst z
    rw [hx] at h1
    cases h1
  · exact .inr (.inl ⟨a, xs, e, i _ _ h (fun _ _ _ z => by cases z)⟩)
  · exact .inr (.inr ⟨a, xs, e, i _ _ h (fun _ _ _ z => by cases z)⟩)
/-- what held comes to -/
theorem held_in {K : PySem.W.Frag} {mg : Str → Option Value} {CP x C dx : Addr} {H H1 : Hp} {v : V} {Q : VK} {E : XK} (PC : PoC K mg CP) (hpl : PySem.W.kitOne K (.ref CP) (.type "list") = some false) (h : HK K CP H v) (hx : H x = some (.ins C dx [])) (k : Kp x H H1)
    (q : ∀ b H2, Same H1 H2 → HR H H2 v b → Q b H2) : spHeld K [v] H1 Q E := by
  have i := ExtI.kp hx k
  have h' := h.kp hx k
  rcases h with ⟨a, A, e, h⟩ | ⟨a, xs, e, h⟩ | ⟨a, xs, e, h⟩
  · obtain ⟨dy, t, as, h1, h2, h3⟩ := h
    have h1' : H1 a = some (.ins CP dy [("numbers", .ref t)]) := k a _ (fun z => by
      subst z
      rw [hx] at h1
      cases h1) h1
    subst e
    refine ⟨_, .ref CP, rfl, .base (.ins h1' PC.cl PC.ca PC.cn PC.ct PC.cm), .inl ⟨hpl, q _ _ (Same.refl _) (.inl ⟨rfl, fun l ys z => ?_⟩)⟩⟩
    cases z
    rw [h1]
    intro z
    cases z
  · subst e
    refine ⟨_, .type "tuple", rfl, .base (.tup (xs := xs) ?_), .inl ⟨kit_ty (show kitB "tuple" "list" = some false by decide +kernel), q _ _ (Same.refl _) (.inl ⟨rfl, fun l ys z => ?_⟩)⟩⟩
    · exact i _ _ h fun _ _ _ z => by cases z
    · cases z
      rw [h]
      intro z
      cases z
  · subst e
    have h2 := i _ _ h fun _ _ _ z => by cases z
    refine ⟨_, .type "list", rfl, .base (.lst h2), .inr ⟨kit_ty (show kitB "list" "list" = some true by decide +kernel), a, xs, rfl, SqL.of h2, fun t H2 s2 nt et => q _ _ s2 (.inr ⟨a, xs, t, rfl, h, rfl, et⟩)⟩⟩
theorem putF_new {f : Str} {v : V} : ∀ {ns : List Str} {bs : List V}, f ∉ ns → ns.length = bs.length → putF f v (ns.zip bs) = (ns ++ [f]).zip (bs ++ [v])
  | [], [], _, _ => rfl
  | n :: ns, b :: bs, h, hl => by
    show (if n = f then (n, v) :: ns.zip bs else (n, b) :: putF f v (ns.zip bs)) = (n, b) :: (ns ++ [f]).zip (bs ++ [v])
    rw [if_neg (fun z => h (by rw [z]; exact List.mem_cons_self ..)), putF_new (fun z => h (List.mem_cons_of_mem _ z)) (by simpa using hl)]
section
variable {P : Program} {w : World} {K : PySem.W.Frag} {mg : Str → Option Value} {base : Heap} {CP CR CN CT CI : Addr}
def spIns (K : PySem.W.Frag) (CP C : Addr) (names : List Str) : Sp := fun vs H Q _ => ∃ (x dx : Addr) (as : List V), vs = .ref x :: as ∧ as.length = names.length ∧ H x = some (.ins C dx []) ∧ (∀ v ∈ as, HK K CP H v) ∧
  ∀ (bs : List V) (H' : Hp), Kp x H H' → bs.length = as.length → H' x = some (.ins C dx (names.zip bs)) → (∀ (i : Nat) (v b : V), as[i]? = some v → bs[i]? = some b → HR H H' v b) → Q .non H'
abbrev sBarI : Stmt := inClass (topS 39) 0
theorem scBarI : FnScope ["self", "bar"] ["self", "bar"] (defScope sBarI) := ⟨rfl, rfl, rfl, by decide +kernel, rfl, by decide +kernel, by decide +kernel⟩
theorem ok_bari {f : Addr} {fd : FuncData} (F : Fun K "__init__" "Barred.__init__" sBarI f fd) (T : Bk mg) (C : InC K mg "Barred" CI ["bar"]) (PC : PoC K mg CP) (hpl : PySem.W.kitOne K (.ref CP) (.type "list") = some false) (G_held : Df P w K mg base "held" 1 ["value"] (spHeld K)) :
    FnOk P w K mg base CX0 2 f fd ["self", "bar"] (spIns K CP CI ["bar"]) := by
  refine F.ok scBarI (fun vs H Q E h => ?_) (fun cdv A outer s H vs Q E hr h => ?_)
  · obtain ⟨x, dx, as, rfl, hl, _⟩ := h
    rw [List.length_cons, hl]
    rfl
  · obtain ⟨x, dx, as, rfl, hl, hx, hk, q⟩ := h
    obtain ⟨v1, rfl⟩ : ∃ v1, as = [v1] := by
      match as, hl with
      | [v1], _ => exact ⟨v1, rfl⟩
    refine ⟨_, (pss_one (ps_fld (pv 0) (pe_call G_held.ok (hr.mono (by decide)) rfl G_held.m G_held.kp G_held.b .nil pass0 (pa_cons (pv 1) pa_nil)) rfl)), ?_⟩
    have k0 : Kp x H H := Kp.refl
    have hg0 : H x = some (.ins CI dx ((([] : List Str)).zip ([] : List V))) := hx
    refine ⟨_, rfl, ?_⟩
    dsimp only [tNil]
    refine held_in PC hpl (hk v1 (by simp)) hx k0 fun b1 H1 s1 r1 => ?_
    have hx1 := s1 _ _ hg0
    refine ⟨_, rfl, x, CI, dx, _, rfl, hx1, C.cl, C.nf _ (by simp), (by show 0 < 1000; decide), ?_⟩
    rw [putF_new (by decide +kernel) rfl]
    have k1 : Kp x H (upd H1 x (.ins CI dx ((["bar"] : List Str).zip [b1]))) := (k0.trans (Kp.of s1)).trans kp_upd
    have i1 : ExtI H1 (upd H1 x (.ins CI dx ((["bar"] : List Str).zip [b1]))) := ExtI.kp hx1 kp_upd
    have hg1 : upd H1 x (.ins CI dx ((["bar"] : List Str).zip [b1])) x = some (.ins CI dx ((["bar"] : List Str).zip [b1])) := upd_same
    generalize hG1 : upd H1 x (.ins CI dx ((["bar"] : List Str).zip [b1])) = G1 at k1 i1 hg1
    have r1 := r1.i i1
    rw [show upd H1 x (HO.ins CI dx ((([] : List Str) ++ [Str.ofString "bar"]).zip (([] : List V) ++ [b1]))) = G1 from hG1]
    refine q [b1] G1 k1 rfl hg1 fun i v b e1 e2 => ?_
    match i with
    | 0 =>
      cases e1
      cases e2
      exact r1
    | i + 1 => cases e1
abbrev sBouI : Stmt := inClass (topS 40) 0
theorem scBouI : FnScope ["self", "poly", "way"] ["self", "poly", "way"] (defScope sBouI) := ⟨rfl, rfl, rfl, by decide +kernel, rfl, by decide +kernel, by decide +kernel⟩
theorem ok_boui {f : Addr} {fd : FuncData} (F : Fun K "__init__" "Boundless.__init__" sBouI f fd) (T : Bk mg) (C : InC K mg "Boundless" CI ["poly", "way"]) (PC : PoC K mg CP) (hpl : PySem.W.kitOne K (.ref CP) (.type "list") = some false) (G_held : Df P w K mg base "held" 1 ["value"] (spHeld K)) :
    FnOk P w K mg base CX0 2 f fd ["self", "poly", "way"] (spIns K CP CI ["poly", "way"]) := by
  refine F.ok scBouI (fun vs H Q E h => ?_) (fun cdv A outer s H vs Q E hr h => ?_)
  · obtain ⟨x, dx, as, rfl, hl, _⟩ := h
    rw [List.length_cons, hl]
    rfl
  · obtain ⟨x, dx, as, rfl, hl, hx, hk, q⟩ := h
    obtain ⟨v1, v2, rfl⟩ : ∃ v1 v2, as = [v1, v2] := by
      match as, hl with
      | [v1, v2], _ => exact ⟨v1, v2, rfl⟩
    refine ⟨_, (pss_cons (ps_fld (pv 0) (pe_call G_held.ok (hr.mono (by decide)) rfl G_held.m G_held.kp G_held.b .nil pass0 (pa_cons (pv 1) pa_nil)) rfl)
  (pss_one (ps_fld (pv 0) (pe_call G_held.ok (hr.mono (by decide)) rfl G_held.m G_held.kp G_held.b .nil pass0 (pa_cons (pv 2) pa_nil)) rfl))), ?_⟩
    have k0 : Kp x H H := Kp.refl
    have hg0 : H x = some (.ins CI dx ((([] : List Str)).zip ([] : List V))) := hx
    refine ⟨_, rfl, ?_⟩
    dsimp only [tNil]
    refine held_in PC hpl (hk v1 (by simp)) hx k0 fun b1 H1 s1 r1 => ?_
    have hx1 := s1 _ _ hg0
    refine ⟨_, rfl, x, CI, dx, _, rfl, hx1, C.cl, C.nf _ (by simp), (by show 0 < 1000; decide), ?_⟩
    rw [putF_new (by decide +kernel) rfl]
    have k1 : Kp x H (upd H1 x (.ins CI dx ((["poly"] : List Str).zip [b1]))) := (k0.trans (Kp.of s1)).trans kp_upd
    have i1 : ExtI H1 (upd H1 x (.ins CI dx ((["poly"] : List Str).zip [b1]))) := ExtI.kp hx1 kp_upd
    have hg1 : upd H1 x (.ins CI dx ((["poly"] : List Str).zip [b1])) x = some (.ins CI dx ((["poly"] : List Str).zip [b1])) := upd_same
    generalize hG1 : upd H1 x (.ins CI dx ((["poly"] : List Str).zip [b1])) = G1 at k1 i1 hg1
    have r1 := r1.i i1
    rw [show upd H1 x (HO.ins CI dx ((([] : List Str) ++ [Str.ofString "poly"]).zip (([] : List V) ++ [b1]))) = G1 from hG1]
    refine ⟨_, rfl, ?_⟩
    dsimp only [tNil]
    refine held_in PC hpl (hk v2 (by simp)) hx k1 fun b2 H2 s2 r2 => ?_
    have hx2 := s2 _ _ hg1
    refine ⟨_, rfl, x, CI, dx, _, rfl, hx2, C.cl, C.nf _ (by simp), (by show 1 < 1000; decide), ?_⟩
    rw [putF_new (by decide +kernel) rfl]
    have k2 : Kp x H (upd H2 x (.ins CI dx ((["poly", "way"] : List Str).zip [b1, b2]))) := (k1.trans (Kp.of s2)).trans kp_upd
    have i2 : ExtI H2 (upd H2 x (.ins CI dx ((["poly", "way"] : List Str).zip [b1, b2]))) := ExtI.kp hx2 kp_upd
    have hg2 : upd H2 x (.ins CI dx ((["poly", "way"] : List Str).zip [b1, b2])) x = some (.ins CI dx ((["poly", "way"] : List Str).zip [b1, b2])) := upd_same
    generalize hG2 : upd H2 x (.ins CI dx ((["poly", "way"] : List Str).zip [b1, b2])) = G2 at k2 i2 hg2
    have r1 := (r1.same s2).i i2
    have r2 := r2.i i2
    rw [show upd H2 x (HO.ins CI dx (((["poly"] : List Str) ++ [Str.ofString "way"]).zip (([b1] : List V) ++ [b2]))) = G2 from hG2]
    refine q [b1, b2] G2 k2 rfl hg2 fun i v b e1 e2 => ?_
    match i with
    | 0 =>
      cases e1
      cases e2
      exact r1
    | 1 =>
      cases e1
      cases e2
      exact r2
    | i + 2 => cases e1
abbrev sNeaI : Stmt := inClass (topS 38) 0
theorem scNeaI : FnScope ["self", "poly", "error", "bar"] ["self", "poly", "error", "bar"] (defScope sNeaI) := ⟨rfl, rfl, rfl, by decide +kernel, rfl, by decide +kernel, by decide +kernel⟩
theorem ok_neai {f : Addr} {fd : FuncData} (F : Fun K "__init__" "Nearest.__init__" sNeaI f fd) (T : Bk mg) (C : InC K mg "Nearest" CI ["poly", "error", "bar"]) (PC : PoC K mg CP) (hpl : PySem.W.kitOne K (.ref CP) (.type "list") = some false) (G_held : Df P w K mg base "held" 1 ["value"] (spHeld K)) :
    FnOk P w K mg base CX0 2 f fd ["self", "poly", "error", "bar"] (spIns K CP CI ["poly", "error", "bar"]) := by
  refine F.ok scNeaI (fun vs H Q E h => ?_) (fun cdv A outer s H vs Q E hr h => ?_)
  · obtain ⟨x, dx, as, rfl, hl, _⟩ := h
    rw [List.length_cons, hl]
    rfl
  · obtain ⟨x, dx, as, rfl, hl, hx, hk, q⟩ := h
    obtain ⟨v1, v2, v3, rfl⟩ : ∃ v1 v2 v3, as = [v1, v2, v3] := by
      match as, hl with
      | [v1, v2, v3], _ => exact ⟨v1, v2, v3, rfl⟩
    refine ⟨_, (pss_cons (ps_fld (pv 0) (pe_call G_held.ok (hr.mono (by decide)) rfl G_held.m G_held.kp G_held.b .nil pass0 (pa_cons (pv 1) pa_nil)) rfl)
  (pss_cons (ps_fld (pv 0) (pe_call G_held.ok (hr.mono (by decide)) rfl G_held.m G_held.kp G_held.b .nil pass0 (pa_cons (pv 2) pa_nil)) rfl)
  (pss_one (ps_fld (pv 0) (pe_call G_held.ok (hr.mono (by decide)) rfl G_held.m G_held.kp G_held.b .nil pass0 (pa_cons (pv 3) pa_nil)) rfl)))), ?_⟩
    have k0 : Kp x H H := Kp.refl
    have hg0 : H x = some (.ins CI dx ((([] : List Str)).zip ([] : List V))) := hx
    refine ⟨_, rfl, ?_⟩
    dsimp only [tNil]
    refine held_in PC hpl (hk v1 (by simp)) hx k0 fun b1 H1 s1 r1 => ?_
    have hx1 := s1 _ _ hg0
    refine ⟨_, rfl, x, CI, dx, _, rfl, hx1, C.cl, C.nf _ (by simp), (by show 0 < 1000; decide), ?_⟩
    rw [putF_new (by decide +kernel) rfl]
    have k1 : Kp x H (upd H1 x (.ins CI dx ((["poly"] : List Str).zip [b1]))) := (k0.trans (Kp.of s1)).trans kp_upd
    have i1 : ExtI H1 (upd H1 x (.ins CI dx ((["poly"] : List Str).zip [b1]))) := ExtI.kp hx1 kp_upd
    have hg1 : upd H1 x (.ins CI dx ((["poly"] : List Str).zip [b1])) x = some (.ins CI dx ((["poly"] : List Str).zip [b1])) := upd_same
    generalize hG1 : upd H1 x (.ins CI dx ((["poly"] : List Str).zip [b1])) = G1 at k1 i1 hg1
    have r1 := r1.i i1
    rw [show upd H1 x (HO.ins CI dx ((([] : List Str) ++ [Str.ofString "poly"]).zip (([] : List V) ++ [b1]))) = G1 from hG1]
    refine ⟨_, rfl, ?_⟩
    dsimp only [tNil]
    refine held_in PC hpl (hk v2 (by simp)) hx k1 fun b2 H2 s2 r2 => ?_
    have hx2 := s2 _ _ hg1
    refine ⟨_, rfl, x, CI, dx, _, rfl, hx2, C.cl, C.nf _ (by simp), (by show 1 < 1000; decide), ?_⟩
    rw [putF_new (by decide +kernel) rfl]
    have k2 : Kp x H (upd H2 x (.ins CI dx ((["poly", "error"] : List Str).zip [b1, b2]))) := (k1.trans (Kp.of s2)).trans kp_upd
    have i2 : ExtI H2 (upd H2 x (.ins CI dx ((["poly", "error"] : List Str).zip [b1, b2]))) := ExtI.kp hx2 kp_upd
    have hg2 : upd H2 x (.ins CI dx ((["poly", "error"] : List Str).zip [b1, b2])) x = some (.ins CI dx ((["poly", "error"] : List Str).zip [b1, b2])) := upd_same
    generalize hG2 : upd H2 x (.ins CI dx ((["poly", "error"] : List Str).zip [b1, b2])) = G2 at k2 i2 hg2
    have r1 := (r1.same s2).i i2
    have r2 := r2.i i2
    rw [show upd H2 x (HO.ins CI dx (((["poly"] : List Str) ++ [Str.ofString "error"]).zip (([b1] : List V) ++ [b2]))) = G2 from hG2]
    refine ⟨_, rfl, ?_⟩
    dsimp only [tNil]
    refine held_in PC hpl (hk v3 (by simp)) hx k2 fun b3 H3 s3 r3 => ?_
    have hx3 := s3 _ _ hg2
    refine ⟨_, rfl, x, CI, dx, _, rfl, hx3, C.cl, C.nf _ (by simp), (by show 2 < 1000; decide), ?_⟩
    rw [putF_new (by decide +kernel) rfl]
    have k3 : Kp x H (upd H3 x (.ins CI dx ((["poly", "error", "bar"] : List Str).zip [b1, b2, b3]))) := (k2.trans (Kp.of s3)).trans kp_upd
    have i3 : ExtI H3 (upd H3 x (.ins CI dx ((["poly", "error", "bar"] : List Str).zip [b1, b2, b3]))) := ExtI.kp hx3 kp_upd
    have hg3 : upd H3 x (.ins CI dx ((["poly", "error", "bar"] : List Str).zip [b1, b2, b3])) x = some (.ins CI dx ((["poly", "error", "bar"] : List Str).zip [b1, b2, b3])) := upd_same
    generalize hG3 : upd H3 x (.ins CI dx ((["poly", "error", "bar"] : List Str).zip [b1, b2, b3])) = G3 at k3 i3 hg3
    have r1 := (r1.same s3).i i3
    have r2 := (r2.same s3).i i3
    have r3 := r3.i i3
    rw [show upd H3 x (HO.ins CI dx (((["poly", "error"] : List Str) ++ [Str.ofString "bar"]).zip (([b1, b2] : List V) ++ [b3]))) = G3 from hG3]
    refine q [b1, b2, b3] G3 k3 rfl hg3 fun i v b e1 e2 => ?_
    match i with
    | 0 =>
      cases e1
      cases e2
      exact r1
    | 1 =>
      cases e1
      cases e2
      exact r2
    | 2 =>
      cases e1
      cases e2
      exact r3
    | i + 3 => cases e1
abbrev sReaI : Stmt := inClass (topS 41) 0
theorem scReaI : FnScope ["self", "least", "most", "low", "high", "low_tie", "high_tie"] ["self", "least", "most", "low", "high", "low_tie", "high_tie"] (defScope sReaI) := ⟨rfl, rfl, rfl, by decide +kernel, rfl, by decide +kernel, by decide +kernel⟩
theorem ok_reai {f : Addr} {fd : FuncData} (F : Fun K "__init__" "Reach.__init__" sReaI f fd) (T : Bk mg) (C : InC K mg "Reach" CI ["least", "most", "low", "high", "low_tie", "high_tie"]) (PC : PoC K mg CP) (hpl : PySem.W.kitOne K (.ref CP) (.type "list") = some false) (G_held : Df P w K mg base "held" 1 ["value"] (spHeld K)) :
    FnOk P w K mg base CX0 2 f fd ["self", "least", "most", "low", "high", "low_tie", "high_tie"] (spIns K CP CI ["least", "most", "low", "high", "low_tie", "high_tie"]) := by
  refine F.ok scReaI (fun vs H Q E h => ?_) (fun cdv A outer s H vs Q E hr h => ?_)
  · obtain ⟨x, dx, as, rfl, hl, _⟩ := h
    rw [List.length_cons, hl]
    rfl
  · obtain ⟨x, dx, as, rfl, hl, hx, hk, q⟩ := h
    obtain ⟨v1, v2, v3, v4, v5, v6, rfl⟩ : ∃ v1 v2 v3 v4 v5 v6, as = [v1, v2, v3, v4, v5, v6] := by
      match as, hl with
      | [v1, v2, v3, v4, v5, v6], _ => exact ⟨v1, v2, v3, v4, v5, v6, rfl⟩
    refine ⟨_, (pss_cons (ps_fld (pv 0) (pe_call G_held.ok (hr.mono (by decide)) rfl G_held.m G_held.kp G_held.b .nil pass0 (pa_cons (pv 1) pa_nil)) rfl)
  (pss_cons (ps_fld (pv 0) (pe_call G_held.ok (hr.mono (by decide)) rfl G_held.m G_held.kp G_held.b .nil pass0 (pa_cons (pv 2) pa_nil)) rfl)
  (pss_cons (ps_fld (pv 0) (pe_call G_held.ok (hr.mono (by decide)) rfl G_held.m G_held.kp G_held.b .nil pass0 (pa_cons (pv 3) pa_nil)) rfl)
  (pss_cons (ps_fld (pv 0) (pe_call G_held.ok (hr.mono (by decide)) rfl G_held.m G_held.kp G_held.b .nil pass0 (pa_cons (pv 4) pa_nil)) rfl)
  (pss_cons (ps_fld (pv 0) (pe_call G_held.ok (hr.mono (by decide)) rfl G_held.m G_held.kp G_held.b .nil pass0 (pa_cons (pv 5) pa_nil)) rfl)
  (pss_one (ps_fld (pv 0) (pe_call G_held.ok (hr.mono (by decide)) rfl G_held.m G_held.kp G_held.b .nil pass0 (pa_cons (pv 6) pa_nil)) rfl))))))), ?_⟩
    have k0 : Kp x H H := Kp.refl
    have hg0 : H x = some (.ins CI dx ((([] : List Str)).zip ([] : List V))) := hx
    refine ⟨_, rfl, ?_⟩
    dsimp only [tNil]
    refine held_in PC hpl (hk v1 (by simp)) hx k0 fun b1 H1 s1 r1 => ?_
    have hx1 := s1 _ _ hg0
    refine ⟨_, rfl, x, CI, dx, _, rfl, hx1, C.cl, C.nf _ (by simp), (by show 0 < 1000; decide), ?_⟩
    rw [putF_new (by decide +kernel) rfl]
    have k1 : Kp x H (upd H1 x (.ins CI dx ((["least"] : List Str).zip [b1]))) := (k0.trans (Kp.of s1)).trans kp_upd
    have i1 : ExtI H1 (upd H1 x (.ins CI dx ((["least"] : List Str).zip [b1]))) := ExtI.kp hx1 kp_upd
    have hg1 : upd H1 x (.ins CI dx ((["least"] : List Str).zip [b1])) x = some (.ins CI dx ((["least"] : List Str).zip [b1])) := upd_same
    generalize hG1 : upd H1 x (.ins CI dx ((["least"] : List Str).zip [b1])) = G1 at k1 i1 hg1
    have r1 := r1.i i1
    rw [show upd H1 x (HO.ins CI dx ((([] : List Str) ++ [Str.ofString "least"]).zip (([] : List V) ++ [b1]))) = G1 from hG1]
    refine ⟨_, rfl, ?_⟩
    dsimp only [tNil]
    refine held_in PC hpl (hk v2 (by simp)) hx k1 fun b2 H2 s2 r2 => ?_
    have hx2 := s2 _ _ hg1
    refine ⟨_, rfl, x, CI, dx, _, rfl, hx2, C.cl, C.nf _ (by simp), (by show 1 < 1000; decide), ?_⟩
    rw [putF_new (by decide +kernel) rfl]
    have k2 : Kp x H (upd H2 x (.ins CI dx ((["least", "most"] : List Str).zip [b1, b2]))) := (k1.trans (Kp.of s2)).trans kp_upd
    have i2 : ExtI H2 (upd H2 x (.ins CI dx ((["least", "most"] : List Str).zip [b1, b2]))) := ExtI.kp hx2 kp_upd
    have hg2 : upd H2 x (.ins CI dx ((["least", "most"] : List Str).zip [b1, b2])) x = some (.ins CI dx ((["least", "most"] : List Str).zip [b1, b2])) := upd_same
    generalize hG2 : upd H2 x (.ins CI dx ((["least", "most"] : List Str).zip [b1, b2])) = G2 at k2 i2 hg2
    have r1 := (r1.same s2).i i2
    have r2 := r2.i i2
    rw [show upd H2 x (HO.ins CI dx (((["least"] : List Str) ++ [Str.ofString "most"]).zip (([b1] : List V) ++ [b2]))) = G2 from hG2]
    refine ⟨_, rfl, ?_⟩
    dsimp only [tNil]
    refine held_in PC hpl (hk v3 (by simp)) hx k2 fun b3 H3 s3 r3 => ?_
    have hx3 := s3 _ _ hg2
    refine ⟨_, rfl, x, CI, dx, _, rfl, hx3, C.cl, C.nf _ (by simp), (by show 2 < 1000; decide), ?_⟩
    rw [putF_new (by decide +kernel) rfl]
    have k3 : Kp x H (upd H3 x (.ins CI dx ((["least", "most", "low"] : List Str).zip [b1, b2, b3]))) := (k2.trans (Kp.of s3)).trans kp_upd
    have i3 : ExtI H3 (upd H3 x (.ins CI dx ((["least", "most", "low"] : List Str).zip [b1, b2, b3]))) := ExtI.kp hx3 kp_upd
    have hg3 : upd H3 x (.ins CI dx ((["least", "most", "low"] : List Str).zip [b1, b2, b3])) x = some (.ins CI dx ((["least", "most", "low"] : List Str).zip [b1, b2, b3])) := upd_same
    generalize hG3 : upd H3 x (.ins CI dx ((["least", "most", "low"] : List Str).zip [b1, b2, b3])) = G3 at k3 i3 hg3
    have r1 := (r1.same s3).i i3
    have r2 := (r2.same s3).i i3
    have r3 := r3.i i3
    rw [show upd H3 x (HO.ins CI dx (((["least", "most"] : List Str) ++ [Str.ofString "low"]).zip (([b1, b2] : List V) ++ [b3]))) = G3 from hG3]
    refine ⟨_, rfl, ?_⟩
    dsimp only [tNil]
    refine held_in PC hpl (hk v4 (by simp)) hx k3 fun b4 H4 s4 r4 => ?_
    have hx4 := s4 _ _ hg3
    refine ⟨_, rfl, x, CI, dx, _, rfl, hx4, C.cl, C.nf _ (by simp), (by show 3 < 1000; decide), ?_⟩
    rw [putF_new (by decide +kernel) rfl]
    have k4 : Kp x H (upd H4 x (.ins CI dx ((["least", "most", "low", "high"] : List Str).zip [b1, b2, b3, b4]))) := (k3.trans (Kp.of s4)).trans kp_upd
    have i4 : ExtI H4 (upd H4 x (.ins CI dx ((["least", "most", "low", "high"] : List Str).zip [b1, b2, b3, b4]))) := ExtI.kp hx4 kp_upd
    have hg4 : upd H4 x (.ins CI dx ((["least", "most", "low", "high"] : List Str).zip [b1, b2, b3, b4])) x = some (.ins CI dx ((["least", "most", "low", "high"] : List Str).zip [b1, b2, b3, b4])) := upd_same
    generalize hG4 : upd H4 x (.ins CI dx ((["least", "most", "low", "high"] : List Str).zip [b1, b2, b3, b4])) = G4 at k4 i4 hg4
    have r1 := (r1.same s4).i i4
    have r2 := (r2.same s4).i i4
    have r3 := (r3.same s4).i i4
    have r4 := r4.i i4
    rw [show upd H4 x (HO.ins CI dx (((["least", "most", "low"] : List Str) ++ [Str.ofString "high"]).zip (([b1, b2, b3] : List V) ++ [b4]))) = G4 from hG4]
    refine ⟨_, rfl, ?_⟩
    dsimp only [tNil]
    refine held_in PC hpl (hk v5 (by simp)) hx k4 fun b5 H5 s5 r5 => ?_
    have hx5 := s5 _ _ hg4
    refine ⟨_, rfl, x, CI, dx, _, rfl, hx5, C.cl, C.nf _ (by simp), (by show 4 < 1000; decide), ?_⟩
    rw [putF_new (by decide +kernel) rfl]
    have k5 : Kp x H (upd H5 x (.ins CI dx ((["least", "most", "low", "high", "low_tie"] : List Str).zip [b1, b2, b3, b4, b5]))) := (k4.trans (Kp.of s5)).trans kp_upd
    have i5 : ExtI H5 (upd H5 x (.ins CI dx ((["least", "most", "low", "high", "low_tie"] : List Str).zip [b1, b2, b3, b4, b5]))) := ExtI.kp hx5 kp_upd
    have hg5 : upd H5 x (.ins CI dx ((["least", "most", "low", "high", "low_tie"] : List Str).zip [b1, b2, b3, b4, b5])) x = some (.ins CI dx ((["least", "most", "low", "high", "low_tie"] : List Str).zip [b1, b2, b3, b4, b5])) := upd_same
    generalize hG5 : upd H5 x (.ins CI dx ((["least", "most", "low", "high", "low_tie"] : List Str).zip [b1, b2, b3, b4, b5])) = G5 at k5 i5 hg5
    have r1 := (r1.same s5).i i5
    have r2 := (r2.same s5).i i5
    have r3 := (r3.same s5).i i5
    have r4 := (r4.same s5).i i5
    have r5 := r5.i i5
    rw [show upd H5 x (HO.ins CI dx (((["least", "most", "low", "high"] : List Str) ++ [Str.ofString "low_tie"]).zip (([b1, b2, b3, b4] : List V) ++ [b5]))) = G5 from hG5]
    refine ⟨_, rfl, ?_⟩
    dsimp only [tNil]
    refine held_in PC hpl (hk v6 (by simp)) hx k5 fun b6 H6 s6 r6 => ?_
    have hx6 := s6 _ _ hg5
    refine ⟨_, rfl, x, CI, dx, _, rfl, hx6, C.cl, C.nf _ (by simp), (by show 5 < 1000; decide), ?_⟩
    rw [putF_new (by decide +kernel) rfl]
    have k6 : Kp x H (upd H6 x (.ins CI dx ((["least", "most", "low", "high", "low_tie", "high_tie"] : List Str).zip [b1, b2, b3, b4, b5, b6]))) := (k5.trans (Kp.of s6)).trans kp_upd
    have i6 : ExtI H6 (upd H6 x (.ins CI dx ((["least", "most", "low", "high", "low_tie", "high_tie"] : List Str).zip [b1, b2, b3, b4, b5, b6]))) := ExtI.kp hx6 kp_upd
    have hg6 : upd H6 x (.ins CI dx ((["least", "most", "low", "high", "low_tie", "high_tie"] : List Str).zip [b1, b2, b3, b4, b5, b6])) x = some (.ins CI dx ((["least", "most", "low", "high", "low_tie", "high_tie"] : List Str).zip [b1, b2, b3, b4, b5, b6])) := upd_same
    generalize hG6 : upd H6 x (.ins CI dx ((["least", "most", "low", "high", "low_tie", "high_tie"] : List Str).zip [b1, b2, b3, b4, b5, b6])) = G6 at k6 i6 hg6
    have r1 := (r1.same s6).i i6
    have r2 := (r2.same s6).i i6
    have r3 := (r3.same s6).i i6
    have r4 := (r4.same s6).i i6
    have r5 := (r5.same s6).i i6
    have r6 := r6.i i6
    rw [show upd H6 x (HO.ins CI dx (((["least", "most", "low", "high", "low_tie"] : List Str) ++ [Str.ofString "high_tie"]).zip (([b1, b2, b3, b4, b5] : List V) ++ [b6]))) = G6 from hG6]
    refine q [b1, b2, b3, b4, b5, b6] G6 k6 rfl hg6 fun i v b e1 e2 => ?_
    match i with
    | 0 =>
      cases e1
      cases e2
      exact r1
    | 1 =>
      cases e1
      cases e2
      exact r2
    | 2 =>
      cases e1
      cases e2
      exact r3
    | 3 =>
      cases e1
      cases e2
      exact r4
    | 4 =>
      cases e1
      cases e2
      exact r5
    | 5 =>
      cases e1
      cases e2
      exact r6
    | i + 6 => cases e1
end

end Vf

set_option maxRecDepth 100000
set_option maxHeartbeats 8000000
namespace Vf
open PySem PySem.Spec PyProof.Rows L2
/-! ### the law's own ratios, in order -/
def rSub (a b : Rat) : Rat := a - b
theorem low_sub (a b : Rat) : low (a.num * b.den - b.num * a.den) ((a.den : Int) * b.den) = pq (a - b) := by
  have h := low_add a (-b)
  rw [Rat.neg_num, Rat.neg_den, Int.neg_mul, ← Int.sub_eq_add_neg, ← Rat.sub_eq_add_neg] at h
  exact h
theorem sr_neg' {q : Rat} (h : Sr q) : Sr (-q) := ⟨by rw [Rat.neg_num, Int.natAbs_neg]; exact h.1, by rw [Rat.neg_den]; exact h.2⟩
def spLess : Sp := fun vs H Q _ => ∃ (r1 r2 : Addr) (a b : Rat), vs = [.ref r1, .ref r2] ∧ TR H r1 a ∧ TR H r2 b ∧ Sr a ∧ Sr b ∧ Q (.bl (decide (a < b))) H
def spAbs : Sp := fun vs H Q _ => ∃ (r1 : Addr) (a : Rat), vs = [.ref r1] ∧ TR H r1 a ∧ ∀ (r : Addr) (H' : Hp), Same H H' → H r = none → TR H' r (absQ a) → Q (.ref r) H'
/-- the least of some -/
def minOf : List Rat → Rat
  | [] => 0
  | x :: l => l.foldl (fun b y => if y < b then y else b) x
theorem minOf_snoc {l : List Rat} (h : l ≠ []) (y : Rat) : minOf (l ++ [y]) = if y < minOf l then y else minOf l := by
  cases l with
  | nil => exact absurd rfl h
  | cons x l =>
    show (l ++ [y]).foldl _ x = _
    rw [List.foldl_append]
    rfl
theorem take_cf {qs : List Rat} {i : Nat} (h : i < qs.length) : qs.take (i + 1) = qs.take i ++ [cf qs i] := by
  rw [List.take_succ, List.getElem?_eq_getElem h, cf_lt h]
  rfl
theorem minOf_mem : ∀ {l : List Rat}, l ≠ [] → minOf l ∈ l
  | [], h => absurd rfl h
  | x :: l, _ => by
    have key : ∀ (l : List Rat) (b : Rat), l.foldl (fun b y => if y < b then y else b) b = b ∨ l.foldl (fun b y => if y < b then y else b) b ∈ l := fun l => by
      induction l with
      | nil => exact fun b => .inl rfl
      | cons y l ih =>
        intro b
        rw [List.foldl_cons]
        by_cases h : y < b
        · rw [if_pos h]
          rcases ih y with z | z
          · rw [z]; exact .inr (List.mem_cons_self ..)
          · exact .inr (List.mem_cons_of_mem _ z)
        · rw [if_neg h]
          rcases ih b with z | z
          · exact .inl z
          · exact .inr (List.mem_cons_of_mem _ z)
    show l.foldl _ x ∈ _
    rcases key l x with z | z
    · rw [z]; exact List.mem_cons_self ..
    · exact List.mem_cons_of_mem _ z
theorem sr_mem {qs : List Rat} (h : ∀ i, Sr (cf qs i)) {q : Rat} (hq : q ∈ qs) : Sr q := by
  obtain ⟨i, hi, e⟩ := List.mem_iff_getElem.mp hq
  have := h i
  rw [cf_lt hi, e] at this
  exact this
def spMin (K : PySem.W.Frag) : Sp := fun vs H Q _ => ∃ (l : Addr) (qs : List Rat), vs = [.ref l] ∧ RL H l qs ∧ qs ≠ [] ∧ qs.length ≤ 1000 ∧ (∀ i, Sr (cf qs i)) ∧ ∀ (r : Addr) (H' : Hp), Same H H' → TR H' r (minOf qs) → Q (.ref r) H'
section
variable {P : Program} {w : World} {K : PySem.W.Frag} {mg : Str → Option Value} {base : Heap} {CN : Addr}
abbrev sLMinus : Stmt := topS 51
theorem scLMinus : FnScope ["_law_one", "_law_two"] ["_law_one", "_law_two"] (defScope sLMinus) := ⟨rfl, rfl, rfl, by decide +kernel, rfl, by decide +kernel, by decide +kernel⟩
theorem ok_lminus {f : Addr} {fd : FuncData} (F : Fun K "_law_minus" "_law_minus" sLMinus f fd) (G__law_q : Df P w K mg base "_law_q" 2 ["_law_top", "_law_bottom"] spQ) : FnOk P w K mg base CX0 3 f fd ["_law_one", "_law_two"] (spL2 rSub) := by
  refine F.ok scLMinus (fun vs H Q E h => ?_) (fun cdv A outer s H vs Q E hr h => ?_)
  · obtain ⟨r1, r2, a, b, rfl, _⟩ := h
    rfl
  · obtain ⟨r1, r2, a, b, rfl, h1, h2, za, zb, q⟩ := h
    refine ⟨_, (pss_one (ps_ret (pe_call G__law_q.ok (hr.mono (by decide)) rfl G__law_q.m G__law_q.kp G__law_q.b .nil pass0 (pa_cons (pe_op op_sub (pe_op op_mulW (pe_ix ix_tup (pv 0) pe_int (fun _ _ => rfl)) (pe_ix ix_tup (pv 1) pe_int (fun _ _ => rfl))) (pe_op op_mulW (pe_ix ix_tup (pv 1) pe_int (fun _ _ => rfl)) (pe_ix ix_tup (pv 0) pe_int (fun _ _ => rfl)))) (pa_cons (pe_op op_mulW (pe_ix ix_tup (pv 0) pe_int (fun _ _ => rfl)) (pe_ix ix_tup (pv 1) pe_int (fun _ _ => rfl))) pa_nil))))), ?_⟩
    obtain ⟨s1, s2, s3⟩ := sr_sum za (sr_neg' zb)
    rw [Rat.neg_num, Rat.neg_den, Int.neg_mul, ← Int.sub_eq_add_neg] at s1
    rw [Rat.neg_den] at s2
    refine ⟨_, rfl, r1, _, _, .int a.num, rfl, rfl, SqT.of h1, at_of (j := 0) rfl rfl, _, rfl, r2, _, _, .int b.den, rfl, rfl, SqT.of h2, at_of (j := 1) rfl rfl, _, _, rfl, rfl, big_mulW za.n zb.d, ?_⟩
    refine ⟨_, rfl, r2, _, _, .int b.num, rfl, rfl, SqT.of h2, at_of (j := 0) rfl rfl, _, rfl, r1, _, _, .int a.den, rfl, rfl, SqT.of h1, at_of (j := 1) rfl rfl, _, _, rfl, rfl, big_mulW zb.n za.d, ?_⟩
    refine ⟨_, _, rfl, rfl, ?_⟩
    refine ⟨_, rfl, r1, _, _, .int a.den, rfl, rfl, SqT.of h1, at_of (j := 1) rfl rfl, _, rfl, r2, _, _, .int b.den, rfl, rfl, SqT.of h2, at_of (j := 1) rfl rfl, _, _, rfl, rfl, big_mulW za.d zb.d, ?_⟩
    refine ⟨_, _, rfl, den_ne a b, s1, s2, fun r H' ss nr er => ?_⟩
    rw [low_sub] at er
    exact q r H' ss nr er
abbrev sLLess : Stmt := topS 53
theorem scLLess : FnScope ["_law_one", "_law_two"] ["_law_one", "_law_two"] (defScope sLLess) := ⟨rfl, rfl, rfl, by decide +kernel, rfl, by decide +kernel, by decide +kernel⟩
theorem ok_lless {f : Addr} {fd : FuncData} (F : Fun K "_law_less" "_law_less" sLLess f fd) : FnOk P w K mg base CX0 1 f fd ["_law_one", "_law_two"] spLess := by
  refine F.ok scLLess (fun vs H Q E h => ?_) (fun cdv A outer s H vs Q E hr h => ?_)
  · obtain ⟨r1, r2, a, b, rfl, _⟩ := h
    rfl
  · obtain ⟨r1, r2, a, b, rfl, h1, h2, za, zb, q⟩ := h
    refine ⟨_, (pss_one (ps_ret (pe_cmpR op_lt (pe_op op_mulW (pe_ix ix_tup (pv 0) pe_int (fun _ _ => rfl)) (pe_ix ix_tup (pv 1) pe_int (fun _ _ => rfl))) (pe_op op_mulW (pe_ix ix_tup (pv 1) pe_int (fun _ _ => rfl)) (pe_ix ix_tup (pv 0) pe_int (fun _ _ => rfl))) (nomark _)))), ?_⟩
    refine ⟨_, rfl, r1, _, _, .int a.num, rfl, rfl, SqT.of h1, at_of (j := 0) rfl rfl, _, rfl, r2, _, _, .int b.den, rfl, rfl, SqT.of h2, at_of (j := 1) rfl rfl, _, _, rfl, rfl, big_mulW za.n zb.d, ?_⟩
    refine ⟨_, rfl, r2, _, _, .int b.num, rfl, rfl, SqT.of h2, at_of (j := 0) rfl rfl, _, rfl, r1, _, _, .int a.den, rfl, rfl, SqT.of h1, at_of (j := 1) rfl rfl, _, _, rfl, rfl, big_mulW zb.n za.d, ?_⟩
    refine ⟨_, _, rfl, rfl, ?_⟩
    have e : decide (a < b) = decide (a.num * (b.den : Int) < b.num * (a.den : Int)) := by
      rw [decide_eq_decide]
      exact (lt_cross (by rw [Rat.intCast_natCast]; exact num_den a) (by rw [Rat.intCast_natCast]; exact num_den b) (by have := a.den_pos; omega) (by have := b.den_pos; omega)).symm
    rw [e] at q
    exact q
abbrev sLAbs : Stmt := topS 54
theorem scLAbs : FnScope ["_law_one"] ["_law_one"] (defScope sLAbs) := ⟨rfl, rfl, rfl, by decide +kernel, rfl, by decide +kernel, by decide +kernel⟩
theorem ok_labs {f : Addr} {fd : FuncData} (F : Fun K "_law_abs" "_law_abs" sLAbs f fd) (T : Bk mg) : FnOk P w K mg base CX0 1 f fd ["_law_one"] spAbs := by
  refine F.ok scLAbs (fun vs H Q E h => ?_) (fun cdv A outer s H vs Q E hr h => ?_)
  · obtain ⟨r1, a, rfl, _⟩ := h
    rfl
  · obtain ⟨r1, a, rfl, h1, q⟩ := h
    refine ⟨_, (pss_one (ps_ret (pe_tup (pa_cons (pe_callB call_abs (by rfl) T.abs (by decide +kernel) (pa_cons (pe_ix ix_tup (pv 0) pe_int (fun _ _ => rfl)) pa_nil)) (pa_cons (pe_ix ix_tup (pv 0) pe_int (fun _ _ => rfl)) pa_nil))))), ?_⟩
    refine ⟨_, rfl, r1, _, _, .int a.num, rfl, rfl, SqT.of h1, at_of (j := 0) rfl rfl, _, rfl, ?_⟩
    rw [if_abs]
    refine ⟨_, rfl, r1, _, _, .int a.den, rfl, rfl, SqT.of h1, at_of (j := 1) rfl rfl, (by show 2 ≤ sizeLine; decide), fun t nt => ?_⟩
    refine q t _ (same_upd nt) nt ?_
    unfold TR
    rw [upd_same]
    have := absQ_pq a
    rw [show (absQ a).num = ((a.num.natAbs : Nat) : Int) from congrArg Prod.fst this, show (((absQ a).den : Nat) : Int) = (a.den : Int) from congrArg Prod.snd this]
abbrev sLMin : Stmt := topS 57
theorem scLMin : FnScope ["_law_some", "_law_best", "_law_one"] ["_law_some"] (defScope sLMin) := ⟨rfl, rfl, rfl, by decide +kernel, rfl, by decide +kernel, by decide +kernel⟩
theorem ok_lmin {f : Addr} {fd : FuncData} (F : Fun K "_law_lower_one" "_law_lower_one" sLMin f fd) (G__law_less : Df P w K mg base "_law_less" 1 ["_law_one", "_law_two"] spLess) : FnOk P w K mg base CX0 2 f fd ["_law_some"] (spMin K) := by
  refine F.ok scLMin (fun vs H Q E h => ?_) (fun cdv A outer s H vs Q E hr h => ?_)
  · obtain ⟨l, qs, rfl, _⟩ := h
    rfl
  · obtain ⟨l, qs, rfl, ⟨as, e1, t1⟩, hne, hz, sr, q⟩ := h
    refine ⟨_, (pss_cons (ps_set (i := 1) scLMin.nd rfl (Or.inl rfl) (pe_ix (r := rIxL K) ix_list (pv 0) pe_int (fun _ _ => rfl)))
  (pss_cons (ps_for PassesOwn.never rfl (pi_list (pe_slice sl_list (pv 0) (po_some pe_int) po_none)) (pg_name (i := 2) scLMin.nd rfl (Or.inl rfl))
    (pss_one (ps_set (i := 1) scLMin.nd rfl (Or.inl rfl) (pe_ifExp (pt_val (pe_call G__law_less.ok (hr.mono (by decide)) rfl G__law_less.m G__law_less.kp G__law_less.b .nil pass0 (pa_cons (pv 2) (pa_cons (pv 1) pa_nil)))) (pv 2) (pv 1)))))
  (pss_one (ps_ret (pv 1))))), ?_⟩
    have n1 := t1.lenQ
    have h0 : 0 < qs.length := List.length_pos_iff.mpr hne
    obtain ⟨r0, g0, er0⟩ := t1.getQ h0
    refine ⟨_, rfl, l, _, 0, .ref r0, rfl, rfl, SqL.of e1, at_of (j := 0) rfl (by rw [List.getElem?_map, g0]; rfl), ?_⟩
    refine ⟨_, rfl, _, rfl, l, _, rfl, SqL.of e1, fun lb nb => ?_⟩
    have eb : upd H lb (HO.lst (cutV (as.map V.ref) (some 1) none)) lb = some (HO.lst (cutV (as.map V.ref) (some 1) none)) := upd_same
    have s1 : Same H (upd H lb (HO.lst (cutV (as.map V.ref) (some 1) none))) := same_upd nb
    generalize upd H lb (HO.lst (cutV (as.map V.ref) (some 1) none)) = H1 at eb s1 ⊢
    rw [cut1, ← List.map_drop] at eb
    refine ⟨lb, rfl, ⟨_, SqL.of eb⟩, for_list (K := K) (a := lb) (xs := (as.drop 1).map V.ref) (fun i σ H' => ∃ (rb : Addr) (v : Option V), σ = [some (.ref l), some (.ref rb), v] ∧ Same H1 H' ∧ TR H' rb (minOf (qs.take (i + 1))))
      ⟨r0, none, rfl, Same.refl _, ?_⟩ (fun i σ H' _ ⟨_, _, _, ss, _⟩ => SqL.of (ss _ _ eb)) ?_ ?_⟩
    · rw [take_cf h0]
      exact er0.same s1
    · rintro i x σ H' hi ⟨rb, v, rfl, ss, hb⟩
      have il : i + 1 < qs.length := by
        have := (List.getElem?_eq_some_iff.mp hi).1
        rw [List.length_map, List.length_drop] at this
        omega
      obtain ⟨rx, gx, ex⟩ := t1.getQ il
      rw [List.getElem?_map, List.getElem?_drop, Nat.add_comm, gx] at hi
      cases hi
      have ex := (ex.same s1).same ss
      have ne : qs.take (i + 1) ≠ [] := fun z => by
        have := congrArg List.length z
        rw [List.length_take] at this
        have this : min (i + 1) qs.length = 0 := this
        omega
      have hm := minOf_snoc ne (cf qs (i + 1))
      rw [← take_cf il] at hm
      refine ⟨_, rfl, _, rfl, rx, rb, cf qs (i + 1), minOf (qs.take (i + 1)), rfl, ex, hb, sr _, sr_mem sr (List.mem_of_mem_take (minOf_mem ne)), _, rfl, ?_⟩
      by_cases hc : cf qs (i + 1) < minOf (qs.take (i + 1))
      · rw [decide_eq_true hc]
        refine iteT ?_
        refine ⟨_, rfl, rx, _, rfl, ss, ?_⟩
        rw [hm, if_pos hc]
        exact ex
      · rw [decide_eq_false hc]
        refine iteF ?_
        refine ⟨_, rfl, rb, _, rfl, ss, ?_⟩
        rw [hm, if_neg hc]
        exact hb
    · rintro σ H' ⟨rb, v, rfl, ss, hb⟩
      refine ⟨_, rfl, q rb H' (s1.trans ss) ?_⟩
      rw [List.length_map, List.length_drop, show as.length - 1 + 1 = qs.length by omega, List.take_length] at hb
      exact hb
end

end Vf

set_option maxRecDepth 100000
set_option maxHeartbeats 8000000
namespace Vf
open PySem PySem.Spec PyProof.Rows L2
/-! ### ratios in order -/
def AscQ (l : List Rat) : Prop := ∀ i, i + 1 < l.length → cf l i < cf l (i + 1)
def spSort (K : PySem.W.Frag) : Sp := fun vs H Q _ => ∃ (l : Addr) (qs : List Rat), vs = [.ref l] ∧ RL H l qs ∧ qs ≠ [] ∧ qs.length ≤ 1000 ∧ (∀ i, Sr (cf qs i)) ∧
  ∀ (l' : Addr) (rs : List Rat) (H' : Hp), Same H H' → RL H' l' rs → rs ≠ [] → rs.length ≤ qs.length → (∀ q ∈ rs, q ∈ qs) → AscQ rs → Q (.ref l') H'
theorem minOf_le : ∀ {l : List Rat} {y : Rat}, y ∈ l → minOf l ≤ y
  | [], _, h => by cases h
  | x :: l, y, h => by
    have key : ∀ (l : List Rat) (b : Rat), l.foldl (fun b y => if y < b then y else b) b ≤ b ∧ ∀ y ∈ l, l.foldl (fun b y => if y < b then y else b) b ≤ y := fun l => by
      induction l with
      | nil => exact fun b => ⟨by grind, fun y h => by cases h⟩
      | cons z l ih =>
        intro b
        rw [List.foldl_cons]
        by_cases h : z < b
        · rw [if_pos h]
          obtain ⟨h1, h2⟩ := ih z
          refine ⟨by grind, fun y hy => ?_⟩
          rcases List.mem_cons.mp hy with e | e
          · rw [e]; exact h1
          · exact h2 y e
        · rw [if_neg h]
          obtain ⟨h1, h2⟩ := ih b
          refine ⟨h1, fun y hy => ?_⟩
          rcases List.mem_cons.mp hy with e | e
          · rw [e]; grind
          · exact h2 y e
    obtain ⟨h1, h2⟩ := key l x
    show l.foldl _ x ≤ y
    rcases List.mem_cons.mp h with e | e
    · rw [e]; exact h1
    · exact h2 y e
theorem AscQ.snoc {l : List Rat} {y : Rat} (h : AscQ l) (hy : ∀ q ∈ l, q < y) : AscQ (l ++ [y]) := fun i hi => by
  rw [List.length_append, List.length_singleton] at hi
  rw [cf_app, if_pos (by omega), cf_app]
  by_cases e : i + 1 < l.length
  · rw [if_pos e]
    exact h i e
  · rw [if_neg e, show i + 1 - l.length = 0 by omega]
    show cf l i < y
    rw [cf_lt (show i < l.length by omega)]
    exact hy _ (List.getElem_mem _)
theorem plain_pair (p : Int × Int) : (pairD p).plain = true := by rfl
theorem depth_pair (p : Int × Int) : (pairD p).depth ≤ 60 := by
  unfold pairD
  simp [PyData.depth, PyData.depthAll]
theorem cf_mem {l : List Rat} {i : Nat} (h : i < l.length) : cf l i ∈ l := by
  rw [cf_lt h]
  exact List.getElem_mem _
theorem len_filter_take (L : List Rat) (m : Rat) (j : Nat) : ((L.take j).filter (fun q => decide (q ≠ m))).length ≤ L.length := by
  have h1 := List.length_filter_le (fun q => decide (q ≠ m)) (L.take j)
  rw [List.length_take] at h1
  omega
theorem filter_lt {L : List Rat} {m : Rat} (h : m ∈ L) : (L.filter (fun q => decide (q ≠ m))).length < L.length := by
  induction L with
  | nil => cases h
  | cons x l ih =>
    rw [List.filter_cons]
    by_cases e : x = m
    · rw [if_neg (by simp [e])]
      have := List.length_filter_le (fun q => decide (q ≠ m)) l
      rw [List.length_cons]
      omega
    · rw [if_pos (by simp [e])]
      have := ih ((List.mem_cons.mp h).resolve_left (fun z => e z.symm))
      rw [List.length_cons, List.length_cons]
      omega
section
variable {P : Program} {w : World} {K : PySem.W.Frag} {mg : Str → Option Value} {base : Heap} {CN : Addr}
abbrev sSort : Stmt := topS 58
theorem scSort : FnScope ["_law_some", "_law_left", "_law_found", "_law_lap", "_law_one", "_law_other"] ["_law_some"] (defScope sSort) := ⟨rfl, rfl, rfl, by decide +kernel, rfl, by decide +kernel, by decide +kernel⟩
theorem ok_sort {f : Addr} {fd : FuncData} (F : Fun K "_law_sorted" "_law_sorted" sSort f fd) (T : Bk mg) (hm1 : M1 base) (G__law_lower_one : Df P w K mg base "_law_lower_one" 2 ["_law_some"] (spMin K)) : FnOk P w K mg base CX0 3 f fd ["_law_some"] (spSort K) := by
  refine F.ok scSort (fun vs H Q E h => ?_) (fun cdv A outer s H vs Q E hr h => ?_)
  · obtain ⟨l, qs, rfl, _⟩ := h
    rfl
  · obtain ⟨l, qs, rfl, ⟨as, e1, t1⟩, hne, hz, sr, q⟩ := h
    refine ⟨_, (pss_cons (ps_par (i := 1) (j := 2) (by rfl) scSort.nd rfl rfl (by decide) rfl rfl (pa_cons (pe_callTy call_list_of (by rfl) T.list (by decide +kernel) (pa_cons (pv 0) pa_nil)) (pa_cons (pe_lst pa_nil) pa_nil)) (by rfl))
  (pss_cons (ps_for PassesOwn.never rfl (pi_range1 (by rfl) T.range (pa_cons (pe_callB call_len_seq (by rfl) T.len (by decide +kernel) (pa_cons (pv 0) pa_nil)) pa_nil)) (pg_name (i := 3) scSort.nd rfl (Or.inl rfl))
    (pss_cons (ps_if (pt_cmpR (op_eqT hr.units hm1) (pv 1) (pe_lst pa_nil) (nomark _))
      (pss_one ps_break)
      pss_nil)
    (pss_cons (ps_set (i := 4) scSort.nd rfl (Or.inr rfl) (pe_call G__law_lower_one.ok (hr.mono (by decide)) rfl G__law_lower_one.m G__law_lower_one.kp G__law_lower_one.b .nil pass0 (pa_cons (pv 1) pa_nil)))
    (pss_cons (ps_setLc (i := 1) (own := [("_law_other", 5)]) (g := (gName 5)) (tt := _) rfl scSort.nd rfl rfl (sw_true rfl rfl rfl (by decide +kernel)) (pi_seq (pv 1)) (blkOk_by (N := ["_law_some", "_law_left", "_law_found", "_law_lap", "_law_one", "_law_other"]) (sc := defScope sSort) (by decide +kernel)) (fun _ _ _ _ _ => pg_name (i := 5) scSort.nd rfl (Or.inl rfl)) (fun _ _ _ _ _ => pts_one (pt_cmpR (show OpR _ _ (rNeT K) from op_neT hr.units hm1) (pv 5) (pv 4) (nomark _))) (fun _ _ _ _ _ => (pv 5)))
    (pss_one (ps_expr (pe_bm PySem.F.plainAttrs_list PySem.F.slot_list_append PySem.F.type_list_append mt_append (pv 2) (pa_cons (pv 4) pa_nil))))))))
  (pss_one (ps_ret (pv 2))))), ?_⟩
    have n1 := t1.lenQ
    have h0 : 0 < qs.length := List.length_pos_iff.mpr hne
    refine ⟨_, rfl, l, _, rfl, .inl (SqL.of e1), fun ll0 nl0 => ?_⟩
    have el : upd H ll0 (HO.lst (as.map V.ref)) ll0 = some (HO.lst (as.map V.ref)) := upd_same
    have s1 : Same H (upd H ll0 (HO.lst (as.map V.ref))) := same_upd nl0
    generalize upd H ll0 (HO.lst (as.map V.ref)) = H1 at el s1 ⊢
    refine ⟨(by show 0 ≤ sizeLine; decide), fun lf nf => ?_⟩
    have ef : upd H1 lf (HO.lst []) lf = some (HO.lst []) := upd_same
    have s2 : Same H1 (upd H1 lf (HO.lst [])) := same_upd nf
    have nfH : H lf = none := s1.free nf
    generalize upd H1 lf (HO.lst []) = H2 at ef s2 ⊢
    have lfl : ll0 ≠ lf := ne_of_none el nf
    refine ⟨_, _, rfl, _, rfl, l, _, rfl, .inl (SqL.of ((s1.trans s2) _ _ e1)), _, rfl, by omega, by rw [List.length_map]; omega, for_range (lo := 0) (n := (((as.map V.ref).length : Nat) : Int).toNat)
      (fun i σ H' => ∃ (ll : Addr) (L F : List Rat) (v3 v4 v5 : Option V), σ = [some (.ref l), some (.ref ll), some (.ref lf), v3, v4, v5] ∧ Same H H' ∧ ll ≠ lf ∧ RL H' ll L ∧ RL H' lf F ∧ (∀ q ∈ F, q ∈ qs) ∧ (∀ q ∈ L, q ∈ qs) ∧ AscQ F ∧ (∀ f ∈ F, ∀ y ∈ L, f < y) ∧ F.length + L.length ≤ qs.length ∧ (F ≠ [] ∨ L ≠ []) ∧ (1 ≤ i → F ≠ []))
      ⟨ll0, qs, [], none, none, none, rfl, s1.trans s2, lfl, ⟨as, s2 _ _ el, t1.same (s1.trans s2)⟩, ⟨[], ef, .nil⟩, (fun q h => by cases h), (fun q h => h), (fun i h => by simp at h), (fun f h => by cases h), by simp, .inr hne, by omega⟩ ?_ ?_⟩
    · rintro i σ H3 hi ⟨ll, L, F, v3, v4, v5, rfl, s3, lne, hL, hF, mF, mL, aF, lt, len, some_, many⟩
      obtain ⟨bs, eL, tL⟩ := hL
      obtain ⟨cs, eF, tF⟩ := hF
      have nL := tL.lenQ
      refine ⟨_, rfl, (by show 0 ≤ sizeLine; decide), fun l0 n0 => ?_⟩
      have s4 : Same H3 (upd H3 l0 (HO.lst [])) := same_upd n0
      have e0 : upd H3 l0 (HO.lst []) l0 = some (HO.lst []) := upd_same
      generalize upd H3 l0 (HO.lst []) = H4 at s4 e0 ⊢
      refine ⟨.list ((L.map pq).map pairD), .list (([] : List (Int × Int)).map pairD), .lst (SqL.of (s4 _ _ eL)) (tL.same s4).dts, .lst (SqL.of e0) .nil, (plain_row _).2, (plain_row _).2, (depth_row _).2, _, rfl, ?_⟩
      rw [eqv_rowL]
      have s34 := s3.trans s4
      by_cases hE : L = []
      · subst hE
        rw [show decide (List.map pq ([] : List Rat) = []) = true from rfl]
        refine iteT ?_
        refine ⟨_, rfl, q lf F H4 s34 ⟨cs, s4 _ _ eF, tF.same s4⟩ (some_.resolve_right fun z => z rfl) (by simp at len; exact len) mF aF⟩
      · rw [decide_eq_false (fun z => hE (List.map_eq_nil_iff.mp z))]
        refine iteF ?_
        have L0 : 0 < L.length := List.length_pos_iff.mpr hE
        refine ⟨_, rfl, ll, L, rfl, ⟨bs, s4 _ _ eL, tL.same s4⟩, hE, by omega, (fun i => ?_), fun r H5 s5 er => ?_⟩
        · by_cases hi2 : i < L.length
          · exact sr_mem sr (mL _ (cf_mem hi2))
          · rw [cf_ge (by omega)]
            exact sr_zero
        have s45 := s4.trans s5
        have tL5 := tL.same s45
        have hm := minOf_mem hE
        have hle := fun y (h : y ∈ L) => minOf_le h
        generalize minOf L = m at *
        have eL5 := s45 _ _ eL
        refine ⟨_, rfl, ll, rfl, lc_seq (xs := bs.map V.ref) (.inl (SqL.of eL5)) (fun D i H6 => Same H5 H6 ∧ ∃ ds, H6 D = some (.lst (ds.map V.ref)) ∧ Tups H6 ds (((L.take i).filter (fun q => decide (q ≠ m))).map pq)) ?_ ?_ ?_ ?_⟩
        · intro D nD
          exact ⟨same_upd nD, [], upd_same, .nil⟩
        · intro D i H6 nD ⟨s6, _⟩
          exact ⟨same_sqL s6, same_sqT s6⟩
        · intro D j y H6 nD hy ⟨s6, ds, e6, t6⟩
          have jl : j < L.length := by
            have := (List.getElem?_eq_some_iff.mp hy).1
            rw [List.length_map] at this
            omega
          obtain ⟨ry, gy, ey⟩ := tL5.getQ jl
          rw [List.getElem?_map, gy] at hy
          cases hy
          have ey := s6 _ _ ey
          have er6 := s6 _ _ er
          refine ⟨rfl, ?_⟩
          refine ⟨_, rfl, _, rfl, pairD (pq (cf L j)), pairD (pq m), dt_pair ey, dt_pair er6, plain_pair _, plain_pair _, depth_pair _, _, rfl, ?_⟩
          rw [eqv_pair]
          have hm1' := len_filter_take L m j
          by_cases hc : cf L j = m
          · rw [decide_eq_true (by rw [hc])]
            refine iteF ?_
            refine ⟨s6, ds, e6, ?_⟩
            rw [take_cf jl, List.filter_append, show List.filter (fun q => decide (q ≠ m)) [cf L j] = [] from by rw [hc]; simp, List.append_nil]
            exact t6
          · rw [decide_eq_false (fun z => hc (pq_inj z))]
            refine iteT ?_
            refine ⟨_, rfl, _, e6, ?_, (fun b o e => ?_), ds ++ [ry], ?_, ?_⟩
            · have := t6.len
              rw [List.length_map] at this
              rw [List.length_map, sizeLine_eq]
              omega
            · rw [upd_ne (ne_of_none e nD)]
              exact s6 _ _ e
            · rw [upd_same, List.map_append]
              rfl
            · rw [take_cf jl, List.filter_append, show List.filter (fun q => decide (q ≠ m)) [cf L j] = [cf L j] from by simp [hc], List.map_append]
              have up : ∀ (a : Addr) (p : Int × Int), H6 a = some (.tup [.int p.1, .int p.2]) → upd H6 D (.lst (ds.map V.ref ++ [V.ref ry])) a = some (.tup [.int p.1, .int p.2]) := fun a p z => by
                rw [upd_ne (ne_of z e6 (by intro z; cases z))]
                exact z
              exact (t6.imp up).snoc (up _ (pq (cf L j)) ey)
        · intro D H6 nD ⟨s6, ds, e6, t6⟩
          rw [List.length_map, show bs.length = L.length by omega, List.take_length] at t6
          have eF6 := s6 _ _ (s45 _ _ eF)
          have Dlf : D ≠ lf := (ne_of_none (s45 _ _ eF) nD).symm
          have er6 := s6 _ _ er
          have s06 := s34.trans (s5.trans s6)
          refine ⟨_, rfl, .inl ⟨rfl, _, SqL.of eF6⟩, _, rfl, lf, _, .ref r, rfl, rfl, eF6, ?_, ?_⟩
          · have := tF.lenQ
            rw [List.length_map, sizeLine_eq]
            omega
          have up : ∀ (a : Addr) (p : Int × Int), H6 a = some (.tup [.int p.1, .int p.2]) → upd H6 lf (.lst (cs.map V.ref ++ [V.ref r])) a = some (.tup [.int p.1, .int p.2]) := fun a p z => by
            rw [upd_ne (ne_of z eF6 (by intro z; cases z))]
            exact z
          refine ⟨D, L.filter (fun q => decide (q ≠ m)), F ++ [m], _, _, _, rfl, fun b o e => ?_, Dlf, ⟨ds, by rw [upd_ne Dlf]; exact e6, t6.imp up⟩, ⟨cs ++ [r], by rw [upd_same, List.map_append]; rfl, ?_⟩, fun x hx => ?_, fun x hx => mL x (List.mem_filter.mp hx).1, aF.snoc fun x hx => lt x hx m hm, fun x hx y hy => ?_, ?_, .inl (by simp), fun _ => by simp⟩
          · rw [upd_ne (ne_of_none e nfH)]
            exact s06 _ _ e
          · rw [List.map_append]
            exact (((tF.same s45).same s6).imp up).snoc (up _ (pq m) er6)
          · rcases List.mem_append.mp hx with z | z
            · exact mF x z
            · rw [List.mem_singleton.mp z]
              exact mL m hm
          · have hy1 := (List.mem_filter.mp hy).1
            have hy2 : y ≠ m := by
              have := (List.mem_filter.mp hy).2
              exact of_decide_eq_true this
            rcases List.mem_append.mp hx with z | z
            · exact lt x z y hy1
            · rw [List.mem_singleton.mp z]
              have := hle y hy1
              grind
          · rw [List.length_append, List.length_singleton]
            have := filter_lt hm
            omega
    · rintro σ H3 ⟨ll, L, F, v3, v4, v5, rfl, s3, lne, hL, hF, mF, mL, aF, lt, len, some_, many⟩
      exact ⟨_, rfl, q lf F H3 s3 hF (many (by rw [List.length_map]; omega)) (by omega) mF aF⟩
end

end Vf

set_option maxRecDepth 100000
set_option maxHeartbeats 8000000
namespace Vf
open PySem PySem.Spec PyProof.Rows L2
/-! ### lists of ratios made with the pen -/
def PB (p lc : Addr) (B0 : Int) (k : Nat) (H1 : Hp) (D : Addr) (W : Rat → Prop) (i : Nat) (H' : Hp) : Prop :=
  Kp p H1 H' ∧ Pen H' p lc (B0 + k * i) ∧ ∃ (zs : List Addr) (qs : List Rat), H' D = some (.lst (zs.map V.ref)) ∧ Tups H' zs (qs.map pq) ∧ qs.length = i ∧ ∀ q ∈ qs, W q
theorem pb_zero {p lc D : Addr} {B0 : Int} {k : Nat} {H1 : Hp} {W : Rat → Prop} (hD : H1 D = none) (hP : Pen H1 p lc B0) : PB p lc B0 k H1 D W 0 (upd H1 D (.lst [])) :=
  ⟨Kp.of (same_upd hD), (hP.same (same_upd hD)).more (by omega), [], [], upd_same, .nil, rfl, fun q h => by cases h⟩
theorem pb_step {p lc D r : Addr} {B0 B2 : Int} {k i : Nat} {H1 H' H2 : Hp} {W : Rat → Prop} {q : Rat} (hD : H1 D = none) (hP1 : Pen H1 p lc B0) (h : PB p lc B0 k H1 D W i H') (hP2 : Pen H2 p lc B2) (hB : B2 ≤ B0 + k * (i + 1 : Nat)) (k2 : Kp p H' H2) (er : TR H2 r q) (hq : W q) (hi : i ≤ 1000) :
    ∃ acc, H2 D = some (.lst acc) ∧ acc.length < sizeLine ∧ PB p lc B0 k H1 D W (i + 1) (upd H2 D (.lst (acc ++ [.ref r]))) := by
  obtain ⟨kk, hP', zs, qs, eD, tz, lq, sq⟩ := h
  obtain ⟨d1, d2⟩ := hP1.ne_new hD
  have eD' := k2 _ _ d1 eD
  refine ⟨_, eD', ?_, ?_, (hP2.put upd_away d1 d2).more hB, zs ++ [r], qs ++ [q], ?_, ?_, by rw [List.length_append, lq]; rfl, fun x hx => ?_⟩
  · have := tz.lenQ
    rw [List.length_map, sizeLine_eq]
    omega
  · exact fun b o nb eb => by
      rw [upd_ne (ne_of_none eb hD)]
      exact k2 b o nb (kk b o nb eb)
  · rw [upd_same, List.map_append]
    rfl
  · have up : ∀ (c : Addr) (p : Int × Int), H2 c = some (.tup [.int p.1, .int p.2]) → upd H2 D (.lst (zs.map V.ref ++ [V.ref r])) c = some (.tup [.int p.1, .int p.2]) := fun c p z => by
      rw [upd_ne (ne_of z eD' (by intro z; cases z))]
      exact z
    exact Tups.snocQ ((tz.kp hP' k2).imp up) (up r (pq q) er)
  · rcases List.mem_append.mp hx with z | z
    · exact sq x z
    · rw [List.mem_singleton.mp z]
      exact hq
theorem smd_low {m t b : Int} {H : Hp} {r : Addr} (e2 : H r = some (.tup [.int t, .int b])) (lw : Low t b) (zt : (t.natAbs : Int) ≤ m * 99) (zb : b.natAbs ≤ 99) : ∃ q, TR H r q ∧ SmD m q := by
  obtain ⟨qq, eq⟩ := low_is_pq (p := (t, b)) lw
  have h1 : t = qq.num := congrArg Prod.fst eq
  have h2 : b = (qq.den : Int) := congrArg Prod.snd eq
  refine ⟨qq, ?_, by rw [← h1]; exact zt, ?_⟩
  · unfold TR
    rw [e2, h1, h2]
  · rw [h2, Int.natAbs_natCast] at zb
    exact zb
theorem smd_sr {m : Int} {q : Rat} (h : SmD m q) (hm : m ≤ 1000) : Sr q := by
  have lt : (2 : Nat) ^ 20 < 2 ^ 1900 := Nat.pow_lt_pow_right (by decide) (by decide)
  obtain ⟨h1, h2⟩ := h
  exact ⟨Nat.lt_trans (show q.num.natAbs < 2 ^ 20 by omega) lt, Nat.lt_trans (show q.den < 2 ^ 20 by omega) lt⟩
theorem sr_all {l : List Rat} (h : ∀ q ∈ l, Sr q) (i : Nat) : Sr (cf l i) := by
  by_cases hi : i < l.length
  · exact h _ (cf_mem hi)
  · rw [cf_ge (by omega)]
    exact sr_zero
theorem tr_int {H : Hp} {t : Addr} {n d : Int} {q : Rat} (e : H t = some (.tup [.int n, .int d])) (h : pq q = (n, d)) : TR H t q := by
  unfold TR
  rw [e, ← show (pq q).1 = n from congrArg Prod.fst h, ← show (pq q).2 = d from congrArg Prod.snd h]
  rfl
theorem absQ_smd {m : Int} {q : Rat} (h : SmD m q) : SmD m (absQ q) ∧ 0 ≤ absQ q := by
  have e := absQ_pq q
  have e1 : (absQ q).num = ((q.num.natAbs : Nat) : Int) := congrArg Prod.fst e
  have e2 : ((absQ q).den : Int) = (q.den : Int) := congrArg Prod.snd e
  obtain ⟨h1, h2⟩ := h
  refine ⟨⟨?_, by omega⟩, absQ_nonneg q⟩
  rw [e1, Int.natAbs_natCast]
  exact h1
def someK (l1 l2 l3 : Addr) : List (Key × V) := [(.inr "points", .ref l1), (.inr "numbers", .ref l2), (.inr "weights", .ref l3)]
theorem someM (l1 l2 l3 : Addr) : mergeK [] (someK l1 l2 l3) = someK l1 l2 l3 := by kernel_rfl
def spSome : Sp := fun vs H Q _ => ∃ (p lc : Addr) (B n m : Int), vs = [.ref p, .int n, .int m] ∧ Pen H p lc B ∧ B ≤ 1000000 ∧ 1 ≤ n ∧ n ≤ 20 ∧ 1 ≤ m ∧ m ≤ 1000 ∧
  ∀ (r l1 l2 l3 : Addr) (xs ys ws : List Rat) (H' : Hp), Pen H' p lc (B + 300) → Kp p H H' → H r = none → H' r = some (.dK (someK l1 l2 l3)) → RL H' l1 xs → RL H' l2 ys → RL H' l3 ws → xs ≠ [] → (xs.length : Int) ≤ n → ys.length = xs.length → ws.length = xs.length → AscQ xs →
    (∀ q ∈ xs, SmD m q) → (∀ q ∈ ys, SmD 9 q) → (∀ q ∈ ws, SmD 5 q ∧ 0 < q) → Q (.ref r) H'
section
variable {P : Program} {w : World} {K : PySem.W.Frag} {mg : Str → Option Value} {base : Heap} {CN : Addr}
abbrev sSome : Stmt := topS 63
theorem scSome : FnScope ["_law_pen_here", "_law_many", "_law_most", "_law_points", "_law_k", "_law_numbers", "_law_point", "_law_heavy", "_law_one"] ["_law_pen_here", "_law_many", "_law_most"] (defScope sSome) := ⟨rfl, rfl, rfl, by decide +kernel, rfl, by decide +kernel, by decide +kernel⟩
theorem ok_some {f : Addr} {fd : FuncData} (F : Fun K "_law_some_points" "_law_some_points" sSome f fd) (T : Bk mg) (G__law_draw : Df P w K mg base "_law_draw" 1 ["_law_pen_here", "_law_many"] spDraw) (G__law_pick : Df P w K mg base "_law_pick" 2 ["_law_pen_here", "_law_some"] spPick) (G__law_ratio : Df P w K mg base "_law_ratio" 3 ["_law_pen_here", "_law_most"] spRatio)
    (G__law_abs : Df P w K mg base "_law_abs" 1 ["_law_one"] spAbs) (G__law_sorted : Df P w K mg base "_law_sorted" 3 ["_law_some"] (spSort K)) : FnOk P w K mg base CX0 4 f fd ["_law_pen_here", "_law_many", "_law_most"] spSome := by
  refine F.ok scSome (fun vs H Q E h => ?_) (fun cdv A outer s H vs Q E hr h => ?_)
  · obtain ⟨p, lc, B, n, m, rfl, _⟩ := h
    rfl
  · obtain ⟨p, lc, B, n, m, rfl, hP, hB, n1, n20, m1, m1000, q⟩ := h
    refine ⟨_, (pss_cons (ps_set (i := 3) scSome.nd rfl (Or.inl rfl) (pe_call G__law_sorted.ok (hr.mono (by decide)) rfl G__law_sorted.m G__law_sorted.kp G__law_sorted.b .nil pass0 (pa_cons (pe_lc (own := [("_law_k", 4)]) (g := (gName 4)) (tt := tYes) rfl scSome.nd (pi_range1 (by rfl) T.range (pa_cons (pv 1) pa_nil)) (blkOk_by (N := ["_law_pen_here", "_law_many", "_law_most", "_law_points", "_law_k", "_law_numbers", "_law_point", "_law_heavy", "_law_one"]) (sc := defScope sSome) (by decide +kernel)) (fun _ _ _ _ _ => pg_name (i := 4) scSome.nd rfl (Or.inl rfl)) (fun _ _ _ _ _ => pts_nil) (fun _ _ _ _ _ => (pe_call G__law_ratio.ok (hr.mono (by decide)) rfl G__law_ratio.m G__law_ratio.kp G__law_ratio.b .nil pass0 (pa_cons (pv 0) (pa_cons (pv 2) pa_nil))))) pa_nil)))
  (pss_cons (ps_setLc (i := 5) (own := [("_law_point", 6)]) (g := (gName 6)) (tt := tYes) rfl scSome.nd rfl rfl (sw_true rfl rfl rfl (by decide +kernel)) (pi_seq (pv 3)) (blkOk_by (N := ["_law_pen_here", "_law_many", "_law_most", "_law_points", "_law_k", "_law_numbers", "_law_point", "_law_heavy", "_law_one"]) (sc := defScope sSome) (by decide +kernel)) (fun _ _ _ _ _ => pg_name (i := 6) scSome.nd rfl (Or.inl rfl)) (fun _ _ _ _ _ => pts_nil) (fun _ _ _ _ _ => (pe_call G__law_pick.ok (hr.mono (by decide)) rfl G__law_pick.m G__law_pick.kp G__law_pick.b .nil pass0 (pa_cons (pv 0) (pa_cons (pe_lst (pa_cons (pe_call G__law_ratio.ok (hr.mono (by decide)) rfl G__law_ratio.m G__law_ratio.kp G__law_ratio.b .nil pass0 (pa_cons (pv 0) (pa_cons pe_int pa_nil))) (pa_cons (pe_tup (pa_cons pe_int (pa_cons pe_int pa_nil))) (pa_cons (pe_tup (pa_cons pe_int (pa_cons pe_int pa_nil))) pa_nil)))) pa_nil)))))
  (pss_cons (ps_setLc (i := 7) (own := [("_law_point", 6)]) (g := (gName 6)) (tt := tYes) rfl scSome.nd rfl rfl (sw_true rfl rfl rfl (by decide +kernel)) (pi_seq (pv 3)) (blkOk_by (N := ["_law_pen_here", "_law_many", "_law_most", "_law_points", "_law_k", "_law_numbers", "_law_point", "_law_heavy", "_law_one"]) (sc := defScope sSome) (by decide +kernel)) (fun _ _ _ _ _ => pg_name (i := 6) scSome.nd rfl (Or.inl rfl)) (fun _ _ _ _ _ => pts_nil) (fun _ _ _ _ _ => (pe_call G__law_abs.ok (hr.mono (by decide)) rfl G__law_abs.m G__law_abs.kp G__law_abs.b .nil pass0 (pa_cons (pe_call G__law_pick.ok (hr.mono (by decide)) rfl G__law_pick.m G__law_pick.kp G__law_pick.b .nil pass0 (pa_cons (pv 0) (pa_cons (pe_lst (pa_cons (pe_call G__law_ratio.ok (hr.mono (by decide)) rfl G__law_ratio.m G__law_ratio.kp G__law_ratio.b .nil pass0 (pa_cons (pv 0) (pa_cons pe_int pa_nil))) (pa_cons (pe_tup (pa_cons pe_int (pa_cons pe_int pa_nil))) pa_nil))) pa_nil))) pa_nil))))
  (pss_cons (ps_setLc (i := 7) (own := [("_law_one", 8)]) (g := (gName 8)) (tt := tYes) rfl scSome.nd rfl rfl (sw_true rfl rfl rfl (by decide +kernel)) (pi_seq (pv 7)) (blkOk_by (N := ["_law_pen_here", "_law_many", "_law_most", "_law_points", "_law_k", "_law_numbers", "_law_point", "_law_heavy", "_law_one"]) (sc := defScope sSome) (by decide +kernel)) (fun _ _ _ _ _ => pg_name (i := 8) scSome.nd rfl (Or.inl rfl)) (fun _ _ _ _ _ => pts_nil) (fun _ _ _ _ _ => (pe_ifExp (pt_cmpR op_eq (pe_ix (r := rIxT K) ix_tup (pv 8) pe_int (fun _ _ => rfl)) pe_int (nomark _)) (pe_tup (pa_cons pe_int (pa_cons pe_int pa_nil))) (pv 8))))
  (pss_cons (ps_if (pt_cmpR op_eq (pe_call G__law_draw.ok (hr.mono (by decide)) rfl G__law_draw.m G__law_draw.kp G__law_draw.b .nil pass0 (pa_cons (pv 0) (pa_cons pe_int pa_nil))) pe_int (nomark _))
    (pss_one (ps_set (i := 7) scSome.nd rfl (Or.inl rfl) (pe_op op_rep (pe_lst (pa_cons (pe_tup (pa_cons pe_int (pa_cons pe_int pa_nil))) pa_nil)) (pe_callB call_len_seq (by rfl) T.len (by decide +kernel) (pa_cons (pv 3) pa_nil)))))
    pss_nil)
  (pss_one (ps_ret (pe_disp (pps_cons pe_str (pv 3) (pps_cons pe_str (pv 5) (pps_cons pe_str (pv 7) pps_nil))) (by rfl) (by rfl) (fun z => by cases z) (by decide))))))))), ?_⟩
    refine ⟨_, rfl, _, rfl, by omega, by omega, fun D hD => lc_range (lo := 0) (n := n.toNat) (fun i H' => PB p lc B 3 H D (SmD m) i H') (pb_zero hD hP) ?_ ?_⟩
    · rintro i H' hi pb
      refine ⟨rfl, ?_⟩
      refine ⟨_, rfl, _, rfl, p, lc, _, m, rfl, m1, by omega, pb.2.1, by omega, fun r t b H2 hP2 k2 e2 lw zt zb => ?_⟩
      obtain ⟨qq, er, hq⟩ := smd_low e2 lw zt zb
      exact pb_step hD hP pb hP2 (by omega) k2 er hq (by omega)
    rintro H1 ⟨k1, hP1, zs, qs, eD, tz, lq, sq⟩
    dsimp only [tNil]
    refine ⟨D, qs, rfl, ⟨zs, eD, tz⟩, (fun z => by rw [z] at lq; simp at lq; omega), by omega, sr_all fun q h => smd_sr (sq q h) m1000, fun l1 xs H2 s2 hx xne xl xm xa => ?_⟩
    have hP2 := hP1.same s2
    have k2 : Kp p H H2 := k1.trans (Kp.of s2)
    have bx : ∀ q ∈ xs, SmD m q := fun q h => sq q (xm q h)
    have xln : (xs.length : Int) ≤ n := by omega
    have l1p := hx.ne hP2
    obtain ⟨as1, el1, tx⟩ := hx
    have lx := tx.lenQ
    refine ⟨_, rfl, l1, rfl, lc_seq (xs := as1.map V.ref) (.inl (SqL.of el1)) (fun D i H' => PB p lc (B + 3 * 20) 4 H2 D (SmD 9) i H') (fun D hD => pb_zero hD (hP2.more (by omega))) (fun D i H' hD pb => seq_kp l1p pb.1) ?_ ?_⟩
    · intro D i x H' hD hi pb
      have hi20 : i ≤ 1000 := by
        have := (List.getElem?_eq_some_iff.mp hi).1
        rw [List.length_map] at this
        omega
      refine ⟨rfl, ?_⟩
      refine ⟨_, rfl, _, rfl, p, lc, _, 9, rfl, by decide, by decide, pb.2.1, by omega, fun r t b H4 hP4 k4 e4 lw zt zb => ?_⟩
      obtain ⟨qq, er, hq⟩ := smd_low e4 lw zt zb
      refine ⟨(by show 2 ≤ sizeLine; decide), fun t1 n1 => ?_⟩
      have f1 : upd H4 t1 (HO.tup [V.int 0, V.int 1]) t1 = some (HO.tup [V.int 0, V.int 1]) := upd_same
      have s5 : Same H4 (upd H4 t1 (HO.tup [V.int 0, V.int 1])) := same_upd n1
      generalize upd H4 t1 (HO.tup [V.int 0, V.int 1]) = H5 at f1 s5 ⊢
      refine ⟨(by show 2 ≤ sizeLine; decide), fun t2 n2 => ?_⟩
      have f2 : upd H5 t2 (HO.tup [V.int 1, V.int 1]) t2 = some (HO.tup [V.int 1, V.int 1]) := upd_same
      have s6 : Same H5 (upd H5 t2 (HO.tup [V.int 1, V.int 1])) := same_upd n2
      generalize upd H5 t2 (HO.tup [V.int 1, V.int 1]) = H6 at f2 s6 ⊢
      refine ⟨(by show 3 ≤ sizeLine; decide), fun lo nlo => ?_⟩
      have f3 : upd H6 lo (HO.lst [V.ref r, V.ref t1, V.ref t2]) lo = some (HO.lst [V.ref r, V.ref t1, V.ref t2]) := upd_same
      have s7 : Same H6 (upd H6 lo (HO.lst [V.ref r, V.ref t1, V.ref t2])) := same_upd nlo
      generalize hH7 : upd H6 lo (HO.lst [V.ref r, V.ref t1, V.ref t2]) = H7 at f3 s7 ⊢
      have s47 := s5.trans (s6.trans s7)
      have hP7 := hP4.same s47
      obtain ⟨lop, _⟩ := (hP4.same (s5.trans s6)).ne_new nlo
      refine ⟨p, lc, lo, _, _, rfl, hP7, by omega, f3, lop, (by show 0 < 3; decide), (by show 3 < 1000000; decide), fun x H8 hx hP8 k8 => ?_⟩
      have pick : ∃ r' q', x = .ref r' ∧ TR H7 r' q' ∧ SmD 9 q' := by
        simp only [List.mem_cons, List.not_mem_nil, or_false] at hx
        rcases hx with h | h | h
        · exact ⟨r, qq, h, s47 _ _ er, hq⟩
        · exact ⟨t1, 0, h, tr_int ((s6.trans s7) _ _ f1) rfl, by unfold SmD; decide⟩
        · exact ⟨t2, 1, h, tr_int (s7 _ _ f2) rfl, by unfold SmD; decide⟩
      obtain ⟨r', q', rfl, er', hq'⟩ := pick
      exact pb_step hD (hP2.more (by omega)) pb hP8 (by omega) (k4.trans ((Kp.of s47).trans k8)) (er'.kp hP7 k8) hq' hi20
    rintro l2 H3 nl2 ⟨k3, hP3, zs2, ys, el2, ty, ly, sy⟩
    have hx3 : SqL K H3 l1 (as1.map V.ref) := (seq_kp l1p k3).1 (SqL.of el1)
    have el13 : H3 l1 = some (.lst (as1.map V.ref)) := k3 _ _ l1p el1
    have hP3 := hP3.more (show _ ≤ B + 60 + 80 by rw [List.length_map]; omega)
    refine ⟨_, rfl, l1, rfl, lc_seq (xs := as1.map V.ref) (.inl hx3) (fun D i H' => PB p lc (B + 60 + 80) 4 H3 D (fun q => SmD 5 q ∧ 0 ≤ q) i H') (fun D hD => pb_zero hD hP3) (fun D i H' hD pb => seq_kp l1p pb.1) ?_ ?_⟩
    · intro D i x H' hD hi pb
      have hi20 : i < as1.length := by
        have := (List.getElem?_eq_some_iff.mp hi).1
        rw [List.length_map] at this
        omega
      refine ⟨rfl, ?_⟩
      refine ⟨_, rfl, _, rfl, p, lc, _, 5, rfl, by decide, by decide, pb.2.1, by omega, fun r t b H4 hP4 k4 e4 lw zt zb => ?_⟩
      obtain ⟨qq, er, hq⟩ := smd_low e4 lw zt zb
      refine ⟨(by show 2 ≤ sizeLine; decide), fun t2 n2 => ?_⟩
      have f2 : upd H4 t2 (HO.tup [V.int 1, V.int 1]) t2 = some (HO.tup [V.int 1, V.int 1]) := upd_same
      have s6 : Same H4 (upd H4 t2 (HO.tup [V.int 1, V.int 1])) := same_upd n2
      generalize upd H4 t2 (HO.tup [V.int 1, V.int 1]) = H6 at f2 s6 ⊢
      refine ⟨(by show 2 ≤ sizeLine; decide), fun lo nlo => ?_⟩
      have f3 : upd H6 lo (HO.lst [V.ref r, V.ref t2]) lo = some (HO.lst [V.ref r, V.ref t2]) := upd_same
      have s7 : Same H6 (upd H6 lo (HO.lst [V.ref r, V.ref t2])) := same_upd nlo
      generalize hH7 : upd H6 lo (HO.lst [V.ref r, V.ref t2]) = H7 at f3 s7 ⊢
      have s47 := s6.trans s7
      have hP7 := hP4.same s47
      obtain ⟨lop, _⟩ := (hP4.same s6).ne_new nlo
      refine ⟨p, lc, lo, _, _, rfl, hP7, by omega, f3, lop, (by show 0 < 2; decide), (by show 2 < 1000000; decide), fun x H8 hx hP8 k8 => ?_⟩
      have pick : ∃ r' q', x = .ref r' ∧ TR H7 r' q' ∧ SmD 5 q' := by
        simp only [List.mem_cons, List.not_mem_nil, or_false] at hx
        rcases hx with h | h
        · exact ⟨r, qq, h, s47 _ _ er, hq⟩
        · exact ⟨t2, 1, h, tr_int (s7 _ _ f2) rfl, by unfold SmD; decide⟩
      obtain ⟨r', q', rfl, er', hq'⟩ := pick
      refine ⟨r', q', rfl, er'.kp hP7 k8, fun ra H9 s9 nra era => ?_⟩
      exact pb_step hD hP3 pb (hP8.same s9) (by omega) (k4.trans ((Kp.of s47).trans (k8.trans (Kp.of s9)))) era (absQ_smd hq') (by omega)
    rintro l3 H4 nl3 ⟨k4, hP4, zs3, vs3, el3, tv, lv, sv⟩
    have hP4 := hP4.more (show _ ≤ B + 60 + 80 + 80 by rw [List.length_map]; omega)
    have hl20 : vs3.length ≤ 20 := by rw [lv, List.length_map]; omega
    have l3p := (hP3.ne_new nl3).1
    refine ⟨_, rfl, l3, rfl, lc_seq (xs := zs3.map V.ref) (.inl (SqL.of el3)) (fun D i H' => PB p lc (B + 60 + 80 + 80) 0 H4 D (fun q => SmD 5 q ∧ 0 < q) i H' ∧ Same H4 H') (fun D hD => ⟨pb_zero hD hP4, same_upd hD⟩) (fun D i H' hD pb => seq_kp l3p pb.1.1) ?_ ?_⟩
    · intro D i x H' hD hi ⟨pb, ss⟩
      have hil : i < vs3.length := by
        have := (List.getElem?_eq_some_iff.mp hi).1
        have := tv.lenQ
        rw [List.length_map] at *
        omega
      obtain ⟨rv, gv, ev⟩ := tv.getQ hil
      rw [List.getElem?_map, gv] at hi
      cases hi
      have ev := ss _ _ ev
      obtain ⟨h5, h0⟩ := sv _ (cf_mem hil)
      refine ⟨rfl, ?_⟩
      refine ⟨_, rfl, rv, _, _, .int _, rfl, rfl, SqT.of ev, at_of (j := 0) rfl rfl, rfl, _, rfl, ?_⟩
      rw [dec_int]
      have fin : ∀ {r : Addr} {H5 : Hp} {q' : Rat}, Same H' H5 → TR H5 r q' → SmD 5 q' ∧ 0 < q' → ∃ acc, H5 D = some (.lst acc) ∧ acc.length < sizeLine ∧ PB p lc (B + 60 + 80 + 80) 0 H4 D (fun q => SmD 5 q ∧ 0 < q) (i + 1) (upd H5 D (.lst (acc ++ [.ref r]))) ∧ Same H4 (upd H5 D (.lst (acc ++ [.ref r]))) := fun {r H5 q'} s5 er hq => by
        obtain ⟨acc, z1, z2, z3⟩ := pb_step (r := r) hD hP4 pb (pb.2.1.same s5) (by omega) (Kp.of s5) er hq (by omega)
        refine ⟨acc, z1, z2, z3, fun b o e => ?_⟩
        rw [upd_ne (ne_of_none e hD)]
        exact s5 _ _ (ss _ _ e)
      by_cases hz : (cf vs3 i).num = 0
      · rw [show ((cf vs3 i).num == 0) = true from beq_iff_eq.mpr hz]
        refine iteT ?_
        refine ⟨(by show 2 ≤ sizeLine; decide), fun t1 n1 => ?_⟩
        exact fin (same_upd n1) (q' := 1 / 3) (tr_int upd_same (by decide +kernel)) ⟨by unfold SmD; decide +kernel, by decide +kernel⟩
      · rw [show ((cf vs3 i).num == 0) = false from beq_false_of_ne hz]
        refine iteF ?_
        refine ⟨_, rfl, fin (Same.refl _) ev ⟨h5, ?_⟩⟩
        by_cases z : 0 < cf vs3 i
        · exact z
        · exact absurd (Rat.num_eq_zero.mpr (show cf vs3 i = 0 by grind)) hz
    rintro l4 H5 nl4 ⟨⟨k5, hP5, zs4, ws, el4, tw, lw, sw⟩, s45⟩
    have wl : ws.length = xs.length := by rw [lw, List.length_map, tv.lenQ, lv, List.length_map]; omega
    have yl : ys.length = xs.length := by rw [ly, List.length_map]; omega
    have hx5 : RL H5 l1 xs := ((RL.kp (RL.kp ⟨as1, el1, tx⟩ hP2 k3) hP3 k4) : RL H4 l1 xs).same s45
    have hy3 : RL H3 l2 ys := ⟨zs2, el2, ty⟩
    have hy5 : RL H5 l2 ys := (hy3.kp hP3 k4).same s45
    have hw5 : RL H5 l4 ws := ⟨zs4, el4, tw⟩
    have k05 : Kp p H H5 := k2.trans (k3.trans (k4.trans k5))
    refine ⟨_, rfl, p, lc, _, 2, rfl, hP5, by omega, by decide, by decide, fun z H6 z0 z1 hP6 k6 => ?_⟩
    have hx6 := hx5.kp hP5 k6
    have hy6 := hy5.kp hP5 k6
    have hw6 := hw5.kp hP5 k6
    have k06 := k05.trans k6
    have fin : ∀ (l5 : Addr) (us : List Rat) (H7 : Hp), Same H6 H7 → RL H7 l5 us → us.length = xs.length → (∀ q ∈ us, SmD 5 q ∧ 0 < q) → tRet (tDisp [(tC (V.str "points"), tVar 3), (tC (V.str "numbers"), tVar 5), (tC (V.str "weights"), tVar 7)]) { nx := fun _ H' => Q V.non H', rt := Q } ((((L2.start ["_law_pen_here", "_law_many", "_law_most", "_law_points", "_law_k", "_law_numbers", "_law_point", "_law_heavy", "_law_one"] [V.ref p, V.int n, V.int m]).set 3 (some (V.ref l1))).set 5 (some (V.ref l2))).set 7 (some (V.ref l5))) H7 := fun l5 us H7 s7 hu ul su => by
      intro pd npd
      refine ⟨_, rfl, _, rfl, _, rfl, upd_same, someK l1 l2 l5, rfl, (by show 3 ≤ 15; decide), ?_⟩
      rw [someM]
      have up : Same H7 (upd (upd H7 pd (.dK [])) pd (.dK (someK l1 l2 l5))) := fun b o e => by
        have := ne_of_none e npd
        rw [upd_ne this, upd_ne this]
        exact e
      have n0 : H pd = none := by
        cases e : H pd with
        | none => rfl
        | some o =>
          have pp : pd ≠ p := by
            obtain ⟨o2, e2⟩ := (hP6.same s7).there
            exact (ne_of_none e2 npd).symm
          have := s7 _ _ (k06 _ _ pp e)
          rw [npd] at this
          cases this
      refine q pd l1 l2 l5 xs ys us _ ((hP6.same (s7.trans up)).more (by omega)) (k06.trans ((Kp.of s7).trans (Kp.of up))) n0 upd_same ((hx6.same s7).same up) ((hy6.same s7).same up) (hu.same up) xne xln yl ul xa bx sy su
    refine ⟨rfl, _, rfl, ?_⟩
    rw [dec_int]
    by_cases hz : z = 0
    · rw [show (z == 0) = true from beq_iff_eq.mpr hz]
      refine iteT ?_
      refine ⟨(by show 2 ≤ sizeLine; decide), fun t1 n1 => ?_⟩
      have f1 : upd H6 t1 (HO.tup [V.int 1, V.int 1]) t1 = some (HO.tup [V.int 1, V.int 1]) := upd_same
      have s7 : Same H6 (upd H6 t1 (HO.tup [V.int 1, V.int 1])) := same_upd n1
      generalize upd H6 t1 (HO.tup [V.int 1, V.int 1]) = H7 at f1 s7 ⊢
      refine ⟨(by show 1 ≤ sizeLine; decide), fun lo nlo => ?_⟩
      have f2 : upd H7 lo (HO.lst [V.ref t1]) lo = some (HO.lst [V.ref t1]) := upd_same
      have s8 : Same H7 (upd H7 lo (HO.lst [V.ref t1])) := same_upd nlo
      generalize upd H7 lo (HO.lst [V.ref t1]) = H8 at f2 s8 ⊢
      obtain ⟨as6, e6, t6⟩ := (hx6.same s7).same s8
      have l6 := t6.lenQ
      refine ⟨_, rfl, l1, _, rfl, .inl (SqL.of e6), lo, _, _, rfl, rfl, f2, (by omega), (by rw [List.length_map]; omega), ?_, fun l5 nl5 => ?_⟩
      · rw [Int.toNat_natCast, List.length_map, sizeLine_eq]
        show 1 * _ ≤ _
        omega
      refine fin l5 (List.replicate xs.length 1) _ ((s7.trans s8).trans (same_upd nl5)) ⟨List.replicate xs.length t1, ?_, ?_⟩ (by rw [List.length_replicate]) (fun q hq => ?_)
      · rw [upd_same, Int.toNat_natCast, List.length_map, l6]
        congr 2
        rw [List.map_replicate]
        generalize xs.length = k
        induction k with
        | zero => rfl
        | succ k ih => rw [List.replicate_succ, List.replicate_succ, List.flatten_cons, ih]; rfl
      · rw [List.map_replicate]
        refine tups_rep (p := pq 1) ?_ _
        rw [upd_ne (ne_of_none (s8 _ _ f1) nl5)]
        exact s8 _ _ f1
      · rw [(List.mem_replicate.mp hq).2]
        exact ⟨by unfold SmD; decide, by decide⟩
    · rw [show (z == 0) = false from beq_false_of_ne hz]
      refine iteF ?_
      exact fin l4 ws H6 (Same.refl _) hw6 wl sw
end

end Vf

set_option maxRecDepth 100000
set_option maxHeartbeats 8000000
namespace Vf
open PySem PySem.Spec PyProof.Rows L2
/-! ### how Points binds -/
section
variable {K : PySem.W.Frag} {f : Addr} {fd : FuncData}
abbrev ptPs : List Str := ["self", "points", "numbers", "weights"]
theorem pt_b4 (F : FunD K "__init__" "Points.__init__" (defArgs sPtI) (defBody sPtI) (defScope sPtI) [V.non] [] f fd) : Binds K fd ptPs [] := by
  obtain ⟨ds, h1, h2⟩ := F.binds1 (ps := ptPs) 4 1 (by simp) rfl fun T kV doc pm an cdv ct us its h1 h2 => by
    match us, h1, its, h2 with
    | [a, b, c, d], _, [e], _ => exact ⟨_, rfl, rfl⟩
  cases h1
  exact h2
theorem pt_b3 (F : FunD K "__init__" "Points.__init__" (defArgs sPtI) (defBody sPtI) (defScope sPtI) [V.non] [] f fd) : ∃ ds, Vals [V.non] ds ∧ Binds K fd ptPs ds := by
  exact F.binds1 (ps := ptPs) 3 0 (by simp) rfl fun T kV doc pm an cdv ct us its h1 h2 => by
    match us, h1, its, h2 with
    | [a, b, c], _, [e], _ => exact ⟨_, rfl, rfl⟩
theorem pt_bk (F : FunD K "__init__" "Points.__init__" (defArgs sPtI) (defBody sPtI) (defScope sPtI) [V.non] [] f fd) : ∃ g, KBn K fd ptPs 3 ["weights"] g (fun vs zs => vs ++ zs) := by
  obtain ⟨its, h⟩ := F.kbindsD (ps := ptPs) 3 ["weights"] (fun vs _ zs => vs ++ zs) (by simp) (fun h1 _ h3 => h1.append h3) fun T kV doc pm an cdv ct us its ws h1 h2 h3 => by
    match us, h1, its, h2, ws, h3 with
    | [a, b, c], _, [e], _, [z], _ => exact ⟨_, rfl, rfl⟩
  exact ⟨_, h⟩
end

end Vf

set_option maxRecDepth 100000
set_option maxHeartbeats 8000000
namespace Vf
open PySem PySem.Spec PyProof.Rows L2
/-! ### Points made of passed ratios -/
theorem all_range {n : Nat} {f : Nat → Bool} : ((List.range n).map f).all id = true ↔ ∀ i, i < n → f i = true := by
  rw [List.all_eq_true]
  constructor
  · intro h i hi
    exact h (f i) (List.mem_map.mpr ⟨i, List.mem_range.mpr hi, rfl⟩)
  · intro h b hb
    obtain ⟨i, hi, rfl⟩ := List.mem_map.mp hb
    exact h i (List.mem_range.mp hi)
theorem Giv.rows : ∀ {ds : List PyData} {ps : List (Int × Int)}, Giv ds ps → (∀ p ∈ ps, Low p.1 p.2) → ∃ qs : List (Int × Int), ds.mapM partsD = some qs ∧ qs.map lowP = ps ∧ qs.length = ps.length ∧ ∀ (i : Nat) (p : Int × Int), ps[i]? = some p → ∃ k : Int, 0 < k ∧ k ≤ 3 ∧ qs[i]? = some (p.1 * k, p.2 * k)
  | _, _, .nil, _ => ⟨[], by rw [List.mapM_nil]; rfl, rfl, rfl, fun i p h => by cases h⟩
  | _, _, .cons (p := p) (k := k) h1 h2 h3 h4 t, h => by
    obtain ⟨qs, e1, e2, e3, e4⟩ := t.rows fun x hx => h x (List.mem_cons_of_mem _ hx)
    refine ⟨(p.1 * k, p.2 * k) :: qs, ?_, ?_, ?_, ?_⟩
    · rw [List.mapM_cons, h1, e1]
      rfl
    · rw [List.map_cons, e2]
      congr 1
      exact low_back (h p (List.mem_cons_self ..)) h2
    · rw [List.length_cons, List.length_cons, e3]
    · intro i x hx
      match i with
      | 0 =>
        cases hx
        exact ⟨k, h2, h3, rfl⟩
      | i + 1 => exact e4 i x hx
/-- a row of ratios as a caller passes it -/
theorem giv_rw {K : PySem.W.Frag} {H : Hp} {v : V} {d : PyData} {ds : List PyData} {xs : List Rat} (hd : Dt K H v d) (hs : seqD d = some ds) (g : Giv ds (xs.map pq)) (hl : xs.length ≤ 1000) (ok : ∀ q ∈ xs, RatOk (pq q)) :
    ∃ ps, Rw K H v d ps ∧ ps.map lowP = xs.map pq ∧ ps.length = xs.length ∧ (AscQ xs → ascB ps = true) ∧ ((∀ q ∈ xs, 0 < q) → posB ps = true) := by
  have gl := g.len
  rw [List.length_map] at gl
  obtain ⟨qs, e1, e2, e3, e4⟩ := g.rows fun p hp => by
    obtain ⟨q, hq, rfl⟩ := List.mem_map.mp hp
    exact (ok q hq).lw
  rw [List.length_map] at e3
  have at_ : ∀ i, i < xs.length → ∃ k : Int, 0 < k ∧ k ≤ 3 ∧ qs[i]? = some ((cf xs i).num * k, ((cf xs i).den : Int) * k) := fun i hi => by
    obtain ⟨k, h1, h2, h3⟩ := e4 i (pq (cf xs i)) (by rw [List.getElem?_map, List.getElem?_eq_getElem hi, cf_lt hi]; rfl)
    exact ⟨k, h1, h2, h3⟩
  have b3 : (2 : Nat) ^ 120 < 2 ^ 1900 := Nat.pow_lt_pow_right (by decide) (by decide)
  refine ⟨qs, ⟨⟨ds, hd, hs, e1, by omega⟩, fun p hp => ?_⟩, e2, e3, fun ha => ?_, fun hp => ?_⟩
  · obtain ⟨i, hi, e⟩ := List.mem_iff_getElem.mp hp
    obtain ⟨k, k0, k3, hk⟩ := at_ i (by omega)
    rw [List.getElem?_eq_getElem hi, e] at hk
    cases hk
    have o := ok _ (cf_mem (show i < xs.length by omega))
    exact ⟨Nat.lt_trans (s80_k o.zt k0 k3) b3, Nat.lt_trans (s80_k o.zb k0 k3) b3⟩
  · unfold ascB
    rw [all_range]
    intro i hi
    obtain ⟨k, k0, _, hk⟩ := at_ i (by omega)
    obtain ⟨k2, k20, _, hk2⟩ := at_ (i + 1) (by omega)
    rw [pr_at hk, pr_at hk2]
    refine decide_eq_true ?_
    have h1 := num_den (cf xs i)
    have h2 := num_den (cf xs (i + 1))
    refine (lt_cross (g := cf xs i) (e := cf xs (i + 1)) ?_ ?_ (Int.mul_pos (by have := (cf xs i).den_pos; omega) k0) (Int.mul_pos (by have := (cf xs (i + 1)).den_pos; omega) k20)).mpr (ha i (by omega))
    · rw [Rat.intCast_mul, Rat.intCast_mul, Rat.intCast_natCast, ← Rat.mul_assoc, h1]
    · rw [Rat.intCast_mul, Rat.intCast_mul, Rat.intCast_natCast, ← Rat.mul_assoc, h2]
  · rw [← pos_range, all_range]
    intro i hi
    obtain ⟨k, k0, _, hk⟩ := at_ i (by omega)
    rw [pr_at hk]
    refine decide_eq_true (Int.mul_pos ?_ k0)
    have h0 := hp _ (cf_mem (show i < xs.length by omega))
    have h1 := Rat.num_nonneg.mpr (show 0 ≤ cf xs i by grind)
    by_cases z : (cf xs i).num = 0
    · have := Rat.num_eq_zero.mp z
      grind
    · omega
theorem BadP.same {K : PySem.W.Frag} {H H' : Hp} {v : V} {d : PyData} (h : BadP K H v d) (s : Same H H') : BadP K H' v d := by
  rcases h with h | ⟨ps, h1, h2⟩
  · exact .inl h
  · exact .inr ⟨ps, h1.same s, h2⟩
theorem BadW.same {K : PySem.W.Frag} {H H' : Hp} {v : V} {d : PyData} {n : Nat} (h : BadW K H v d n) (s : Same H H') : BadW K H' v d n := by
  rcases h with h | h | ⟨ps, h1, h2⟩
  · exact .inl h
  · exact .inr (.inl h)
  · exact .inr (.inr ⟨ps, h1.same s, h2⟩)
theorem PtEnd.map {K : PySem.W.Frag} {H H' : Hp} {vp vn vw : V} {q q' : List (Int × Int) → List (Int × Int) → List (Int × Int) → Prop} {e e' : V → Prop} (h : PtEnd K H vp vn vw q e) (s : Same H H') (hq : ∀ a b c, q a b c → q' a b c) (he : ∀ v, e v → e' v) : PtEnd K H' vp vn vw q' e' := by
  obtain ⟨dp, dn, dw, h1, h2, h3, h4, h5, h6, h⟩ := h
  refine ⟨dp, dn, dw, h1.mono s, h2, h3.mono s, h4, h5.mono s, h6, ?_⟩
  rcases h with ⟨hb, hh⟩ | ⟨ps, hR, hne, ha, h⟩
  · exact .inl ⟨hb.same s, he _ hh⟩
  · refine .inr ⟨ps, hR.same s, hne, ha, ?_⟩
    rcases h with ⟨hb, hh⟩ | ⟨ns, hN, hl, h⟩
    · exact .inl ⟨hb, he _ hh⟩
    · refine .inr ⟨ns, hN.same s, hl, ?_⟩
      rcases h with ⟨hw, hh⟩ | ⟨hw, hb, hh⟩ | ⟨ws, hW, wl, wp, hh⟩
      · exact .inl ⟨hw, hq _ _ _ hh⟩
      · exact .inr (.inl ⟨hw, hb.same s, he _ hh⟩)
      · exact .inr (.inr ⟨ws, hW.same s, wl, wp, hq _ _ _ hh⟩)
/-- what the call Points(..) comes to -/
theorem pt_made {K : PySem.W.Frag} {CT CR : Addr} {H : Hp} {vp vn vw : V} {Qd : Addr → Hp → Prop} {E : XK}
    (h : PtEnd K H vp vn vw (fun ps ns ws => ∀ (x : Addr) (H' : Hp), Same H H' → H x = none → PtsAt CT H' x ps ns ws → Qd x H') (fun v => RaisesR CR H v E)) :
    ∀ x dx, H x = none → H dx = none → dx ≠ x → spPtI K CT CR [.ref x, vp, vn, vw] (upd (upd H dx (.own x)) x (.ins CT dx [])) (fun w H2 => w = .non ∧ Qd x H2) E := by
  intro x dx nx nd ne
  have s1 : Same H (upd (upd H dx (.own x)) x (.ins CT dx [])) := (same_upd nd).trans (same_upd (by rw [upd_ne (Ne.symm ne)]; exact nx))
  refine ⟨x, dx, vp, vn, vw, rfl, upd_same, h.map s1 (fun a b c hq H' kp hP => ?_) fun v hv => RaisesR.same s1 hv⟩
  exact ⟨rfl, hq x H' (fun b o e => kp b o (ne_of_none e nx) (s1 _ _ e)) nx hP⟩
structure PtM (P : Program) (w : World) (K : PySem.W.Frag) (mg : Str → Option Value) (base : Heap) (CT CR : Addr) where
  C : PtC K mg CT
  fI : Addr
  dI : FuncData
  mkI : Mk K CT fI
  okI : FnOk P w K mg base (L2.CX P w) 6 fI dI ["self", "points", "numbers", "weights"] (spPtI K CT CR)
  b4 : Binds K dI ["self", "points", "numbers", "weights"] []
  ds : List Value
  v3 : Vals [V.non] ds
  b3 : Binds K dI ["self", "points", "numbers", "weights"] ds
  g : List Value → List Value → List Value
  bk : KBn K dI ["self", "points", "numbers", "weights"] 3 ["weights"] g (fun vs zs => vs ++ zs)

end Vf

set_option maxRecDepth 100000
set_option maxHeartbeats 8000000
namespace Vf
open PySem PySem.Spec PyProof.Rows L2
/-! ### rows passed to Points -/
def PG (K : PySem.W.Frag) (p lc : Addr) (B0 : Int) (H1 : Hp) (D : Addr) (ps : List (Int × Int)) (i : Nat) (H' : Hp) : Prop :=
  Kp p H1 H' ∧ Pen H' p lc (B0 + 3 * i) ∧ ∃ (vs : List V) (ds : List PyData), H' D = some (.lst vs) ∧ Dts K (fz D p H') vs ds ∧ Giv ds (ps.take i)
theorem pg_zero {K : PySem.W.Frag} {p lc D : Addr} {B0 : Int} {H1 : Hp} {ps : List (Int × Int)} (hD : H1 D = none) (hP : Pen H1 p lc B0) : PG K p lc B0 H1 D ps 0 (upd H1 D (.lst [])) :=
  ⟨Kp.of (same_upd hD), (hP.same (same_upd hD)).more (by omega), [], [], upd_same, .nil, .nil⟩
theorem pg_step {K : PySem.W.Frag} {p lc D : Addr} {B0 B2 : Int} {i : Nat} {H1 H' H2 : Hp} {ps : List (Int × Int)} {x : Int × Int} {v : V} {d : PyData} {kz : Int} (hD : H1 D = none) (hP1 : Pen H1 p lc B0) (h : PG K p lc B0 H1 D ps i H') (hx : ps[i]? = some x) (hz : ps.length ≤ 1000)
    (hP2 : Pen H2 p lc B2) (hB : B2 ≤ B0 + 3 * (i + 1 : Nat)) (kp' : Kp p H' H2) (hd : Dt K (nw H' H2) v d) (pa : partsD d = some (x.1 * kz, x.2 * kz)) (k0 : 0 < kz) (k3 : kz ≤ 3) (gd : Gd d) :
    ∃ acc, H2 D = some (.lst acc) ∧ acc.length < sizeLine ∧ PG K p lc B0 H1 D ps (i + 1) (upd H2 D (.lst (acc ++ [v]))) := by
  obtain ⟨kk, hP', vs, ds, eD, dts, giv⟩ := h
  obtain ⟨d1, d2⟩ := hP1.ne_new hD
  have eD' := kp' _ _ d1 eD
  have hp := hP'.there.choose_spec
  refine ⟨_, eD', ?_, ?_, (hP2.put upd_away d1 d2).more hB, vs ++ [v], ds ++ [d], upd_same, ?_, ?_⟩
  · have := dts.len
    have := giv.len
    have := (List.getElem?_eq_some_iff.mp hx).1
    rw [List.length_take] at *
    rw [sizeLine_eq]
    omega
  · exact fun b o nb eb => by
      rw [upd_ne (ne_of_none eb hD)]
      exact kp' b o nb (kk b o nb eb)
  · have up : Same (fz D p H2) (fz D p (upd H2 D (.lst (vs ++ [v])))) := fz_mono fun b o h1 h2 e => by rw [upd_ne h1]; exact e
    exact (dts.mono ((fz_mono fun b o h1 h2 e => kp' b o h2 e).trans up)).app (.cons (hd.mono ((nw_fz eD hp).trans up)) .nil)
  · have z := giv.snoc (p := x) pa k0 k3 gd
    have e : ps.take (i + 1) = ps.take i ++ [x] := by rw [List.take_succ, hx]; rfl
    rw [e]
    exact z
theorem passed_step {K : PySem.W.Frag} {p lc D : Addr} {B0 : Int} {H1 H' : Hp} {as : List Addr} {xs : List Rat} {i : Nat} {x : V} (hD : H1 D = none) (hP1 : Pen H1 p lc B0) (hB : B0 ≤ 2000000) (tx : Tups H1 as (xs.map pq)) (hl : xs.length ≤ 20) (ox : ∀ q ∈ xs, RatOk (pq q)) (hi : (as.map V.ref)[i]? = some x) (pb : PG K p lc B0 H1 D (xs.map pq) i H') :
    ∃ ri, x = .ref ri ∧ spPassed K [.ref p, .ref ri] H' (fun y H4 => ∃ acc, H4 D = some (.lst acc) ∧ acc.length < sizeLine ∧ PG K p lc B0 H1 D (xs.map pq) (i + 1) (upd H4 D (.lst (acc ++ [y])))) E0 := by
  have n1 := tx.lenQ
  have il : i < xs.length := by
    have := (List.getElem?_eq_some_iff.mp hi).1
    rw [List.length_map] at this
    omega
  obtain ⟨ri, g, er⟩ := tx.getQ il
  rw [List.getElem?_map, g] at hi
  cases hi
  have rip : ri ≠ p := by
    obtain ⟨_, _, _, _, _, g1, _⟩ := hP1
    exact ne_of er g1.1 (by intro z; cases z)
  have er' := pb.1 _ _ rip er
  have o := ox _ (cf_mem il)
  have hx : (xs.map pq)[i]? = some (pq (cf xs i)) := by rw [List.getElem?_map, List.getElem?_eq_getElem il, cf_lt il]; rfl
  exact ⟨ri, rfl, p, lc, ri, _, (pq (cf xs i)).1, (pq (cf xs i)).2, rfl, pb.2.1, by omega, er', o.lw.pos, o.zt, o.zb, fun v d kz H2 hP2 kp' hd pa k0 k3 gd => pg_step hD hP1 pb hx (by rw [List.length_map]; omega) hP2 (by omega) kp' hd pa k0 k3 gd⟩
theorem sk1 {l1 l2 l3 : Addr} : valV (someK l1 l2 l3) (.inr "points") = some (.ref l1) := by kernel_rfl
theorem sk2 {l1 l2 l3 : Addr} : valV (someK l1 l2 l3) (.inr "numbers") = some (.ref l2) := by kernel_rfl
theorem sk3 {l1 l2 l3 : Addr} : valV (someK l1 l2 l3) (.inr "weights") = some (.ref l3) := by kernel_rfl
theorem sg1 {H : Hp} {r l1 l2 l3 : Addr} (e : H r = some (.dK (someK l1 l2 l3))) : DGet H r (kV (Sum.inr "points")) (some (.ref l1)) := by
  have q := DGet.k (k := (Sum.inr "points" : Key)) e
  rw [sk1] at q
  exact q
theorem sg2 {H : Hp} {r l1 l2 l3 : Addr} (e : H r = some (.dK (someK l1 l2 l3))) : DGet H r (kV (Sum.inr "numbers")) (some (.ref l2)) := by
  have q := DGet.k (k := (Sum.inr "numbers" : Key)) e
  rw [sk2] at q
  exact q
theorem sg3 {H : Hp} {r l1 l2 l3 : Addr} (e : H r = some (.dK (someK l1 l2 l3))) : DGet H r (kV (Sum.inr "weights")) (some (.ref l3)) := by
  have q := DGet.k (k := (Sum.inr "weights" : Key)) e
  rw [sk3] at q
  exact q
/-- the law's points stand at r -/
structure SomeAt (H : Hp) (r : Addr) (xs ys ws : List Rat) : Prop where
  h : ∃ l1 l2 l3, H r = some (.dK (someK l1 l2 l3)) ∧ RL H l1 xs ∧ RL H l2 ys ∧ RL H l3 ws
  ne : xs ≠ []
  l20 : xs.length ≤ 20
  ly : ys.length = xs.length
  lw : ws.length = xs.length
  asc : AscQ xs
  ox : ∀ q ∈ xs, RatOk (pq q)
  oy : ∀ q ∈ ys, RatOk (pq q)
  ow : ∀ q ∈ ws, RatOk (pq q)
  wp : ∀ q ∈ ws, 0 < q
theorem SomeAt.kp {H H' : Hp} {p lc r : Addr} {B : Int} {xs ys ws : List Rat} (h : SomeAt H r xs ys ws) (rp : r ≠ p) (hP : Pen H p lc B) (k : Kp p H H') : SomeAt H' r xs ys ws := by
  obtain ⟨⟨l1, l2, l3, e, h1, h2, h3⟩, a1, a2, a3, a4, a5, a6, a7, a8, a9⟩ := h
  exact ⟨⟨l1, l2, l3, k _ _ rp e, h1.kp hP k, h2.kp hP k, h3.kp hP k⟩, a1, a2, a3, a4, a5, a6, a7, a8, a9⟩
def spMadeP (CT : Addr) : Sp := fun vs H Q _ => ∃ (p lc r : Addr) (B : Int) (xs ys ws : List Rat), vs = [.ref p, .ref r] ∧ Pen H p lc B ∧ B ≤ 1000000 ∧ r ≠ p ∧ SomeAt H r xs ys ws ∧
  ∀ (a : Addr) (H' : Hp), Pen H' p lc (B + 200) → Kp p H H' → H a = none → PtsAt CT H' a (xs.map pq) (ys.map pq) (ws.map pq) → Q (.ref a) H'
section
variable {P : Program} {w : World} {K : PySem.W.Frag} {mg : Str → Option Value} {base : Heap} {CN CT CR : Addr}
abbrev sMadeP : Stmt := topS 64
theorem scMadeP : FnScope ["_law_pen_here", "_law_some", "_law_row", "_law_point", "_law_numbers", "_law_number", "_law_heavy", "_law_one"] ["_law_pen_here", "_law_some"] (defScope sMadeP) := ⟨rfl, rfl, rfl, by decide +kernel, rfl, by decide +kernel, by decide +kernel⟩
theorem ok_madep {f : Addr} {fd : FuncData} (F : Fun K "_law_made_points" "_law_made_points" sMadeP f fd) (T : Bk mg) (hm1 : M1 base) (PT_ : PtM P w K mg base CT CR) (G__law_draw : Df P w K mg base "_law_draw" 1 ["_law_pen_here", "_law_many"] spDraw)
    (G__law_passed : Df P w K mg base "_law_passed" 3 ["_law_pen_here", "_law_ratio_here"] (spPassed K)) : FnOk P w K mg base CX0 8 f fd ["_law_pen_here", "_law_some"] (spMadeP CT) := by
  refine F.ok scMadeP (fun vs H Q E h => ?_) (fun cdv A outer s H vs Q E hr h => ?_)
  · obtain ⟨p, lc, r, B, xs, ys, ws, rfl, _⟩ := h
    rfl
  · obtain ⟨p, lc, r, B, xs, ys, ws, rfl, hP, hB, rp, hS, q⟩ := h
    have hu := hu_of hr
    refine ⟨_, (pss_cons (ps_setLc (i := 2) (own := [("_law_point", 3)]) (g := (gName 3)) (tt := tYes) rfl scMadeP.nd rfl rfl (sw_true rfl rfl rfl (by decide +kernel)) (pi_seq (pe_dget hu (pv 1) pe_str (fun _ _ => rfl))) (blkOk_by (N := ["_law_pen_here", "_law_some", "_law_row", "_law_point", "_law_numbers", "_law_number", "_law_heavy", "_law_one"]) (sc := defScope sMadeP) (by decide +kernel)) (fun _ _ _ _ _ => pg_name (i := 3) scMadeP.nd rfl (Or.inl rfl)) (fun _ _ _ _ _ => pts_nil) (fun _ _ _ _ _ => (pe_call G__law_passed.ok (hr.mono (by decide)) rfl G__law_passed.m G__law_passed.kp G__law_passed.b .nil pass0 (pa_cons (pv 0) (pa_cons (pv 3) pa_nil)))))
  (pss_cons (ps_set (i := 4) scMadeP.nd rfl (Or.inl rfl) (pe_callTy call_tuple_of (by rfl) T.tuple (by decide +kernel) (pa_cons (pe_lc (own := [("_law_number", 5)]) (g := (gName 5)) (tt := tYes) rfl scMadeP.nd (pi_seq (pe_dget hu (pv 1) pe_str (fun _ _ => rfl))) (blkOk_by (N := ["_law_pen_here", "_law_some", "_law_row", "_law_point", "_law_numbers", "_law_number", "_law_heavy", "_law_one"]) (sc := defScope sMadeP) (by decide +kernel)) (fun _ _ _ _ _ => pg_name (i := 5) scMadeP.nd rfl (Or.inl rfl)) (fun _ _ _ _ _ => pts_nil) (fun _ _ _ _ _ => (pe_call G__law_passed.ok (hr.mono (by decide)) rfl G__law_passed.m G__law_passed.kp G__law_passed.b .nil pass0 (pa_cons (pv 0) (pa_cons (pv 5) pa_nil))))) pa_nil)))
  (C8.pss_cut (ps_if (PW.pt (pw_and (pt_cmpR (op_eqT hr.units hm1) (pe_dget hu (pv 1) pe_str (fun _ _ => rfl)) (pe_op op_rep (pe_lst (pa_cons (pe_tup (pa_cons pe_int (pa_cons pe_int pa_nil))) pa_nil)) (pe_callB call_len_seq (by rfl) T.len (by decide +kernel) (pa_cons (pv 2) pa_nil))) (nomark _)) (pw_and1 (pt_cmpR op_eq (pe_call G__law_draw.ok (hr.mono (by decide)) rfl G__law_draw.m G__law_draw.kp G__law_draw.b .nil pass0 (pa_cons (pv 0) (pa_cons pe_int pa_nil))) pe_int (nomark _)))))
    (pss_one (ps_ret (pe_make PT_.mkI PT_.okI (hr.mono (by decide)) rfl PT_.C.m PT_.b3 PT_.v3 passL (pa_cons (pe_callTy call_tuple_of (by rfl) T.tuple (by decide +kernel) (pa_cons (pv 2) pa_nil)) (pa_cons (pe_callTy call_list_of (by rfl) T.list (by decide +kernel) (pa_cons (pv 4) pa_nil)) pa_nil)))))
    pss_nil)
  (pss_cons (ps_setLc (i := 6) (own := [("_law_one", 7)]) (g := (gName 7)) (tt := tYes) rfl scMadeP.nd rfl rfl (sw_true rfl rfl rfl (by decide +kernel)) (pi_seq (pe_dget hu (pv 1) pe_str (fun _ _ => rfl))) (blkOk_by (N := ["_law_pen_here", "_law_some", "_law_row", "_law_point", "_law_numbers", "_law_number", "_law_heavy", "_law_one"]) (sc := defScope sMadeP) (by decide +kernel)) (fun _ _ _ _ _ => pg_name (i := 7) scMadeP.nd rfl (Or.inl rfl)) (fun _ _ _ _ _ => pts_nil) (fun _ _ _ _ _ => (pe_call G__law_passed.ok (hr.mono (by decide)) rfl G__law_passed.m G__law_passed.kp G__law_passed.b .nil pass0 (pa_cons (pv 0) (pa_cons (pv 7) pa_nil)))))
  (pss_one (ps_ret (pe_ifExp (pt_cmpR op_eq (pe_call G__law_draw.ok (hr.mono (by decide)) rfl G__law_draw.m G__law_draw.kp G__law_draw.b .nil pass0 (pa_cons (pv 0) (pa_cons pe_int pa_nil))) pe_int (nomark _)) (pe_makeN PT_.mkI PT_.okI (hr.mono (by decide)) rfl PT_.C.m PT_.bk passL (pa_cons (pv 2) (pa_cons (pv 4) pa_nil)) (pk_cons (pv 6) pk_nil)) (pe_make PT_.mkI PT_.okI (hr.mono (by decide)) rfl PT_.C.m PT_.b4 .nil passL (pa_cons (pv 2) (pa_cons (pv 4) (pa_cons (pv 6) pa_nil))))))))))), ?_⟩
    obtain ⟨⟨l1, l2, l3, er, hx, hy, hw⟩, ne, l20, ly, lw, asc, ox, oy, ow, wp⟩ := hS
    obtain ⟨as1, el1, tx⟩ := hx
    obtain ⟨as2, el2, ty⟩ := hy
    obtain ⟨as3, el3, tw⟩ := hw
    have l1p := RL.ne ⟨as1, el1, tx⟩ hP
    have l2p := RL.ne ⟨as2, el2, ty⟩ hP
    have l3p := RL.ne ⟨as3, el3, tw⟩ hP
    have lx := tx.lenQ
    have ly2 := ty.lenQ
    have lw2 := tw.lenQ
    refine ⟨_, rfl, r, _, rfl, sg1 er, l1, rfl, lc_seq (xs := as1.map V.ref) (.inl (SqL.of el1)) (fun D i H' => PG K p lc B H D (xs.map pq) i H') (fun D hD => pg_zero hD hP) (fun D i H' hD pb => seq_kp l1p pb.1) ?_ ?_⟩
    · intro D i x H' hD hi pb
      obtain ⟨ri, rfl, hh⟩ := passed_step hD hP (by omega) tx l20 ox hi pb
      exact ⟨rfl, _, rfl, _, rfl, hh⟩
    rintro lr H1 nlr ⟨k1, hP1, vs1, ds1, elr, dts1, giv1⟩
    have hP1 := hP1.more (show _ ≤ B + 60 by rw [List.length_map]; omega)
    rw [List.length_map, List.take_of_length_le (by rw [List.length_map]; omega)] at giv1
    have lrp := (hP.ne_new nlr).1
    have er1 := k1 _ _ rp er
    have ty1 := ty.kp hP k1
    have el21 := k1 _ _ l2p el2
    refine ⟨_, rfl, r, _, rfl, sg2 er1, l2, rfl, lc_seq (xs := as2.map V.ref) (.inl (SqL.of el21)) (fun D i H' => PG K p lc (B + 60) H1 D (ys.map pq) i H') (fun D hD => pg_zero hD hP1) (fun D i H' hD pb => seq_kp l2p pb.1) ?_ ?_⟩
    · intro D i x H' hD hi pb
      obtain ⟨ri, rfl, hh⟩ := passed_step hD hP1 (by omega) ty1 (by omega) oy hi pb
      exact ⟨rfl, _, rfl, _, rfl, hh⟩
    rintro ln H2 nln ⟨k2, hP2, vs2, ds2, eln, dts2, giv2⟩
    have hP2 := hP2.more (show _ ≤ B + 120 by rw [List.length_map]; omega)
    rw [List.length_map, List.take_of_length_le (by rw [List.length_map]; omega)] at giv2
    refine ⟨ln, _, rfl, .inl ⟨SqL.of eln, fun tn ntn => ?_⟩⟩
    have etn : upd H2 tn (HO.tup vs2) tn = some (HO.tup vs2) := upd_same
    have s3 : Same H2 (upd H2 tn (HO.tup vs2)) := same_upd ntn
    generalize upd H2 tn (HO.tup vs2) = H3 at etn s3 ⊢
    have hP3 := hP2.same s3
    have k03 : Kp p H H3 := k1.trans (k2.trans (Kp.of s3))
    have elr3 : H3 lr = some (.lst vs1) := s3 _ _ (k2 _ _ lrp elr)
    have dt1 : ∀ Hn, Kp p H3 Hn → Dts K Hn vs1 ds1 := fun Hn k => dts1.mono ((fz_mono fun b o _ h e => k b o h (s3 _ _ (k2 b o h e))).trans fz_sub)
    have dt2 : ∀ Hn, Kp p H3 Hn → Dts K Hn vs2 ds2 := fun Hn k => dts2.mono ((fz_mono fun b o _ h e => k b o h (s3 _ _ e)).trans fz_sub)
    have er3 := k03 _ _ rp er
    have tw3 := tw.kp hP k03
    have el33 := k03 _ _ l3p el3
    have gl1 := giv1.len
    have gl2 := giv2.len
    rw [List.length_map] at gl1 gl2
    have dl1 := dts1.len
    have fin : ∀ (Hn : Hp) (vp vn vw : V) (dp dn dw : PyData), Dt K Hn vp dp → seqD dp = some ds1 → Dt K Hn vn dn → seqD dn = some ds2 → Dt K Hn vw dw → ((dw = .none ∧ ws.map pq = List.replicate xs.length (1, 1)) ∨ ∃ ds3, seqD dw = some ds3 ∧ Giv ds3 (ws.map pq)) → Pen Hn p lc (B + 200) → Kp p H Hn →
        PtEnd K Hn vp vn vw (fun ps ns ws' => ∀ (x : Addr) (H' : Hp), Same Hn H' → Hn x = none → PtsAt CT H' x ps ns ws' → Q (.ref x) H') (fun v => RaisesR CR Hn v E0) := fun Hn vp vn vw dp dn dw h1 h2 h3 h4 h5 h6 hPn kn => by
      obtain ⟨ps, r1, e1, z1, a1, _⟩ := giv_rw h1 h2 giv1 (by omega) ox
      obtain ⟨ns, r2, e2, z2, _, _⟩ := giv_rw h3 h4 giv2 (by omega) oy
      have n0 : ∀ x, Hn x = none → H x = none := fun x hx => by
        cases e : H x with
        | none => rfl
        | some o =>
          have := kn _ _ (hPn.ne_new hx).1 e
          rw [hx] at this
          cases this
      have ending : ∀ ps' ns' ws' : List (Int × Int), ps' = xs.map pq → ns' = ys.map pq → ws' = ws.map pq → ∀ (x : Addr) (H' : Hp), Same Hn H' → Hn x = none → PtsAt CT H' x ps' ns' ws' → Q (.ref x) H' := fun ps' ns' ws' g1 g2 g3 x H' ss nx pt => by
        subst g1 g2 g3
        exact q x H' (hPn.same ss) (kn.trans (Kp.of ss)) (n0 x nx) pt
      have psne : ps ≠ [] := fun z => by
        rw [z] at z1
        exact ne (List.eq_nil_of_length_eq_zero z1.symm)
      rcases h6 with ⟨rfl, hE⟩ | ⟨ds3, h6, g3⟩
      · refine ⟨dp, dn, .none, h1, r1.row.2.2, h3, r2.row.2.2, h5, (fun ds h => by cases h), .inr ⟨ps, r1, psne, a1 asc, .inr ⟨ns, r2, by omega, .inl ⟨rfl, ending _ _ _ e1 e2 (by rw [hE, z1])⟩⟩⟩⟩
      · obtain ⟨wsr, r3, e3, z3, _, p3⟩ := giv_rw h5 h6 g3 (by omega) ow
        exact ⟨dp, dn, dw, h1, r1.row.2.2, h3, r2.row.2.2, h5, r3.row.2.2, .inr ⟨ps, r1, psne, a1 asc, .inr ⟨ns, r2, by omega, .inr (.inr ⟨wsr, r3, by omega, p3 wp, ending _ _ _ e1 e2 e3⟩)⟩⟩⟩
    have tnp := (hP2.ne_new ntn).1
    refine ⟨fun σ H7 => ∃ l1 l2 : Unit, σ = [some (.ref p), some (.ref r), some (.ref lr), none, some (.ref tn), none, none, none] ∧ Kp p H3 H7 ∧ Pen H7 p lc (B + 121), ?_, ?_⟩
    · refine ⟨_, rfl, r, _, rfl, sg3 er3, (by show 2 ≤ sizeLine; decide), fun t1 n1 => ?_⟩
      have f1 : upd H3 t1 (HO.tup [V.int 1, V.int 1]) t1 = some (HO.tup [V.int 1, V.int 1]) := upd_same
      have s4 : Same H3 (upd H3 t1 (HO.tup [V.int 1, V.int 1])) := same_upd n1
      generalize upd H3 t1 (HO.tup [V.int 1, V.int 1]) = H4 at f1 s4 ⊢
      refine ⟨(by show 1 ≤ sizeLine; decide), fun lo nlo => ?_⟩
      have f2 : upd H4 lo (HO.lst [V.ref t1]) lo = some (HO.lst [V.ref t1]) := upd_same
      have s5 : Same H4 (upd H4 lo (HO.lst [V.ref t1])) := same_upd nlo
      generalize upd H4 lo (HO.lst [V.ref t1]) = H5 at f2 s5 ⊢
      have s45 := s4.trans s5
      refine ⟨_, rfl, lr, _, rfl, .inl (SqL.of (s45 _ _ elr3)), lo, _, _, rfl, rfl, f2, (by omega), (by omega), ?_, fun l5 nl5 => ?_⟩
      · rw [Int.toNat_natCast, sizeLine_eq]
        show 1 * _ ≤ _
        omega
      have f5 : upd H5 l5 (HO.lst (List.replicate ((vs1.length : Nat) : Int).toNat [V.ref t1]).flatten) l5 = some (HO.lst ((List.replicate vs1.length t1).map V.ref)) := by
        rw [upd_same, Int.toNat_natCast]
        congr 2
        rw [List.map_replicate]
        generalize vs1.length = k
        induction k with
        | zero => rfl
        | succ k ih => rw [List.replicate_succ, List.replicate_succ, List.flatten_cons, ih]; rfl
      have s6 : Same H5 (upd H5 l5 (HO.lst (List.replicate ((vs1.length : Nat) : Int).toNat [V.ref t1]).flatten)) := same_upd nl5
      generalize upd H5 l5 (HO.lst (List.replicate ((vs1.length : Nat) : Int).toNat [V.ref t1]).flatten) = H6 at f5 s6 ⊢
      have s36 := s45.trans s6
      have hP6 := hP3.same s36
      have t11 : Tups H6 (List.replicate vs1.length t1) (List.replicate vs1.length (1, 1)) := tups_rep (p := (1, 1)) (s6 _ _ (s5 _ _ f1)) _
      refine ⟨.list ((ws.map pq).map pairD), .list ((List.replicate vs1.length (1, 1)).map pairD), .lst (SqL.of (s36 _ _ el33)) (tw3.same s36).dts, .lst (SqL.of f5) t11.dts, (plain_row _).2, (plain_row _).2, (depth_row _).2, _, rfl, ?_⟩
      rw [eqv_rowL]
      have elr6 := s36 _ _ elr3
      have etn6 := s36 _ _ etn
      have er6 := s36 _ _ er3
      have tw6 := tw3.same s36
      have el36 := s36 _ _ el33
      have k36 := Kp.of (p := p) s36
      by_cases hE : ws.map pq = List.replicate vs1.length (1, 1)
      · rw [decide_eq_true hE]
        refine iteT ?_
        refine ⟨_, rfl, p, lc, _, 2, rfl, hP6, by omega, by decide, by decide, fun z H7 z0 z1 hP7 k7 => ⟨rfl, _, rfl, ?_⟩⟩
        rw [dec_int]
        have k37 := k36.trans k7
        by_cases hz : z = 0
        · rw [show (z == 0) = true from beq_iff_eq.mpr hz]
          refine iteT ?_
          refine ⟨_, rfl, lr, _, rfl, .inl ⟨SqL.of (k37 _ _ lrp elr3), fun ta nta => ?_⟩⟩
          have e8 : upd H7 ta (HO.tup vs1) ta = some (HO.tup vs1) := upd_same
          have s8 : Same H7 (upd H7 ta (HO.tup vs1)) := same_upd nta
          generalize upd H7 ta (HO.tup vs1) = H8 at e8 s8 ⊢
          refine ⟨_, rfl, tn, _, rfl, .inr (SqT.of (s8 _ _ (k37 _ _ tnp etn))), fun la nla => ?_⟩
          have e9 : upd H8 la (HO.lst vs2) la = some (HO.lst vs2) := upd_same
          have s9 : Same H8 (upd H8 la (HO.lst vs2)) := same_upd nla
          generalize upd H8 la (HO.lst vs2) = H9 at e9 s9 ⊢
          have k39 := (k37.trans (Kp.of s8)).trans (Kp.of s9)
          exact pt_made (fin H9 (.ref ta) (.ref la) .non (.tuple ds1) (.list ds2) .none (.tup (SqT.of (s9 _ _ e8)) (dt1 _ k39)) rfl (.lst (SqL.of e9) (dt2 _ k39)) rfl .non (.inl ⟨rfl, by rw [hE]; congr 1; omega⟩) (((hP7.same s8).same s9).more (by omega)) (k03.trans k39))
        · rw [show (z == 0) = false from beq_false_of_ne hz]
          refine iteF ?_
          exact ⟨(), (), rfl, k37, hP7.more (by omega)⟩
      · rw [decide_eq_false hE]
        refine iteF ?_
        exact ⟨(), (), rfl, k36, hP6.more (by omega)⟩
    · rintro σ H7 ⟨_, _, rfl, k37, hP7⟩
      have er7 := k37 _ _ rp er3
      have tw7 := tw3.kp hP3 k37
      have el37 := k37 _ _ l3p el33
      refine ⟨_, rfl, r, _, rfl, sg3 er7, l3, rfl, lc_seq (xs := as3.map V.ref) (.inl (SqL.of el37)) (fun D i H' => PG K p lc (B + 121) H7 D (ws.map pq) i H') (fun D hD => pg_zero hD hP7) (fun D i H' hD pb => seq_kp l3p pb.1) ?_ ?_⟩
      · intro D i x H' hD hi pb
        obtain ⟨ri, rfl, hh⟩ := passed_step hD hP7 (by omega) tw7 (by omega) ow hi pb
        exact ⟨rfl, _, rfl, _, rfl, hh⟩
      rintro lh H8 nlh ⟨k8, hP8, vs3, ds3, elh, dts3, giv3⟩
      have hP8 := hP8.more (show _ ≤ B + 181 by rw [List.length_map]; omega)
      rw [List.length_map, List.take_of_length_le (by rw [List.length_map]; omega)] at giv3
      have lhp := (hP7.ne_new nlh).1
      refine ⟨_, rfl, p, lc, _, 2, rfl, hP8, by omega, by decide, by decide, fun z H9 z0 z1 hP9 k9 => ⟨rfl, _, rfl, ?_⟩⟩
      rw [dec_int]
      have k39 := k37.trans (k8.trans k9)
      have dt3 : Dts K H9 vs3 ds3 := dts3.mono ((fz_mono fun b o _ h e => k9 b o h e).trans fz_sub)
      have e1 := k39 _ _ lrp elr3
      have e2 := k39 _ _ tnp etn
      have e3 := k9 _ _ lhp elh
      have hh := fin H9 (.ref lr) (.ref tn) (.ref lh) (.list ds1) (.tuple ds2) (.list ds3) (.lst (SqL.of e1) (dt1 _ k39)) rfl (.tup (SqT.of e2) (dt2 _ k39)) rfl (.lst (SqL.of e3) dt3) (.inr ⟨ds3, rfl, giv3⟩) (hP9.more (by omega)) (k03.trans k39)
      by_cases hz : z = 0
      · rw [show (z == 0) = true from beq_iff_eq.mpr hz]
        refine iteT ?_
        exact ⟨_, rfl, _, rfl, _, rfl, rfl, rfl, pt_made hh⟩
      · rw [show (z == 0) = false from beq_false_of_ne hz]
        refine iteF ?_
        exact ⟨_, rfl, _, rfl, _, rfl, pt_made hh⟩
end

end Vf

set_option maxRecDepth 100000
set_option maxHeartbeats 8000000
namespace Vf
open PySem PySem.Spec PyProof.Rows L2
theorem fr_all {a : List Rat} (hl : a.length ≤ 13) (h : ∀ i, Sm (cf a i)) : ∃ M N : Nat, 0 < M ∧ 0 < N ∧ M ≤ 2 ^ 156 ∧ N ≤ 2 ^ 169 ∧ ∀ i, Fr M N (cf a i) := by
  have key : ∀ n, n ≤ 13 → ∃ M, 0 < M ∧ M ≤ 2 ^ (12 * n) ∧ ∀ j, j < n → (cf a j).den ∣ M := fun n => by
    induction n with
    | zero => exact fun _ => ⟨1, by decide, by decide, fun j hj => by omega⟩
    | succ n ih =>
      intro hn
      obtain ⟨M, h1, h2, h3⟩ := ih (by omega)
      refine ⟨M * (cf a n).den, Nat.mul_pos h1 (cf a n).den_pos, ?_, fun j hj => ?_⟩
      · rw [Nat.mul_add, Nat.pow_add]
        exact Nat.mul_le_mul h2 (h n).2
      · by_cases e : j = n
        · rw [e]; exact Nat.dvd_mul_left _ _
        · exact Nat.dvd_trans (h3 j (by omega)) (Nat.dvd_mul_right _ _)
  obtain ⟨M, h1, h2, h3⟩ := key 13 (Nat.le_refl _)
  refine ⟨M, 2 ^ 13 * M, h1, Nat.mul_pos (by decide) h1, h2, ?_, fun i => ?_⟩
  · rw [show (2 : Nat) ^ 169 = 2 ^ 13 * 2 ^ 156 from by decide +kernel]
    exact Nat.mul_le_mul_left _ h2
  · by_cases hi : i < 13
    · obtain ⟨k, e, f⟩ := (Fr.self (cf a i)).dvd (h3 i hi)
      refine f.le ?_
      have hk : k ≤ M := by
        rw [e]
        exact Nat.le_mul_of_pos_left _ (cf a i).den_pos
      exact Nat.mul_le_mul (h i).1 hk
    · rw [cf_ge (by omega)]
      exact Fr.zero _ _
/-! ### the law's error -/
theorem Pz.sr {k : Nat} {q : Rat} (h : Pz k q) (hk : k < 1900) : Sr q := ⟨Nat.lt_of_le_of_lt h.1 (Nat.pow_lt_pow_right (by decide) hk), Nat.lt_of_le_of_lt h.2 (Nat.pow_lt_pow_right (by decide) hk)⟩
theorem Pz.mono {i k : Nat} {q : Rat} (h : Pz i q) (hk : i ≤ k) : Pz k q := ⟨Nat.le_trans h.1 (Nat.pow_le_pow_right (by decide) hk), Nat.le_trans h.2 (Nat.pow_le_pow_right (by decide) hk)⟩
theorem Pz.mul {i j : Nat} {a b : Rat} (ha : Pz i a) (hb : Pz j b) : Pz (i + j) (a * b) := by
  have h := low_times a b
  have z := low_size (t := a.num * b.num) (den_ne a b)
  rw [h] at z
  obtain ⟨z1, z2⟩ := z
  refine ⟨?_, ?_⟩
  · refine Nat.le_trans z1 ?_
    rw [Int.natAbs_mul, Nat.pow_add]
    exact Nat.mul_le_mul ha.1 hb.1
  · have z2 : ((a * b).den : Int).natAbs ≤ ((a.den : Int) * (b.den : Int)).natAbs := z2
    rw [Int.natAbs_natCast, Int.natAbs_mul, Int.natAbs_natCast, Int.natAbs_natCast] at z2
    rw [Nat.pow_add]
    exact Nat.le_trans z2 (Nat.mul_le_mul ha.2 hb.2)
theorem Pz.sub {i j : Nat} {a b : Rat} (ha : Pz i a) (hb : Pz j b) : Pz (i + j + 1) (a - b) := by
  have h := low_sub a b
  have z := low_size (t := a.num * b.den - b.num * a.den) (den_ne a b)
  rw [h] at z
  obtain ⟨z1, z2⟩ := z
  refine ⟨?_, ?_⟩
  · refine Nat.le_trans z1 ?_
    have e1 : (a.num * b.den).natAbs ≤ 2 ^ (i + j) := by
      rw [Int.natAbs_mul, Int.natAbs_natCast, Nat.pow_add]
      exact Nat.mul_le_mul ha.1 hb.2
    have e2 : (b.num * a.den).natAbs ≤ 2 ^ (i + j) := by
      rw [Int.natAbs_mul, Int.natAbs_natCast, Nat.pow_add, Nat.mul_comm]
      exact Nat.mul_le_mul ha.2 hb.1
    rw [Nat.pow_succ]
    omega
  · have z2 : ((a - b).den : Int).natAbs ≤ ((a.den : Int) * (b.den : Int)).natAbs := z2
    rw [Int.natAbs_natCast, Int.natAbs_mul, Int.natAbs_natCast, Int.natAbs_natCast] at z2
    have e1 : a.den * b.den ≤ 2 ^ (i + j) := by
      rw [Nat.pow_add]
      exact Nat.mul_le_mul ha.2 hb.2
    rw [Nat.pow_succ]
    omega
theorem Pz.abs {i : Nat} {a : Rat} (ha : Pz i a) : Pz i (absQ a) := by
  have e := absQ_pq a
  have e1 : (absQ a).num = ((a.num.natAbs : Nat) : Int) := congrArg Prod.fst e
  have e2 : ((absQ a).den : Int) = (a.den : Int) := congrArg Prod.snd e
  refine ⟨?_, ?_⟩
  · rw [e1, Int.natAbs_natCast]
    exact ha.1
  · have := ha.2
    omega
theorem Pz.zero (k : Nat) : Pz k 0 := ⟨Nat.zero_le _, Nat.one_le_two_pow⟩
theorem pz_hor {A : List Rat} {x : Rat} (lA : A.length ≤ 13) (sA : ∀ i, Sm (cf A i)) (hx : Pz 14 x) : Pz 360 (hor x A) := by
  obtain ⟨M, N, hM, hN, zM, zN, fr⟩ := fr_all lA sA
  have fx := Fr.self x
  have frj : ∀ j, j ≤ A.length → Fr (M * x.den ^ j) (N * (j * (2 ^ 14) ^ j)) (hor x (A.drop (A.length - j))) := fun j => by
    induction j with
    | zero =>
      intro _
      rw [Nat.sub_zero, List.drop_length]
      exact Fr.zero _ _
    | succ j ih =>
      intro hj
      rw [hor_step (by omega)]
      exact fr_hor hx.2 hx.1 (ih (by omega)) fx (fr _)
  have f := frj A.length (Nat.le_refl _)
  rw [Nat.sub_self, List.drop_zero] at f
  have h := f.size (Nat.mul_pos hM (Nat.pow_pos x.den_pos))
  refine ⟨Nat.le_trans h.1 ?_, Nat.le_trans h.2 ?_⟩
  · have e1 : (2 ^ 14) ^ A.length ≤ (2 : Nat) ^ 182 := by
      rw [← Nat.pow_mul]
      exact Nat.pow_le_pow_right (by decide) (by omega)
    have e2 : A.length * (2 ^ 14) ^ A.length ≤ 2 ^ 4 * 2 ^ 182 := Nat.mul_le_mul (by omega) e1
    refine Nat.le_trans (Nat.mul_le_mul zN e2) ?_
    rw [← Nat.pow_add, ← Nat.pow_add]
    exact Nat.pow_le_pow_right (by decide) (by decide)
  · have e1 : x.den ^ A.length ≤ (2 : Nat) ^ 182 := by
      refine Nat.le_trans (Nat.pow_le_pow_left hx.2 _) ?_
      rw [← Nat.pow_mul]
      exact Nat.pow_le_pow_right (by decide) (by omega)
    refine Nat.le_trans (Nat.mul_le_mul zM e1) ?_
    rw [← Nat.pow_add]
    exact Nat.pow_le_pow_right (by decide) (by decide)
theorem pz_at {A : List Rat} {x y w : Rat} (lA : A.length ≤ 13) (sA : ∀ i, Sm (cf A i)) (hx : Pz 14 x) (hy : Pz 110 y) (hw : Pz 14 w) : Pz 485 (errAt A x y w) :=
  (hw.mul ((pz_hor lA sA hx).sub hy).abs).mono (by decide)
theorem pz_err {A xs ys ws : List Rat} (lA : A.length ≤ 13) (sA : ∀ i, Sm (cf A i)) (bx : ∀ i, Pz 14 (cf xs i)) (by_ : ∀ i, Pz 110 (cf ys i)) (bw : ∀ i, Pz 14 (cf ws i)) : ∀ i, Pz 485 (errN A xs ys ws i)
  | 0 => .zero _
  | i + 1 => by
    show Pz 485 (if _ then _ else _)
    split
    · exact pz_at lA sA (bx i) (by_ i) (bw i)
    · exact pz_err lA sA bx by_ bw i
def spLErr : Sp := fun vs H Q _ => ∃ (r l l1 l2 l3 : Addr) (A xs ys ws : List Rat), vs = [.ref r, .ref l] ∧ H r = some (.dK (someK l1 l2 l3)) ∧ RL H l1 xs ∧ RL H l2 ys ∧ RL H l3 ws ∧ RL H l A ∧ A.length ≤ 13 ∧ (∀ i, Sm (cf A i)) ∧ xs.length = ys.length ∧ xs.length = ws.length ∧
  (∀ i, Pz 14 (cf xs i)) ∧ (∀ i, Pz 110 (cf ys i)) ∧ (∀ i, Pz 14 (cf ws i)) ∧ ∀ (r' : Addr) (H' : Hp), Same H H' → TR H' r' (errN A xs ys ws xs.length) → Q (.ref r') H'
section
variable {P : Program} {w : World} {K : PySem.W.Frag} {mg : Str → Option Value} {base : Heap} {CN CT CR : Addr}
abbrev sLErr : Stmt := topS 65
theorem scLErr : FnScope ["_law_some", "_law_poly_here", "_law_best", "_law_point", "_law_number", "_law_weight", "_law_error"] ["_law_some", "_law_poly_here"] (defScope sLErr) := ⟨rfl, rfl, rfl, by decide +kernel, rfl, by decide +kernel, by decide +kernel⟩
theorem ok_lerr {f : Addr} {fd : FuncData} (F : Fun K "_law_error_of" "_law_error_of" sLErr f fd) (T : Bk mg) (hzip : mg "zip" = none) (G__law_times : Df P w K mg base "_law_times" 3 ["_law_one", "_law_two"] (spL2 rMul)) (G__law_minus : Df P w K mg base "_law_minus" 3 ["_law_one", "_law_two"] (spL2 rSub)) (G__law_abs : Df P w K mg base "_law_abs" 1 ["_law_one"] spAbs)
    (G__law_less : Df P w K mg base "_law_less" 1 ["_law_one", "_law_two"] spLess) (G__law_p_at : Df P w K mg base "_law_p_at" 4 ["_law_one", "_law_point"] spLPA) : FnOk P w K mg base CX0 5 f fd ["_law_some", "_law_poly_here"] spLErr := by
  refine F.ok scLErr (fun vs H Q E h => ?_) (fun cdv A0 outer s H vs Q E hr h => ?_)
  · obtain ⟨r, l, l1, l2, l3, A, xs, ys, ws, rfl, _⟩ := h
    rfl
  · obtain ⟨r, l, l1, l2, l3, A, xs, ys, ws, rfl, er, ⟨ap, p2, p2t⟩, ⟨an, p3, p3t⟩, ⟨aw, p4, p4t⟩, hA, lA, sA, lxy, lxw, bx, by_, bw, q⟩ := h
    have hu := hu_of hr
    refine ⟨_, (pss_cons (ps_set (i := 2) scLErr.nd rfl (Or.inl rfl) (pe_tup (pa_cons pe_int (pa_cons pe_int pa_nil))))
  (pss_cons (ps_for PassesOwn.never rfl (pi_zip3 (by rfl) hzip (pa_cons (pe_dget hu (pv 0) pe_str (fun _ _ => rfl)) (pa_cons (pe_dget hu (pv 0) pe_str (fun _ _ => rfl)) (pa_cons (pe_dget hu (pv 0) pe_str (fun _ _ => rfl)) pa_nil)))) (pg_tup rfl (pgs_cons (pg_name (i := 3) scLErr.nd rfl (Or.inl rfl)) (pgs_cons (pg_name (i := 4) scLErr.nd rfl (Or.inl rfl)) (pgs_cons (pg_name (i := 5) scLErr.nd rfl (Or.inl rfl)) pgs_nil))))
    (pss_cons (ps_set (i := 6) scLErr.nd rfl (Or.inl rfl) (pe_call G__law_times.ok (hr.mono (by decide)) rfl G__law_times.m G__law_times.kp G__law_times.b .nil pass0 (pa_cons (pv 5) (pa_cons (pe_call G__law_abs.ok (hr.mono (by decide)) rfl G__law_abs.m G__law_abs.kp G__law_abs.b .nil pass0 (pa_cons (pe_call G__law_minus.ok (hr.mono (by decide)) rfl G__law_minus.m G__law_minus.kp G__law_minus.b .nil pass0 (pa_cons (pe_call G__law_p_at.ok (hr.mono (by decide)) rfl G__law_p_at.m G__law_p_at.kp G__law_p_at.b .nil pass0 (pa_cons (pv 1) (pa_cons (pv 3) pa_nil))) (pa_cons (pv 4) pa_nil))) pa_nil)) pa_nil))))
    (pss_one (ps_set (i := 2) scLErr.nd rfl (Or.inl rfl) (pe_ifExp (pt_val (pe_call G__law_less.ok (hr.mono (by decide)) rfl G__law_less.m G__law_less.kp G__law_less.b .nil pass0 (pa_cons (pv 2) (pa_cons (pv 6) pa_nil)))) (pv 6) (pv 2))))))
  (pss_one (ps_ret (pv 2))))), ?_⟩
    refine ⟨(by show 2 ≤ sizeLine; decide), fun g0 ng0 => ?_⟩
    have eg0 : upd H g0 (HO.tup [V.int 0, V.int 1]) g0 = some (HO.tup [V.int 0, V.int 1]) := upd_same
    have s3 : Same H (upd H g0 (HO.tup [V.int 0, V.int 1])) := same_upd ng0
    generalize upd H g0 (HO.tup [V.int 0, V.int 1]) = H3 at eg0 s3 ⊢
    have er := s3 _ _ er
    have p2 := s3 _ _ p2
    have p3 := s3 _ _ p3
    have p4 := s3 _ _ p4
    have p2t := p2t.same s3
    have p3t := p3t.same s3
    have p4t := p4t.same s3
    have hA := hA.same s3
    have la := p2t.lenQ
    have ln := p3t.lenQ
    have lw := p4t.lenQ
    refine ⟨_, rfl, r, _, rfl, sg1 er, _, rfl, r, _, rfl, sg2 er, _, rfl, r, _, rfl, sg3 er, ?_⟩
    refine ⟨true, true, true, l1, l2, l3, ap.map V.ref, an.map V.ref, aw.map V.ref, rfl, SqL.of p2, SqL.of p3, SqL.of p4,
      for_zip3 (by rw [List.length_map, List.length_map]; omega) (by rw [List.length_map, List.length_map]; omega) (fun i σ H' => ∃ (g : Addr) (v5 v6 v7 v8 : Option V), σ = [some (.ref r), some (.ref l), some (.ref g), v5, v6, v7, v8] ∧ Same H3 H' ∧ TR H' g (errN A xs ys ws i))
        ⟨g0, none, none, none, none, rfl, Same.refl _, eg0⟩ (fun i σ H' ⟨_, _, _, _, _, _, ss, _⟩ => ⟨SqL.of (ss _ _ p2), SqL.of (ss _ _ p3), SqL.of (ss _ _ p4)⟩) ?_ ?_⟩
    · rintro i x y w' T' σ H4 hx hy hw ⟨g, v5, v6, v7, v8, rfl, s4, eg⟩ nT
      have ilt : i < xs.length := by
        have := (List.getElem?_eq_some_iff.mp hx).1
        rw [List.length_map] at this
        omega
      obtain ⟨rx, gx, ex⟩ := (p2t.same s4).getQ ilt
      obtain ⟨ry, gy, ey⟩ := (p3t.same s4).getQ (show i < ys.length by omega)
      obtain ⟨rw_, gw, ew⟩ := (p4t.same s4).getQ (show i < ws.length by omega)
      rw [List.getElem?_map, gx] at hx
      rw [List.getElem?_map, gy] at hy
      rw [List.getElem?_map, gw] at hw
      cases hx
      cases hy
      cases hw
      have s5 : Same H4 (upd H4 T' (.tup [.ref rx, .ref ry, .ref rw_])) := same_upd nT
      have eT : upd H4 T' (.tup [.ref rx, .ref ry, .ref rw_]) T' = some (.tup [.ref rx, .ref ry, .ref rw_]) := upd_same
      generalize upd H4 T' (.tup [.ref rx, .ref ry, .ref rw_]) = H5 at s5 eT ⊢
      have ex := s5 _ _ ex
      have ey := s5 _ _ ey
      have ew := s5 _ _ ew
      have eg := s5 _ _ eg
      have s35 := s4.trans s5
      refine ⟨T', _, rfl, SqT.of eT, rfl, ?_⟩
      refine ⟨_, _, rfl, _, _, rfl, _, _, rfl, rfl, ?_⟩
      obtain ⟨M, N, hM, hN, zM, zN, fr⟩ := fr_all lA sA
      have w1 : ((2 : Nat) ^ 14) ^ (A.length + 1) ≤ 2 ^ 196 := by
        rw [← Nat.pow_mul]
        exact Nat.pow_le_pow_right (by decide) (by omega)
      have ph := pz_hor lA sA (bx i)
      have ps := ph.sub (by_ i)
      have pe := pz_at lA sA (bx i) (by_ i) (bw i)
      have pg := pz_err lA sA bx by_ bw i
      refine ⟨_, rfl, _, rfl, _, rfl, l, rx, A, cf xs i, M, N, (cf xs i).den, (cf xs i).num.natAbs, 2 ^ 14, rfl, hA.same s35, ex, fr, Fr.self _, hM, (cf xs i).den_pos, (bx i).2, (bx i).1, ?_, ?_, Nat.lt_of_le_of_lt (bx i).1 (Nat.pow_lt_pow_right (by decide) (by decide)), fun r1 H6 s6 e6 => ?_⟩
      · refine Nat.lt_of_le_of_lt (Nat.mul_le_mul zM w1) ?_
        rw [← Nat.pow_add]
        exact Nat.pow_lt_pow_right (by decide) (by decide)
      · refine Nat.lt_of_le_of_lt (Nat.mul_le_mul zN (Nat.mul_le_mul (show A.length + 1 ≤ 2 ^ 4 by omega) w1)) ?_
        rw [← Nat.pow_add, ← Nat.pow_add]
        exact Nat.pow_lt_pow_right (by decide) (by decide)
      refine ⟨_, rfl, r1, ry, hor (cf xs i) A, cf ys i, rfl, e6, s6 _ _ ey, ph.sr (by decide), (by_ i).sr (by decide), fun r2 H7 s7 n7 e7 => ?_⟩
      refine ⟨r2, _, rfl, e7, fun r3 H8 s8 n8 e8 => ?_⟩
      have s58 := s6.trans (s7.trans s8)
      refine ⟨rw_, r3, cf ws i, _, rfl, s58 _ _ ew, e8, (bw i).sr (by decide), ps.abs.sr (by decide), fun r4 H9 s9 n9 e9 => ?_⟩
      have e9 : TR H9 r4 (errAt A (cf xs i) (cf ys i) (cf ws i)) := e9
      have s59 := s58.trans s9
      have eg := s59 _ _ eg
      refine ⟨_, rfl, _, rfl, g, r4, errN A xs ys ws i, _, rfl, eg, e9, pg.sr (by decide), pe.sr (by decide), _, rfl, ?_⟩
      by_cases hc : errN A xs ys ws i < errAt A (cf xs i) (cf ys i) (cf ws i)
      · rw [decide_eq_true hc]
        refine iteT ?_
        refine ⟨_, rfl, r4, _, _, _, _, rfl, s35.trans s59, ?_⟩
        rw [show errN A xs ys ws (i + 1) = _ from if_pos hc]
        exact e9
      · rw [decide_eq_false hc]
        refine iteF ?_
        refine ⟨_, rfl, g, _, _, _, _, rfl, s35.trans s59, ?_⟩
        rw [show errN A xs ys ws (i + 1) = _ from if_neg hc]
        exact eg
    · rintro σ H4 ⟨g, v5, v6, v7, v8, rfl, s4, eg⟩
      refine ⟨_, rfl, q g H4 (s3.trans s4) ?_⟩
      rw [List.length_map, la] at eg
      exact eg
end

end Vf

set_option maxRecDepth 100000
set_option maxHeartbeats 8000000
namespace Vf
open PySem PySem.Spec PyProof.Rows L2
/-! ### the law's fault -/
open LamX (ExtN Tabs TabS)
/-- the tuple that is told of a row -/
def FaultE (CR : Addr) (Q : VK) : XK := fun cls d H => cls = .ref CR ∧ ∃ (dd : Addr) (v : V), d = some dd ∧ H dd = some (.xd (fl ["row"] [v])) ∧ ∀ (t : Addr) (H' : Hp), Same H H' → H' t = some (.tup [.str "row", v]) → Q (.ref t) H'
/-- a call that ends with BadRow -/
def TFault (CR : Addr) : (XK → Hp → VK → Prop) → Hp → VK → Prop := fun tl H Q => ∀ (H1 : Hp) (k : VK), Same H H1 → tl (FaultE CR Q) H1 k
structure RwC (K : PySem.W.Frag) (mg : Str → Option Value) (CR : Addr) : Prop where
  m : mg "BadRow" = some (.ref CR)
  xf : XfC K CR
  ex : PySem.W.exmOne K (.ref CR) (.ref CR) = some true
  nr : PySem.W.findIn K (.ref CR) "row" = some none
abbrev sFault : Stmt := topS 66
theorem scFault : FnScope ["_law_call", "_law_told", "_law_error"] ["_law_call"] (defScope sFault) := ⟨rfl, rfl, rfl, by decide +kernel, rfl, by decide +kernel, by decide +kernel⟩
theorem fault_gives {X : Cx} {q : Str} {g : Addr} {cdg : Value} {CR : Addr} (T : RwC X.K X.mg CR) :
    LamX.GivesTo X ["_law_call", "_law_told", "_law_error"] "_law_fault" (defScope sFault) g cdg (defBody sFault) "_law_call" q (TFault CR) := by
  intro f c' s H Q tl act hc h
  refine ⟨_, pss_cons (ps_set (i := 1) scFault.nd rfl (Or.inl rfl) (pe_tup (pa_cons pe_str pa_nil)))
    (pss_cons (ps_try_some (X := (cxOf C8.CX0 X.prog X.w X.K X.mg X.base ["_law_call", "_law_told", "_law_error"] "_law_fault" (defScope sFault) g cdg X.A X.stack s H C8.E0).nox) (i := 2)
      (l := [(.ref CR, _)])
      (tb := fun W D σ H => ∃ Ech : XK, (∀ cls d σ' H', Ech cls d H' → σ'.length = 3 → W cls d σ' H') ∧ σ[0]? = some (some (.ref f)) ∧ H c' = some (LamX.CodeO c' q) ∧ tl Ech H fun _ H' => D.nx σ H')
      rfl rfl scFault.nd (fun W pn xe tk _ => ?_)
      (.cons ⟨rfl, by decide, .inl T.m⟩ rfl rfl (fun a oe cls d pn hz hf => pss_one (ps_set (i := 1) scFault.nd rfl (Or.inl rfl) (pe_tup (pa_cons pe_str (pa_cons (pe_xf T.xf T.nr hz hf (pv 2)) pa_nil))))) (.any _)))
    (pss_one (ps_ret (pv 1)))), ?_⟩
  · refine ⟨fun pins s' σ H' D I h' => ?_⟩
    obtain ⟨Ech, hW, h1, h2, h3⟩ := h'
    exact (pss_one (ps_expr (act _ pn xe Ech _ _ (takes_len tk) (fun cls d σ' H' z len => hW cls d σ' H' z len)))).run pins s' σ H' D I ⟨h1, h2, h3⟩
  · refine ⟨(by show 1 ≤ sizeLine; decide), fun t0 n0 => ?_⟩
    have s1 : Same H (upd H t0 (HO.tup [V.str "none"])) := same_upd n0
    refine ⟨FaultE CR Q, fun cls d σ' H' z len => ?_, rfl, s1 _ _ hc, ?_⟩
    · obtain ⟨x0, x1, x2, rfl⟩ : ∃ x0 x1 x2, σ' = [x0, x1, x2] := by
        match σ', len with
        | [x0, x1, x2], _ => exact ⟨x0, x1, x2, rfl⟩
      obtain ⟨rfl, dd, v, rfl, hdd, k⟩ := z
      refine ⟨true, T.ex, fun _ a na => ?_, fun z => nomatch z⟩
      refine ⟨.ref a, rfl, rfl, rfl, dd, _, v, rfl, hdd, (by kernel_rfl), (by show 2 ≤ sizeLine; decide), fun t nt => ?_⟩
      exact ⟨_, rfl, k t _ (same_upd nt) upd_same⟩
    · exact h _ _ s1

end Vf

set_option maxRecDepth 100000
set_option maxHeartbeats 8000000
namespace Vf
open PySem PySem.Spec PyProof.Rows L2
/-! ### wrong rows are refused -/
open LamX (ExtN Tabs TabS)
def Ts2 (Pt : Addr) : List (Addr × Str) := [(Pt, (Str.ofString "_law_refused_right" ++ Str.ofString ".<locals>.") ++ Str.ofString "<lambda>")]
theorem ts2_mem (Pt : Addr) : (Pt, (Str.ofString "_law_refused_right" ++ Str.ofString ".<locals>.") ++ Str.ofString "<lambda>") ∈ Ts2 Pt := List.mem_singleton.mpr rfl
theorem ts2_only (Pt : Addr) : ∀ p ∈ Ts2 Pt, p.1 = Pt → p.2 = (Str.ofString "_law_refused_right" ++ Str.ofString ".<locals>.") ++ Str.ofString "<lambda>" := fun p hp _ => by rw [List.mem_singleton.mp hp]
/-- the def that calls the lambdas -/
structure Yf (K : PySem.W.Frag) (mg : Str → Option Value) where
  g : Addr
  kV : Value
  doc : Value
  pm : Value
  an : Option Addr
  cdv : Value
  ct : Value
  oc : Value
  od : Option Addr
  osl : Array (Option Value)
  m : mg "_law_fault" = some (.ref g)
  kp : PySem.W.keepIn K (.ref g) = true
  lk : K.lookup g = some ⟨oc, od, .func (PySem.W.fnOf "_law_fault" "_law_fault" (defArgs sFault) (defBody sFault) (defScope sFault) .none kV doc pm an cdv ct), osl⟩
  hc : PySem.W.codeIn K cdv "_law_fault" = true
  b : L2.Binds K (PySem.W.fnOf "_law_fault" "_law_fault" (defArgs sFault) (defBody sFault) (defScope sFault) .none kV doc pm an cdv ct) ["_law_call"] []
/-- the same object, or flat values that are equal -/
def DV : Eqv := fun x y H => (∃ a, x = .ref a ∧ y = .ref a) ∨ DFlat x y H
theorem mon_v : Mon DV := fun _ _ _ _ _ d => d
theorem eq_v {X : Cx} : EqG X 0 DV := by
  intro A pins s σ H x y u v sb I rx ry d
  rcases d with ⟨a, rfl, rfl⟩ | d
  · cases rx
    cases ry
    exact SeqAt.EqAt.same (A := A) (s := s) (.ref a) X.prog X.w X.xe _ ⟨rfl, H, I, Ext.rfl'⟩
  · exact eqG_flat A pins s σ H x y u v sb I rx ry d
theorem dt_dv {K : PySem.W.Frag} {H H' : Hp} {v : V} {d : PyData} (h : Dt K H v d) : DV v v H' := by
  cases h with
  | non => exact .inr ⟨rfl, rfl, by simp [eqV]⟩
  | bl b => exact .inr ⟨rfl, rfl, by simp [eqV]⟩
  | int i => exact .inr ⟨rfl, rfl, by simp [eqV]⟩
  | str x => exact .inr ⟨rfl, rfl, by simp [eqV]⟩
  | lst => exact .inl ⟨_, rfl, rfl⟩
  | tup => exact .inl ⟨_, rfl, rfl⟩
  | dct => exact .inl ⟨_, rfl, rfl⟩
structure OddW (K : PySem.W.Frag) (H : Hp) (v : V) (d : PyData) : Prop where
  dt : Dt K H v d
  lz : Lz d
theorem OddW.n {K : PySem.W.Frag} {H H' : Hp} {v : V} {d : PyData} (h : OddW K H v d) (e : ExtN H H') : OddW K H' v d := ⟨h.dt.n e, h.lz⟩
theorem OddW.same {K : PySem.W.Frag} {H H' : Hp} {v : V} {d : PyData} (h : OddW K H v d) (e : Same H H') : OddW K H' v d := ⟨h.dt.mono e, h.lz⟩
structure Odd (K : PySem.W.Frag) (H : Hp) (v : V) (d : PyData) : Prop where
  dt : Dt K H v d
  lz : Lz d
  pl : d.plain = true
  dp : d.depth ≤ 50
theorem Odd.n {K : PySem.W.Frag} {H H' : Hp} {v : V} {d : PyData} (h : Odd K H v d) (e : ExtN H H') : Odd K H' v d := ⟨h.dt.n e, h.lz, h.pl, h.dp⟩
theorem Odd.same {K : PySem.W.Frag} {H H' : Hp} {v : V} {d : PyData} (h : Odd K H v d) (e : Same H H') : Odd K H' v d := ⟨h.dt.mono e, h.lz, h.pl, h.dp⟩
theorem RL.n {H H' : Hp} {l : Addr} {qs : List Rat} (h : RL H l qs) (e : ExtN H H') : RL H' l qs := by
  obtain ⟨as, h1, h2⟩ := h
  exact ⟨as, e _ _ h1 (fun ps z => by cases z), h2.imp fun a p z => e _ _ z (fun ps z => by cases z)⟩
theorem Rw.n {K : PySem.W.Frag} {H H' : Hp} {v : V} {d : PyData} {ps : List (Int × Int)} (h : Rw K H v d ps) (s : ExtN H H') : Rw K H' v d ps := by
  obtain ⟨⟨ds, h1, h2, h3, h4⟩, z⟩ := h
  exact ⟨⟨ds, h1.n s, h2, h3, h4⟩, z⟩
theorem BadP.n {K : PySem.W.Frag} {H H' : Hp} {v : V} {d : PyData} (h : BadP K H v d) (s : ExtN H H') : BadP K H' v d := by
  rcases h with h | ⟨ps, h1, h2⟩
  · exact .inl h
  · exact .inr ⟨ps, h1.n s, h2⟩
/-- the told tuple is the due one -/
theorem row_eqv {K : PySem.W.Frag} {H : Hp} {t1 t2 : Addr} {v : V} {d : PyData} (h1 : H t1 = some (.tup [.str "row", v])) (h2 : H t2 = some (.tup [.str "row", v])) (o : Odd K H v d) :
    Dt K H (.ref t1) (.tuple [.str "row", d]) ∧ Dt K H (.ref t2) (.tuple [.str "row", d]) ∧ (PyData.tuple [.str "row", d]).plain = true ∧ (PyData.tuple [.str "row", d]).depth ≤ 60 ∧ PyData.eqv (.tuple [.str "row", d]) (.tuple [.str "row", d]) = true := by
  have hd := o.dt
  have pl : (PyData.tuple [.str "row", d]).plain = true := by
    simp [PyData.plain, PyData.plainAll, o.pl]
  refine ⟨.tup (SqT.of h1) (.cons (.str _) (.cons hd .nil)), .tup (SqT.of h2) (.cons (.str _) (.cons hd .nil)), pl, ?_, SeqAt.eqv_refl_plain _ pl⟩
  have := o.dp
  simp [PyData.depth, PyData.depthAll]
  omega
theorem _root_.L2.Fun.okC {P : Program} {w : World} {K : PySem.W.Frag} {mg : Str → Option Value} {base : Heap} {x qual : Str} {st : Stmt} {f : Addr} {fd : FuncData} {N ps : List Str} {k : Nat} {sp : Sp} (F : Fun K x qual st f fd) (S : FnScope N ps (defScope st)) (len : ∀ vs H Q E, sp vs H Q E → vs.length = ps.length)
    (hbody : ∀ (cdv : Value) (A : Around) (outer : List Env) (s : Shared) (H : Hp) (vs : List V) (Q : VK) (E : XK), fd.code = cdv → Room k (A.deeper (envOfC qual (defScope st) s.heap.objs.size f cdv)) → sp vs H Q E →
      ∃ t, PSs (cxOf CX0 P w K mg base N qual (defScope st) f cdv A outer s H E).nox (defBody st) t ∧ t { nx := fun _ H' => Q .non H', rt := Q } (L2.start N vs) H) : FnOk P w K mg base CX0 (k + 1) f fd ps sp := by
  obtain ⟨oc, od, kV, doc, pm, an, cdv, ct, osl, rfl, lk, hcd⟩ := F.ex
  refine fn_of lk hcd S len fun A outer s H vs Q E hr hsp => ?_
  obtain ⟨t, h, q⟩ := hbody cdv A outer s H vs Q E rfl hr hsp
  exact ⟨t, h.nox, q⟩
theorem fault_raises {CR : Addr} {H2 : Hp} {v : V} {Q : VK} (k : ∀ (t : Addr) (H' : Hp), Same H2 H' → H' t = some (.tup [.str "row", v]) → Q (.ref t) H') : RaisesR CR H2 v (FaultE CR Q) :=
  fun d H' s n e => ⟨rfl, d, v, rfl, e, fun t H'' s2 et => k t H'' (s.trans s2) et⟩
theorem tabs_ext {T : List (Addr × Str)} {H H' : Hp} (h : Tabs T H) (s : Same H H') : Tabs T H' := fun p hp => (h p hp).ext s
theorem rows_pq {ys : List Rat} : rowD (.list ((ys.map pq).map pairD)) = some (ys.map pq) :=
  mapM_of fun p h => by
    obtain ⟨q, _, rfl⟩ := List.mem_map.mp h
    exact parts_pairD (pq_low q).pos
theorem list_odd {K : PySem.W.Frag} {H : Hp} {l : Addr} {ys : List Rat} (h : RL H l ys) (hl : ys.length ≤ 1000) : Odd K H (.ref l) (.list ((ys.map pq).map pairD)) := by
  obtain ⟨as, e, t⟩ := h
  refine ⟨.lst (SqL.of e) t.dts, fun ds hd => ?_, (plain_row _).2, ?_⟩
  · cases hd
    rw [List.length_map, List.length_map]
    exact hl
  · have := depth_pairs (ys.map pq)
    simp only [PyData.depth]
    omega
theorem good_rw {K : PySem.W.Frag} {H : Hp} {l : Addr} {xs : List Rat} (h : RL H l xs) (hl : xs.length ≤ 1000) (ok : ∀ q ∈ xs, RatOk (pq q)) (asc : AscQ xs) : Rw K H (.ref l) (.list ((xs.map pq).map pairD)) (xs.map pq) ∧ ascB (xs.map pq) = true := by
  have o := list_odd (K := K) h hl
  have b3 : (2 : Nat) ^ 110 < 2 ^ 1900 := Nat.pow_lt_pow_right (by decide) (by decide)
  refine ⟨⟨⟨_, o.dt, rfl, ?_, ?_⟩, fun p hp => ?_⟩, ?_⟩
  · have := rows_pq (ys := xs)
    exact this
  · rw [List.length_map, List.length_map]
    exact hl
  · obtain ⟨q, hq, rfl⟩ := List.mem_map.mp hp
    exact ⟨Nat.lt_trans (ok q hq).zt b3, Nat.lt_trans (ok q hq).zb b3⟩
  · unfold ascB
    rw [all_range]
    intro i hi
    rw [List.length_map] at hi
    have at_ : ∀ j, j < xs.length → pr (xs.map pq) j = pq (cf xs j) := fun j hj => pr_at (by rw [List.getElem?_map, List.getElem?_eq_getElem hj, cf_lt hj]; rfl)
    rw [at_ i (by omega), at_ (i + 1) (by omega)]
    refine decide_eq_true ?_
    have h1 := num_den (cf xs i)
    have h2 := num_den (cf xs (i + 1))
    exact (lt_cross (g := cf xs i) (e := cf xs (i + 1)) (by show cf xs i * (((cf xs i).den : Int) : Rat) = _; rw [Rat.intCast_natCast]; exact h1) (by show cf xs (i + 1) * (((cf xs (i + 1)).den : Int) : Rat) = _; rw [Rat.intCast_natCast]; exact h2) (by have := (cf xs i).den_pos; show (0 : Int) < ((cf xs i).den : Int); omega) (by have := (cf xs (i + 1)).den_pos; show (0 : Int) < ((cf xs (i + 1)).den : Int); omega)).mpr (asc i (by omega))
theorem tups_drop {H : Hp} : ∀ (n : Nat) {as : List Addr} {ps : List (Int × Int)}, Tups H as ps → Tups H (as.drop n) (ps.drop n)
  | 0, _, _, h => h
  | n + 1, _, _, .nil => .nil
  | n + 1, _, _, .cons _ t => tups_drop n t
theorem rep_lst {x : V} (n : Nat) : (List.replicate n [x]).flatten = List.replicate n x := List.flatten_replicate_singleton
theorem rep_ev {K' : PySem.W.Frag} {tx : TE} {σ : L2.St} {H : Hp} {Q : VK} {lg : Addr} {as : List Addr} {W : V → Hp → Prop} (hσ : σ[1]? = some (some (.ref lg))) (el : H lg = some (.lst (as.map V.ref))) (n20 : as.length ≤ 1000)
    (hx : ∀ Q' : VK, (∀ (x : V) (H1 : Hp), Same H H1 → W x H1 → Q' x H1) → tx σ H Q') (q : ∀ (x : V) (H1 : Hp) (l2 : Addr) (H' : Hp), Same H H1 → W x H1 → Same H1 H' → H' l2 = some (.lst (List.replicate as.length x)) → Q (.ref l2) H') :
    tOp rRep (tLst (tCons tx tNil)) (tCB (fun xs H_1 Q => ∃ p ys, xs = [V.ref p] ∧ (SqL K' H_1 p ys ∨ SqT K' H_1 p ys) ∧ Q (V.int ((ys.length : Nat) : Int)) H_1) (tCons (tVar 1) tNil)) σ H Q := by
  refine hx _ fun x H1 s1 w => ?_
  refine ⟨(by show 1 ≤ sizeLine; decide), fun lo nlo => ?_⟩
  have f2 : upd H1 lo (HO.lst [x]) lo = some (HO.lst [x]) := upd_same
  have s2 : Same H1 (upd H1 lo (HO.lst [x])) := same_upd nlo
  generalize upd H1 lo (HO.lst [x]) = H2 at f2 s2 ⊢
  refine ⟨_, hσ, lg, _, rfl, .inl (SqL.of (s2 _ _ (s1 _ _ el))), lo, _, _, rfl, rfl, f2, (by omega), (by rw [List.length_map]; omega), ?_, fun l5 nl5 => ?_⟩
  · rw [Int.toNat_natCast, List.length_map, sizeLine_eq]
    show 1 * _ ≤ _
    omega
  refine q x H1 l5 _ s1 w (s2.trans (same_upd nl5)) ?_
  rw [upd_same, Int.toNat_natCast, List.length_map, rep_lst]
theorem dts_rep {K : PySem.W.Frag} {H : Hp} {v : V} {d : PyData} (h : Dt K H v d) : ∀ n, Dts K H (List.replicate n v) (List.replicate n d)
  | 0 => .nil
  | n + 1 => .cons h (dts_rep h n)
theorem plain_rep {d : PyData} (h : d.plain = true) : ∀ n, PyData.plainAll (List.replicate n d) = true
  | 0 => by simp only [List.replicate_zero, PyData.plainAll]
  | n + 1 => by
    rw [List.replicate_succ]
    simp only [PyData.plainAll]
    rw [h, plain_rep h n]
    rfl
theorem depth_rep {d : PyData} {k : Nat} (h : d.depth ≤ k) : ∀ n, PyData.depthAll (List.replicate n d) ≤ k
  | 0 => by simp only [List.replicate_zero, PyData.depthAll]; omega
  | n + 1 => by
    rw [List.replicate_succ]
    simp only [PyData.depthAll]
    exact Nat.max_le.mpr ⟨h, depth_rep h n⟩
theorem odd_rep {K : PySem.W.Frag} {H : Hp} {l : Addr} {v : V} {d : PyData} {n : Nat} (e : H l = some (.lst (List.replicate n v))) (h : Dt K H v d) (pl : d.plain = true) (dp : d.depth ≤ 10) (hn : n ≤ 1000) : Odd K H (.ref l) (.list (List.replicate n d)) := by
  refine ⟨.lst (SqL.of e) (dts_rep h n), fun ds hd => ?_, ?_, ?_⟩
  · cases hd
    rw [List.length_replicate]
    exact hn
  · simp only [PyData.plain]
    exact plain_rep pl n
  · have := depth_rep dp n
    simp only [PyData.depth]
    omega
theorem mapM_rep {d : PyData} {p : Int × Int} (h : partsD d = some p) : ∀ n, (List.replicate n d).mapM partsD = some (List.replicate n p)
  | 0 => by rw [List.replicate_zero, List.mapM_nil]; rfl
  | n + 1 => by
    rw [List.replicate_succ, List.mapM_cons, h, mapM_rep h n]
    rfl
theorem bad_rep {K : PySem.W.Frag} {H : Hp} {l : Addr} {v : V} {d : PyData} {n : Nat} {p : Int × Int} (e : H l = some (.lst (List.replicate n v))) (h : Dt K H v d) (hp : partsD d = some p) (z : Sz p.1 ∧ Sz p.2) (hz : p.1 ≤ 0) (n0 : 0 < n) (hn : n ≤ 1000) : BadW K H (.ref l) (.list (List.replicate n d)) n := by
  refine .inr (.inr ⟨List.replicate n p, ⟨⟨_, .lst (SqL.of e) (dts_rep h n), rfl, mapM_rep hp n, by rw [List.length_replicate]; exact hn⟩, fun q hq => by rw [(List.mem_replicate.mp hq).2]; exact z⟩, List.length_replicate, ?_⟩)
  match n, n0 with
  | n + 1, _ =>
    unfold posB
    rw [List.replicate_succ, List.map_cons, List.all_cons, decide_eq_false (by omega)]
    rfl
theorem none_rep {d : PyData} (h : partsD d = none) {n : Nat} (n0 : 0 < n) : rowD (.list (List.replicate n d)) = none := by
  match n, n0 with
  | n + 1, _ =>
    show (List.replicate (n + 1) d).mapM partsD = none
    rw [List.replicate_succ, List.mapM_cons, h]
    rfl
theorem mapM_bent {d : PyData} : ∀ k, (List.replicate k (PyData.int 1) ++ [d]).mapM partsD = (partsD d).map fun p => List.replicate k ((1, 1) : Int × Int) ++ [p]
  | 0 => by
    rw [List.replicate_zero, List.nil_append, List.mapM_cons, List.mapM_nil]
    cases partsD d <;> rfl
  | k + 1 => by
    rw [List.replicate_succ, List.cons_append, List.mapM_cons, mapM_bent k]
    cases partsD d <;> rfl
theorem plain_bent {d : PyData} (h : d.plain = true) : ∀ k, PyData.plainAll (List.replicate k (PyData.int 1) ++ [d]) = true
  | 0 => by simp [PyData.plainAll, h]
  | k + 1 => by
    rw [List.replicate_succ, List.cons_append]
    simp only [PyData.plainAll]
    rw [show (PyData.int 1).plain = true from rfl, plain_bent h k]
    rfl
theorem depth_bent {d : PyData} (h : d.depth ≤ 10) : ∀ k, PyData.depthAll (List.replicate k (PyData.int 1) ++ [d]) ≤ 10
  | 0 => by
    simp only [List.replicate_zero, List.nil_append, PyData.depthAll]
    omega
  | k + 1 => by
    rw [List.replicate_succ, List.cons_append]
    simp only [PyData.depthAll]
    exact Nat.max_le.mpr ⟨by simp [PyData.depth], depth_bent h k⟩
theorem bent_odd {K : PySem.W.Frag} {H : Hp} {l : Addr} {v : V} {d : PyData} {k : Nat} (e : H l = some (.lst (List.replicate k (V.int 1) ++ [v]))) (h : Dt K H v d) (pl : d.plain = true) (dp : d.depth ≤ 10) (hk : k ≤ 900) : Odd K H (.ref l) (.list (List.replicate k (.int 1) ++ [d])) := by
  refine ⟨.lst (SqL.of e) ((dts_rep (.int 1) k).app (.cons h .nil)), fun ds hd => ?_, ?_, ?_⟩
  · cases hd
    rw [List.length_append, List.length_replicate, List.length_singleton]
    omega
  · simp only [PyData.plain]
    exact plain_bent pl k
  · have := depth_bent dp k
    simp only [PyData.depth]
    omega
theorem bent_bad {K : PySem.W.Frag} {H : Hp} {l : Addr} {v : V} {d : PyData} {k : Nat} (e : H l = some (.lst (List.replicate k (V.int 1) ++ [v]))) (h : Dt K H v d) (hd : partsD d = none ∨ ∃ p, partsD d = some p ∧ p.1 ≤ 0 ∧ Sz p.1 ∧ Sz p.2) (hk : k ≤ 900) : BadW K H (.ref l) (.list (List.replicate k (.int 1) ++ [d])) (k + 1) := by
  rcases hd with hn | ⟨p, hp, p0, z1, z2⟩
  · refine .inl ?_
    show (List.replicate k (PyData.int 1) ++ [d]).mapM partsD = none
    rw [mapM_bent, hn]
    rfl
  · refine .inr (.inr ⟨List.replicate k (1, 1) ++ [p], ⟨⟨_, .lst (SqL.of e) ((dts_rep (.int 1) k).app (.cons h .nil)), rfl, by rw [mapM_bent, hp]; rfl, ?_⟩, fun q hq => ?_⟩, ?_, ?_⟩)
    · rw [List.length_append, List.length_replicate, List.length_singleton]
      omega
    · rcases List.mem_append.mp hq with h | h
      · rw [(List.mem_replicate.mp h).2]
        exact ⟨sz_01.2, sz_01.2⟩
      · rw [List.mem_singleton.mp h]
        exact ⟨z1, z2⟩
    · rw [List.length_append, List.length_replicate, List.length_singleton]
    · unfold posB
      rw [List.map_append, List.all_append, List.map_singleton, List.all_cons, decide_eq_false (by omega)]
      simp
theorem BadW.n {K : PySem.W.Frag} {H H' : Hp} {v : V} {d : PyData} {n : Nat} (h : BadW K H v d n) (s : ExtN H H') : BadW K H' v d n := by
  rcases h with h | h | ⟨ps, h1, h2⟩
  · exact .inl h
  · exact .inr (.inl h)
  · exact .inr (.inr ⟨ps, h1.n s, h2⟩)
theorem check_ne {K K' : PySem.W.Frag} (hK : K' = K) {Pt CT CR : Addr} {ta tb tc tv : TE} {va vb vc v : V} {d : PyData} {σ : L2.St} {H : Hp} {D : Ends} {tn : TS}
    (ha : ∀ (H : Hp) (Q : VK), Q va H → ta σ H Q) (hb : ∀ (H : Hp) (Q : VK), Q vb H → tb σ H Q) (hc : ∀ (H : Hp) (Q : VK), Q vc H → tc σ H Q) (hv : ∀ (H : Hp) (Q : VK), Q v H → tv σ H Q) (hT : Tabs (Ts2 Pt) H)
    (hE : ∀ H2, ExtN H H2 → PtEnd K H2 va vb vc (fun _ _ _ => False) (fun x => x = v)) (ho : Odd K H v d) (h : ∀ H4, ExtN H H4 → Tabs (Ts2 Pt) H4 → D.nx σ H4) :
    tIfS (tTest (tOp (rNeT K') (LamX.tLam (Ts2 Pt) (TFault CR) fun E' => tMake CT (spPtI K CT CR) [] E' (tCons ta (tCons tb (tCons tc tNil)))) (tTup (tCons (tC (V.str "row")) (tCons tv tNil))))) tn tNext D σ H := by
  subst hK
  refine ⟨hT, fun H1 e1 T1 H2 k s2 => ?_⟩
  refine ha _ _ (hb _ _ (hc _ _ (pt_made (Qd := fun x H => k (.ref x) H) ((hE H2 (e1.trans (ExtN.of s2))).map (Same.refl _) (fun _ _ _ z => z.elim) fun x hx => ?_))))
  subst hx
  refine fault_raises fun t H3 s3 et => ?_
  refine hv _ _ ⟨(by show 2 ≤ sizeLine; decide), fun t2 n2 => ?_⟩
  have s4 : Same H3 (upd H3 t2 (HO.tup [V.str "row", x])) := same_upd n2
  have s24 := s2.trans (s3.trans s4)
  have e4 : ExtN H (upd H3 t2 (HO.tup [V.str "row", x])) := e1.trans (ExtN.of s24)
  obtain ⟨g1, g2, g3, g4, g5⟩ := row_eqv (s4 _ _ et) upd_same (ho.n e4)
  refine ⟨_, _, g1, g2, g3, g3, g4, _, rfl, ?_⟩
  rw [g5]
  exact iteF (h _ e4 (tabs_ext T1 s24))
theorem check_neW {K K' : PySem.W.Frag} (hK : K' = K) {Pt CT CR : Addr} {ta tb tc tv : TE} {va vb vc v : V} {d : PyData} {σ : L2.St} {H : Hp} {D : Ends} {tn : TS}
    (ha : ∀ (H : Hp) (Q : VK), Q va H → ta σ H Q) (hb : ∀ (H : Hp) (Q : VK), Q vb H → tb σ H Q) (hc : ∀ (H : Hp) (Q : VK), Q vc H → tc σ H Q) (hv : ∀ (H : Hp) (Q : VK), Q v H → tv σ H Q) (hT : Tabs (Ts2 Pt) H)
    (hE : ∀ H2, ExtN H H2 → PtEnd K H2 va vb vc (fun _ _ _ => False) (fun x => x = v)) (ho : OddW K H v d) (h : ∀ H4, ExtN H H4 → Tabs (Ts2 Pt) H4 → D.nx σ H4) :
    tIfS (tTest (tOp (rNeG K' DV) (LamX.tLam (Ts2 Pt) (TFault CR) fun E' => tMake CT (spPtI K CT CR) [] E' (tCons ta (tCons tb (tCons tc tNil)))) (tTup (tCons (tC (V.str "row")) (tCons tv tNil))))) tn tNext D σ H := by
  subst hK
  refine ⟨hT, fun H1 e1 T1 H2 k s2 => ?_⟩
  refine ha _ _ (hb _ _ (hc _ _ (pt_made (Qd := fun x H => k (.ref x) H) ((hE H2 (e1.trans (ExtN.of s2))).map (Same.refl _) (fun _ _ _ z => z.elim) fun x hx => ?_))))
  subst hx
  refine fault_raises fun t H3 s3 et => ?_
  refine hv _ _ ⟨(by show 2 ≤ sizeLine; decide), fun t2 n2 => ?_⟩
  have s4 : Same H3 (upd H3 t2 (HO.tup [V.str "row", x])) := same_upd n2
  have s24 := s2.trans (s3.trans s4)
  have e4 : ExtN H (upd H3 t2 (HO.tup [V.str "row", x])) := e1.trans (ExtN.of s24)
  refine ⟨⟨t, t2, _, _, rfl, rfl, SqT.of (s4 _ _ et), SqT.of upd_same, .cons (.inr ⟨rfl, rfl, by simp [eqV]⟩) (.cons (dt_dv ho.dt) .nil)⟩, fun H5 e5 => ⟨_, rfl, ?_⟩⟩
  exact iteF (h _ (e4.trans (ExtN.of e5)) (tabs_ext (tabs_ext T1 s24) e5))
theorem check_eq {K K' : PySem.W.Frag} (hK : K' = K) {Pt CT CR : Addr} {ta tb tc tv : TE} {va vb vc v : V} {d : PyData} {σ : L2.St} {H : Hp} {D : Ends}
    (ha : ∀ (H : Hp) (Q : VK), Q va H → ta σ H Q) (hb : ∀ (H : Hp) (Q : VK), Q vb H → tb σ H Q) (hc : ∀ (H : Hp) (Q : VK), Q vc H → tc σ H Q) (hv : ∀ (H : Hp) (Q : VK), Q v H → tv σ H Q) (hT : Tabs (Ts2 Pt) H)
    (hE : ∀ H2, ExtN H H2 → PtEnd K H2 va vb vc (fun _ _ _ => False) (fun x => x = v)) (ho : Odd K H v d) (h : ∀ H4, D.rt (.bl true) H4) :
    tRet (tOp (rEqT K') (LamX.tLam (Ts2 Pt) (TFault CR) fun E' => tMake CT (spPtI K CT CR) [] E' (tCons ta (tCons tb (tCons tc tNil)))) (tTup (tCons (tC (V.str "row")) (tCons tv tNil)))) D σ H := by
  subst hK
  refine ⟨hT, fun H1 e1 T1 H2 k s2 => ?_⟩
  refine ha _ _ (hb _ _ (hc _ _ (pt_made (Qd := fun x H => k (.ref x) H) ((hE H2 (e1.trans (ExtN.of s2))).map (Same.refl _) (fun _ _ _ z => z.elim) fun x hx => ?_))))
  subst hx
  refine fault_raises fun t H3 s3 et => ?_
  refine hv _ _ ⟨(by show 2 ≤ sizeLine; decide), fun t2 n2 => ?_⟩
  have s4 : Same H3 (upd H3 t2 (HO.tup [V.str "row", x])) := same_upd n2
  have e4 : ExtN H (upd H3 t2 (HO.tup [V.str "row", x])) := e1.trans (ExtN.of (s2.trans (s3.trans s4)))
  obtain ⟨g1, g2, g3, g4, g5⟩ := row_eqv (s4 _ _ et) upd_same (ho.n e4)
  refine ⟨_, _, g1, g2, g3, g3, g4, ?_⟩
  rw [g5]
  exact h _
def spRef (K : PySem.W.Frag) (Pt : Addr) : Sp := fun vs H Q _ => ∃ (p lc lg : Addr) (B : Int) (vo vw : V) (xs : List Rat) (do_ dw : PyData), vs = [.ref p, .ref lg, vo, vw] ∧ Tabs (Ts2 Pt) H ∧ Pen H p lc B ∧ B ≤ 1000000 ∧ RL H lg xs ∧ xs ≠ [] ∧ xs.length ≤ 20 ∧ AscQ xs ∧ (∀ q ∈ xs, RatOk (pq q)) ∧
  Odd K H vo do_ ∧ BadP K H vo do_ ∧ OddW K H vw dw ∧ BadN dw xs.length ∧ ∀ H', Q (.bl true) H'
section
variable {P : Program} {w : World} {K : PySem.W.Frag} {mg : Str → Option Value} {base : Heap} {CN CT CR : Addr}
abbrev sRef : Stmt := topS 67
theorem scRef : FnScope ["_law_pen_here", "_law_good", "_law_odd", "_law_wrong", "_law_short", "_law_bad", "_law_bent"] ["_law_pen_here", "_law_good", "_law_odd", "_law_wrong"] (defScope sRef) := ⟨rfl, rfl, rfl, by decide +kernel, rfl, by decide +kernel, by decide +kernel⟩
theorem ok_ref {f : Addr} {fd : FuncData} (F : Fun K "_law_refused_right" "_law_refused_right" sRef f fd) (T : Bk mg) (hm1 : M1 base) (PT_ : PtM P w K mg base CT CR) (RC : RwC K mg CR) (c Pt : Addr) (hfc : fd.code = .ref c) (hTB : LamX.TabB base mg c Pt) (Yf : Yf K mg) (G__law_pick : Df P w K mg base "_law_pick" 2 ["_law_pen_here", "_law_some"] spPick) :
    FnOk P w K mg base CX0 10 f fd ["_law_pen_here", "_law_good", "_law_odd", "_law_wrong"] (spRef K Pt) := by
  refine Fun.okC F scRef (fun vs H Q E h => ?_) (fun cdv A outer s H vs Q E hcd hr h => ?_)
  · obtain ⟨p, lc, lg, B, vo, vw, xs, do_, dw, rfl, _⟩ := h
    rfl
  · obtain ⟨p, lc, lg, B, vo, vw, xs, do_, dw, rfl, hT, hP, hB, hg, ne, l20, asc, ox, oo, bo, ow, bw, q⟩ := h
    have hcd : cdv = .ref c := hcd.symm.trans hfc
    refine ⟨_, (C8.pss_cut (ps_set (i := 4) scRef.nd rfl (Or.inr rfl) (pe_ifExp (pt_cmpR op_gt (pe_callB call_len_seq (by rfl) T.len (by decide +kernel) (pa_cons (pv 1) pa_nil)) pe_int (nomark _)) (pe_slice sl_list (pv 1) (po_some pe_int) po_none) (pe_op op_cat (pv 1) (pv 1))))
  (pss_cons (ps_if (pt_cmpR (op_neT hr.units hm1) (LamX.pe_lamcall (T := Ts2 Pt) (TT := TFault CR) (k := 7) rfl Yf.m Yf.kp Yf.lk Yf.hc Yf.b scFault rfl (.inl rfl) (fault_gives RC) hTB hcd (by rw [qual_eq]; exact ts2_mem Pt) (by rw [qual_eq]; exact ts2_only Pt) (hr.mono (by decide)) (show LamX.LamS (defScope sRef) _ from LamX.lamS_by (by decide +kernel)) rfl (fun _ _ _ _ _ => rfl) (fun A' out' s' H' E' f' c' hr' => (pe_make PT_.mkI PT_.okI (hr'.mono (by decide)) rfl PT_.C.m PT_.b4 .nil (E := E') (passes_call (takes_of rfl rfl rfl rfl) (fun _ _ _ _ h => h)) (pa_cons (pv 2) (pa_cons (pv 3) (pa_cons pe_int pa_nil)))))) (pe_tup (pa_cons pe_str (pa_cons (pv 2) pa_nil))) (nomark _))
    (pss_one (ps_ret pe_bl))
    pss_nil)
  (pss_cons (ps_if (pt_cmpR (show OpR _ _ (rNeG K DV) from op_neG mon_v eq_v (hr.mono (by decide))) (LamX.pe_lamcall (T := Ts2 Pt) (TT := TFault CR) (k := 7) rfl Yf.m Yf.kp Yf.lk Yf.hc Yf.b scFault rfl (.inl rfl) (fault_gives RC) hTB hcd (by rw [qual_eq]; exact ts2_mem Pt) (by rw [qual_eq]; exact ts2_only Pt) (hr.mono (by decide)) (show LamX.LamS (defScope sRef) _ from LamX.lamS_by (by decide +kernel)) rfl (fun _ _ _ _ _ => rfl) (fun A' out' s' H' E' f' c' hr' => (pe_make PT_.mkI PT_.okI (hr'.mono (by decide)) rfl PT_.C.m PT_.b4 .nil (E := E') (passes_call (takes_of rfl rfl rfl rfl) (fun _ _ _ _ h => h)) (pa_cons (pv 1) (pa_cons (pv 3) (pa_cons pe_int pa_nil)))))) (pe_tup (pa_cons pe_str (pa_cons (pv 3) pa_nil))) (nomark _))
    (pss_one (ps_ret pe_bl))
    pss_nil)
  (pss_cons (ps_if (pt_cmpR (op_neT hr.units hm1) (LamX.pe_lamcall (T := Ts2 Pt) (TT := TFault CR) (k := 7) rfl Yf.m Yf.kp Yf.lk Yf.hc Yf.b scFault rfl (.inl rfl) (fault_gives RC) hTB hcd (by rw [qual_eq]; exact ts2_mem Pt) (by rw [qual_eq]; exact ts2_only Pt) (hr.mono (by decide)) (show LamX.LamS (defScope sRef) _ from LamX.lamS_by (by decide +kernel)) rfl (fun _ _ _ _ _ => rfl) (fun A' out' s' H' E' f' c' hr' => (pe_make PT_.mkI PT_.okI (hr'.mono (by decide)) rfl PT_.C.m PT_.b4 .nil (E := E') (passes_call (takes_of rfl rfl rfl rfl) (fun _ _ _ _ h => h)) (pa_cons (pv 1) (pa_cons (pv 4) (pa_cons pe_int pa_nil)))))) (pe_tup (pa_cons pe_str (pa_cons (pv 4) pa_nil))) (nomark _))
    (pss_one (ps_ret pe_bl))
    pss_nil)
  (C8.pss_cut (ps_set (i := 5) scRef.nd rfl (Or.inr rfl) (pe_call G__law_pick.ok (hr.mono (by decide)) rfl G__law_pick.m G__law_pick.kp G__law_pick.b .nil pass0 (pa_cons (pv 0) (pa_cons (pe_lst (pa_cons pe_int (pa_cons (pe_tup pa_nil) (pa_cons (pe_op op_rep (pe_lst (pa_cons pe_int pa_nil)) (pe_callB call_len_seq (by rfl) T.len (by decide +kernel) (pa_cons (pv 1) pa_nil))) (pa_cons (pe_op op_rep (pe_lst (pa_cons (pe_tup (pa_cons (pe_un un_neg pe_int) (pa_cons pe_int pa_nil))) pa_nil)) (pe_callB call_len_seq (by rfl) T.len (by decide +kernel) (pa_cons (pv 1) pa_nil))) (pa_cons (pe_op op_rep (pe_lst (pa_cons pe_non pa_nil)) (pe_callB call_len_seq (by rfl) T.len (by decide +kernel) (pa_cons (pv 1) pa_nil))) (pa_cons (pe_op op_repS pe_str (pe_callB call_len_seq (by rfl) T.len (by decide +kernel) (pa_cons (pv 1) pa_nil))) (pa_cons (pv 4) pa_nil)))))))) pa_nil))))
  (C8.pss_cut (ps_set (i := 6) scRef.nd rfl (Or.inr rfl) (pe_op op_cat (pe_op op_rep (pe_lst (pa_cons pe_int pa_nil)) (pe_op op_sub (pe_callB call_len_seq (by rfl) T.len (by decide +kernel) (pa_cons (pv 1) pa_nil)) pe_int)) (pe_lst (pa_cons (pe_call G__law_pick.ok (hr.mono (by decide)) rfl G__law_pick.m G__law_pick.kp G__law_pick.b .nil pass0 (pa_cons (pv 0) (pa_cons (pe_lst (pa_cons pe_int (pa_cons (pe_un un_neg pe_int) (pa_cons pe_bl (pa_cons pe_str (pa_cons (pe_tup (pa_cons pe_int (pa_cons pe_int pa_nil))) (pa_cons pe_non pa_nil))))))) pa_nil))) pa_nil))))
  (pss_cons (ps_if (pt_cmpR (op_neT hr.units hm1) (LamX.pe_lamcall (T := Ts2 Pt) (TT := TFault CR) (k := 7) rfl Yf.m Yf.kp Yf.lk Yf.hc Yf.b scFault rfl (.inl rfl) (fault_gives RC) hTB hcd (by rw [qual_eq]; exact ts2_mem Pt) (by rw [qual_eq]; exact ts2_only Pt) (hr.mono (by decide)) (show LamX.LamS (defScope sRef) _ from LamX.lamS_by (by decide +kernel)) rfl (fun _ _ _ _ _ => rfl) (fun A' out' s' H' E' f' c' hr' => (pe_make PT_.mkI PT_.okI (hr'.mono (by decide)) rfl PT_.C.m PT_.b4 .nil (E := E') (passes_call (takes_of rfl rfl rfl rfl) (fun _ _ _ _ h => h)) (pa_cons (pv 1) (pa_cons (pv 1) (pa_cons (pv 5) pa_nil)))))) (pe_tup (pa_cons pe_str (pa_cons (pv 5) pa_nil))) (nomark _))
    (pss_one (ps_ret pe_bl))
    pss_nil)
  (pss_one (ps_ret (pe_cmpR (op_eqT hr.units hm1) (LamX.pe_lamcall (T := Ts2 Pt) (TT := TFault CR) (k := 7) rfl Yf.m Yf.kp Yf.lk Yf.hc Yf.b scFault rfl (.inl rfl) (fault_gives RC) hTB hcd (by rw [qual_eq]; exact ts2_mem Pt) (by rw [qual_eq]; exact ts2_only Pt) (hr.mono (by decide)) (show LamX.LamS (defScope sRef) _ from LamX.lamS_by (by decide +kernel)) rfl (fun _ _ _ _ _ => rfl) (fun A' out' s' H' E' f' c' hr' => (pe_make PT_.mkI PT_.okI (hr'.mono (by decide)) rfl PT_.C.m PT_.b4 .nil (E := E') (passes_call (takes_of rfl rfl rfl rfl) (fun _ _ _ _ h => h)) (pa_cons (pv 1) (pa_cons (pv 1) (pa_cons (pv 6) pa_nil)))))) (pe_tup (pa_cons pe_str (pa_cons (pv 6) pa_nil))) (nomark _))))))))))), ?_⟩
    have n0 : 0 < xs.length := List.length_pos_iff.mpr ne
    obtain ⟨as, eg, tg⟩ := hg
    have lg1 := tg.lenQ
    refine ⟨fun σ H' => ∃ (ls : Addr) (ys : List Rat), σ = [some (.ref p), some (.ref lg), some vo, some vw, some (.ref ls), none, none] ∧ Same H H' ∧ RL H' ls ys ∧ ys.length ≠ xs.length ∧ ys.length ≤ 40 ∧ (∀ q ∈ ys, RatOk (pq q)), ?_, ?_⟩
    · refine ⟨_, rfl, lg, _, rfl, .inl (SqL.of eg), _, _, rfl, rfl, _, rfl, ?_⟩
      rw [List.length_map]
      by_cases h1 : 1 < xs.length
      · rw [decide_eq_true (by omega)]
        refine iteT ?_
        refine ⟨_, rfl, _, rfl, lg, _, rfl, SqL.of eg, fun lb nb => ?_⟩
        refine ⟨lb, xs.drop 1, rfl, same_upd nb, ⟨as.drop 1, ?_, ?_⟩, ?_, ?_, fun q hq => ox q (List.mem_of_mem_drop hq)⟩
        · rw [upd_same, cut1, List.map_drop]
        · rw [List.map_drop]
          exact Tups.same (same_upd nb) (tups_drop 1 tg)
        · rw [List.length_drop]
          omega
        · rw [List.length_drop]
          omega
      · rw [decide_eq_false (by omega)]
        refine iteF ?_
        refine ⟨_, rfl, _, rfl, lg, lg, _, _, rfl, rfl, eg, eg, ?_, fun lb nb => ?_⟩
        · rw [List.length_map, sizeLine_eq]
          omega
        refine ⟨lb, xs ++ xs, rfl, same_upd nb, ⟨as ++ as, ?_, ?_⟩, ?_, ?_, fun q hq => ox q ((List.mem_append.mp hq).elim id id)⟩
        · rw [upd_same, List.map_append]
        · rw [List.map_append]
          exact Tups.same (same_upd nb) (tg.app tg)
        · rw [List.length_append]
          omega
        · rw [List.length_append]
          omega
    rintro σ H0 ⟨ls, ys, rfl, s0, hls, yne, y40, oy⟩
    have T0 := tabs_ext hT s0
    have oo0 := oo.same s0
    have ow0 := ow.same s0
    have bo0 := bo.same s0
    have hg0 : RL H0 lg xs := RL.same ⟨as, eg, tg⟩ s0
    have os0 := list_odd (K := K) hls (by omega)
    have gl : ∀ {H2 : Hp}, RL H2 lg xs → Rw K H2 (.ref lg) (.list ((xs.map pq).map pairD)) (xs.map pq) ∧ ascB (xs.map pq) = true := fun h => good_rw h (by omega) ox asc
    have xne : xs.map pq ≠ [] := fun z => ne (List.map_eq_nil_iff.mp z)
    have xl : (xs.map pq).length = xs.length := List.length_map ..
    have rd : ∀ {i : Nat} {v : V} {σ : L2.St}, σ[i]? = some (some v) → ∀ (H : Hp) (Q : VK), Q v H → tVar i σ H Q := fun h H Q q => ⟨_, h, q⟩
    refine check_ne rfl (rd rfl) (rd rfl) (fun H Q q => q) (rd rfl) T0 (fun H2 e2 => ⟨do_, dw, .int 0, (oo0.n e2).dt, oo0.lz, (ow0.n e2).dt, ow0.lz, .int 0, (fun ds h => by cases h), .inl ⟨bo0.n e2, rfl⟩⟩) oo0 fun H4 e4 T4 => ?_
    refine check_neW rfl (rd rfl) (rd rfl) (fun H Q q => q) (rd rfl) T4 (fun H2 e2 => ⟨_, dw, .int 0, (list_odd ((hg0.n e4).n e2) (by omega)).dt, (list_odd (K := K) ((hg0.n e4).n e2) (by omega)).lz, ((ow0.n e4).n e2).dt, ow0.lz, .int 0, (fun ds h => by cases h), .inr ⟨_, (gl ((hg0.n e4).n e2)).1, xne, (gl ((hg0.n e4).n e2)).2, .inl ⟨by rw [xl]; exact bw, rfl⟩⟩⟩) (ow0.n e4) fun H5 e5 T5 => ?_
    have e5 := e4.trans e5
    have bs : BadN (.list ((ys.map pq).map pairD)) (xs.map pq).length := .inr ⟨_, rows_pq, by rw [List.length_map, xl]; exact yne⟩
    refine check_ne rfl (rd rfl) (rd rfl) (fun H Q q => q) (rd rfl) T5 (fun H2 e2 => ⟨_, _, .int 0, (list_odd ((hg0.n e5).n e2) (by omega)).dt, (list_odd (K := K) ((hg0.n e5).n e2) (by omega)).lz, ((os0.n e5).n e2).dt, os0.lz, .int 0, (fun ds h => by cases h), .inr ⟨_, (gl ((hg0.n e5).n e2)).1, xne, (gl ((hg0.n e5).n e2)).2, .inl ⟨bs, rfl⟩⟩⟩) (os0.n e5) fun H6 e6 T6 => ?_
    have e6 := e5.trans e6
    have hg6 := hg0.n e6
    have hP6 := (hP.same s0).n e6
    have os6 := os0.n e6
    refine ⟨fun σ H' => ∃ (vb : V) (db : PyData), σ = [some (.ref p), some (.ref lg), some vo, some vw, some (.ref ls), some vb, none] ∧ Tabs (Ts2 Pt) H' ∧ RL H' lg xs ∧ Odd K (wo p H') vb db ∧ BadW K (wo p H') vb db xs.length ∧ db ≠ .none ∧ Pen H' p lc (B + 1), ?_, ?_⟩
    · obtain ⟨as6, eg6, tg6⟩ := hg6
      have lg6 := tg6.lenQ
      refine ⟨_, rfl, (by show 0 ≤ sizeLine; decide), fun t0 nt0 => ?_⟩
      have f0 : upd H6 t0 (HO.tup []) t0 = some (HO.tup []) := upd_same
      have s7 : Same H6 (upd H6 t0 (HO.tup [])) := same_upd nt0
      generalize upd H6 t0 (HO.tup []) = H7 at f0 s7 ⊢
      refine rep_ev (W := fun x _ => x = .int 0) rfl (s7 _ _ eg6) (by omega) (fun Q' h => h (.int 0) _ (Same.refl _) rfl) fun x8 H8 l1 H9 s8 w8 s9 f1 => ?_
      subst w8
      have s79 := s8.trans s9
      refine rep_ev (W := fun x H => ∃ t, x = .ref t ∧ H t = some (.tup [.int (-1), .int 2])) rfl (s79 _ _ (s7 _ _ eg6)) (by omega) (fun Q' h => ⟨1, rfl, (by show 2 ≤ sizeLine; decide), fun t nt => h (.ref t) _ (same_upd nt) ⟨t, rfl, upd_same⟩⟩) fun x10 H10 l2 H11 s10 w10 s11 f2 => ?_
      obtain ⟨tm, rfl, fm⟩ := w10
      have s711 := s79.trans (s10.trans s11)
      refine rep_ev (W := fun x _ => x = .non) rfl (s711 _ _ (s7 _ _ eg6)) (by omega) (fun Q' h => h .non _ (Same.refl _) rfl) fun x12 H12 l3 H13 s12 w12 s13 f3 => ?_
      subst w12
      have s713 := s711.trans (s12.trans s13)
      have eg13 := s713 _ _ (s7 _ _ eg6)
      refine ⟨_, rfl, lg, _, rfl, .inl (SqL.of eg13), "1", _, rfl, rfl, rfl, (by rw [List.length_map]; omega), (by rw [List.length_map]; omega), fun z => ?_⟩
      refine ⟨_, rfl, (by show 7 ≤ sizeLine; decide), fun lo nlo => ?_⟩
      have fo : upd H13 lo (HO.lst [V.int 0, V.ref t0, V.ref l1, V.ref l2, V.ref l3, V.str z, V.ref ls]) lo = some (HO.lst [V.int 0, V.ref t0, V.ref l1, V.ref l2, V.ref l3, V.str z, V.ref ls]) := upd_same
      have so : Same H13 (upd H13 lo (HO.lst [V.int 0, V.ref t0, V.ref l1, V.ref l2, V.ref l3, V.str z, V.ref ls])) := same_upd nlo
      have s613 := s7.trans s713
      have lop := ((hP6.same s613).ne_new nlo).1
      generalize upd H13 lo (HO.lst [V.int 0, V.ref t0, V.ref l1, V.ref l2, V.ref l3, V.str z, V.ref ls]) = H14 at fo so ⊢
      have s614 := s613.trans so
      have hP14 := hP6.same s614
      have T14 := tabs_ext T6 s614
      have ps2 : ∀ {a : Addr} {o : HO}, H14 a = some o → (∀ kvs, o ≠ .dK kvs) → a ≠ p := fun {a o} e n z => by
        obtain ⟨_, _, _, _, _, g1, _⟩ := hP14
        subst z
        rw [g1.1] at e
        cases e
        exact n _ rfl
      have hls14 : RL H14 ls ys := (hls.n e6).same s614
      have hg14 : RL H14 lg xs := RL.same ⟨as6, eg6, tg6⟩ s614
      refine ⟨p, lc, lo, _, _, rfl, hP14, by omega, fo, lop, (by show 0 < 7; decide), (by show 7 < 1000000; decide), fun x H15 hx hP15 k15 => ?_⟩
      have T15 : Tabs (Ts2 Pt) H15 := tabs_kp hP14 k15 T14
      have kw : Kp p H14 (wo p H15) := fun b o n e => wo_at n (k15 b o n e)
      have f0' := kw _ _ (ps2 (so _ _ (s713 _ _ f0)) (fun _ z => by cases z)) (so _ _ (s713 _ _ f0))
      have f1' := kw _ _ (ps2 (so _ _ (s13 _ _ (s12 _ _ (s11 _ _ (s10 _ _ f1))))) (fun _ z => by cases z)) (so _ _ (s13 _ _ (s12 _ _ (s11 _ _ (s10 _ _ f1)))))
      have f2' := kw _ _ (ps2 (so _ _ (s13 _ _ (s12 _ _ f2))) (fun _ z => by cases z)) (so _ _ (s13 _ _ (s12 _ _ f2)))
      have fm14 := so _ _ (s13 _ _ (s12 _ _ (s11 _ _ fm)))
      have fm' := kw _ _ (ps2 fm14 (fun _ z => by cases z)) fm14
      have f3' := kw _ _ (ps2 (so _ _ f3) (fun _ z => by cases z)) (so _ _ f3)
      have hls15 := hls14.kp hP14 kw
      have hg15 := hg14.kp hP14 k15
      have a0 : 0 < as6.length := by omega
      have szm : Sz (-1) ∧ Sz 2 := ⟨by show (1 : Nat) < 2 ^ 1900; exact Nat.one_lt_pow (by decide) (by decide), by show (2 : Nat) < 2 ^ 1900; exact Nat.lt_of_lt_of_le (show 2 < 2 ^ 2 by decide) (Nat.pow_le_pow_right (by decide) (by decide))⟩
      have key : ∃ db, Odd K (wo p H15) x db ∧ BadW K (wo p H15) x db xs.length ∧ db ≠ .none := by
        simp only [List.mem_cons, List.not_mem_nil, or_false] at hx
        rcases hx with h | h | h | h | h | h | h <;> subst h
        · exact ⟨.int 0, ⟨.int 0, (fun ds h => by cases h), rfl, by simp [PyData.depth]⟩, .inl rfl, (by intro z; cases z)⟩
        · exact ⟨.tuple [], ⟨.tup (SqT.of f0') .nil, (fun ds h => by cases h; decide), by simp [PyData.plain, PyData.plainAll], by simp [PyData.depth, PyData.depthAll]⟩, .inr (.inl ⟨[], rfl, by show (0 : Nat) ≠ _; omega⟩), (by intro z; cases z)⟩
        · refine ⟨_, odd_rep f1' (.int 0) rfl (by simp [PyData.depth]) (by omega), ?_, (by intro z; cases z)⟩
          rw [← show as6.length = xs.length from by omega]
          exact bad_rep f1' (.int 0) (p := (0, 1)) rfl sz_01 (by decide) a0 (by omega)
        · refine ⟨_, odd_rep f2' (dt_pair fm') rfl (by simp [pairD, PyData.depth, PyData.depthAll]) (by omega), ?_, (by intro z; cases z)⟩
          rw [← show as6.length = xs.length from by omega]
          exact bad_rep f2' (dt_pair fm') (p := (-1, 2)) rfl szm (by decide) a0 (by omega)
        · exact ⟨_, odd_rep f3' .non rfl (by simp [PyData.depth]) (by omega), .inl (none_rep rfl a0), (by intro z; cases z)⟩
        · exact ⟨.str z, ⟨.str z, (fun ds h => by cases h), rfl, by simp [PyData.depth]⟩, .inl rfl, (by intro z; cases z)⟩
        · exact ⟨_, list_odd hls15 (by omega), .inr (.inl ⟨_, rows_pq, by rw [List.length_map]; exact yne⟩), (by intro z; cases z)⟩
      obtain ⟨db, k1, k2, k3⟩ := key
      exact ⟨x, db, rfl, T15, hg15, k1, k2, k3, hP15⟩
    · rintro σ H7 ⟨vb, db, rfl, T7, hg7, ob, bb, bn, hP7⟩
      refine ⟨fun σ H' => ∃ (ln : Addr) (dn : PyData), σ = [some (.ref p), some (.ref lg), some vo, some vw, some (.ref ls), some vb, some (.ref ln)] ∧ Tabs (Ts2 Pt) H' ∧ RL H' lg xs ∧ Odd K H' vb db ∧ BadW K H' vb db xs.length ∧ Odd K H' (.ref ln) dn ∧ BadW K H' (.ref ln) dn xs.length ∧ dn ≠ .none, ?_, ?_⟩
      · obtain ⟨as7, eg7, tg7⟩ := hg7
        have lg7 := tg7.lenQ
        refine ⟨(by show 1 ≤ sizeLine; decide), fun lo nlo => ?_⟩
        have f8 : upd H7 lo (HO.lst [V.int 1]) lo = some (HO.lst [V.int 1]) := upd_same
        have s8 : Same H7 (upd H7 lo (HO.lst [V.int 1])) := same_upd nlo
        generalize upd H7 lo (HO.lst [V.int 1]) = H8 at f8 s8 ⊢
        refine ⟨_, rfl, lg, _, rfl, .inl (SqL.of (s8 _ _ eg7)), _, _, rfl, rfl, lo, _, _, rfl, rfl, f8, (by omega), (by rw [List.length_map]; omega), ?_, fun l5 nl5 => ?_⟩
        · rw [List.length_map, sizeLine_eq]
          show 1 * _ ≤ _
          omega
        have f9 : upd H8 l5 (HO.lst (List.replicate (((as7.map V.ref).length : Nat) - 1 : Int).toNat [V.int 1]).flatten) l5 = some (HO.lst (List.replicate (as7.length - 1) (V.int 1))) := by
          rw [upd_same, rep_lst, List.length_map]
          congr 3
          omega
        have s9 : Same H8 (upd H8 l5 (HO.lst (List.replicate (((as7.map V.ref).length : Nat) - 1 : Int).toNat [V.int 1]).flatten)) := same_upd nl5
        generalize upd H8 l5 (HO.lst (List.replicate (((as7.map V.ref).length : Nat) - 1 : Int).toNat [V.int 1]).flatten) = H9 at f9 s9 ⊢
        refine ⟨_, rfl, 1, rfl, (by show 2 ≤ sizeLine; decide), fun t0 nt0 => ?_⟩
        have f10 : upd H9 t0 (HO.tup [V.int 1, V.int 0]) t0 = some (HO.tup [V.int 1, V.int 0]) := upd_same
        have s10 : Same H9 (upd H9 t0 (HO.tup [V.int 1, V.int 0])) := same_upd nt0
        generalize upd H9 t0 (HO.tup [V.int 1, V.int 0]) = H10 at f10 s10 ⊢
        refine ⟨(by show 6 ≤ sizeLine; decide), fun lq nlq => ?_⟩
        have f11 : upd H10 lq (HO.lst [V.int 0, V.int (-1), V.bl true, V.str "1", V.ref t0, V.non]) lq = some (HO.lst [V.int 0, V.int (-1), V.bl true, V.str "1", V.ref t0, V.non]) := upd_same
        have s11 : Same H10 (upd H10 lq (HO.lst [V.int 0, V.int (-1), V.bl true, V.str "1", V.ref t0, V.non])) := same_upd nlq
        have s710 := s8.trans (s9.trans s10)
        have lqp := ((hP7.same s710).ne_new nlq).1
        generalize upd H10 lq (HO.lst [V.int 0, V.int (-1), V.bl true, V.str "1", V.ref t0, V.non]) = H11 at f11 s11 ⊢
        have s711 := s710.trans s11
        have hP11 := hP7.same s711
        refine ⟨p, lc, lq, _, _, rfl, hP11, by omega, f11, lqp, (by show 0 < 6; decide), (by show 6 < 1000000; decide), fun x H12 hx hP12 k12 => ?_⟩
        have ps2 : ∀ {a : Addr} {o : HO}, H11 a = some o → (∀ kvs, o ≠ .dK kvs) → a ≠ p := fun {a o} e n z => by
          obtain ⟨_, _, _, _, _, g1, _⟩ := hP11
          subst z
          rw [g1.1] at e
          cases e
          exact n _ rfl
        have f9' := s11 _ _ (s10 _ _ f9)
        have f9' := k12 _ _ (ps2 f9' (fun _ z => by cases z)) f9'
        have f10' := s11 _ _ f10
        have f10' := k12 _ _ (ps2 f10' (fun _ z => by cases z)) f10'
        have k712 : Kp p H7 H12 := (Kp.of s711).trans k12
        refine ⟨(by show 1 ≤ sizeLine; decide), fun lx nlx => ?_⟩
        have f13 : upd H12 lx (HO.lst [x]) lx = some (HO.lst [x]) := upd_same
        have s13 : Same H12 (upd H12 lx (HO.lst [x])) := same_upd nlx
        generalize upd H12 lx (HO.lst [x]) = H13 at f13 s13 ⊢
        refine ⟨l5, lx, _, _, rfl, rfl, s13 _ _ f9', f13, ?_, fun lb nlb => ?_⟩
        · rw [List.length_replicate, sizeLine_eq]
          show _ + 1 ≤ _
          omega
        have f14 : upd H13 lb (HO.lst (List.replicate (as7.length - 1) (V.int 1) ++ [x])) lb = some (HO.lst (List.replicate (as7.length - 1) (V.int 1) ++ [x])) := upd_same
        have s14 : Same H13 (upd H13 lb (HO.lst (List.replicate (as7.length - 1) (V.int 1) ++ [x]))) := same_upd nlb
        generalize upd H13 lb (HO.lst (List.replicate (as7.length - 1) (V.int 1) ++ [x])) = H14 at f14 s14 ⊢
        have s1214 := s13.trans s14
        have k714 : Kp p H7 H14 := k712.trans (Kp.of s1214)
        have f10' := s1214 _ _ f10'
        have szm : Sz (-1) := by show (1 : Nat) < 2 ^ 1900; exact Nat.one_lt_pow (by decide) (by decide)
        have key : ∃ dx, Dt K H14 x dx ∧ dx.plain = true ∧ dx.depth ≤ 10 ∧ (partsD dx = none ∨ ∃ p, partsD dx = some p ∧ p.1 ≤ 0 ∧ Sz p.1 ∧ Sz p.2) := by
          simp only [List.mem_cons, List.not_mem_nil, or_false] at hx
          rcases hx with h | h | h | h | h | h <;> subst h
          · exact ⟨.int 0, .int 0, rfl, by simp [PyData.depth], .inr ⟨(0, 1), rfl, by decide, sz_01⟩⟩
          · exact ⟨.int (-1), .int (-1), rfl, by simp [PyData.depth], .inr ⟨(-1, 1), rfl, by decide, szm, sz_01.2⟩⟩
          · exact ⟨.bool true, .bl true, rfl, by simp [PyData.depth], .inl rfl⟩
          · exact ⟨.str "1", .str "1", rfl, by simp [PyData.depth], .inl rfl⟩
          · exact ⟨pairD (1, 0), dt_pair f10', rfl, by simp [pairD, PyData.depth, PyData.depthAll], .inl rfl⟩
          · exact ⟨.none, .non, rfl, by simp [PyData.depth], .inl rfl⟩
        obtain ⟨dx, g1, g2, g3, g4⟩ := key
        have wo14 : Same (wo p H7) H14 := (Kp.wo k714).trans wo_sub
        have hb := bent_bad f14 g1 g4 (by omega)
        rw [show as7.length - 1 + 1 = xs.length from by omega] at hb
        refine ⟨lb, _, rfl, tabs_ext (tabs_ext (tabs_kp hP11 k12 (tabs_ext T7 s711)) s13) s14, RL.kp ⟨as7, eg7, tg7⟩ hP7 k714, ob.same wo14, bb.same wo14, bent_odd f14 g1 g2 g3 (by omega), hb, (by intro z; cases z)⟩
      · rintro σ H8 ⟨ln, dn, rfl, T8, hg8, ob8, bb8, on8, bn8, nn8⟩
        have wr : ∀ (v : V) (d : PyData), Odd K H8 v d → BadW K H8 v d xs.length → d ≠ .none → ∀ H2, ExtN H8 H2 → PtEnd K H2 (.ref lg) (.ref lg) v (fun _ _ _ => False) (fun x => x = v) := fun v d o b n H2 e2 => by
          have g := gl (hg8.n e2)
          have lo := list_odd (K := K) (hg8.n e2) (by omega)
          exact ⟨_, _, d, lo.dt, lo.lz, lo.dt, lo.lz, (o.n e2).dt, o.lz, .inr ⟨_, g.1, xne, g.2, .inr ⟨_, g.1, rfl, .inr (.inl ⟨n, by rw [xl]; exact b.n e2, rfl⟩)⟩⟩⟩
        refine check_ne rfl (rd rfl) (rd rfl) (rd rfl) (rd rfl) T8 (wr _ _ ob8 bb8 bn) ob8 fun H9 e9 T9 => ?_
        exact check_eq rfl (rd rfl) (rd rfl) (rd rfl) (rd rfl) T9 (fun H2 e2 => wr _ _ on8 bn8 nn8 H2 (e9.trans e2)) (on8.n e9) q
end

end Vf

set_option maxRecDepth 100000
set_option maxHeartbeats 8000000
namespace Vf
open PySem PySem.Spec PyProof.Rows L2
/-! ### items that are equal: flat ones, tuples of such, polynomials -/
def RPoly (K : PySem.W.Frag) (CP : Addr) (a b : Addr) (H : Hp) : Prop := ∃ rs, PolyAt K CP H a rs ∧ PolyAt K CP H b rs
theorem rpoly_mon {K : PySem.W.Frag} {CP : Addr} : ∀ (a b : Addr) (H H' : Hp), Ext H H' → RPoly K CP a b H → RPoly K CP a b H' := fun a b H H' e ⟨rs, h1, h2⟩ => ⟨rs, h1.same e, h2.same e⟩
def D1 (K : PySem.W.Frag) : Eqv := fun x y H => DTup K DFlat x y H ∨ DFlat x y H
def D2 (K : PySem.W.Frag) : Eqv := fun x y H => DTup K (D1 K) x y H ∨ D1 K x y H
def D3 (K : PySem.W.Frag) : Eqv := fun x y H => DTup K (D2 K) x y H ∨ D2 K x y H
def DAll (K : PySem.W.Frag) (CP : Addr) : Eqv := fun x y H => DIns CP (RPoly K CP) x y H ∨ D3 K x y H
theorem mon_1 {K : PySem.W.Frag} : Mon (D1 K) := (mon_tup mon_flat).or mon_flat
theorem mon_2 {K : PySem.W.Frag} : Mon (D2 K) := (mon_tup mon_1).or mon_1
theorem mon_3 {K : PySem.W.Frag} : Mon (D3 K) := (mon_tup mon_2).or mon_2
theorem mon_all {K : PySem.W.Frag} {CP : Addr} : Mon (DAll K CP) := (mon_ins rpoly_mon).or mon_3
theorem poly_eq_sp {K : PySem.W.Frag} {CP : Addr} {vs : List V} {H : Hp} {Q : VK} {E : XK} (h : spEq (RPoly K CP) vs H Q E) : spPolyE K CP vs H Q E := by
  obtain ⟨a, b, rfl, ⟨rs, h1, h2⟩, q⟩ := h
  refine ⟨a, rs, .ref b, rfl, h1, .inl ⟨b, rs, rfl, h2, ?_⟩⟩
  rw [decide_eq_true rfl]
  exact q H Ext.rfl'
theorem eq_all {P : Program} {w : World} {K : PySem.W.Frag} {mg : Str → Option Value} {base : Heap} {CP CR : Addr} (PM : PoM P w K mg base CP CR) {X : Cx} (hP : X.prog = P := by rfl) (hw : X.w = w := by rfl) (hK : X.K = K := by rfl) (hm : X.mg = mg := by rfl) (hb : X.base = base := by rfl) : EqG X 4 (DAll K CP) := by
  subst hP hw hK hm hb
  have e1 : EqG X 1 (D1 X.K) := (eqG_tup mon_flat eqG_flat).or (eqG_flat.mono (by decide))
  have e2 : EqG X 2 (D2 X.K) := (eqG_tup mon_1 e1).or (e1.mono (by decide))
  have e3 : EqG X 3 (D3 X.K) := (eqG_tup mon_2 e2).or (e2.mono (by decide))
  have ei : EqG X 1 (DIns CP (RPoly X.K CP)) := eqG_ins (E := E0) (PM.okE.imp fun vs H Q E h => poly_eq_sp h) PM.aE PM.nE PM.bE pass0
  exact (ei.mono (by decide)).or (e3.mono (by decide))
theorem tab_start {H : Hp} {Pt : Addr} (h : H Pt = some (.tbl #[])) : LamX.Tabs (Ts2 Pt) H := fun q hq => by
  rw [List.mem_singleton.mp hq]
  exact ⟨#[], h, by first | trivial | exact .nil | simp, fun pos cv hc => by first | cases hc | simp at hc⟩
theorem smd_ok {m : Int} {q : Rat} (h : SmD m q) (hm : m ≤ 1000) : RatOk (pq q) := by
  obtain ⟨h1, h2⟩ := h
  have l1 : (2 : Nat) ^ 20 < 2 ^ 110 := by decide
  refine ⟨pq_low q, Nat.lt_trans (show q.num.natAbs < 2 ^ 20 by omega) l1, ?_⟩
  show ((q.den : Int)).natAbs < 2 ^ 110
  rw [Int.natAbs_natCast]
  exact Nat.lt_trans (show q.den < 2 ^ 20 by omega) l1
theorem smd_pz {m : Int} {q : Rat} (h : SmD m q) (hm : m ≤ 160) : Pz 14 q := by
  obtain ⟨h1, h2⟩ := h
  exact ⟨show q.num.natAbs ≤ 16384 by omega, show q.den ≤ 16384 by omega⟩
theorem pz_all {k : Nat} {l : List Rat} (h : ∀ q ∈ l, Pz k q) (i : Nat) : Pz k (cf l i) := by
  by_cases hi : i < l.length
  · exact h _ (cf_mem hi)
  · rw [cf_ge (by omega)]
    exact Pz.zero _
/-- what the law holds of its points -/
structure SomeL (H : Hp) (r : Addr) (xs ys ws : List Rat) : Prop where
  s : SomeAt H r xs ys ws
  bx : ∀ q ∈ xs, Pz 14 q
  by_ : ∀ q ∈ ys, Pz 110 q
  bw : ∀ q ∈ ws, Pz 14 q
theorem SomeL.kp {H H' : Hp} {p lc r : Addr} {B : Int} {xs ys ws : List Rat} (h : SomeL H r xs ys ws) (rp : r ≠ p) (hP : Pen H p lc B) (k : Kp p H H') : SomeL H' r xs ys ws := ⟨h.s.kp rp hP k, h.bx, h.by_, h.bw⟩
theorem big_q {t b : Int} (hb : b ≠ 0) (ht : t.natAbs < 2 ^ 110) (hb2 : b.natAbs < 2 ^ 110) : RatOk (pq (Rat.divInt t b)) ∧ Pz 110 (Rat.divInt t b) ∧ pq (Rat.divInt t b) = ((low t b).1, (low t b).2) := by
  have e := low_pq (t := t) hb
  obtain ⟨z1, z2⟩ := low_size (t := t) hb
  rw [e] at z1 z2
  have z1 : (Rat.divInt t b).num.natAbs ≤ t.natAbs := z1
  have z2 : (((Rat.divInt t b).den : Nat) : Int).natAbs ≤ b.natAbs := z2
  refine ⟨⟨pq_low _, Nat.lt_of_le_of_lt z1 ht, Nat.lt_of_le_of_lt z2 hb2⟩, ⟨by omega, ?_⟩, e.symm⟩
  rw [Int.natAbs_natCast] at z2
  omega
theorem some_put {l1 l2 l3 x : Addr} : putK (someK l1 l2 l3) (.inr "numbers") (.ref x) = someK l1 x l3 := by kernel_rfl
theorem rl_put {H : Hp} {r l : Addr} {K1 K2 : List (Key × V)} {qs : List Rat} (h : RL H l qs) (e : H r = some (.dK K1)) : RL (upd H r (.dK K2)) l qs := by
  obtain ⟨as, h1, h2⟩ := h
  exact ⟨as, by rw [upd_ne (ne_of h1 e (by intro z; cases z))]; exact h1, h2.imp fun a p z => by rw [upd_ne (ne_of z e (by intro z; cases z))]; exact z⟩
theorem tabs_put {H : Hp} {r : Addr} {K1 K2 : List (Key × V)} {TT : List (Addr × Str)} (h : LamX.Tabs TT H) (e : H r = some (.dK K1)) : LamX.Tabs TT (upd H r (.dK K2)) := fun q hq => by
  obtain ⟨ps, h1, h2, h3⟩ := h q hq
  refine ⟨ps, by rw [upd_ne (ne_of h1 e (by intro z; cases z))]; exact h1, h2, fun pos cv hc => ?_⟩
  obtain ⟨c, e1, e2⟩ := h3 pos cv hc
  exact ⟨c, e1, by rw [upd_ne (ne_of e2 e (by intro z; unfold LamX.CodeO at z; cases z))]; exact e2⟩
/-- a row of ratios as data -/
def rowT (ps : List (Int × Int)) : PyData := .tuple (ps.map pairD)
theorem TRw.dt {K : PySem.W.Frag} {H : Hp} {t : Addr} {ps : List (Int × Int)} (h : TRw H t ps) : Dt K H (.ref t) (rowT ps) := by
  obtain ⟨as, h1, h2⟩ := h
  exact .tup (SqT.of h1) h2.dts
theorem rowT_plain (ps : List (Int × Int)) : (rowT ps).plain = true ∧ (rowT ps).depth ≤ 50 := by
  refine ⟨(plain_row ps).1, ?_⟩
  have := depth_pairs ps
  unfold rowT
  simp only [PyData.depth]
  omega
theorem three_eqv (a b c : List (Int × Int)) : (PyData.tuple [rowT a, rowT b, rowT c]).plain = true ∧ (PyData.tuple [rowT a, rowT b, rowT c]).depth ≤ 60 ∧ PyData.eqv (.tuple [rowT a, rowT b, rowT c]) (.tuple [rowT a, rowT b, rowT c]) = true := by
  have pl : (PyData.tuple [rowT a, rowT b, rowT c]).plain = true := by simp [PyData.plain, PyData.plainAll, (rowT_plain a).1, (rowT_plain b).1, (rowT_plain c).1]
  refine ⟨pl, ?_, SeqAt.eqv_refl_plain _ pl⟩
  have h1 := (rowT_plain a).2
  have h2 := (rowT_plain b).2
  have h3 := (rowT_plain c).2
  simp only [PyData.depth, PyData.depthAll]
  omega
theorem RL.row {H H' : Hp} {l t : Addr} {qs : List Rat} (h : RL H l qs) : ∃ vs, H l = some (.lst vs) ∧ ∀ (t : Addr) (H' : Hp), Same H H' → H' t = some (.tup vs) → TRw H' t (qs.map pq) := by
  obtain ⟨as, h1, h2⟩ := h
  exact ⟨_, h1, fun t H' s e => ⟨as, e, h2.same s⟩⟩
theorem PtsAt.kp {CT : Addr} {H H' : Hp} {p lc a : Addr} {B : Int} {ps ns ws : List (Int × Int)} (h : PtsAt CT H a ps ns ws) (hP : Pen H p lc B) (k : Kp p H H') : PtsAt CT H' a ps ns ws := by
  obtain ⟨_, _, _, _, _, g1, _⟩ := hP
  have e : ∀ b o, H b = some o → (∀ kvs, o ≠ .dK kvs) → H' b = some o := fun b o h1 h2 => k b o (fun z => by
    subst z
    rw [g1.1] at h1
    cases h1
    exact h2 _ rfl) h1
  obtain ⟨dx, tw, tp, tn, h1, h2, h3, h4⟩ := h
  exact ⟨dx, tw, tp, tn, e _ _ h1 (fun _ z => by cases z), h2.imp fun b xs z => e _ _ z (fun _ z => by cases z), h3.imp fun b xs z => e _ _ z (fun _ z => by cases z), h4.imp fun b xs z => e _ _ z (fun _ z => by cases z)⟩
theorem smd_sm {q : Rat} (h : SmD 20 q) : Sm q := by
  obtain ⟨h1, h2⟩ := h
  exact ⟨show q.num.natAbs ≤ 8192 by omega, show q.den ≤ 4096 by omega⟩
theorem list_rw {K : PySem.W.Frag} {H : Hp} {l : Addr} {xs : List Rat} (h : RL H l xs) (hl : xs.length ≤ 1000) (ok : ∀ q ∈ xs, RatOk (pq q)) : Rw K H (.ref l) (.list ((xs.map pq).map pairD)) (xs.map pq) := by
  have o := list_odd (K := K) h hl
  have b3 : (2 : Nat) ^ 110 < 2 ^ 1900 := Nat.pow_lt_pow_right (by decide) (by decide)
  refine ⟨⟨_, o.dt, rfl, rows_pq (ys := xs), ?_⟩, fun p hp => ?_⟩
  · rw [List.length_map, List.length_map]
    exact hl
  · obtain ⟨q, hq, rfl⟩ := List.mem_map.mp hp
    exact ⟨Nat.lt_trans (ok q hq).zt b3, Nat.lt_trans (ok q hq).zb b3⟩
theorem low_rows {xs : List Rat} : (xs.map pq).map lowP = xs.map pq := by
  rw [List.map_map]
  exact List.map_congr_left fun q _ => low_id (pq_low q)
theorem RL.copy {H H' : Hp} {l l' : Addr} {qs : List Rat} {vs : List V} (h : RL H l qs) (e : H l = some (.lst vs)) (s : Same H H') (e' : H' l' = some (.lst vs)) : RL H' l' qs := by
  obtain ⟨as, h1, h2⟩ := h
  rw [h1] at e
  cases e
  exact ⟨as, e', h2.same s⟩
theorem ixN0 {n : Nat} (h : 0 < n) : ixN n 0 = some 0 := by
  unfold ixN
  simp
  try omega
theorem PtsAt.up {CT : Addr} {H H' : Hp} {a : Addr} {ps ns ws : List (Int × Int)} (h : PtsAt CT H a ps ns ws) (e : ∀ b o, H b = some o → (∀ l, o ≠ .lst l) → H' b = some o) : PtsAt CT H' a ps ns ws := by
  obtain ⟨dx, tw, tp, tn, h1, h2, h3, h4⟩ := h
  exact ⟨dx, tw, tp, tn, e _ _ h1 (fun _ z => by cases z), h2.imp fun b xs z => e _ _ z (fun _ z => by cases z), h3.imp fun b xs z => e _ _ z (fun _ z => by cases z), h4.imp fun b xs z => e _ _ z (fun _ z => by cases z)⟩
theorem bad_two {K : PySem.W.Frag} {H : Hp} {v : V} {d : PyData} {ds : List PyData} {ps : List (Int × Int)} (h : Dt K H v d) (e : seqD d = some ds) (m : ds.mapM partsD = some ps) (hl : ds.length ≤ 1000) (z : ∀ p ∈ ps, Sz p.1 ∧ Sz p.2) (b : ascB ps = false) : BadP K H v d :=
  .inr ⟨ps, ⟨⟨ds, h, e, m, hl⟩, z⟩, .inr b⟩
theorem sz_small {z : Int} (h : z.natAbs < 16) : Sz z := Nat.lt_of_lt_of_le (show z.natAbs < 2 ^ 4 from h) (Nat.pow_le_pow_right (by decide) (by decide))
theorem sz_smalls {ps : List (Int × Int)} (h : ps.all (fun p => decide (p.1.natAbs < 16) && decide (p.2.natAbs < 16)) = true) : ∀ p ∈ ps, Sz p.1 ∧ Sz p.2 := fun p hp => by
  have := List.all_eq_true.mp h p hp
  rw [Bool.and_eq_true, decide_eq_true_eq, decide_eq_true_eq] at this
  exact ⟨sz_small this.1, sz_small this.2⟩
theorem odd_seq {K : PySem.W.Frag} {H : Hp} {v : V} {d : PyData} {ds : List PyData} (h : Dt K H v d) (e : seqD d = some ds) (hl : ds.length ≤ 1000) (pl : d.plain = true) (dp : d.depth ≤ 50) : Odd K H v d := ⟨h, fun ds' e' => by rw [e] at e'; cases e'; exact hl, pl, dp⟩
theorem odd_flat {K : PySem.W.Frag} {H : Hp} {v : V} {d : PyData} (h : Dt K H v d) (e : seqD d = none) (pl : d.plain = true) (dp : d.depth ≤ 50) : Odd K H v d := ⟨h, (fun ds' e' => by rw [e] at e'; cases e'), pl, dp⟩
theorem rep_ev2 {K' : PySem.W.Frag} {x : V} {σ : L2.St} {H : Hp} {Q : VK} {lr : Addr} {vr : List V} {i : Nat} (hσ : σ[i]? = some (some (.ref lr))) (el : H lr = some (.lst vr)) (n20 : vr.length ≤ 1000)
    (q : ∀ (l2 : Addr) (H' : Hp), Same H H' → H' l2 = some (.lst (List.replicate vr.length x)) → Q (.ref l2) H') :
    tOp rRep (tLst (tCons (tC x) tNil)) (tCB (fun xs H_1 Q => ∃ p ys, xs = [V.ref p] ∧ (SqL K' H_1 p ys ∨ SqT K' H_1 p ys) ∧ Q (V.int ((ys.length : Nat) : Int)) H_1) (tCons (tVar i) tNil)) σ H Q := by
  refine ⟨(by show 1 ≤ sizeLine; decide), fun lo nlo => ?_⟩
  have f2 : upd H lo (HO.lst [x]) lo = some (HO.lst [x]) := upd_same
  have s2 : Same H (upd H lo (HO.lst [x])) := same_upd nlo
  generalize upd H lo (HO.lst [x]) = H2 at f2 s2 ⊢
  refine ⟨_, hσ, lr, _, rfl, .inl (SqL.of (s2 _ _ el)), lo, _, _, rfl, rfl, f2, (by omega), (by omega), ?_, fun l5 nl5 => ?_⟩
  · rw [Int.toNat_natCast, sizeLine_eq]
    show 1 * _ ≤ _
    omega
  refine q l5 _ (s2.trans (same_upd nl5)) ?_
  rw [upd_same, Int.toNat_natCast, rep_lst]
theorem Odd.w {K : PySem.W.Frag} {H : Hp} {v : V} {d : PyData} (h : Odd K H v d) : OddW K H v d := ⟨h.dt, h.lz⟩
theorem HK.same {K : PySem.W.Frag} {CP : Addr} {H H' : Hp} {v : V} (h : HK K CP H v) (s : Same H H') : HK K CP H' v := by
  rcases h with ⟨a, A, e, h⟩ | ⟨a, xs, e, h⟩ | ⟨a, xs, e, h⟩
  · exact .inl ⟨a, A, e, h.same s⟩
  · exact .inr (.inl ⟨a, xs, e, s _ _ h⟩)
  · exact .inr (.inr ⟨a, xs, e, s _ _ h⟩)
theorem HR.keep {H H' : Hp} {a : Addr} {o : HO} {b : V} (h : HR H H' (.ref a) b) (e : H a = some o) (n : ∀ xs, o ≠ .lst xs) : b = .ref a := by
  rcases h with ⟨h, _⟩ | ⟨l, xs, t, h1, h2, _⟩
  · exact h
  · cases h1
    rw [e] at h2
    cases h2
    exact absurd rfl (n _)
theorem HR.lst {H H' : Hp} {l : Addr} {xs : List V} {b : V} (h : HR H H' (.ref l) b) (e : H l = some (.lst xs)) : ∃ t, b = .ref t ∧ H' t = some (.tup xs) := by
  rcases h with ⟨_, h⟩ | ⟨l', ys, t, h1, h2, h3, h4⟩
  · exact absurd e (h _ _ rfl)
  · cases h1
    rw [e] at h2
    cases h2
    exact ⟨t, h3, h4⟩
/-- what the call C(..) of such a class comes to -/
theorem ins_made {K : PySem.W.Frag} {CP C : Addr} {names : List Str} {H : Hp} {as : List V} {Q : VK} {E : XK} (hl : as.length = names.length) (hk : ∀ v ∈ as, HK K CP H v)
    (q : ∀ (x dx : Addr) (bs : List V) (H1 H' : Hp), Same H H1 → Same H H' → H x = none → bs.length = as.length → H' x = some (.ins C dx (names.zip bs)) → (∀ (i : Nat) (v b : V), as[i]? = some v → bs[i]? = some b → HR H1 H' v b) → Q (.ref x) H') :
    ∀ x dx, H x = none → H dx = none → dx ≠ x → spIns K CP C names (.ref x :: (as ++ [])) (upd (upd H dx (.own x)) x (.ins C dx [])) (fun w H2 => w = .non ∧ Q (.ref x) H2) E := by
  intro x dx nx nd ne
  rw [List.append_nil]
  have s1 : Same H (upd (upd H dx (.own x)) x (.ins C dx [])) := (same_upd nd).trans (same_upd (by rw [upd_ne (Ne.symm ne)]; exact nx))
  refine ⟨x, dx, as, rfl, hl, upd_same, fun v hv => (hk v hv).same s1, fun bs H' k l e r => ⟨rfl, q x dx bs _ H' s1 (fun b o e => k b o (ne_of_none e nx) (s1 _ _ e)) nx l e r⟩⟩
theorem ev_poly0 {K : PySem.W.Frag} {CP CR : Addr} {σ : L2.St} {H : Hp} {Q : VK} (q : ∀ (x : Addr) (H' : Hp), Same H H' → PolyQ K CP H' x [] → Q (.ref x) H') : tMake CP (spPolyI K CP CR) [] E0 (tCons (tTup tNil) tNil) σ H Q := by
  refine ⟨(by show 0 ≤ sizeLine; decide), fun t nt => ?_⟩
  have s1 : Same H (upd H t (HO.tup [])) := same_upd nt
  refine poly_made (d := .tuple []) (.tup (SqT.of upd_same) .nil) (fun ds h => by cases h; decide) (fun ps h => ?_) (fun z => by cases z)
  cases h
  exact ⟨fun p hp => (by cases hp), fun x H' s2 nx hp => q x H' (s1.trans s2) hp⟩
theorem ev_poly1 {K : PySem.W.Frag} {CP CR : Addr} {σ : L2.St} {H : Hp} {Q : VK} (q : ∀ (x : Addr) (H' : Hp), Same H H' → PolyQ K CP H' x [1] → Q (.ref x) H') : tMake CP (spPolyI K CP CR) [] E0 (tCons (tTup (tCons (tC (.int 1)) tNil)) tNil) σ H Q := by
  refine ⟨(by show 1 ≤ sizeLine; decide), fun t nt => ?_⟩
  have s1 : Same H (upd H t (HO.tup [V.int 1])) := same_upd nt
  refine poly_made (d := .tuple [.int 1]) (.tup (SqT.of upd_same) (.cons (.int 1) .nil)) (fun ds h => by cases h; decide) (fun ps h => ?_) (fun z => by cases z)
  cases h
  refine ⟨fun p hp => ?_, fun x H' s2 nx hp => q x H' (s1.trans s2) ?_⟩
  · rw [List.mem_singleton.mp hp]
    exact Nat.one_lt_pow (by decide) (by decide)
  · have e : strip ([((1 : Int), (1 : Int))].map lowP) = ([1] : List Rat).map pq := by decide +kernel
    have hp : PolyAt K CP H' x (strip ([((1 : Int), (1 : Int))].map lowP)) := hp
    rw [e] at hp
    exact hp
theorem ev_pair {σ : L2.St} {H : Hp} {Q : VK} {x y : Int} (q : ∀ (t : Addr) (H' : Hp), Same H H' → H' t = some (.tup [.int x, .int y]) → Q (.ref t) H') : tTup (tCons (tC (.int x)) (tCons (tC (.int y)) tNil)) σ H Q :=
  ⟨(by show 2 ≤ sizeLine; decide), fun t nt => q t _ (same_upd nt) upd_same⟩
theorem ev_inner {σ : L2.St} {H : Hp} {Q : VK} (q : ∀ (t1 t2 : Addr) (H' : Hp), Same H H' → H' t1 = some (.tup [.int 1, .int 1]) → H' t2 = some (.tup [.int 0, .ref t1]) → Q (.ref t2) H') : tTup (tCons (tC (.int 0)) (tCons (tTup (tCons (tC (.int 1)) (tCons (tC (.int 1)) tNil))) tNil)) σ H Q := by
  refine ⟨(by show 2 ≤ sizeLine; decide), fun t1 n1 => ⟨(by show 2 ≤ sizeLine; decide), fun t2 n2 => ?_⟩⟩
  exact q t1 t2 _ ((same_upd n1).trans (same_upd n2)) ((same_upd n2) _ _ upd_same) upd_same
theorem ev_bar {σ : L2.St} {H : Hp} {Q : VK} (q : ∀ (t1 t2 l : Addr) (H' : Hp), Same H H' → H' t1 = some (.tup [.int 1, .int 1]) → H' t2 = some (.tup [.int 0, .ref t1]) → H' l = some (.lst [.ref t2]) → Q (.ref l) H') : tLst (tCons (tTup (tCons (tC (.int 0)) (tCons (tTup (tCons (tC (.int 1)) (tCons (tC (.int 1)) tNil))) tNil))) tNil) σ H Q := by
  refine ⟨(by show 2 ≤ sizeLine; decide), fun t1 n1 => ⟨(by show 2 ≤ sizeLine; decide), fun t2 n2 => ⟨(by show 1 ≤ sizeLine; decide), fun l nl => ?_⟩⟩⟩
  exact q t1 t2 l _ (((same_upd n1).trans (same_upd n2)).trans (same_upd nl)) ((same_upd nl) _ _ ((same_upd n2) _ _ upd_same)) ((same_upd nl) _ _ upd_same) upd_same
theorem ev_bart {σ : L2.St} {H : Hp} {Q : VK} (q : ∀ (t1 t2 l : Addr) (H' : Hp), Same H H' → H' t1 = some (.tup [.int 1, .int 1]) → H' t2 = some (.tup [.int 0, .ref t1]) → H' l = some (.tup [.ref t2]) → Q (.ref l) H') : tTup (tCons (tTup (tCons (tC (.int 0)) (tCons (tTup (tCons (tC (.int 1)) (tCons (tC (.int 1)) tNil))) tNil))) tNil) σ H Q := by
  refine ⟨(by show 2 ≤ sizeLine; decide), fun t1 n1 => ⟨(by show 2 ≤ sizeLine; decide), fun t2 n2 => ⟨(by show 1 ≤ sizeLine; decide), fun l nl => ?_⟩⟩⟩
  exact q t1 t2 l _ (((same_upd n1).trans (same_upd n2)).trans (same_upd nl)) ((same_upd nl) _ _ ((same_upd n2) _ _ upd_same)) ((same_upd nl) _ _ upd_same) upd_same
theorem mk_nearest {K : PySem.W.Frag} {CP CR CE : Addr} {σ : L2.St} {H : Hp} {Q : VK}
    (q : ∀ (x dx : Addr) (bs : List V) (H1 H' : Hp) (a0 a1 a2 : Addr) (t1 t2 : Addr), Same H H' → PolyQ K CP H1 a0 [] → PolyQ K CP H' a0 [] → H1 a1 = some (.tup [.int 1, .int 2]) → H' a1 = some (.tup [.int 1, .int 2]) → H1 a2 = some (.lst [.ref t2]) → H' t1 = some (.tup [.int 1, .int 1]) → H' t2 = some (.tup [.int 0, .ref t1]) → bs.length = 3 → H' x = some (.ins CE dx ((["poly", "error", "bar"] : List Str).zip bs)) → (∀ (i : Nat) (v b : V), ([.ref a0, .ref a1, .ref a2] : List V)[i]? = some v → bs[i]? = some b → HR H1 H' v b) → Q (.ref x) H') :
    tMake CE (spIns K CP CE ["poly", "error", "bar"]) [] E0 (tCons (tMake CP (spPolyI K CP CR) [] E0 (tCons (tTup tNil) tNil)) (tCons (tTup (tCons (tC (.int 1)) (tCons (tC (.int 2)) tNil))) (tCons (tLst (tCons (tTup (tCons (tC (.int 0)) (tCons (tTup (tCons (tC (.int 1)) (tCons (tC (.int 1)) tNil))) tNil))) tNil)) tNil))) σ H Q := by
  show (tMake CP (spPolyI K CP CR) [] E0 (tCons (tTup tNil) tNil)) σ H (fun v0 H1 => (tTup (tCons (tC (.int 1)) (tCons (tC (.int 2)) tNil))) σ H1 (fun v1 H2 => (tLst (tCons (tTup (tCons (tC (.int 0)) (tCons (tTup (tCons (tC (.int 1)) (tCons (tC (.int 1)) tNil))) tNil))) tNil)) σ H2 (fun v2 H3 => ∀ x dx, H3 x = none → H3 dx = none → dx ≠ x → spIns K CP CE ["poly", "error", "bar"] (.ref x :: ([v0, v1, v2] ++ [])) (upd (upd H3 dx (.own x)) x (.ins CE dx [])) (fun w H' => w = .non ∧ Q (.ref x) H') E0)))
  refine ev_poly0 fun a0 H1 s1 e0 => ?_
  refine ev_pair fun a1 H2 s2 e1 => ?_
  have e0 := PolyQ.same e0 s2
  refine ev_bar fun t1 t2 a2 H3 s3 et1 et2 e2 => ?_
  have e0 := PolyQ.same e0 s3
  have e1 := s3 _ _ e1
  refine ins_made rfl (fun v hv => ?_) fun x dx bs H1' H' g1 g2 nx l e r => ?_
  · simp only [List.mem_cons, List.not_mem_nil, or_false] at hv
    rcases hv with h | h | h <;> subst h
    · exact .inl ⟨_, _, rfl, e0⟩
    · exact .inr (.inl ⟨_, _, rfl, e1⟩)
    · exact .inr (.inr ⟨_, _, rfl, e2⟩)
  exact q x dx bs H1' H' a0 a1 a2 t1 t2 (((s1.trans s2).trans s3).trans g2) (PolyQ.same e0 g1) (PolyQ.same e0 g2) (g1 _ _ e1) (g2 _ _ e1) (g1 _ _ e2) (g2 _ _ et1) (g2 _ _ et2) l e r
theorem mk_reach {K : PySem.W.Frag} {CP CR CH : Addr} {σ : L2.St} {H : Hp} {Q : VK}
    (q : ∀ (x dx : Addr) (bs : List V) (H1 H' : Hp) (a0 a1 a2 a3 a4 a5 : Addr) (t1 t2 : Addr), Same H H' → H1 a0 = some (.tup [.int 0, .int 1]) → H' a0 = some (.tup [.int 0, .int 1]) → H1 a1 = some (.tup [.int 1, .int 1]) → H' a1 = some (.tup [.int 1, .int 1]) → PolyQ K CP H1 a2 [] → PolyQ K CP H' a2 [] → PolyQ K CP H1 a3 [1] → PolyQ K CP H' a3 [1] → H1 a4 = some (.lst []) → H1 a5 = some (.lst [.ref t2]) → H' t1 = some (.tup [.int 1, .int 1]) → H' t2 = some (.tup [.int 0, .ref t1]) → bs.length = 6 → H' x = some (.ins CH dx ((["least", "most", "low", "high", "low_tie", "high_tie"] : List Str).zip bs)) → (∀ (i : Nat) (v b : V), ([.ref a0, .ref a1, .ref a2, .ref a3, .ref a4, .ref a5] : List V)[i]? = some v → bs[i]? = some b → HR H1 H' v b) → Q (.ref x) H') :
    tMake CH (spIns K CP CH ["least", "most", "low", "high", "low_tie", "high_tie"]) [] E0 (tCons (tTup (tCons (tC (.int 0)) (tCons (tC (.int 1)) tNil))) (tCons (tTup (tCons (tC (.int 1)) (tCons (tC (.int 1)) tNil))) (tCons (tMake CP (spPolyI K CP CR) [] E0 (tCons (tTup tNil) tNil)) (tCons (tMake CP (spPolyI K CP CR) [] E0 (tCons (tTup (tCons (tC (.int 1)) tNil)) tNil)) (tCons (tLst tNil) (tCons (tLst (tCons (tTup (tCons (tC (.int 0)) (tCons (tTup (tCons (tC (.int 1)) (tCons (tC (.int 1)) tNil))) tNil))) tNil)) tNil)))))) σ H Q := by
  show (tTup (tCons (tC (.int 0)) (tCons (tC (.int 1)) tNil))) σ H (fun v0 H1 => (tTup (tCons (tC (.int 1)) (tCons (tC (.int 1)) tNil))) σ H1 (fun v1 H2 => (tMake CP (spPolyI K CP CR) [] E0 (tCons (tTup tNil) tNil)) σ H2 (fun v2 H3 => (tMake CP (spPolyI K CP CR) [] E0 (tCons (tTup (tCons (tC (.int 1)) tNil)) tNil)) σ H3 (fun v3 H4 => (tLst tNil) σ H4 (fun v4 H5 => (tLst (tCons (tTup (tCons (tC (.int 0)) (tCons (tTup (tCons (tC (.int 1)) (tCons (tC (.int 1)) tNil))) tNil))) tNil)) σ H5 (fun v5 H6 => ∀ x dx, H6 x = none → H6 dx = none → dx ≠ x → spIns K CP CH ["least", "most", "low", "high", "low_tie", "high_tie"] (.ref x :: ([v0, v1, v2, v3, v4, v5] ++ [])) (upd (upd H6 dx (.own x)) x (.ins CH dx [])) (fun w H' => w = .non ∧ Q (.ref x) H') E0))))))
  refine ev_pair fun a0 H1 s1 e0 => ?_
  refine ev_pair fun a1 H2 s2 e1 => ?_
  have e0 := s2 _ _ e0
  refine ev_poly0 fun a2 H3 s3 e2 => ?_
  have e0 := s3 _ _ e0
  have e1 := s3 _ _ e1
  refine ev_poly1 fun a3 H4 s4 e3 => ?_
  have e0 := s4 _ _ e0
  have e1 := s4 _ _ e1
  have e2 := PolyQ.same e2 s4
  refine ⟨(by show 0 ≤ sizeLine; decide), fun a4 na4 => ?_⟩
  have e4 : upd H4 a4 (HO.lst []) a4 = some (HO.lst []) := upd_same
  have s5 : Same H4 (upd H4 a4 (HO.lst [])) := same_upd na4
  generalize upd H4 a4 (HO.lst []) = H5 at e4 s5 ⊢
  have e0 := s5 _ _ e0
  have e1 := s5 _ _ e1
  have e2 := PolyQ.same e2 s5
  have e3 := PolyQ.same e3 s5
  refine ev_bar fun t1 t2 a5 H6 s6 et1 et2 e5 => ?_
  have e0 := s6 _ _ e0
  have e1 := s6 _ _ e1
  have e2 := PolyQ.same e2 s6
  have e3 := PolyQ.same e3 s6
  have e4 := s6 _ _ e4
  refine ins_made rfl (fun v hv => ?_) fun x dx bs H1' H' g1 g2 nx l e r => ?_
  · simp only [List.mem_cons, List.not_mem_nil, or_false] at hv
    rcases hv with h | h | h | h | h | h <;> subst h
    · exact .inr (.inl ⟨_, _, rfl, e0⟩)
    · exact .inr (.inl ⟨_, _, rfl, e1⟩)
    · exact .inl ⟨_, _, rfl, e2⟩
    · exact .inl ⟨_, _, rfl, e3⟩
    · exact .inr (.inr ⟨_, _, rfl, e4⟩)
    · exact .inr (.inr ⟨_, _, rfl, e5⟩)
  exact q x dx bs H1' H' a0 a1 a2 a3 a4 a5 t1 t2 ((((((s1.trans s2).trans s3).trans s4).trans s5).trans s6).trans g2) (g1 _ _ e0) (g2 _ _ e0) (g1 _ _ e1) (g2 _ _ e1) (PolyQ.same e2 g1) (PolyQ.same e2 g2) (PolyQ.same e3 g1) (PolyQ.same e3 g2) (g1 _ _ e4) (g1 _ _ e5) (g2 _ _ et1) (g2 _ _ et2) l e r
theorem mk_barred {K : PySem.W.Frag} {CP CR CB : Addr} {σ : L2.St} {H : Hp} {Q : VK}
    (q : ∀ (x dx : Addr) (bs : List V) (H1 H' : Hp) (a0 : Addr) (t1 t2 : Addr), Same H H' → H1 a0 = some (.lst [.ref t2]) → H' t1 = some (.tup [.int 1, .int 1]) → H' t2 = some (.tup [.int 0, .ref t1]) → bs.length = 1 → H' x = some (.ins CB dx ((["bar"] : List Str).zip bs)) → (∀ (i : Nat) (v b : V), ([.ref a0] : List V)[i]? = some v → bs[i]? = some b → HR H1 H' v b) → Q (.ref x) H') :
    tMake CB (spIns K CP CB ["bar"]) [] E0 (tCons (tLst (tCons (tTup (tCons (tC (.int 0)) (tCons (tTup (tCons (tC (.int 1)) (tCons (tC (.int 1)) tNil))) tNil))) tNil)) tNil) σ H Q := by
  show (tLst (tCons (tTup (tCons (tC (.int 0)) (tCons (tTup (tCons (tC (.int 1)) (tCons (tC (.int 1)) tNil))) tNil))) tNil)) σ H (fun v0 H1 => ∀ x dx, H1 x = none → H1 dx = none → dx ≠ x → spIns K CP CB ["bar"] (.ref x :: ([v0] ++ [])) (upd (upd H1 dx (.own x)) x (.ins CB dx [])) (fun w H' => w = .non ∧ Q (.ref x) H') E0)
  refine ev_bar fun t1 t2 a0 H1 s1 et1 et2 e0 => ?_
  refine ins_made rfl (fun v hv => ?_) fun x dx bs H1' H' g1 g2 nx l e r => ?_
  · simp only [List.mem_cons, List.not_mem_nil, or_false] at hv
    subst hv
    exact .inr (.inr ⟨_, _, rfl, e0⟩)
  exact q x dx bs H1' H' a0 t1 t2 (s1.trans g2) (g1 _ _ e0) (g2 _ _ et1) (g2 _ _ et2) l e r
theorem mk_boundless {K : PySem.W.Frag} {CP CR CO : Addr} {σ : L2.St} {H : Hp} {Q : VK}
    (q : ∀ (x dx : Addr) (bs : List V) (H1 H' : Hp) (a0 a1 : Addr), Same H H' → PolyQ K CP H1 a0 [] → PolyQ K CP H' a0 [] → PolyQ K CP H1 a1 [1] → PolyQ K CP H' a1 [1] → bs.length = 2 → H' x = some (.ins CO dx ((["poly", "way"] : List Str).zip bs)) → (∀ (i : Nat) (v b : V), ([.ref a0, .ref a1] : List V)[i]? = some v → bs[i]? = some b → HR H1 H' v b) → Q (.ref x) H') :
    tMake CO (spIns K CP CO ["poly", "way"]) [] E0 (tCons (tMake CP (spPolyI K CP CR) [] E0 (tCons (tTup tNil) tNil)) (tCons (tMake CP (spPolyI K CP CR) [] E0 (tCons (tTup (tCons (tC (.int 1)) tNil)) tNil)) tNil)) σ H Q := by
  show (tMake CP (spPolyI K CP CR) [] E0 (tCons (tTup tNil) tNil)) σ H (fun v0 H1 => (tMake CP (spPolyI K CP CR) [] E0 (tCons (tTup (tCons (tC (.int 1)) tNil)) tNil)) σ H1 (fun v1 H2 => ∀ x dx, H2 x = none → H2 dx = none → dx ≠ x → spIns K CP CO ["poly", "way"] (.ref x :: ([v0, v1] ++ [])) (upd (upd H2 dx (.own x)) x (.ins CO dx [])) (fun w H' => w = .non ∧ Q (.ref x) H') E0))
  refine ev_poly0 fun a0 H1 s1 e0 => ?_
  refine ev_poly1 fun a1 H2 s2 e1 => ?_
  have e0 := PolyQ.same e0 s2
  refine ins_made rfl (fun v hv => ?_) fun x dx bs H1' H' g1 g2 nx l e r => ?_
  · simp only [List.mem_cons, List.not_mem_nil, or_false] at hv
    rcases hv with h | h <;> subst h
    · exact .inl ⟨_, _, rfl, e0⟩
    · exact .inl ⟨_, _, rfl, e1⟩
  exact q x dx bs H1' H' a0 a1 ((s1.trans s2).trans g2) (PolyQ.same e0 g1) (PolyQ.same e0 g2) (PolyQ.same e1 g1) (PolyQ.same e1 g2) l e r
theorem par_two {ta tb : TE} {i j : Nat} {rest : TS} {D : Ends} {σ : L2.St} {H : Hp} (h : ta σ H fun v H1 => tb σ H1 fun w H2 => rest D ((σ.set i (some v)).set j (some w)) H2) : tSeq (tPar i j (tCons ta (tCons tb tNil))) rest D σ H := by
  have e : (fun v H1 => tb σ H1 fun w H2 => rest D ((σ.set i (some v)).set j (some w)) H2) = (fun v H1 => tb σ H1 fun w H2 => rest D ((σ.set i (some v)).set j (some w)) H2) := rfl
  show ta σ H fun v H1 => tb σ H1 fun w H2 => ∃ x y, [v, w] = [x, y] ∧ rest D ((σ.set i (some x)).set j (some y)) H2
  have f : (fun v H1 => tb σ H1 fun w H2 => ∃ x y, [v, w] = [x, y] ∧ rest D ((σ.set i (some x)).set j (some y)) H2) = (fun v H1 => tb σ H1 fun w H2 => rest D ((σ.set i (some v)).set j (some w)) H2) := by
    funext v H1
    congr 1
    funext w H2
    refine propext ⟨fun ⟨x, y, e, r⟩ => ?_, fun r => ⟨v, w, rfl, r⟩⟩
    cases e
    exact r
  rw [f]
  exact h
theorem d_flat {K : PySem.W.Frag} {H : Hp} {i : Int} : DFlat (.int i) (.int i) H := ⟨rfl, rfl, by simp [eqV]⟩
theorem d_pair {K : PySem.W.Frag} {H : Hp} {a b : Addr} {x y : Int} (h1 : H a = some (.tup [.int x, .int y])) (h2 : H b = some (.tup [.int x, .int y])) : D1 K (.ref a) (.ref b) H :=
  .inl ⟨a, b, _, _, rfl, rfl, SqT.of h1, SqT.of h2, .cons (d_flat (K := K)) (.cons (d_flat (K := K)) .nil)⟩
theorem d_nil {K : PySem.W.Frag} {CP : Addr} {H : Hp} {a b : Addr} (h1 : H a = some (.tup [])) (h2 : H b = some (.tup [])) : DAll K CP (.ref a) (.ref b) H :=
  .inr (.inr (.inr (.inl ⟨a, b, _, _, rfl, rfl, SqT.of h1, SqT.of h2, .nil⟩)))
theorem d_inner {K : PySem.W.Frag} {H : Hp} {a b c d : Addr} (h1 : H a = some (.tup [.int 0, .ref c])) (h2 : H b = some (.tup [.int 0, .ref d])) (h3 : H c = some (.tup [.int 1, .int 1])) (h4 : H d = some (.tup [.int 1, .int 1])) : D2 K (.ref a) (.ref b) H :=
  .inl ⟨a, b, _, _, rfl, rfl, SqT.of h1, SqT.of h2, .cons (.inr (d_flat (K := K))) (.cons (d_pair h3 h4) .nil)⟩
theorem d_bar {K : PySem.W.Frag} {CP : Addr} {H : Hp} {a b c d e f : Addr} (g1 : H a = some (.tup [.ref c])) (g2 : H b = some (.tup [.ref d])) (h1 : H c = some (.tup [.int 0, .ref e])) (h2 : H d = some (.tup [.int 0, .ref f])) (h3 : H e = some (.tup [.int 1, .int 1])) (h4 : H f = some (.tup [.int 1, .int 1])) : DAll K CP (.ref a) (.ref b) H :=
  .inr (.inl ⟨a, b, _, _, rfl, rfl, SqT.of g1, SqT.of g2, .cons (d_inner h1 h2 h3 h4) .nil⟩)
theorem d_all {K : PySem.W.Frag} {CP : Addr} {H : Hp} {x y : V} (h : D1 K x y H) : DAll K CP x y H := .inr (.inr (.inr h))
theorem d_poly {K : PySem.W.Frag} {CP : Addr} {H : Hp} {a b : Addr} {A : List Rat} (h1 : PolyQ K CP H a A) (h2 : PolyQ K CP H b A) : DAll K CP (.ref a) (.ref b) H := by
  obtain ⟨dx, q, as, g1, _⟩ := id h1
  obtain ⟨dy, q2, as2, g2, _⟩ := id h2
  exact .inl ⟨a, b, dx, dy, _, _, rfl, rfl, g1, g2, _, h1, h2⟩
theorem ev_r16 {K : PySem.W.Frag} {CP CR : Addr} {σ : L2.St} {H : Hp} {Q : VK} (q : ∀ (a0 a1 a2 a3 a4 t2a t2b t : Addr) (H' : Hp), Same H H' → PolyQ K CP H' a0 [] → H' a1 = some (.tup [.int 1, .int 2]) → H' a2 = some (.tup [.ref t2b]) → H' t2a = some (.tup [.int 1, .int 1]) → H' t2b = some (.tup [.int 0, .ref t2a]) → H' a3 = some (.tup [.int 0, .int 1]) → H' a4 = some (.tup [.int 1, .int 1]) → H' t = some (.tup [.ref a0, .ref a1, .ref a2, .ref a3, .ref a4]) → Q (.ref t) H') : tTup (tCons (tMake CP (spPolyI K CP CR) [] E0 (tCons (tTup tNil) tNil)) (tCons (tTup (tCons (tC (.int 1)) (tCons (tC (.int 2)) tNil))) (tCons (tTup (tCons (tTup (tCons (tC (.int 0)) (tCons (tTup (tCons (tC (.int 1)) (tCons (tC (.int 1)) tNil))) tNil))) tNil)) (tCons (tTup (tCons (tC (.int 0)) (tCons (tC (.int 1)) tNil))) (tCons (tTup (tCons (tC (.int 1)) (tCons (tC (.int 1)) tNil))) tNil))))) σ H Q := by
  show (tMake CP (spPolyI K CP CR) [] E0 (tCons (tTup tNil) tNil)) σ H (fun v0 H1 => (tTup (tCons (tC (.int 1)) (tCons (tC (.int 2)) tNil))) σ H1 (fun v1 H2 => (tTup (tCons (tTup (tCons (tC (.int 0)) (tCons (tTup (tCons (tC (.int 1)) (tCons (tC (.int 1)) tNil))) tNil))) tNil)) σ H2 (fun v2 H3 => (tTup (tCons (tC (.int 0)) (tCons (tC (.int 1)) tNil))) σ H3 (fun v3 H4 => (tTup (tCons (tC (.int 1)) (tCons (tC (.int 1)) tNil))) σ H4 (fun v4 H5 => [v0, v1, v2, v3, v4].length ≤ sizeLine ∧ ∀ t, H5 t = none → Q (.ref t) (upd H5 t (.tup [v0, v1, v2, v3, v4])))))))
  refine ev_poly0 fun a0 H1 s1 e0 => ?_
  refine ev_pair fun a1 H2 s2 e1 => ?_
  have e0 := PolyQ.same e0 s2
  refine ev_bart fun t2a t2b a2 H3 s3 et2a et2b e2 => ?_
  have e0 := PolyQ.same e0 s3
  have e1 := s3 _ _ e1
  refine ev_pair fun a3 H4 s4 e3 => ?_
  have e0 := PolyQ.same e0 s4
  have e1 := s4 _ _ e1
  have e2 := s4 _ _ e2
  have et2a := s4 _ _ et2a
  have et2b := s4 _ _ et2b
  refine ev_pair fun a4 H5 s5 e4 => ?_
  have e0 := PolyQ.same e0 s5
  have e1 := s5 _ _ e1
  have e2 := s5 _ _ e2
  have et2a := s5 _ _ et2a
  have et2b := s5 _ _ et2b
  have e3 := s5 _ _ e3
  refine ⟨(by show 5 ≤ sizeLine; decide), fun t nt => ?_⟩
  have sn : Same H5 (upd H5 t (.tup [.ref a0, .ref a1, .ref a2, .ref a3, .ref a4])) := same_upd nt
  exact q a0 a1 a2 a3 a4 t2a t2b t _ (((((s1.trans s2).trans s3).trans s4).trans s5).trans sn) (PolyQ.same e0 sn) (sn _ _ e1) (sn _ _ e2) (sn _ _ et2a) (sn _ _ et2b) (sn _ _ e3) (sn _ _ e4) upd_same
theorem ev_r18 {K : PySem.W.Frag} {CP CR : Addr} {σ : L2.St} {H : Hp} {Q : VK} (q : ∀ (a0 a1 a2 t1a t1b t2a t2b t : Addr) (H' : Hp), Same H H' → H' a0 = some (.tup []) → H' a1 = some (.tup [.ref t1b]) → H' t1a = some (.tup [.int 1, .int 1]) → H' t1b = some (.tup [.int 0, .ref t1a]) → H' a2 = some (.tup [.ref t2b]) → H' t2a = some (.tup [.int 1, .int 1]) → H' t2b = some (.tup [.int 0, .ref t2a]) → H' t = some (.tup [.ref a0, .ref a1, .ref a2]) → Q (.ref t) H') : tTup (tCons (tTup tNil) (tCons (tTup (tCons (tTup (tCons (tC (.int 0)) (tCons (tTup (tCons (tC (.int 1)) (tCons (tC (.int 1)) tNil))) tNil))) tNil)) (tCons (tTup (tCons (tTup (tCons (tC (.int 0)) (tCons (tTup (tCons (tC (.int 1)) (tCons (tC (.int 1)) tNil))) tNil))) tNil)) tNil))) σ H Q := by
  show (tTup tNil) σ H (fun v0 H1 => (tTup (tCons (tTup (tCons (tC (.int 0)) (tCons (tTup (tCons (tC (.int 1)) (tCons (tC (.int 1)) tNil))) tNil))) tNil)) σ H1 (fun v1 H2 => (tTup (tCons (tTup (tCons (tC (.int 0)) (tCons (tTup (tCons (tC (.int 1)) (tCons (tC (.int 1)) tNil))) tNil))) tNil)) σ H2 (fun v2 H3 => [v0, v1, v2].length ≤ sizeLine ∧ ∀ t, H3 t = none → Q (.ref t) (upd H3 t (.tup [v0, v1, v2])))))
  refine ⟨(by show 0 ≤ sizeLine; decide), fun a0 na0 => ?_⟩
  have e0 : upd H a0 (HO.tup []) a0 = some (HO.tup []) := upd_same
  have s1 : Same H (upd H a0 (HO.tup [])) := same_upd na0
  generalize upd H a0 (HO.tup []) = H1 at e0 s1 ⊢
  refine ev_bart fun t1a t1b a1 H2 s2 et1a et1b e1 => ?_
  have e0 := s2 _ _ e0
  refine ev_bart fun t2a t2b a2 H3 s3 et2a et2b e2 => ?_
  have e0 := s3 _ _ e0
  have e1 := s3 _ _ e1
  have et1a := s3 _ _ et1a
  have et1b := s3 _ _ et1b
  refine ⟨(by show 3 ≤ sizeLine; decide), fun t nt => ?_⟩
  have sn : Same H3 (upd H3 t (.tup [.ref a0, .ref a1, .ref a2])) := same_upd nt
  exact q a0 a1 a2 t1a t1b t2a t2b t _ (((s1.trans s2).trans s3).trans sn) (sn _ _ e0) (sn _ _ e1) (sn _ _ et1a) (sn _ _ et1b) (sn _ _ e2) (sn _ _ et2a) (sn _ _ et2b) upd_same
theorem ev_r19 {K : PySem.W.Frag} {CP CR : Addr} {σ : L2.St} {H : Hp} {Q : VK} (q : ∀ (a0 a1 a2 a3 t : Addr) (H' : Hp), Same H H' → PolyQ K CP H' a0 [] → PolyQ K CP H' a1 [1] → PolyQ K CP H' a2 [] → PolyQ K CP H' a3 [1] → H' t = some (.tup [.ref a0, .ref a1, .ref a2, .ref a3]) → Q (.ref t) H') : tTup (tCons (tMake CP (spPolyI K CP CR) [] E0 (tCons (tTup tNil) tNil)) (tCons (tMake CP (spPolyI K CP CR) [] E0 (tCons (tTup (tCons (tC (.int 1)) tNil)) tNil)) (tCons (tMake CP (spPolyI K CP CR) [] E0 (tCons (tTup tNil) tNil)) (tCons (tMake CP (spPolyI K CP CR) [] E0 (tCons (tTup (tCons (tC (.int 1)) tNil)) tNil)) tNil)))) σ H Q := by
  show (tMake CP (spPolyI K CP CR) [] E0 (tCons (tTup tNil) tNil)) σ H (fun v0 H1 => (tMake CP (spPolyI K CP CR) [] E0 (tCons (tTup (tCons (tC (.int 1)) tNil)) tNil)) σ H1 (fun v1 H2 => (tMake CP (spPolyI K CP CR) [] E0 (tCons (tTup tNil) tNil)) σ H2 (fun v2 H3 => (tMake CP (spPolyI K CP CR) [] E0 (tCons (tTup (tCons (tC (.int 1)) tNil)) tNil)) σ H3 (fun v3 H4 => [v0, v1, v2, v3].length ≤ sizeLine ∧ ∀ t, H4 t = none → Q (.ref t) (upd H4 t (.tup [v0, v1, v2, v3]))))))
  refine ev_poly0 fun a0 H1 s1 e0 => ?_
  refine ev_poly1 fun a1 H2 s2 e1 => ?_
  have e0 := PolyQ.same e0 s2
  refine ev_poly0 fun a2 H3 s3 e2 => ?_
  have e0 := PolyQ.same e0 s3
  have e1 := PolyQ.same e1 s3
  refine ev_poly1 fun a3 H4 s4 e3 => ?_
  have e0 := PolyQ.same e0 s4
  have e1 := PolyQ.same e1 s4
  have e2 := PolyQ.same e2 s4
  refine ⟨(by show 4 ≤ sizeLine; decide), fun t nt => ?_⟩
  have sn : Same H4 (upd H4 t (.tup [.ref a0, .ref a1, .ref a2, .ref a3])) := same_upd nt
  exact q a0 a1 a2 a3 t _ ((((s1.trans s2).trans s3).trans s4).trans sn) (PolyQ.same e0 sn) (PolyQ.same e1 sn) (PolyQ.same e2 sn) (PolyQ.same e3 sn) upd_same
def barD : PyData := .tuple [.tuple [.int 0, pairD (1, 1)]]
theorem dt_bar {K : PySem.W.Frag} {H : Hp} {a b c : Addr} (h1 : H a = some (.tup [.ref b])) (h2 : H b = some (.tup [.int 0, .ref c])) (h3 : H c = some (.tup [.int 1, .int 1])) : Dt K H (.ref a) barD := .tup (SqT.of h1) (.cons (.tup (SqT.of h2) (.cons (.int 0) (.cons (dt_pair h3) .nil))) .nil)
theorem ties_eqv : (PyData.tuple [.tuple [], barD, barD]).plain = true ∧ (PyData.tuple [.tuple [], barD, barD]).depth ≤ 60 ∧ PyData.eqv (.tuple [.tuple [], barD, barD]) (.tuple [.tuple [], barD, barD]) = true := by
  have pl : (PyData.tuple [.tuple [], barD, barD]).plain = true := by simp [PyData.plain, PyData.plainAll, barD, pairD]
  exact ⟨pl, by simp [PyData.depth, PyData.depthAll, barD, pairD], SeqAt.eqv_refl_plain _ pl⟩
structure InM (P : Program) (w : World) (K : PySem.W.Frag) (mg : Str → Option Value) (base : Heap) (CP : Addr) (name : Str) (Cc : Addr) (fs : List Str) where
  C : InC K mg name Cc fs
  fI : Addr
  dI : FuncData
  mkI : Mk K Cc fI
  okI : FnOk P w K mg base CX0 2 fI dI ("self" :: fs) (spIns K CP Cc fs)
  b : Binds K dI ("self" :: fs) []
def nLaw : List Str := ["_law_script", "_law_pen_here", "_law_some", "_law_point", "_law_made", "_law_told", "_law_lap", "_law_poly_here", "_law_row", "_law_numbers", "_law_again", "_law_odd", "_law_wrong", "_law_one", "_law_two", "_law_three", "_law_four"]
section
variable {P : Program} {w : World} {K : PySem.W.Frag} {mg : Str → Option Value} {base : Heap} {CP CR CT CB CO CE CH : Addr}
abbrev sLaw : Stmt := topS 68
theorem scLaw : FnScope ["_law_script", "_law_pen_here", "_law_some", "_law_point", "_law_made", "_law_told", "_law_lap", "_law_poly_here", "_law_row", "_law_numbers", "_law_again", "_law_odd", "_law_wrong", "_law_one", "_law_two", "_law_three", "_law_four"] ["_law_script"] (defScope sLaw) := ⟨rfl, rfl, rfl, by decide +kernel, rfl, by decide +kernel, by decide +kernel⟩
theorem ok_law {f : Addr} {fd : FuncData} (F : Fun K "law" "law" sLaw f fd) (T : Bk mg) (hm1 : M1 base) (Pt : Addr) (PM : PoM P w K mg base CP CR) (PT_ : PtM P w K mg base CT CR) (IN_Nearest : InM P w K mg base CP "Nearest" CE ["poly", "error", "bar"]) (IN_Barred : InM P w K mg base CP "Barred" CB ["bar"]) (IN_Boundless : InM P w K mg base CP "Boundless" CO ["poly", "way"])
    (IN_Reach : InM P w K mg base CP "Reach" CH ["least", "most", "low", "high", "low_tie", "high_tie"]) (hme : PySem.W.findIn K (.ref CT) "__eq__" = some (some (.builtin "object.__eq__"))) (hmo : PySem.W.mroIn K CT (.type "object") = some true)
    (G__law_pen : Df P w K mg base "_law_pen" 1 ["_law_script"] (spPen K)) (G__law_draw : Df P w K mg base "_law_draw" 1 ["_law_pen_here", "_law_many"] spDraw) (G__law_pick : Df P w K mg base "_law_pick" 2 ["_law_pen_here", "_law_some"] spPick) (G__law_q : Df P w K mg base "_law_q" 2 ["_law_top", "_law_bottom"] spQ)
    (G__law_some_points : Df P w K mg base "_law_some_points" 4 ["_law_pen_here", "_law_many", "_law_most"] spSome) (G__law_made_points : Df P w K mg base "_law_made_points" 8 ["_law_pen_here", "_law_some"] (spMadeP CT)) (G__law_drawn : Df P w K mg base "_law_drawn" 4 ["_law_pen_here", "_law_degree", "_law_most"] spDrawn)
    (G__law_made_poly : Df P w K mg base "_law_made_poly" 7 ["_law_pen_here", "_law_one"] (spMade K CP)) (G_error_of : Df P w K mg base "error_of" 5 ["points", "poly"] (spErr K CP CT)) (G__law_error_of : Df P w K mg base "_law_error_of" 5 ["_law_some", "_law_poly_here"] spLErr)
    (G__law_refused_right : Df P w K mg base "_law_refused_right" 10 ["_law_pen_here", "_law_good", "_law_odd", "_law_wrong"] (spRef K Pt)) : FnG P w K mg base CX0 11 f fd ["_law_script"] (spLaw K Pt) := by
  refine fnG_of0 F scLaw (fun vs H Q E h => ?_) (fun cdv A outer s H0 vs Q E hgu hr hcd h => ?_)
  · obtain ⟨a, ns, rfl, _⟩ := h
    rfl
  · obtain ⟨sc, ns, rfl, hS, hns, hPt, kend⟩ := h
    have hu := hu_of hr
    refine ⟨_, (pss_cons (ps_set (i := 1) scLaw.nd rfl (Or.inr rfl) (pe_call G__law_pen.ok (hr.mono (by decide)) rfl G__law_pen.m G__law_pen.kp G__law_pen.b .nil pass0 (pa_cons (pv 0) pa_nil)))
  (pss_cons (ps_set (i := 2) scLaw.nd rfl (Or.inl rfl) (pe_call G__law_some_points.ok (hr.mono (by decide)) rfl G__law_some_points.m G__law_some_points.kp G__law_some_points.b .nil pass0 (pa_cons (pv 1) (pa_cons (pe_op op_add pe_int (pe_call G__law_draw.ok (hr.mono (by decide)) rfl G__law_draw.m G__law_draw.kp G__law_draw.b .nil pass0 (pa_cons (pv 1) (pa_cons pe_int pa_nil)))) (pa_cons pe_int pa_nil)))))
  (C8.pss_cut (ps_if (pt_cmpR op_eq (pe_call G__law_draw.ok (hr.mono (by decide)) rfl G__law_draw.m G__law_draw.kp G__law_draw.b .nil pass0 (pa_cons (pv 1) (pa_cons pe_int pa_nil))) pe_int (nomark _))
    (pss_one (ps_dput hu (pv 2) pe_str (pe_lc (own := [("_law_point", 3)]) (g := (gName 3)) (tt := tYes) rfl scLaw.nd (pi_seq (pe_dget hu (pv 2) pe_str (fun _ _ => rfl))) (blkOk_by (N := ["_law_script", "_law_pen_here", "_law_some", "_law_point", "_law_made", "_law_told", "_law_lap", "_law_poly_here", "_law_row", "_law_numbers", "_law_again", "_law_odd", "_law_wrong", "_law_one", "_law_two", "_law_three", "_law_four"]) (sc := defScope sLaw) (by decide +kernel)) (fun _ _ _ _ _ => pg_name (i := 3) scLaw.nd rfl (Or.inl rfl)) (fun _ _ _ _ _ => pts_nil) (fun _ _ _ _ _ => (pe_call G__law_q.ok (hr.mono (by decide)) rfl G__law_q.m G__law_q.kp G__law_q.b .nil pass0 (pa_cons (pe_op op_sub (pe_call G__law_draw.ok (hr.mono (by decide)) rfl G__law_draw.m G__law_draw.kp G__law_draw.b .nil pass0 (pa_cons (pv 1) (pa_cons (pe_op op_pow pe_int pe_int) pa_nil))) (pe_op op_mulW pe_int (pe_op op_pow pe_int pe_int))) (pa_cons (pe_op op_add (pe_op op_pow pe_int pe_int) pe_int) pa_nil))))) rfl))
    pss_nil)
  (pss_cons (ps_set (i := 4) scLaw.nd rfl (Or.inl rfl) (pe_call G__law_made_points.ok (hr.mono (by decide)) rfl G__law_made_points.m G__law_made_points.kp G__law_made_points.b .nil pass0 (pa_cons (pv 1) (pa_cons (pv 2) pa_nil))))
  (pss_cons (ps_set (i := 5) scLaw.nd rfl (Or.inl rfl) (pe_tup (pa_cons (pe_fld (pv 4) rfl) (pa_cons (pe_fld (pv 4) rfl) (pa_cons (pe_fld (pv 4) rfl) pa_nil)))))
  (pss_cons (ps_if (pt_cmpR (op_neT hr.units hm1) (pv 5) (pe_tup (pa_cons (pe_callTy call_tuple_of (by rfl) T.tuple (by decide +kernel) (pa_cons (pe_dget hu (pv 2) pe_str (fun _ _ => rfl)) pa_nil)) (pa_cons (pe_callTy call_tuple_of (by rfl) T.tuple (by decide +kernel) (pa_cons (pe_dget hu (pv 2) pe_str (fun _ _ => rfl)) pa_nil)) (pa_cons (pe_callTy call_tuple_of (by rfl) T.tuple (by decide +kernel) (pa_cons (pe_dget hu (pv 2) pe_str (fun _ _ => rfl)) pa_nil)) pa_nil)))) (nomark _))
    (pss_one (ps_ret pe_bl))
    pss_nil)
  (C8.pss_cut (ps_for PassesOwn.never rfl (pi_range1 (by rfl) T.range (pa_cons pe_int pa_nil)) (pg_name (i := 6) scLaw.nd rfl (Or.inl rfl))
    (pss_cons (ps_set (i := 7) scLaw.nd rfl (Or.inl rfl) (pe_call G__law_drawn.ok (hr.mono (by decide)) rfl G__law_drawn.m G__law_drawn.kp G__law_drawn.b .nil pass0 (pa_cons (pv 1) (pa_cons (pe_call G__law_pick.ok (hr.mono (by decide)) rfl G__law_pick.m G__law_pick.kp G__law_pick.b .nil pass0 (pa_cons (pv 1) (pa_cons (pe_lst (pa_cons pe_int (pa_cons pe_int (pa_cons pe_int pa_nil)))) pa_nil))) (pa_cons pe_int pa_nil)))))
    (pss_one (ps_if (pt_cmpR (op_neT hr.units hm1) (pe_call G_error_of.ok (hr.mono (by decide)) rfl G_error_of.m G_error_of.kp G_error_of.b .nil pass0 (pa_cons (pv 4) (pa_cons (pe_call G__law_made_poly.ok (hr.mono (by decide)) rfl G__law_made_poly.m G__law_made_poly.kp G__law_made_poly.b .nil pass0 (pa_cons (pv 1) (pa_cons (pv 7) pa_nil))) pa_nil))) (pe_call G__law_error_of.ok (hr.mono (by decide)) rfl G__law_error_of.m G__law_error_of.kp G__law_error_of.b .nil pass0 (pa_cons (pv 2) (pa_cons (pv 7) pa_nil))) (nomark _))
      (pss_one (ps_ret pe_bl))
      pss_nil))))
  (pss_cons (ps_par (i := 8) (j := 9) (by rfl) scLaw.nd rfl rfl (by decide) rfl rfl (pa_cons (pe_callTy call_list_of (by rfl) T.list (by decide +kernel) (pa_cons (pe_dget hu (pv 2) pe_str (fun _ _ => rfl)) pa_nil)) (pa_cons (pe_callTy call_list_of (by rfl) T.list (by decide +kernel) (pa_cons (pe_dget hu (pv 2) pe_str (fun _ _ => rfl)) pa_nil)) pa_nil)) (by rfl))
  (pss_cons (ps_set (i := 10) scLaw.nd rfl (Or.inl rfl) (pe_make PT_.mkI PT_.okI (hr.mono (by decide)) rfl PT_.C.m PT_.b4 .nil passL (pa_cons (pv 8) (pa_cons (pv 9) (pa_cons pe_non pa_nil)))))
  (pss_cons (ps_asg (pe_tup (pa_cons (pe_tup (pa_cons pe_int (pa_cons pe_int pa_nil))) (pa_cons (pe_tup (pa_cons pe_int (pa_cons pe_int pa_nil))) pa_nil))) (pg_tup (by rfl) (pgs_cons (pg_sub (pv 8) pe_int set_list) (pgs_cons (pg_sub (pv 9) pe_int set_list) pgs_nil))))
  (C8.pss_cut (ps_if (PW.pt (pw_or (pt_cmpR (op_neT hr.units hm1) (pe_fld (pv 10) rfl) (pe_callTy call_tuple_of (by rfl) T.tuple (by decide +kernel) (pa_cons (pe_dget hu (pv 2) pe_str (fun _ _ => rfl)) pa_nil)) (nomark _)) (pw_or (pt_cmpR (op_neT hr.units hm1) (pe_fld (pv 10) rfl) (pe_op op_repX (pe_tup (pa_cons (pe_tup (pa_cons pe_int (pa_cons pe_int pa_nil))) pa_nil)) (pe_callB call_len_seq (by rfl) T.len (by decide +kernel) (pa_cons (pv 8) pa_nil))) (nomark _)) (pw_or1 (pt_cmpR (op_eqI hr.units) (pv 10) (pv 4) (nomark _))))))
    (pss_one (ps_ret pe_bl))
    pss_nil)
  (pss_cons (ps_set (i := 11) scLaw.nd rfl (Or.inl rfl) (pe_lst (pa_cons pe_non (pa_cons pe_int (pa_cons (pe_tup pa_nil) (pa_cons pe_str (pa_cons (pe_lst (pa_cons pe_int (pa_cons pe_int pa_nil))) (pa_cons (pe_tup (pa_cons pe_int (pa_cons pe_int pa_nil))) (pa_cons (pe_lst (pa_cons pe_int (pa_cons pe_non pa_nil))) (pa_cons (pe_tup (pa_cons pe_int (pa_cons pe_bl pa_nil))) (pa_cons (pe_tup (pa_cons (pe_tup (pa_cons pe_int (pa_cons pe_int pa_nil))) (pa_cons (pe_tup (pa_cons pe_int (pa_cons pe_int pa_nil))) pa_nil))) (pa_cons (pe_lst (pa_cons (pe_tup (pa_cons pe_int (pa_cons pe_int pa_nil))) pa_nil)) (pa_cons (pe_tup (pa_cons pe_int (pa_cons pe_int (pa_cons pe_int pa_nil)))) pa_nil)))))))))))))
  (pss_cons (ps_set (i := 11) scLaw.nd rfl (Or.inl rfl) (pe_call G__law_pick.ok (hr.mono (by decide)) rfl G__law_pick.m G__law_pick.kp G__law_pick.b .nil pass0 (pa_cons (pv 1) (pa_cons (pv 11) pa_nil))))
  (pss_cons (ps_set (i := 12) scLaw.nd rfl (Or.inl rfl) (pe_call G__law_pick.ok (hr.mono (by decide)) rfl G__law_pick.m G__law_pick.kp G__law_pick.b .nil pass0 (pa_cons (pv 1) (pa_cons (pe_lst (pa_cons pe_non (pa_cons pe_int (pa_cons (pe_tup pa_nil) (pa_cons (pe_op op_repS pe_str (pe_callB call_len_seq (by rfl) T.len (by decide +kernel) (pa_cons (pv 8) pa_nil))) (pa_cons (pe_op op_rep (pe_lst (pa_cons pe_non pa_nil)) (pe_callB call_len_seq (by rfl) T.len (by decide +kernel) (pa_cons (pv 8) pa_nil))) (pa_cons (pe_op op_rep (pe_lst (pa_cons pe_bl pa_nil)) (pe_callB call_len_seq (by rfl) T.len (by decide +kernel) (pa_cons (pv 8) pa_nil))) (pa_cons pe_dnewK pa_nil)))))))) pa_nil))))
  (C8.pss_cut (ps_if (pt_not (pt_val (pe_call G__law_refused_right.ok (hr.mono (by decide)) rfl G__law_refused_right.m G__law_refused_right.kp G__law_refused_right.b .nil pass0 (pa_cons (pv 1) (pa_cons (pe_callTy call_list_of (by rfl) T.list (by decide +kernel) (pa_cons (pe_dget hu (pv 2) pe_str (fun _ _ => rfl)) pa_nil)) (pa_cons (pv 11) (pa_cons (pv 12) pa_nil)))))))
    (pss_one (ps_ret pe_bl))
    pss_nil)
  (pss_cons (ps_par (i := 13) (j := 14) (by rfl) scLaw.nd rfl rfl (by decide) rfl rfl (pa_cons (pe_make IN_Nearest.mkI IN_Nearest.okI (hr.mono (by decide)) rfl IN_Nearest.C.m IN_Nearest.b .nil pass0 (pa_cons (pe_make PM.mkI PM.okI (hr.mono (by decide)) rfl PM.C.m PM.bI .nil passL (pa_cons (pe_tup pa_nil) pa_nil)) (pa_cons (pe_tup (pa_cons pe_int (pa_cons pe_int pa_nil))) (pa_cons (pe_lst (pa_cons (pe_tup (pa_cons pe_int (pa_cons (pe_tup (pa_cons pe_int (pa_cons pe_int pa_nil))) pa_nil))) pa_nil)) pa_nil)))) (pa_cons (pe_make IN_Reach.mkI IN_Reach.okI (hr.mono (by decide)) rfl IN_Reach.C.m IN_Reach.b .nil pass0 (pa_cons (pe_tup (pa_cons pe_int (pa_cons pe_int pa_nil))) (pa_cons (pe_tup (pa_cons pe_int (pa_cons pe_int pa_nil))) (pa_cons (pe_make PM.mkI PM.okI (hr.mono (by decide)) rfl PM.C.m PM.bI .nil passL (pa_cons (pe_tup pa_nil) pa_nil)) (pa_cons (pe_make PM.mkI PM.okI (hr.mono (by decide)) rfl PM.C.m PM.bI .nil passL (pa_cons (pe_tup (pa_cons pe_int pa_nil)) pa_nil)) (pa_cons (pe_lst pa_nil) (pa_cons (pe_lst (pa_cons (pe_tup (pa_cons pe_int (pa_cons (pe_tup (pa_cons pe_int (pa_cons pe_int pa_nil))) pa_nil))) pa_nil)) pa_nil))))))) pa_nil)) (by rfl))
  (C8.pss_cut (ps_if (pt_cmpR (show OpR _ _ (rNeG K (DAll K CP)) from op_neG mon_all (eq_all PM) (hr.mono (by decide))) (pe_tup (pa_cons (pe_fld (pv 13) rfl) (pa_cons (pe_fld (pv 13) rfl) (pa_cons (pe_fld (pv 13) rfl) (pa_cons (pe_fld (pv 14) rfl) (pa_cons (pe_fld (pv 14) rfl) pa_nil)))))) (pe_tup (pa_cons (pe_make PM.mkI PM.okI (hr.mono (by decide)) rfl PM.C.m PM.bI .nil passL (pa_cons (pe_tup pa_nil) pa_nil)) (pa_cons (pe_tup (pa_cons pe_int (pa_cons pe_int pa_nil))) (pa_cons (pe_tup (pa_cons (pe_tup (pa_cons pe_int (pa_cons (pe_tup (pa_cons pe_int (pa_cons pe_int pa_nil))) pa_nil))) pa_nil)) (pa_cons (pe_tup (pa_cons pe_int (pa_cons pe_int pa_nil))) (pa_cons (pe_tup (pa_cons pe_int (pa_cons pe_int pa_nil))) pa_nil)))))) (nomark _))
    (pss_one (ps_ret pe_bl))
    pss_nil)
  (pss_cons (ps_par (i := 15) (j := 16) (by rfl) scLaw.nd rfl rfl (by decide) rfl rfl (pa_cons (pe_make IN_Barred.mkI IN_Barred.okI (hr.mono (by decide)) rfl IN_Barred.C.m IN_Barred.b .nil pass0 (pa_cons (pe_lst (pa_cons (pe_tup (pa_cons pe_int (pa_cons (pe_tup (pa_cons pe_int (pa_cons pe_int pa_nil))) pa_nil))) pa_nil)) pa_nil)) (pa_cons (pe_make IN_Boundless.mkI IN_Boundless.okI (hr.mono (by decide)) rfl IN_Boundless.C.m IN_Boundless.b .nil pass0 (pa_cons (pe_make PM.mkI PM.okI (hr.mono (by decide)) rfl PM.C.m PM.bI .nil passL (pa_cons (pe_tup pa_nil) pa_nil)) (pa_cons (pe_make PM.mkI PM.okI (hr.mono (by decide)) rfl PM.C.m PM.bI .nil passL (pa_cons (pe_tup (pa_cons pe_int pa_nil)) pa_nil)) pa_nil))) pa_nil)) (by rfl))
  (C8.pss_cut (ps_if (pt_cmpR (op_neT hr.units hm1) (pe_tup (pa_cons (pe_fld (pv 14) rfl) (pa_cons (pe_fld (pv 14) rfl) (pa_cons (pe_fld (pv 15) rfl) pa_nil)))) (pe_tup (pa_cons (pe_tup pa_nil) (pa_cons (pe_tup (pa_cons (pe_tup (pa_cons pe_int (pa_cons (pe_tup (pa_cons pe_int (pa_cons pe_int pa_nil))) pa_nil))) pa_nil)) (pa_cons (pe_tup (pa_cons (pe_tup (pa_cons pe_int (pa_cons (pe_tup (pa_cons pe_int (pa_cons pe_int pa_nil))) pa_nil))) pa_nil)) pa_nil)))) (nomark _))
    (pss_one (ps_ret pe_bl))
    pss_nil)
  (pss_one (ps_ret (pe_cmpR (show OpR _ _ (rEqG (DTup K (DAll K CP))) from op_eqG (rcG_tup mon_all (eq_all PM)) (hr.mono (by decide))) (pe_tup (pa_cons (pe_fld (pv 14) rfl) (pa_cons (pe_fld (pv 14) rfl) (pa_cons (pe_fld (pv 16) rfl) (pa_cons (pe_fld (pv 16) rfl) pa_nil))))) (pe_tup (pa_cons (pe_make PM.mkI PM.okI (hr.mono (by decide)) rfl PM.C.m PM.bI .nil passL (pa_cons (pe_tup pa_nil) pa_nil)) (pa_cons (pe_make PM.mkI PM.okI (hr.mono (by decide)) rfl PM.C.m PM.bI .nil passL (pa_cons (pe_tup (pa_cons pe_int pa_nil)) pa_nil)) (pa_cons (pe_make PM.mkI PM.okI (hr.mono (by decide)) rfl PM.C.m PM.bI .nil passL (pa_cons (pe_tup pa_nil) pa_nil)) (pa_cons (pe_make PM.mkI PM.okI (hr.mono (by decide)) rfl PM.C.m PM.bI .nil passL (pa_cons (pe_tup (pa_cons pe_int pa_nil)) pa_nil)) pa_nil))))) (nomark _))))))))))))))))))))))), ?_⟩
    have T0 := tab_start hPt
    refine ⟨_, rfl, sc, ns, rfl, hS, hns, fun p lc H1 s1 np nl hP1 => ?_⟩
    have T1 := tabs_ext T0 s1
    refine ⟨_, rfl, _, rfl, p, lc, 0, 14, rfl, hP1, by decide, by decide, by decide, fun z H2 z0 z1 hP2 k2 => ⟨_, _, rfl, rfl, ?_⟩⟩
    have T2 := tabs_kp hP1 k2 T1
    refine ⟨p, lc, _, 1 + z, 99, rfl, hP2, by decide, by omega, by omega, by decide, by decide, fun r l1 l2 l3 xs ys ws H3 hP3 k3 nr er hx hy hw xne xl yl wl asc bx by_ bw => ?_⟩
    have T3 := tabs_kp hP2 k3 T2
    have rp : r ≠ p := (hP2.ne_new nr).1
    have S3 : SomeL H3 r xs ys ws := ⟨⟨⟨l1, l2, l3, er, hx, hy, hw⟩, xne, by omega, yl, wl, asc, fun q h => smd_ok (bx q h) (by decide), fun q h => smd_ok (by_ q h) (by decide), fun q h => smd_ok (bw q h).1 (by decide), fun q h => (bw q h).2⟩, fun q h => smd_pz (bx q h) (by decide), fun q h => (smd_pz (by_ q h) (by decide)).mono (by decide), fun q h => smd_pz (bw q h).1 (by decide)⟩
    refine ⟨fun σ H' => ∃ (v3 : Option V) (ys' : List Rat), σ = [some (.ref sc), some (.ref p), some (.ref r), v3, none, none, none, none, none, none, none, none, none, none, none, none, none] ∧ LamX.Tabs (Ts2 Pt) H' ∧ Pen H' p lc 400 ∧ SomeL H' r xs ys' ws, ?_, ?_⟩
    · refine ⟨_, rfl, p, lc, _, 4, rfl, hP3, by decide, by decide, by decide, fun z4 H4 y0 y1 hP4 k4 => ⟨rfl, _, rfl, ?_⟩⟩
      have T4 := tabs_kp hP3 k4 T3
      have S4 := S3.kp rp hP3 k4
      rw [dec_int]
      by_cases hz : z4 = 0
      · rw [show (z4 == 0) = true from beq_iff_eq.mpr hz]
        refine iteT ?_
        obtain ⟨⟨k1, kk2, k3', er4, hx4, hy4, hw4⟩, a1, a2, a3, a4, a5, a6, a7, a8, a9⟩ := S4.s
        obtain ⟨as4, el4, tx4⟩ := hx4
        have l1p := RL.ne ⟨as4, el4, tx4⟩ hP4
        have lx4 := tx4.lenQ
        have hP4 := hP4.more (show _ ≤ 310 by decide)
        have n1 : (5 * 10 ^ 29 : Int) = 500000000000000000000000000000 := by decide
        refine ⟨_, rfl, r, _, rfl, sg1 er4, k1, rfl, lc_seq (xs := as4.map V.ref) (.inl (SqL.of el4)) (fun D i H' => PB p lc 310 1 H4 D (fun q => Pz 110 q ∧ RatOk (pq q)) i H') (fun D hD => pb_zero hD hP4) (fun D i H' hD pb => seq_kp l1p pb.1) ?_ ?_⟩
        · intro D i x H' hD hi pb
          have hi20 : i ≤ 1000 := by
            have := (List.getElem?_eq_some_iff.mp hi).1
            rw [List.length_map] at this
            omega
          refine ⟨rfl, ?_⟩
          refine ⟨_, rfl, _, _, rfl, rfl, ⟨by decide, by decide, by decide⟩, p, lc, _, _, rfl, pb.2.1, by omega, by decide, by decide, fun z5 H5 y0 y1 hP5 k5 => ?_⟩
          have y1 : z5 < 1000000000000000000000000000000 := y1
          have up : ∀ {n k : Nat}, n < 2 ^ 110 → 110 ≤ k → n < 2 ^ k := fun h hk => Nat.lt_of_lt_of_le h (Nat.pow_le_pow_right (by decide) hk)
          have ht : (z5 - 5 * (10 : Int) ^ (29 : Int).toNat).natAbs < 2 ^ 110 := by
            have e : (5 * (10 : Int) ^ (29 : Int).toNat) = 500000000000000000000000000000 := by decide +kernel
            rw [e, show (2 : Nat) ^ 110 = 1298074214633706907132624082305024 from by decide +kernel]
            omega
          have hb2 : ((10 : Int) ^ (20 : Int).toNat + 7).natAbs < 2 ^ 110 := by decide +kernel
          have hb : (10 : Int) ^ (20 : Int).toNat + 7 ≠ 0 := by decide +kernel
          obtain ⟨g1, g2, g3⟩ := big_q hb ht hb2
          refine ⟨_, _, rfl, rfl, ⟨by decide, by decide, by decide⟩, _, _, rfl, rfl, big_mulW (up (show (5 : Int).natAbs < 2 ^ 110 by decide +kernel) (by decide)) (up (show ((10 : Int) ^ (29 : Int).toNat).natAbs < 2 ^ 110 by decide +kernel) (by decide)), _, _, rfl, rfl, _, _, rfl, rfl, ⟨by decide, by decide, by decide⟩, _, _, rfl, rfl, ?_⟩
          refine ⟨_, _, rfl, hb, up ht (by decide), up hb2 (by decide), fun p6 H6 s6 n6 e6 => ?_⟩
          exact pb_step hD hP4 pb (hP5.same s6) (by omega) (k5.trans (Kp.of s6)) (tr_int e6 g3) ⟨g2, g1⟩ hi20
        rintro l5 H5 nl5 ⟨k5, hP5, zs5, vs5, el5, ty5, ly5, sy5⟩
        have lyx : vs5.length = xs.length := by rw [ly5, List.length_map]; omega
        have l5p := (hP4.ne_new nl5).1
        have T5 := tabs_kp hP4 k5 T4
        have er5 := k5 _ _ rp er4
        refine ⟨_, rfl, r, _, rfl, DPut.k (k := Sum.inr "numbers") er5 (by show 3 < sizeLine; decide), ?_⟩
        rw [some_put]
        have hx5 : RL H5 k1 xs := RL.kp ⟨as4, el4, tx4⟩ hP4 k5
        have hw5 : RL H5 k3' ws := hw4.kp hP4 k5
        have hy5 : RL H5 l5 vs5 := ⟨zs5, el5, ty5⟩
        have rlc : r ≠ lc := by
          obtain ⟨_, e2⟩ := hP5.lc
          exact ne_of er5 e2 (by intro z; cases z)
        refine ⟨_, vs5, rfl, tabs_put T5 er5, (hP5.put upd_away rp rlc).more (by rw [List.length_map]; omega), ⟨⟨⟨k1, l5, k3', upd_same, rl_put hx5 er5, rl_put hy5 er5, rl_put hw5 er5⟩, a1, a2, lyx, a4, a5, a6, fun q h => (sy5 q h).2, a8, a9⟩, S4.bx, fun q h => (sy5 q h).1, S4.bw⟩⟩
      · rw [show (z4 == 0) = false from beq_false_of_ne hz]
        refine iteF ?_
        exact ⟨none, ys, rfl, T4, hP4.more (by decide), S4⟩
    · rintro σ H4 ⟨v3, ys', rfl, T4, hP4, S4⟩
      clear S3 hx hy hw er
      refine ⟨_, rfl, _, rfl, p, lc, r, 400, xs, ys', ws, rfl, hP4, by decide, rp, S4.s, fun a H5 hP5 k5 na pt => ?_⟩
      have T5 := tabs_kp hP4 k5 T4
      have S5 := S4.kp rp hP4 k5
      obtain ⟨dx, tw, tp, tn, e1, q1, q2, q3⟩ := id pt
      refine ⟨_, rfl, a, CT, dx, _, .ref tp, rfl, e1, PT_.C.cl, PT_.C.np, (by kernel_rfl), _, rfl, a, CT, dx, _, .ref tn, rfl, e1, PT_.C.cl, PT_.C.nn, (by kernel_rfl), _, rfl, a, CT, dx, _, .ref tw, rfl, e1, PT_.C.cl, PT_.C.nw, (by kernel_rfl), (by show 3 ≤ sizeLine; decide), fun tt ntt => ?_⟩
      have f6 : upd H5 tt (HO.tup [V.ref tp, V.ref tn, V.ref tw]) tt = some (HO.tup [V.ref tp, V.ref tn, V.ref tw]) := upd_same
      have s6 : Same H5 (upd H5 tt (HO.tup [V.ref tp, V.ref tn, V.ref tw])) := same_upd ntt
      generalize upd H5 tt (HO.tup [V.ref tp, V.ref tn, V.ref tw]) = H6 at f6 s6 ⊢
      obtain ⟨m1, m2, m3, er5, hx5, hy5, hw5⟩ := S5.s.h
      have er6 := s6 _ _ er5
      obtain ⟨vx, ex, rx⟩ := RL.row (H' := H5) (t := tt) (hx5.same s6)
      obtain ⟨vy, ey, ry⟩ := RL.row (H' := H5) (t := tt) (hy5.same s6)
      obtain ⟨vw, ew, rw_⟩ := RL.row (H' := H5) (t := tt) (hw5.same s6)
      refine ⟨_, rfl, _, rfl, r, _, rfl, sg1 er6, m1, _, rfl, .inl ⟨SqL.of ex, fun t1 nt1 => ?_⟩⟩
      have g1 : upd H6 t1 (HO.tup vx) t1 = some (HO.tup vx) := upd_same
      have s7 : Same H6 (upd H6 t1 (HO.tup vx)) := same_upd nt1
      generalize upd H6 t1 (HO.tup vx) = H7 at g1 s7 ⊢
      refine ⟨_, rfl, r, _, rfl, sg2 (s7 _ _ er6), m2, _, rfl, .inl ⟨SqL.of (s7 _ _ ey), fun t2 nt2 => ?_⟩⟩
      have g2 : upd H7 t2 (HO.tup vy) t2 = some (HO.tup vy) := upd_same
      have s8 : Same H7 (upd H7 t2 (HO.tup vy)) := same_upd nt2
      generalize upd H7 t2 (HO.tup vy) = H8 at g2 s8 ⊢
      have s68 := s7.trans s8
      refine ⟨_, rfl, r, _, rfl, sg3 (s68 _ _ er6), m3, _, rfl, .inl ⟨SqL.of (s68 _ _ ew), fun t3 nt3 => ?_⟩⟩
      have g3 : upd H8 t3 (HO.tup vw) t3 = some (HO.tup vw) := upd_same
      have s9 : Same H8 (upd H8 t3 (HO.tup vw)) := same_upd nt3
      generalize upd H8 t3 (HO.tup vw) = H9 at g3 s9 ⊢
      have s69 := s68.trans s9
      refine ⟨(by show 3 ≤ sizeLine; decide), fun t4 nt4 => ?_⟩
      have g4 : upd H9 t4 (HO.tup [V.ref t1, V.ref t2, V.ref t3]) t4 = some (HO.tup [V.ref t1, V.ref t2, V.ref t3]) := upd_same
      have s10 : Same H9 (upd H9 t4 (HO.tup [V.ref t1, V.ref t2, V.ref t3])) := same_upd nt4
      generalize upd H9 t4 (HO.tup [V.ref t1, V.ref t2, V.ref t3]) = H10 at g4 s10 ⊢
      have s610 := s69.trans s10
      have s510 := s6.trans s610
      obtain ⟨pl, dp, ev⟩ := three_eqv (xs.map pq) (ys'.map pq) (ws.map pq)
      refine ⟨.tuple [rowT (xs.map pq), rowT (ys'.map pq), rowT (ws.map pq)], _, .tup (SqT.of (s610 _ _ f6)) (.cons (q1.same s510).dt (.cons (q2.same s510).dt (.cons (q3.same s510).dt .nil))), .tup (SqT.of g4) (.cons (rx t1 _ s610 ((s8.trans (s9.trans s10)) _ _ g1)).dt (.cons (ry t2 _ s610 ((s9.trans s10) _ _ g2)).dt (.cons (rw_ t3 _ s610 (s10 _ _ g3)).dt .nil))), pl, pl, dp, _, rfl, ?_⟩
      rw [ev]
      refine iteF ?_
      have T10 := tabs_ext T5 s510
      have hP10 := hP5.same s510
      have S10 := S5.kp rp hP5 (Kp.of s510)
      have pt10 := pt.same s510
      refine ⟨fun σ H' => ∃ (v6 v7 : Option V), σ = [some (.ref sc), some (.ref p), some (.ref r), v3, some (.ref a), some (.ref tt), v6, v7, none, none, none, none, none, none, none, none, none] ∧ LamX.Tabs (Ts2 Pt) H' ∧ Pen H' p lc 2000 ∧ SomeL H' r xs ys' ws ∧ PtsAt CT H' a (xs.map pq) (ys'.map pq) (ws.map pq), ?_, ?_⟩
      · refine ⟨_, rfl, by decide, by decide, for_range (lo := 0) (n := ((4 : Int)).toNat) (fun i σ H' => ∃ (v6 v7 : Option V), σ = [some (.ref sc), some (.ref p), some (.ref r), v3, some (.ref a), some (.ref tt), v6, v7, none, none, none, none, none, none, none, none, none] ∧ LamX.Tabs (Ts2 Pt) H' ∧ Pen H' p lc (600 + 250 * i) ∧ SomeL H' r xs ys' ws ∧ PtsAt CT H' a (xs.map pq) (ys'.map pq) (ws.map pq))
          ⟨none, none, rfl, T10, hP10.more (by omega), S10, pt10⟩ ?_ ?_⟩
        · rintro i σ H1 hi ⟨v6, v7, rfl, U1, pP1, W1, pt1⟩
          have i4 : i < 4 := hi
          refine ⟨_, rfl, _, rfl, (by show 3 ≤ sizeLine; decide), fun lo nlo => ?_⟩
          have f2 : upd H1 lo (HO.lst [V.int 1, V.int 3, V.int 12]) lo = some (HO.lst [V.int 1, V.int 3, V.int 12]) := upd_same
          have s2 : Same H1 (upd H1 lo (HO.lst [V.int 1, V.int 3, V.int 12])) := same_upd nlo
          have lop := (pP1.ne_new nlo).1
          generalize upd H1 lo (HO.lst [V.int 1, V.int 3, V.int 12]) = H2 at f2 s2 ⊢
          have pP2 := pP1.same s2
          refine ⟨p, lc, lo, _, _, rfl, pP2, by omega, f2, lop, (by show 0 < 3; decide), (by show 3 < 1000000; decide), fun x H3 hx pP3 k3 => ?_⟩
          obtain ⟨d, rfl, d0, d12⟩ : ∃ d : Int, x = .int d ∧ 0 ≤ d ∧ d ≤ 12 := by
            simp only [List.mem_cons, List.not_mem_nil, or_false] at hx
            rcases hx with h | h | h <;> exact ⟨_, h, by decide, by decide⟩
          refine ⟨p, lc, _, d, 20, rfl, pP3, by omega, d0, d12, by decide, by decide, fun l qs H4' pP4 k4 rl lq sq sm => ?_⟩
          have sm' : ∀ i, Sm (cf qs i) := fun i => smd_sm (sm i)
          refine ⟨_, rfl, _, rfl, _, rfl, p, lc, l, _, qs, rfl, pP4, by omega, rl, lq, sq, (fun i => smd_ok (sm i) (by decide)), fun y H5' pP5 k5' hy' => ?_⟩
          have W5 := (W1.kp rp pP1 (Kp.of s2)).kp rp pP2 k3 |>.kp rp pP3 k4 |>.kp rp pP4 k5'
          have pt5 := (((pt1.same s2).kp pP2 k3).kp pP3 k4).kp pP4 k5'
          have U5 := tabs_kp pP4 k5' (tabs_kp pP3 k4 (tabs_kp pP2 k3 (tabs_ext U1 s2)))
          have ly' := W5.s.ly
          have lw' := W5.s.lw
          refine ⟨a, y, qs, xs, ys', ws, rfl, pt5, hy', lq, sm', by omega, by omega, pz_all W5.bx, pz_all W5.by_, pz_all W5.bw, fun r1 H6' s6' t1' => ?_⟩
          obtain ⟨j1, j2, j3, je, jx, jy, jw⟩ := W5.s.h
          refine ⟨_, rfl, _, rfl, r, l, j1, j2, j3, qs, xs, ys', ws, rfl, s6' _ _ je, jx.same s6', jy.same s6', jw.same s6', (rl.kp pP4 k5').same s6', lq, sm', by omega, by omega, pz_all W5.bx, pz_all W5.by_, pz_all W5.bw, fun r2 H7' s7' t2' => ?_⟩
          have s57 := s6'.trans s7'
          refine ⟨pairD (pq (errN qs xs ys' ws xs.length)), pairD (pq (errN qs xs ys' ws xs.length)), dt_pair (s7' _ _ t1'), dt_pair t2', plain_pair _, plain_pair _, depth_pair _, _, rfl, ?_⟩
          rw [eqv_pair, decide_eq_true rfl]
          refine iteF ?_
          exact ⟨_, _, rfl, tabs_ext U5 s57, (pP5.same s57).more (by omega), W5.kp rp pP5 (Kp.of s57), pt5.same s57⟩
        · rintro σ H1 ⟨v6, v7, rfl, U1, pP1, W1, pt1⟩
          exact ⟨v6, v7, rfl, U1, pP1.more (by decide), W1, pt1⟩
      · rintro σ H1 ⟨v6, v7, rfl, U1, pP1, W1, pt1⟩
        clear T10 hP10 S10 pt10 pt T5 S5 hP5 T4 S4 hP4
        obtain ⟨m1, m2, m3, er1, hx1, hy1, hw1⟩ := W1.s.h
        obtain ⟨vx, ex, rx⟩ := RL.row (H' := H1) (t := tt) hx1
        obtain ⟨vy, ey, ry⟩ := RL.row (H' := H1) (t := tt) hy1
        refine ⟨_, rfl, r, _, rfl, sg1 er1, m1, _, rfl, .inl (SqL.of ex), fun lr nlr => ?_⟩
        have f2 : upd H1 lr (HO.lst vx) lr = some (HO.lst vx) := upd_same
        have s2 : Same H1 (upd H1 lr (HO.lst vx)) := same_upd nlr
        generalize upd H1 lr (HO.lst vx) = H2 at f2 s2 ⊢
        refine ⟨_, rfl, r, _, rfl, sg2 (s2 _ _ er1), m2, _, rfl, .inl (SqL.of (s2 _ _ ey)), fun ln nln => ?_⟩
        have f3 : upd H2 ln (HO.lst vy) ln = some (HO.lst vy) := upd_same
        have s3 : Same H2 (upd H2 ln (HO.lst vy)) := same_upd nln
        have lrn : lr ≠ ln := ne_of_none f2 nln
        have nln1 : H1 ln = none := s2.free nln
        generalize upd H2 ln (HO.lst vy) = H3 at f3 s3 ⊢
        have s13 := s2.trans s3
        have f2 := s3 _ _ f2
        have hr3 : RL H3 lr xs := hx1.copy ex s13 f2
        have hn3 : RL H3 ln ys' := hy1.copy ey s13 f3
        have ly' := W1.s.ly
        have lw' := W1.s.lw
        have l20 := W1.s.l20
        obtain ⟨gr1, gr2⟩ := good_rw (K := K) hr3 (by omega) W1.s.ox W1.s.asc
        have xne' : xs.map pq ≠ [] := fun z => W1.s.ne (List.map_eq_nil_iff.mp z)
        refine ⟨_, _, rfl, _, rfl, _, rfl, pt_made (E := E0) ⟨_, _, .none, gr1.row.1, gr1.row.2.2, (list_rw (K := K) hn3 (by omega) W1.s.oy).row.1, (list_rw (K := K) hn3 (by omega) W1.s.oy).row.2.2, .non, (fun ds h => by cases h), .inr ⟨_, gr1, xne', gr2, .inr ⟨_, list_rw hn3 (by omega) W1.s.oy, by rw [List.length_map, List.length_map]; exact ly', .inl ⟨rfl, fun b H4 s4 nb pb => ?_⟩⟩⟩⟩⟩
        rw [low_rows, low_rows, List.length_map] at pb
        have e2 := s4 _ _ f2
        have e3 := s4 _ _ f3
        have s14 := s13.trans s4
        have nlr1 := nlr
        refine ⟨(by show 2 ≤ sizeLine; decide), fun t1 nt1 => ?_⟩
        have g1 : upd H4 t1 (HO.tup [V.int 999, V.int 1]) t1 = some (HO.tup [V.int 999, V.int 1]) := upd_same
        have s5 : Same H4 (upd H4 t1 (HO.tup [V.int 999, V.int 1])) := same_upd nt1
        generalize upd H4 t1 (HO.tup [V.int 999, V.int 1]) = H5 at g1 s5 ⊢
        refine ⟨(by show 2 ≤ sizeLine; decide), fun t2 nt2 => ?_⟩
        have g2 : upd H5 t2 (HO.tup [V.int 999, V.int 1]) t2 = some (HO.tup [V.int 999, V.int 1]) := upd_same
        have s6 : Same H5 (upd H5 t2 (HO.tup [V.int 999, V.int 1])) := same_upd nt2
        generalize upd H5 t2 (HO.tup [V.int 999, V.int 1]) = H6 at g2 s6 ⊢
        refine ⟨(by show 2 ≤ sizeLine; decide), fun t3 nt3 => ?_⟩
        have g3 : upd H6 t3 (HO.tup [V.ref t1, V.ref t2]) t3 = some (HO.tup [V.ref t1, V.ref t2]) := upd_same
        have s7 : Same H6 (upd H6 t3 (HO.tup [V.ref t1, V.ref t2])) := same_upd nt3
        generalize upd H6 t3 (HO.tup [V.ref t1, V.ref t2]) = H7 at g3 s7 ⊢
        have s47 := s5.trans (s6.trans s7)
        have e2 := s47 _ _ e2
        have e3 := s47 _ _ e3
        have pb7 := pb.same s47
        have s17 := s14.trans s47
        have vxl : vx.length = xs.length := by
          obtain ⟨as, z1, z2⟩ := hr3
          rw [f2] at z1
          cases z1
          rw [List.length_map]
          exact z2.lenQ
        have vyl : vy.length = xs.length := by
          obtain ⟨as, z1, z2⟩ := hn3
          rw [f3] at z1
          cases z1
          rw [List.length_map, z2.lenQ, ly']
        have x0 : 0 < xs.length := List.length_pos_iff.mpr W1.s.ne
        refine ⟨t3, _, rfl, SqT.of g3, rfl, ?_⟩
        refine ⟨_, _, rfl, _, rfl, lr, vx, 0, 0, rfl, rfl, e2, ?_, ?_⟩
        · exact ixN0 (by omega)
        have e3' : upd H7 lr (HO.lst (vx.set 0 (.ref t1))) ln = some (HO.lst vy) := by rw [upd_ne (Ne.symm lrn)]; exact e3
        refine ⟨_, _, rfl, _, rfl, ln, vy, 0, 0, rfl, rfl, e3', ixN0 (by omega), ?_⟩
        have r9 : upd (upd H7 lr (HO.lst (vx.set 0 (.ref t1)))) ln (HO.lst (vy.set 0 (.ref t2))) lr = some (HO.lst (vx.set 0 (.ref t1))) := by rw [upd_ne lrn, upd_same]
        have s19 : Same H1 (upd (upd H7 lr (HO.lst (vx.set 0 (.ref t1)))) ln (HO.lst (vy.set 0 (.ref t2)))) := fun x o e => by
          rw [upd_ne (ne_of_none e nln1), upd_ne (ne_of_none e nlr1)]
          exact s17 _ _ e
        have pb9 : PtsAt CT (upd (upd H7 lr (HO.lst (vx.set 0 (.ref t1)))) ln (HO.lst (vy.set 0 (.ref t2)))) b (xs.map pq) (ys'.map pq) (List.replicate xs.length (1, 1)) := pb7.up fun x o e n => by
          have n1 : x ≠ ln := fun z => by
            subst z
            rw [e3] at e
            cases e
            exact n _ rfl
          have n2 : x ≠ lr := fun z => by
            subst z
            rw [e2] at e
            cases e
            exact n _ rfl
          rw [upd_ne n1, upd_ne n2]
          exact e
        refine ⟨rfl, ?_⟩
        generalize upd (upd H7 lr (HO.lst (vx.set 0 (.ref t1)))) ln (HO.lst (vy.set 0 (.ref t2))) = H9 at r9 s19 pb9 ⊢
        refine ⟨fun σ H' => ∃ vr : List V, σ = [some (.ref sc), some (.ref p), some (.ref r), v3, some (.ref a), some (.ref tt), v6, v7, some (.ref lr), some (.ref ln), some (.ref b), none, none, none, none, none, none] ∧ LamX.Tabs (Ts2 Pt) H' ∧ Pen H' p lc 2000 ∧ SomeL H' r xs ys' ws ∧ H' lr = some (.lst vr) ∧ vr.length = xs.length, ?_, ?_⟩
        · have ba : b ≠ a := fun z => by
            subst z
            obtain ⟨dz, _, _, _, z, _⟩ := pt1.same s13
            rw [nb] at z
            cases z
          have W9 := W1.kp rp pP1 (Kp.of s19)
          have pP9 := pP1.same s19
          have U9 := tabs_ext U1 s19
          have pt9 := pt1.same s19
          have er9 := s19 _ _ er1
          have ex9 := s19 _ _ ex
          obtain ⟨dy, uw, up, un, b1, w1, w2, w3⟩ := id pb9
          obtain ⟨dz, _, _, _, a1, _⟩ := id pt9
          refine ⟨_, rfl, b, CT, dy, _, .ref up, rfl, b1, PT_.C.cl, PT_.C.np, (by kernel_rfl), _, rfl, r, _, rfl, sg1 er9, m1, _, rfl, .inl ⟨SqL.of ex9, fun t5 nt5 => ?_⟩⟩
          have g5 : upd H9 t5 (HO.tup vx) t5 = some (HO.tup vx) := upd_same
          have s10 : Same H9 (upd H9 t5 (HO.tup vx)) := same_upd nt5
          generalize upd H9 t5 (HO.tup vx) = H10 at g5 s10 ⊢
          refine ⟨rowT (xs.map pq), rowT (xs.map pq), (w1.same s10).dt, (rx t5 _ (s19.trans s10) g5).dt, (rowT_plain _).1, (rowT_plain _).1, Nat.le_trans (rowT_plain _).2 (by decide), _, rfl, ?_⟩
          rw [SeqAt.eqv_refl_plain _ (rowT_plain (xs.map pq)).1]
          refine iteF ?_
          refine ⟨_, rfl, b, CT, dy, _, .ref uw, rfl, s10 _ _ b1, PT_.C.cl, PT_.C.nw, (by kernel_rfl), (by show 2 ≤ sizeLine; decide), fun t6 nt6 => ?_⟩
          have g6 : upd H10 t6 (HO.tup [V.int 1, V.int 1]) t6 = some (HO.tup [V.int 1, V.int 1]) := upd_same
          have s11 : Same H10 (upd H10 t6 (HO.tup [V.int 1, V.int 1])) := same_upd nt6
          generalize upd H10 t6 (HO.tup [V.int 1, V.int 1]) = H11 at g6 s11 ⊢
          refine ⟨(by show 1 ≤ sizeLine; decide), fun t7 nt7 => ?_⟩
          have g7 : upd H11 t7 (HO.tup [V.ref t6]) t7 = some (HO.tup [V.ref t6]) := upd_same
          have s12 : Same H11 (upd H11 t7 (HO.tup [V.ref t6])) := same_upd nt7
          generalize upd H11 t7 (HO.tup [V.ref t6]) = H12 at g7 s12 ⊢
          have s912 := s10.trans (s11.trans s12)
          refine ⟨_, rfl, lr, _, rfl, .inl (SqL.of (s912 _ _ r9)), t7, _, _, rfl, rfl, g7, (by intro z; cases z), (by rw [List.length_set]; omega), (by rw [List.length_set]; omega), (by show 1 ≤ 1000; decide), fun t8 H13 s13' g8 => ?_⟩
          have tr8 : TRw H13 t8 (List.replicate xs.length (1, 1)) := by
            refine ⟨List.replicate xs.length t6, ?_, tups_rep (p := (1, 1)) (s13' _ _ (s12 _ _ g6)) _⟩
            rw [g8, List.length_set, vxl, Int.toNat_natCast, rep_lst, List.map_replicate]
          have s913 := s912.trans s13'
          refine ⟨rowT (List.replicate xs.length (1, 1)), rowT (List.replicate xs.length (1, 1)), (w3.same s913).dt, tr8.dt, (rowT_plain _).1, (rowT_plain _).1, Nat.le_trans (rowT_plain _).2 (by decide), _, rfl, ?_⟩
          rw [SeqAt.eqv_refl_plain _ (rowT_plain (List.replicate xs.length (1, 1))).1]
          refine iteF ?_
          refine ⟨_, rfl, _, rfl, b, a, CT, dy, dz, _, _, rfl, rfl, ba, s913 _ _ b1, s913 _ _ a1, hmo, hme, _, rfl, ?_⟩
          refine iteF ?_
          exact ⟨_, rfl, tabs_ext U9 s913, pP9.same s913, W9.kp rp pP9 (Kp.of s913), s913 _ _ r9, by rw [List.length_set]; exact vxl⟩
        · rintro σ H10 ⟨vr, rfl, U10, pP10, W10, r10, vrl⟩
          refine ⟨(by show 0 ≤ sizeLine; decide), fun oa noa => ?_⟩
          have foa : upd H10 oa (HO.tup []) oa = some (HO.tup []) := upd_same
          have sJ0 : Same H10 (upd H10 oa (HO.tup [])) := same_upd noa
          generalize upd H10 oa (HO.tup []) = J0 at foa sJ0 ⊢
          refine ⟨(by show 2 ≤ sizeLine; decide), fun ob nob => ?_⟩
          have fob : upd J0 ob (HO.lst [V.int 1, V.int 0]) ob = some (HO.lst [V.int 1, V.int 0]) := upd_same
          have sJ1 : Same J0 (upd J0 ob (HO.lst [V.int 1, V.int 0])) := same_upd nob
          generalize upd J0 ob (HO.lst [V.int 1, V.int 0]) = J1 at fob sJ1 ⊢
          refine ⟨(by show 2 ≤ sizeLine; decide), fun oc noc => ?_⟩
          have foc : upd J1 oc (HO.tup [V.int 1, V.int 1]) oc = some (HO.tup [V.int 1, V.int 1]) := upd_same
          have sJ2 : Same J1 (upd J1 oc (HO.tup [V.int 1, V.int 1])) := same_upd noc
          generalize upd J1 oc (HO.tup [V.int 1, V.int 1]) = J2 at foc sJ2 ⊢
          refine ⟨(by show 2 ≤ sizeLine; decide), fun od nod => ?_⟩
          have fod : upd J2 od (HO.lst [V.int 0, V.non]) od = some (HO.lst [V.int 0, V.non]) := upd_same
          have sJ3 : Same J2 (upd J2 od (HO.lst [V.int 0, V.non])) := same_upd nod
          generalize upd J2 od (HO.lst [V.int 0, V.non]) = J3 at fod sJ3 ⊢
          refine ⟨(by show 2 ≤ sizeLine; decide), fun oe noe => ?_⟩
          have foe : upd J3 oe (HO.tup [V.int 0, V.bl true]) oe = some (HO.tup [V.int 0, V.bl true]) := upd_same
          have sJ4 : Same J3 (upd J3 oe (HO.tup [V.int 0, V.bl true])) := same_upd noe
          generalize upd J3 oe (HO.tup [V.int 0, V.bl true]) = J4 at foe sJ4 ⊢
          refine ⟨(by show 2 ≤ sizeLine; decide), fun of1 nof1 => ?_⟩
          have fof1 : upd J4 of1 (HO.tup [V.int 1, V.int 2]) of1 = some (HO.tup [V.int 1, V.int 2]) := upd_same
          have sJ5 : Same J4 (upd J4 of1 (HO.tup [V.int 1, V.int 2])) := same_upd nof1
          generalize upd J4 of1 (HO.tup [V.int 1, V.int 2]) = J5 at fof1 sJ5 ⊢
          refine ⟨(by show 2 ≤ sizeLine; decide), fun of2 nof2 => ?_⟩
          have fof2 : upd J5 of2 (HO.tup [V.int 2, V.int 4]) of2 = some (HO.tup [V.int 2, V.int 4]) := upd_same
          have sJ6 : Same J5 (upd J5 of2 (HO.tup [V.int 2, V.int 4])) := same_upd nof2
          generalize upd J5 of2 (HO.tup [V.int 2, V.int 4]) = J6 at fof2 sJ6 ⊢
          refine ⟨(by show 2 ≤ sizeLine; decide), fun of nof => ?_⟩
          have fof : upd J6 of (HO.tup [V.ref of1, V.ref of2]) of = some (HO.tup [V.ref of1, V.ref of2]) := upd_same
          have sJ7 : Same J6 (upd J6 of (HO.tup [V.ref of1, V.ref of2])) := same_upd nof
          generalize upd J6 of (HO.tup [V.ref of1, V.ref of2]) = J7 at fof sJ7 ⊢
          refine ⟨(by show 2 ≤ sizeLine; decide), fun og1 nog1 => ?_⟩
          have fog1 : upd J7 og1 (HO.tup [V.int 1, V.int 0]) og1 = some (HO.tup [V.int 1, V.int 0]) := upd_same
          have sJ8 : Same J7 (upd J7 og1 (HO.tup [V.int 1, V.int 0])) := same_upd nog1
          generalize upd J7 og1 (HO.tup [V.int 1, V.int 0]) = J8 at fog1 sJ8 ⊢
          refine ⟨(by show 1 ≤ sizeLine; decide), fun og nog => ?_⟩
          have fog : upd J8 og (HO.lst [V.ref og1]) og = some (HO.lst [V.ref og1]) := upd_same
          have sJ9 : Same J8 (upd J8 og (HO.lst [V.ref og1])) := same_upd nog
          generalize upd J8 og (HO.lst [V.ref og1]) = J9 at fog sJ9 ⊢
          refine ⟨(by show 3 ≤ sizeLine; decide), fun oh noh => ?_⟩
          have foh : upd J9 oh (HO.tup [V.int 0, V.int 2, V.int 1]) oh = some (HO.tup [V.int 0, V.int 2, V.int 1]) := upd_same
          have sJ10 : Same J9 (upd J9 oh (HO.tup [V.int 0, V.int 2, V.int 1])) := same_upd noh
          generalize upd J9 oh (HO.tup [V.int 0, V.int 2, V.int 1]) = J10 at foh sJ10 ⊢
          refine ⟨(by show 11 ≤ sizeLine; decide), fun ol nol => ?_⟩
          have fol : upd J10 ol (HO.lst [V.non, V.int 5, V.ref oa, V.str "01", V.ref ob, V.ref oc, V.ref od, V.ref oe, V.ref of, V.ref og, V.ref oh]) ol = some (HO.lst [V.non, V.int 5, V.ref oa, V.str "01", V.ref ob, V.ref oc, V.ref od, V.ref oe, V.ref of, V.ref og, V.ref oh]) := upd_same
          have sJ11 : Same J10 (upd J10 ol (HO.lst [V.non, V.int 5, V.ref oa, V.str "01", V.ref ob, V.ref oc, V.ref od, V.ref oe, V.ref of, V.ref og, V.ref oh])) := same_upd nol
          generalize upd J10 ol (HO.lst [V.non, V.int 5, V.ref oa, V.str "01", V.ref ob, V.ref oc, V.ref od, V.ref oe, V.ref of, V.ref og, V.ref oh]) = J11 at fol sJ11 ⊢
          have foa := (sJ11 _ _ (sJ10 _ _ (sJ9 _ _ (sJ8 _ _ (sJ7 _ _ (sJ6 _ _ (sJ5 _ _ (sJ4 _ _ (sJ3 _ _ (sJ2 _ _ (sJ1 _ _ foa)))))))))))
          have fob := (sJ11 _ _ (sJ10 _ _ (sJ9 _ _ (sJ8 _ _ (sJ7 _ _ (sJ6 _ _ (sJ5 _ _ (sJ4 _ _ (sJ3 _ _ (sJ2 _ _ fob))))))))))
          have foc := (sJ11 _ _ (sJ10 _ _ (sJ9 _ _ (sJ8 _ _ (sJ7 _ _ (sJ6 _ _ (sJ5 _ _ (sJ4 _ _ (sJ3 _ _ foc)))))))))
          have fod := (sJ11 _ _ (sJ10 _ _ (sJ9 _ _ (sJ8 _ _ (sJ7 _ _ (sJ6 _ _ (sJ5 _ _ (sJ4 _ _ fod))))))))
          have foe := (sJ11 _ _ (sJ10 _ _ (sJ9 _ _ (sJ8 _ _ (sJ7 _ _ (sJ6 _ _ (sJ5 _ _ foe)))))))
          have fof1 := (sJ11 _ _ (sJ10 _ _ (sJ9 _ _ (sJ8 _ _ (sJ7 _ _ (sJ6 _ _ fof1))))))
          have fof2 := (sJ11 _ _ (sJ10 _ _ (sJ9 _ _ (sJ8 _ _ (sJ7 _ _ fof2)))))
          have fof := (sJ11 _ _ (sJ10 _ _ (sJ9 _ _ (sJ8 _ _ fof))))
          have fog1 := (sJ11 _ _ (sJ10 _ _ (sJ9 _ _ fog1)))
          have fog := (sJ11 _ _ (sJ10 _ _ fog))
          have foh := (sJ11 _ _ foh)
          have sO := (((((((((((sJ0.trans sJ1).trans sJ2).trans sJ3).trans sJ4).trans sJ5).trans sJ6).trans sJ7).trans sJ8).trans sJ9).trans sJ10).trans sJ11)
          have pPo := pP10.same sO
          have Uo := tabs_ext U10 sO
          have Wo := W10.kp rp pP10 (Kp.of sO)
          have ro := sO _ _ r10
          have ps2 : ∀ {a : Addr} {o : HO}, J11 a = some o → (∀ kvs, o ≠ .dK kvs) → a ≠ p := fun {a o} e n z => by
            obtain ⟨_, _, _, _, _, g1, _⟩ := pPo
            subst z
            rw [g1.1] at e
            cases e
            exact n _ rfl
          refine ⟨_, rfl, _, rfl, p, lc, ol, _, _, rfl, pPo, by decide, fol, ps2 fol (fun _ z => by cases z), (by show 0 < 11; decide), (by show 11 < 1000000; decide), fun x J12 hx pP12 k12 => ?_⟩
          have kw : Kp p J11 (wo p J12) := fun b o n e => wo_at n (k12 b o n e)
          have r12 := k12 _ _ (ps2 ro (fun _ z => by cases z)) ro
          have foa := kw _ _ (ps2 foa (fun _ z => by cases z)) foa
          have fob := kw _ _ (ps2 fob (fun _ z => by cases z)) fob
          have foc := kw _ _ (ps2 foc (fun _ z => by cases z)) foc
          have fod := kw _ _ (ps2 fod (fun _ z => by cases z)) fod
          have foe := kw _ _ (ps2 foe (fun _ z => by cases z)) foe
          have fof1 := kw _ _ (ps2 fof1 (fun _ z => by cases z)) fof1
          have fof2 := kw _ _ (ps2 fof2 (fun _ z => by cases z)) fof2
          have fof := kw _ _ (ps2 fof (fun _ z => by cases z)) fof
          have fog1 := kw _ _ (ps2 fog1 (fun _ z => by cases z)) fog1
          have fog := kw _ _ (ps2 fog (fun _ z => by cases z)) fog
          have foh := kw _ _ (ps2 foh (fun _ z => by cases z)) foh
          have U12 := tabs_kp pPo k12 Uo
          have W12 := Wo.kp rp pPo k12
          have key : ∃ d_o, Odd K (wo p J12) x d_o ∧ BadP K (wo p J12) x d_o := by
            simp only [List.mem_cons, List.not_mem_nil, or_false] at hx
            rcases hx with h | h | h | h | h | h | h | h | h | h | h <;> subst h
            · exact ⟨.none, odd_flat .non rfl (by simp [PyData.plain, PyData.plainAll, pairD]) (by simp [PyData.depth, PyData.depthAll, pairD]), .inl rfl⟩
            · exact ⟨.int 5, odd_flat (.int 5) rfl (by simp [PyData.plain, PyData.plainAll, pairD]) (by simp [PyData.depth, PyData.depthAll, pairD]), .inl rfl⟩
            · exact ⟨.tuple [], odd_seq (.tup (SqT.of foa) .nil) rfl (by decide) (by simp [PyData.plain, PyData.plainAll, pairD]) (by simp [PyData.depth, PyData.depthAll, pairD]), .inr ⟨[], ⟨⟨[], (.tup (SqT.of foa) .nil), rfl, rfl, by decide⟩, fun p hp => by cases hp⟩, .inl rfl⟩⟩
            · exact ⟨.str "01", odd_flat (.str "01") rfl (by simp [PyData.plain, PyData.plainAll, pairD]) (by simp [PyData.depth, PyData.depthAll, pairD]), .inl rfl⟩
            · exact ⟨.list [.int 1, .int 0], odd_seq (.lst (SqL.of fob) (.cons (.int 1) (.cons (.int 0) .nil))) rfl (by decide) (by simp [PyData.plain, PyData.plainAll, pairD]) (by simp [PyData.depth, PyData.depthAll, pairD]), bad_two (ps := [(1, 1), (0, 1)]) (.lst (SqL.of fob) (.cons (.int 1) (.cons (.int 0) .nil))) rfl rfl (by decide) (sz_smalls (by decide)) (by decide)⟩
            · exact ⟨.tuple [.int 1, .int 1], odd_seq (.tup (SqT.of foc) (.cons (.int 1) (.cons (.int 1) .nil))) rfl (by decide) (by simp [PyData.plain, PyData.plainAll, pairD]) (by simp [PyData.depth, PyData.depthAll, pairD]), bad_two (ps := [(1, 1), (1, 1)]) (.tup (SqT.of foc) (.cons (.int 1) (.cons (.int 1) .nil))) rfl rfl (by decide) (sz_smalls (by decide)) (by decide)⟩
            · exact ⟨.list [.int 0, .none], odd_seq (.lst (SqL.of fod) (.cons (.int 0) (.cons .non .nil))) rfl (by decide) (by simp [PyData.plain, PyData.plainAll, pairD]) (by simp [PyData.depth, PyData.depthAll, pairD]), .inl rfl⟩
            · exact ⟨.tuple [.int 0, .bool true], odd_seq (.tup (SqT.of foe) (.cons (.int 0) (.cons (.bl true) .nil))) rfl (by decide) (by simp [PyData.plain, PyData.plainAll, pairD]) (by simp [PyData.depth, PyData.depthAll, pairD]), .inl rfl⟩
            · exact ⟨.tuple [pairD (1, 2), pairD (2, 4)], odd_seq (.tup (SqT.of fof) (.cons (dt_pair fof1) (.cons (dt_pair fof2) .nil))) rfl (by decide) (by simp [PyData.plain, PyData.plainAll, pairD]) (by simp [PyData.depth, PyData.depthAll, pairD]), bad_two (ps := [(1, 2), (2, 4)]) (.tup (SqT.of fof) (.cons (dt_pair fof1) (.cons (dt_pair fof2) .nil))) rfl rfl (by decide) (sz_smalls (by decide)) (by decide)⟩
            · exact ⟨.list [pairD (1, 0)], odd_seq (.lst (SqL.of fog) (.cons (dt_pair fog1) .nil)) rfl (by decide) (by simp [PyData.plain, PyData.plainAll, pairD]) (by simp [PyData.depth, PyData.depthAll, pairD]), .inl rfl⟩
            · exact ⟨.tuple [.int 0, .int 2, .int 1], odd_seq (.tup (SqT.of foh) (.cons (.int 0) (.cons (.int 2) (.cons (.int 1) .nil)))) rfl (by decide) (by simp [PyData.plain, PyData.plainAll, pairD]) (by simp [PyData.depth, PyData.depthAll, pairD]), bad_two (ps := [(0, 1), (2, 1), (1, 1)]) (.tup (SqT.of foh) (.cons (.int 0) (.cons (.int 2) (.cons (.int 1) .nil)))) rfl rfl (by decide) (sz_smalls (by decide)) (by decide)⟩
          obtain ⟨d_o, oo, bo⟩ := key
          refine ⟨_, rfl, (by show 0 ≤ sizeLine; decide), fun wa nwa => ?_⟩
          have fwa : upd J12 wa (HO.tup []) wa = some (HO.tup []) := upd_same
          have sK1 : Same J12 (upd J12 wa (HO.tup [])) := same_upd nwa
          generalize upd J12 wa (HO.tup []) = K1 at fwa sK1 ⊢
          refine ⟨_, rfl, lr, _, rfl, .inl (SqL.of (sK1 _ _ r12)), "1", _, rfl, rfl, rfl, (by omega), (by omega), fun z => ?_⟩
          refine rep_ev2 (i := 8) rfl (sK1 _ _ r12) (by omega) fun wb K2 sK2 fwb => ?_
          refine rep_ev2 (i := 8) rfl ((sK1.trans sK2) _ _ r12) (by omega) fun wc K3 sK3 fwc => ?_
          intro wd nwd
          have fwd : upd K3 wd (HO.dK []) wd = some (HO.dK []) := upd_same
          have sK4 : Same K3 (upd K3 wd (HO.dK [])) := same_upd nwd
          have s3K := sK1.trans (sK2.trans sK3)
          have wdp : wd ≠ p := ((pP12.same s3K).ne_new nwd).1
          generalize upd K3 wd (HO.dK []) = K4 at fwd sK4 ⊢
          refine ⟨(by show 7 ≤ sizeLine; decide), fun wl nwl => ?_⟩
          have fwl : upd K4 wl (HO.lst [V.non, V.int 5, V.ref wa, V.str z, V.ref wb, V.ref wc, V.ref wd]) wl = some (HO.lst [V.non, V.int 5, V.ref wa, V.str z, V.ref wb, V.ref wc, V.ref wd]) := upd_same
          have sK5 : Same K4 (upd K4 wl (HO.lst [V.non, V.int 5, V.ref wa, V.str z, V.ref wb, V.ref wc, V.ref wd])) := same_upd nwl
          generalize upd K4 wl (HO.lst [V.non, V.int 5, V.ref wa, V.str z, V.ref wb, V.ref wc, V.ref wd]) = K5 at fwl sK5 ⊢
          have s5K := s3K.trans (sK4.trans sK5)
          have fwa := (sK2.trans (sK3.trans (sK4.trans sK5))) _ _ fwa
          have fwb := (sK3.trans (sK4.trans sK5)) _ _ fwb
          have fwc := (sK4.trans sK5) _ _ fwc
          have fwd := sK5 _ _ fwd
          have pPw := pP12.same s5K
          have ps3 : ∀ {a : Addr} {o : HO}, K5 a = some o → (∀ kvs, o ≠ .dK kvs) → a ≠ p := fun {a o} e n z => by
            obtain ⟨_, _, _, _, _, g1, _⟩ := pPw
            subst z
            rw [g1.1] at e
            cases e
            exact n _ rfl
          refine ⟨p, lc, wl, _, _, rfl, pPw, by decide, fwl, ps3 fwl (fun _ z => by cases z), (by show 0 < 7; decide), (by show 7 < 1000000; decide), fun y K6 hy' pP6 k6 => ?_⟩
          have fwa := k6 _ _ (ps3 fwa (fun _ z => by cases z)) fwa
          have fwb := k6 _ _ (ps3 fwb (fun _ z => by cases z)) fwb
          have fwc := k6 _ _ (ps3 fwc (fun _ z => by cases z)) fwc
          have fwd := k6 _ _ wdp fwd
          have U6 := tabs_kp pPw k6 (tabs_ext U12 s5K)
          have W6 := (W12.kp rp pP12 (Kp.of s5K)).kp rp pPw k6
          have wo6 : Same (wo p J12) K6 := (Kp.wo ((Kp.of s5K).trans k6)).trans wo_sub
          have v0 : 0 < vr.length := by have := List.length_pos_iff.mpr W1.s.ne; omega
          have v20 : vr.length ≤ 1000 := by have := W1.s.l20; omega
          have key : ∃ dw, OddW K K6 y dw ∧ BadN dw xs.length := by
            simp only [List.mem_cons, List.not_mem_nil, or_false] at hy'
            rcases hy' with h | h | h | h | h | h | h <;> subst h
            · exact ⟨.none, (odd_flat .non rfl rfl (by simp [PyData.depth])).w, .inl rfl⟩
            · exact ⟨.int 5, (odd_flat (.int 5) rfl rfl (by simp [PyData.depth])).w, .inl rfl⟩
            · exact ⟨.tuple [], (odd_seq (.tup (SqT.of fwa) .nil) rfl (by decide) (by simp [PyData.plain, PyData.plainAll]) (by simp [PyData.depth, PyData.depthAll])).w, .inr ⟨[], rfl, by show (0 : Nat) ≠ _; omega⟩⟩
            · exact ⟨.str z, (odd_flat (.str z) rfl rfl (by simp [PyData.depth])).w, .inl rfl⟩
            · exact ⟨_, (odd_rep fwb .non rfl (by simp [PyData.depth]) v20).w, .inl (none_rep rfl v0)⟩
            · exact ⟨_, (odd_rep fwc (.bl true) rfl (by simp [PyData.depth]) v20).w, .inl (none_rep rfl v0)⟩
            · exact ⟨.dict [], ⟨.dct fwd .nil, fun ds h => by cases h⟩, .inl rfl⟩
          obtain ⟨dw, ow, bw'⟩ := key
          refine ⟨fun σ H' => ∃ v11 v12 : V, σ = [some (.ref sc), some (.ref p), some (.ref r), v3, some (.ref a), some (.ref tt), v6, v7, some (.ref lr), some (.ref ln), some (.ref b), some v11, some v12, none, none, none, none], ?_, ?_⟩
          · obtain ⟨n1', n2', n3', en, xn, yn, wn⟩ := W6.s.h
            obtain ⟨vn, exn, rxn⟩ := RL.row (H' := K6) (t := tt) xn
            refine ⟨_, rfl, _, rfl, r, _, rfl, sg1 en, n1', _, rfl, .inl (SqL.of exn), fun lg nlg => ?_⟩
            have fg : upd K6 lg (HO.lst vn) lg = some (HO.lst vn) := upd_same
            have sg : Same K6 (upd K6 lg (HO.lst vn)) := same_upd nlg
            generalize upd K6 lg (HO.lst vn) = K7 at fg sg ⊢
            have hg7 : RL K7 lg xs := xn.copy exn sg fg
            refine ⟨_, rfl, _, rfl, p, lc, lg, 3000, x, y, xs, d_o, dw, rfl, tabs_ext U6 sg, (pP6.same sg).more (by decide), by decide, hg7, W6.s.ne, W6.s.l20, W6.s.asc, W6.s.ox, oo.same (wo6.trans sg), bo.same (wo6.trans sg), ow.same sg, bw', fun K8 => ⟨_, rfl, ?_⟩⟩
            refine iteF ?_
            exact ⟨x, y, rfl⟩
          · rintro σ L0 ⟨v11, v12, rfl⟩
            refine par_two ?_
            refine mk_nearest fun x1 dx1 bs1 G1 L1 a0 a1 a2 u1 u2 ss1 c0 c0' c1 c1' c2 cu1 cu2 bl1 ex1 r1 => ?_
            refine mk_reach fun x2 dx2 bs2 G2 L2' e0 e1 e2 e3 e4 e5 w1 w2 ss2 z0 z0' z1 z1' z2 z2' z3 z3' z4 z5 zw1 zw2 bl2 ex2 r2 => ?_
            obtain ⟨b0, b1, b2, rfl⟩ : ∃ b0 b1 b2, bs1 = [b0, b1, b2] := by
              match bs1, bl1 with
              | [b0, b1, b2], _ => exact ⟨b0, b1, b2, rfl⟩
            have hb0 : b0 = .ref a0 := by
              obtain ⟨_, _, _, hh, _⟩ := id c0
              exact (r1 0 _ _ rfl rfl).keep hh (fun _ z => by cases z)
            have hb1 : b1 = .ref a1 := (r1 1 _ _ rfl rfl).keep c1 (fun _ z => by cases z)
            obtain ⟨tb1, hb2, ftb1⟩ := (r1 2 _ _ rfl rfl).lst c2
            subst hb0 hb1 hb2
            obtain ⟨d0, d1, d2, d3, d4, d5, rfl⟩ : ∃ d0 d1 d2 d3 d4 d5, bs2 = [d0, d1, d2, d3, d4, d5] := by
              match bs2, bl2 with
              | [d0, d1, d2, d3, d4, d5], _ => exact ⟨d0, d1, d2, d3, d4, d5, rfl⟩
            have hd0 : d0 = .ref e0 := (r2 0 _ _ rfl rfl).keep z0 (fun _ z => by cases z)
            have hd1 : d1 = .ref e1 := (r2 1 _ _ rfl rfl).keep z1 (fun _ z => by cases z)
            have hd2 : d2 = .ref e2 := by
              obtain ⟨_, _, _, hh, _⟩ := id z2
              exact (r2 2 _ _ rfl rfl).keep hh (fun _ z => by cases z)
            have hd3 : d3 = .ref e3 := by
              obtain ⟨_, _, _, hh, _⟩ := id z3
              exact (r2 3 _ _ rfl rfl).keep hh (fun _ z => by cases z)
            obtain ⟨tb4, hd4, ftb4⟩ := (r2 4 _ _ rfl rfl).lst z4
            obtain ⟨tb5, hd5, ftb5⟩ := (r2 5 _ _ rfl rfl).lst z5
            subst hd0 hd1 hd2 hd3 hd4 hd5
            have ex1 := ss2 _ _ ex1
            refine ⟨fun σ H' => ∃ (v0 v1 v2 v3 v4 v5 v6 v7 v8 v9 v10 v11 v12 v13 : Option V), σ = [v0, v1, v2, v3, v4, v5, v6, v7, v8, v9, v10, v11, v12, v13, some (.ref x2), none, none] ∧ Same L2' H', ?_, ?_⟩
            · refine ⟨_, rfl, x1, CE, dx1, _, .ref a0, rfl, ex1, IN_Nearest.C.cl, IN_Nearest.C.nf _ (by simp), (by kernel_rfl), _, rfl, x1, CE, dx1, _, .ref a1, rfl, ex1, IN_Nearest.C.cl, IN_Nearest.C.nf _ (by simp), (by kernel_rfl), _, rfl, x1, CE, dx1, _, .ref tb1, rfl, ex1, IN_Nearest.C.cl, IN_Nearest.C.nf _ (by simp), (by kernel_rfl), _, rfl, x2, CH, dx2, _, .ref e0, rfl, ex2, IN_Reach.C.cl, IN_Reach.C.nf _ (by simp), (by kernel_rfl), _, rfl, x2, CH, dx2, _, .ref e1, rfl, ex2, IN_Reach.C.cl, IN_Reach.C.nf _ (by simp), (by kernel_rfl), (by show 5 ≤ sizeLine; decide), fun tl ntl => ?_⟩
              have sl : Same L2' (upd L2' tl (HO.tup [V.ref a0, V.ref a1, V.ref tb1, V.ref e0, V.ref e1])) := same_upd ntl
              have fl' : upd L2' tl (HO.tup [V.ref a0, V.ref a1, V.ref tb1, V.ref e0, V.ref e1]) tl = some (HO.tup [V.ref a0, V.ref a1, V.ref tb1, V.ref e0, V.ref e1]) := upd_same
              generalize upd L2' tl (HO.tup [V.ref a0, V.ref a1, V.ref tb1, V.ref e0, V.ref e1]) = L3 at sl fl' ⊢
              refine ev_r16 fun q0 q1 q2 q3 q4 q2a q2b tr L4 s4 y0 y1 y2 y2a y2b y3 y4 yt => ?_
              have s24 := sl.trans s4
              have s14 := ss2.trans s24
              refine ⟨⟨tl, tr, _, _, rfl, rfl, SqT.of (s4 _ _ fl'), SqT.of yt, .cons (d_poly (PolyQ.same c0' s14) y0) (.cons (d_all (d_pair (s14 _ _ c1') y1)) (.cons (d_bar (s14 _ _ ftb1) y2 (s14 _ _ cu2) y2b (s14 _ _ cu1) y2a) (.cons (d_all (d_pair (s24 _ _ z0') y3)) (.cons (d_all (d_pair (s24 _ _ z1') y4)) .nil))))⟩, fun L5 s5 => ⟨_, rfl, ?_⟩⟩
              refine iteF ?_
              exact ⟨_, _, _, _, _, _, _, _, _, _, _, _, _, _, rfl, s24.trans s5⟩
            · rintro σ M0 ⟨v0, v1, v2, v3, v4, v5, v6, v7, v8, v9, v10, v11', v12', v13, rfl, sM⟩
              refine par_two ?_
              refine mk_barred (CR := CR) fun x3 dx3 bs3 G3 M1' f0 g1 g2 ss3 h0 hg1 hg2 bl3 ex3 r3 => ?_
              refine mk_boundless fun x4 dx4 bs4 G4 M2 f1 f2 ss4 h1 h1' h2 h2' bl4 ex4 r4 => ?_
              obtain ⟨j0, rfl⟩ : ∃ j0, bs3 = [j0] := by
                match bs3, bl3 with
                | [j0], _ => exact ⟨j0, rfl⟩
              obtain ⟨tj, hj0, ftj⟩ := (r3 0 _ _ rfl rfl).lst h0
              subst hj0
              obtain ⟨k0, k1, rfl⟩ : ∃ k0 k1, bs4 = [k0, k1] := by
                match bs4, bl4 with
                | [k0, k1], _ => exact ⟨k0, k1, rfl⟩
              have hk0 : k0 = .ref f1 := by
                obtain ⟨_, _, _, hh, _⟩ := id h1
                exact (r4 0 _ _ rfl rfl).keep hh (fun _ z => by cases z)
              have hk1 : k1 = .ref f2 := by
                obtain ⟨_, _, _, hh, _⟩ := id h2
                exact (r4 1 _ _ rfl rfl).keep hh (fun _ z => by cases z)
              subst hk0 hk1
              have s2M := sM.trans (ss3.trans ss4)
              have ex2' := s2M _ _ ex2
              have ex3' := ss4 _ _ ex3
              refine ⟨fun σ H' => ∃ (v0 v1 v2 v3 v4 v5 v6 v7 v8 v9 v10 v11 v12 v13 v15 : Option V), σ = [v0, v1, v2, v3, v4, v5, v6, v7, v8, v9, v10, v11, v12, v13, some (.ref x2), v15, some (.ref x4)] ∧ Same M2 H', ?_, ?_⟩
              · refine ⟨_, rfl, x2, CH, dx2, _, .ref tb4, rfl, ex2', IN_Reach.C.cl, IN_Reach.C.nf _ (by simp), (by kernel_rfl), _, rfl, x2, CH, dx2, _, .ref tb5, rfl, ex2', IN_Reach.C.cl, IN_Reach.C.nf _ (by simp), (by kernel_rfl), _, rfl, x3, CB, dx3, _, .ref tj, rfl, ex3', IN_Barred.C.cl, IN_Barred.C.nf _ (by simp), (by kernel_rfl), (by show 3 ≤ sizeLine; decide), fun tl ntl => ?_⟩
                have sl : Same M2 (upd M2 tl (HO.tup [V.ref tb4, V.ref tb5, V.ref tj])) := same_upd ntl
                have fl' : upd M2 tl (HO.tup [V.ref tb4, V.ref tb5, V.ref tj]) tl = some (HO.tup [V.ref tb4, V.ref tb5, V.ref tj]) := upd_same
                generalize upd M2 tl (HO.tup [V.ref tb4, V.ref tb5, V.ref tj]) = L3 at sl fl' ⊢
                refine ev_r18 (K := K) (CP := CP) (CR := CR) fun q0 q1 q2 q1a q1b q2a q2b tr L4 s4 y0 y1 y1a y1b y2 y2a y2b yt => ?_
                have s24 := sl.trans s4
                have sA := s2M.trans s24
                have sB := ss4.trans s24
                obtain ⟨pl, dp, ev⟩ := ties_eqv
                refine ⟨.tuple [.tuple [], barD, barD], _, .tup (SqT.of (s4 _ _ fl')) (.cons (.tup (SqT.of (sA _ _ ftb4)) .nil) (.cons (dt_bar (sA _ _ ftb5) (sA _ _ zw2) (sA _ _ zw1)) (.cons (dt_bar (sB _ _ ftj) (sB _ _ hg2) (sB _ _ hg1)) .nil))), .tup (SqT.of yt) (.cons (.tup (SqT.of y0) .nil) (.cons (dt_bar y1 y1b y1a) (.cons (dt_bar y2 y2b y2a) .nil))), pl, pl, dp, _, rfl, ?_⟩
                rw [ev]
                refine iteF ?_
                exact ⟨_, _, _, _, _, _, _, _, _, _, _, _, _, _, _, rfl, s24⟩
              · rintro σ N0 ⟨v0, v1, v2, v3, v4, v5, v6, v7, v8, v9, v10, v11, v12, v13, v15, rfl, sN⟩
                have ex2' := sN _ _ ex2'
                have ex4 := sN _ _ ex4
                refine ⟨_, rfl, x2, CH, dx2, _, .ref e2, rfl, ex2', IN_Reach.C.cl, IN_Reach.C.nf _ (by simp), (by kernel_rfl), _, rfl, x2, CH, dx2, _, .ref e3, rfl, ex2', IN_Reach.C.cl, IN_Reach.C.nf _ (by simp), (by kernel_rfl), _, rfl, x4, CO, dx4, _, .ref f1, rfl, ex4, IN_Boundless.C.cl, IN_Boundless.C.nf _ (by simp), (by kernel_rfl), _, rfl, x4, CO, dx4, _, .ref f2, rfl, ex4, IN_Boundless.C.cl, IN_Boundless.C.nf _ (by simp), (by kernel_rfl), (by show 4 ≤ sizeLine; decide), fun tl ntl => ?_⟩
                have sl : Same N0 (upd N0 tl (HO.tup [V.ref e2, V.ref e3, V.ref f1, V.ref f2])) := same_upd ntl
                have fl' : upd N0 tl (HO.tup [V.ref e2, V.ref e3, V.ref f1, V.ref f2]) tl = some (HO.tup [V.ref e2, V.ref e3, V.ref f1, V.ref f2]) := upd_same
                generalize upd N0 tl (HO.tup [V.ref e2, V.ref e3, V.ref f1, V.ref f2]) = L3 at sl fl' ⊢
                refine ev_r19 fun q0 q1 q2 q3 tr L4 s4 y0 y1 y2 y3 yt => ?_
                have s24 := sN.trans (sl.trans s4)
                have sA := s2M.trans s24
                exact ⟨⟨tl, tr, _, _, rfl, rfl, SqT.of (s4 _ _ fl'), SqT.of yt, .cons (d_poly (PolyQ.same z2' sA) y0) (.cons (d_poly (PolyQ.same z3' sA) y1) (.cons (d_poly (PolyQ.same h1' s24) y2) (.cons (d_poly (PolyQ.same h2' s24) y3) .nil)))⟩, fun H' _ => kend H'⟩
end

end Vf

set_option maxRecDepth 100000
set_option maxHeartbeats 8000000
namespace Vf
open PySem PySem.Spec PyProof.Rows L2
/-! ### what the top has written -/
def tyNames : List String := ["NoneType", "bool", "int", "str", "list", "tuple", "dict"]
def polyB (K : PySem.W.Frag) (CP : Addr) : Bool :=
  PySem.W.plainGet K CP Str.empty && (PySem.W.hasDictIn K CP && (PySem.W.plainOver K CP && (decide (PySem.W.findIn K (.ref CP) "__setattr__" = some (some (.builtin "object.__setattr__"))) && (decide (PySem.W.findIn K (.ref CP) "numbers" = some none) &&
  (decide (PySem.W.findIn K (.ref CP) "__class__" = some (some (.builtin "object.__class__"))) && (decide (PySem.W.specialIn K (.builtin "object.__class__") "__get__" = some (some (.builtin "getset_descriptor.__get__"))) &&
  (decide (PySem.W.takesIn K (.builtin "object.__class__") = some true) && (decide (PySem.W.mroIn K CP (.type "object") = some true) && (tyNames.all (fun t => decide (PySem.W.kitOne K (.type t) (.ref CP) = some false) && PySem.W.notFirst K CP (.type t)) &&
  (PySem.W.notFirst K CP (.ref CP) && (PySem.W.makesIn K CP && PySem.W.keepIn K (.ref CP))))))))))))
theorem tyD_mem (d : PyData) : tyD d ∈ tyNames := by
  cases d <;> simp [tyD, tyNames]
theorem polyC {K : PySem.W.Frag} {mg : Str → Option Value} {CP : Addr} (m : mg "Poly" = some (.ref CP)) (h : polyB K CP = true) : PoC K mg CP ∧ PySem.W.makesIn K CP = true ∧ PySem.W.keepIn K (.ref CP) = true := by
  obtain ⟨h1, h⟩ := Bool.and_eq_true_iff.mp h
  obtain ⟨h2, h⟩ := Bool.and_eq_true_iff.mp h
  obtain ⟨h3, h⟩ := Bool.and_eq_true_iff.mp h
  obtain ⟨h4, h⟩ := Bool.and_eq_true_iff.mp h
  obtain ⟨h5, h⟩ := Bool.and_eq_true_iff.mp h
  obtain ⟨h6, h⟩ := Bool.and_eq_true_iff.mp h
  obtain ⟨h7, h⟩ := Bool.and_eq_true_iff.mp h
  obtain ⟨h8, h⟩ := Bool.and_eq_true_iff.mp h
  obtain ⟨h9, h⟩ := Bool.and_eq_true_iff.mp h
  obtain ⟨h10, h⟩ := Bool.and_eq_true_iff.mp h
  obtain ⟨h11, h⟩ := Bool.and_eq_true_iff.mp h
  obtain ⟨h12, h13⟩ := Bool.and_eq_true_iff.mp h
  have z := fun d : PyData => Bool.and_eq_true_iff.mp (List.all_eq_true.mp h10 (tyD d) (tyD_mem d))
  exact ⟨⟨m, ⟨h1, h2, h3, of_decide_eq_true h4⟩, (of_decide_eq_true h5 : PySem.W.findIn K (.ref CP) "numbers" = some none), of_decide_eq_true h6, of_decide_eq_true h7, of_decide_eq_true h8, of_decide_eq_true h9, fun d => of_decide_eq_true (z d).1, h11, fun d => (z d).2⟩, h12, h13⟩
theorem fn_of_ty {K : PySem.W.Frag} {f : Addr} (h : PySem.W.typeIn K (.ref f) = some (.type "function")) : PySem.W.isFn K (.ref f) = true := by
  unfold PySem.W.isFn
  rw [h]
  decide +kernel
def insB (K : PySem.W.Frag) (C : Addr) (fs : List Str) : Bool :=
  PySem.W.plainGet K C Str.empty && (PySem.W.hasDictIn K C && (PySem.W.plainOver K C && (decide (PySem.W.findIn K (.ref C) "__setattr__" = some (some (.builtin "object.__setattr__"))) && (fs.all (fun f => decide (PySem.W.findIn K (.ref C) f = some none)) && (PySem.W.makesIn K C && PySem.W.keepIn K (.ref C))))))
theorem insC {K : PySem.W.Frag} {mg : Str → Option Value} {name : Str} {C : Addr} {fs : List Str} (m : mg name = some (.ref C)) (h : insB K C fs = true) : InC K mg name C fs ∧ PySem.W.makesIn K C = true ∧ PySem.W.keepIn K (.ref C) = true := by
  obtain ⟨h1, h⟩ := Bool.and_eq_true_iff.mp h
  obtain ⟨h2, h⟩ := Bool.and_eq_true_iff.mp h
  obtain ⟨h3, h⟩ := Bool.and_eq_true_iff.mp h
  obtain ⟨h4, h⟩ := Bool.and_eq_true_iff.mp h
  obtain ⟨h5, h⟩ := Bool.and_eq_true_iff.mp h
  obtain ⟨h6, h7⟩ := Bool.and_eq_true_iff.mp h
  exact ⟨⟨m, ⟨h1, h2, h3, of_decide_eq_true h4⟩, fun f hf => (of_decide_eq_true (List.all_eq_true.mp h5 f hf) : PySem.W.findIn K (.ref C) f = some none)⟩, h6, h7⟩
theorem all_mk {l : PySem.W.OpenLaw} {w : World} {K : PySem.W.Frag} {h : Heap} {mg : Str → Option Value} {fa : Addr} {q : Program}
    {C0 C1 i0 i1 f0 f1 f2 f3 f4 f5 f6 f7 f8 f9 f10 f11 f12 f13 f14 f15 f16 f17 f18 f19 f20 f21 f22 f23 f24 f25 f26 f27 f28 f29 f30 f31 f32 f33 f34 f35 f36 f37 Cg g0 g1 Ct t0 Cea ea0 Ceb eb0 Cec ec0 Ced ed0 cL Pt dT : Addr}
    {eL : Value} {dL : Option Addr} {vL : Array Value} {sL : Array (Option Value)} {eT : Value} {fT : Option Addr} {nT : Nat} {sT : Array (Option Value)}
    {ocf0 kVf0 dcf0 pmf0 cdf0 ctf0 : Value} {odf0 anf0 : Option Addr} {slf0 : Array (Option Value)}
    {ocf1 kVf1 dcf1 pmf1 cdf1 ctf1 : Value} {odf1 anf1 : Option Addr} {slf1 : Array (Option Value)}
    {ocf2 kVf2 dcf2 pmf2 cdf2 ctf2 : Value} {odf2 anf2 : Option Addr} {slf2 : Array (Option Value)}
    {ocf3 kVf3 dcf3 pmf3 cdf3 ctf3 : Value} {odf3 anf3 : Option Addr} {slf3 : Array (Option Value)}
    {ocf4 kVf4 dcf4 pmf4 cdf4 ctf4 : Value} {odf4 anf4 : Option Addr} {slf4 : Array (Option Value)}
    {ocf5 kVf5 dcf5 pmf5 cdf5 ctf5 : Value} {odf5 anf5 : Option Addr} {slf5 : Array (Option Value)}
    {ocf6 kVf6 dcf6 pmf6 cdf6 ctf6 : Value} {odf6 anf6 : Option Addr} {slf6 : Array (Option Value)}
    {ocf7 kVf7 dcf7 pmf7 cdf7 ctf7 : Value} {odf7 anf7 : Option Addr} {slf7 : Array (Option Value)}
    {ocf8 kVf8 dcf8 pmf8 cdf8 ctf8 : Value} {odf8 anf8 : Option Addr} {slf8 : Array (Option Value)}
    {ocf9 kVf9 dcf9 pmf9 cdf9 ctf9 : Value} {odf9 anf9 : Option Addr} {slf9 : Array (Option Value)}
    {ocf10 kVf10 dcf10 pmf10 cdf10 ctf10 : Value} {odf10 anf10 : Option Addr} {slf10 : Array (Option Value)}
    {ocf11 kVf11 dcf11 pmf11 cdf11 ctf11 : Value} {odf11 anf11 : Option Addr} {slf11 : Array (Option Value)}
    {ocf12 kVf12 dcf12 pmf12 cdf12 ctf12 : Value} {odf12 anf12 : Option Addr} {slf12 : Array (Option Value)}
    {ocf13 kVf13 dcf13 pmf13 cdf13 ctf13 : Value} {odf13 anf13 : Option Addr} {slf13 : Array (Option Value)}
    {ocf14 kVf14 dcf14 pmf14 cdf14 ctf14 : Value} {odf14 anf14 : Option Addr} {slf14 : Array (Option Value)}
    {ocf15 kVf15 dcf15 pmf15 cdf15 ctf15 : Value} {odf15 anf15 : Option Addr} {slf15 : Array (Option Value)}
    {ocf16 kVf16 dcf16 pmf16 cdf16 ctf16 : Value} {odf16 anf16 : Option Addr} {slf16 : Array (Option Value)}
    {ocf17 kVf17 dcf17 pmf17 cdf17 ctf17 : Value} {odf17 anf17 : Option Addr} {slf17 : Array (Option Value)}
    {ocf18 kVf18 dcf18 pmf18 cdf18 ctf18 : Value} {odf18 anf18 : Option Addr} {slf18 : Array (Option Value)}
    {ocf19 kVf19 dcf19 pmf19 cdf19 ctf19 : Value} {odf19 anf19 : Option Addr} {slf19 : Array (Option Value)}
    {ocf20 kVf20 dcf20 pmf20 cdf20 ctf20 : Value} {odf20 anf20 : Option Addr} {slf20 : Array (Option Value)}
    {ocf21 kVf21 dcf21 pmf21 cdf21 ctf21 : Value} {odf21 anf21 : Option Addr} {slf21 : Array (Option Value)}
    {ocf22 kVf22 dcf22 pmf22 cdf22 ctf22 : Value} {odf22 anf22 : Option Addr} {slf22 : Array (Option Value)}
    {ocf23 kVf23 dcf23 pmf23 cdf23 ctf23 : Value} {odf23 anf23 : Option Addr} {slf23 : Array (Option Value)}
    {ocf24 kVf24 dcf24 pmf24 cdf24 ctf24 : Value} {odf24 anf24 : Option Addr} {slf24 : Array (Option Value)}
    {ocf25 kVf25 dcf25 pmf25 cdf25 ctf25 : Value} {odf25 anf25 : Option Addr} {slf25 : Array (Option Value)}
    {ocf26 kVf26 dcf26 pmf26 cdf26 ctf26 : Value} {odf26 anf26 : Option Addr} {slf26 : Array (Option Value)}
    {ocf27 kVf27 dcf27 pmf27 cdf27 ctf27 : Value} {odf27 anf27 : Option Addr} {slf27 : Array (Option Value)}
    {ocf28 kVf28 dcf28 pmf28 cdf28 ctf28 : Value} {odf28 anf28 : Option Addr} {slf28 : Array (Option Value)}
    {ocf29 kVf29 dcf29 pmf29 cdf29 ctf29 : Value} {odf29 anf29 : Option Addr} {slf29 : Array (Option Value)}
    {ocf30 kVf30 dcf30 pmf30 cdf30 ctf30 : Value} {odf30 anf30 : Option Addr} {slf30 : Array (Option Value)}
    {ocf31 kVf31 dcf31 pmf31 cdf31 ctf31 : Value} {odf31 anf31 : Option Addr} {slf31 : Array (Option Value)}
    {ocf32 kVf32 dcf32 pmf32 cdf32 ctf32 : Value} {odf32 anf32 : Option Addr} {slf32 : Array (Option Value)}
    {ocf33 kVf33 dcf33 pmf33 cdf33 ctf33 : Value} {odf33 anf33 : Option Addr} {slf33 : Array (Option Value)}
    {ocf34 kVf34 dcf34 pmf34 cdf34 ctf34 : Value} {odf34 anf34 : Option Addr} {slf34 : Array (Option Value)}
    {ocf35 kVf35 dcf35 pmf35 cdf35 ctf35 : Value} {odf35 anf35 : Option Addr} {slf35 : Array (Option Value)}
    {ocf36 kVf36 dcf36 pmf36 ctf36 : Value} {odf36 anf36 : Option Addr} {slf36 : Array (Option Value)}
    {ocf37 kVf37 dcf37 pmf37 cdf37 ctf37 : Value} {odf37 anf37 : Option Addr} {slf37 : Array (Option Value)}
    {oci0 kVi0 dci0 pmi0 cdi0 cti0 : Value} {odi0 ani0 : Option Addr} {sli0 : Array (Option Value)}
    {nm0 qn0 : Str} {N0 : Addr} {bs0 bm0 sub0 : List Value} {sn0 : List Str} {ab0 : Bool} {col0 : Option Bool} {dd0 : Option Addr} {ka0 kb0 kc0 kd0 ke0 : Option Value}
    {oci1 kVi1 dci1 pmi1 cdi1 cti1 : Value} {odi1 ani1 : Option Addr} {sli1 : Array (Option Value)}
    {nm1 qn1 : Str} {N1 : Addr} {bs1 bm1 sub1 : List Value} {sn1 : List Str} {ab1 : Bool} {col1 : Option Bool} {dd1 : Option Addr} {ka1 kb1 kc1 kd1 ke1 : Option Value}
    {ocg0 kVg0 dcg0 pmg0 cdg0 ctg0 : Value} {odg0 ang0 : Option Addr} {slg0 : Array (Option Value)}
    {ocg1 kVg1 dcg1 pmg1 cdg1 ctg1 : Value} {odg1 ang1 : Option Addr} {slg1 : Array (Option Value)}
    {oct0 kVt0 dct0 pmt0 cdt0 ctt0 : Value} {odt0 ant0 : Option Addr} {slt0 : Array (Option Value)}
    {ocea0 kVea0 dcea0 pmea0 cdea0 ctea0 : Value} {odea0 anea0 : Option Addr} {slea0 : Array (Option Value)}
    {oceb0 kVeb0 dceb0 pmeb0 cdeb0 cteb0 : Value} {odeb0 aneb0 : Option Addr} {sleb0 : Array (Option Value)}
    {ocec0 kVec0 dcec0 pmec0 cdec0 ctec0 : Value} {odec0 anec0 : Option Addr} {slec0 : Array (Option Value)}
    {oced0 kVed0 dced0 pmed0 cded0 cted0 : Value} {oded0 aned0 : Option Addr} {sled0 : Array (Option Value)}
    (X : K.In h) (G : h.Ns mainGlobals mg) (hfa : mg "law" = some (.ref fa)) (TB : TabsG q K mg h)
    (a0 : PySem.W.nsIn K mainGlobals "_law_pen" = some (some (.ref f0)))
    (l0 : K.lookup f0 = some ⟨ocf0, odf0, .func (PySem.W.fnOf "_law_pen" "_law_pen" (defArgs sPen) (defBody sPen) (defScope sPen) .none kVf0 dcf0 pmf0 anf0 cdf0 ctf0), slf0⟩)
    (c0 : PySem.W.codeIn K cdf0 "_law_pen" = true)
    (k0 : PySem.W.keepIn K (.ref f0) = true)
    (a1 : PySem.W.nsIn K mainGlobals "_law_draw" = some (some (.ref f1)))
    (l1 : K.lookup f1 = some ⟨ocf1, odf1, .func (PySem.W.fnOf "_law_draw" "_law_draw" (defArgs sDraw) (defBody sDraw) (defScope sDraw) .none kVf1 dcf1 pmf1 anf1 cdf1 ctf1), slf1⟩)
    (c1 : PySem.W.codeIn K cdf1 "_law_draw" = true)
    (k1 : PySem.W.keepIn K (.ref f1) = true)
    (a2 : PySem.W.nsIn K mainGlobals "_law_pick" = some (some (.ref f2)))
    (l2 : K.lookup f2 = some ⟨ocf2, odf2, .func (PySem.W.fnOf "_law_pick" "_law_pick" (defArgs sPick) (defBody sPick) (defScope sPick) .none kVf2 dcf2 pmf2 anf2 cdf2 ctf2), slf2⟩)
    (c2 : PySem.W.codeIn K cdf2 "_law_pick" = true)
    (k2 : PySem.W.keepIn K (.ref f2) = true)
    (a3 : PySem.W.nsIn K mainGlobals "is_whole" = some (some (.ref f3)))
    (l3 : K.lookup f3 = some ⟨ocf3, odf3, .func (PySem.W.fnOf "is_whole" "is_whole" (defArgs sIsWhole) (defBody sIsWhole) (defScope sIsWhole) .none kVf3 dcf3 pmf3 anf3 cdf3 ctf3), slf3⟩)
    (c3 : PySem.W.codeIn K cdf3 "is_whole" = true)
    (k3 : PySem.W.keepIn K (.ref f3) = true)
    (a4 : PySem.W.nsIn K mainGlobals "is_ratio" = some (some (.ref f4)))
    (l4 : K.lookup f4 = some ⟨ocf4, odf4, .func (PySem.W.fnOf "is_ratio" "is_ratio" (defArgs sIsRatio) (defBody sIsRatio) (defScope sIsRatio) .none kVf4 dcf4 pmf4 anf4 cdf4 ctf4), slf4⟩)
    (c4 : PySem.W.codeIn K cdf4 "is_ratio" = true)
    (k4 : PySem.W.keepIn K (.ref f4) = true)
    (a5 : PySem.W.nsIn K mainGlobals "is_ratio_row" = some (some (.ref f5)))
    (l5 : K.lookup f5 = some ⟨ocf5, odf5, .func (PySem.W.fnOf "is_ratio_row" "is_ratio_row" (defArgs sIsRow) (defBody sIsRow) (defScope sIsRow) .none kVf5 dcf5 pmf5 anf5 cdf5 ctf5), slf5⟩)
    (c5 : PySem.W.codeIn K cdf5 "is_ratio_row" = true)
    (k5 : PySem.W.keepIn K (.ref f5) = true)
    (a6 : PySem.W.nsIn K mainGlobals "lowest" = some (some (.ref f6)))
    (l6 : K.lookup f6 = some ⟨ocf6, odf6, .func (PySem.W.fnOf "lowest" "lowest" (defArgs sLowest) (defBody sLowest) (defScope sLowest) .none kVf6 dcf6 pmf6 anf6 cdf6 ctf6), slf6⟩)
    (c6 : PySem.W.codeIn K cdf6 "lowest" = true)
    (k6 : PySem.W.keepIn K (.ref f6) = true)
    (a7 : PySem.W.nsIn K mainGlobals "parts_of" = some (some (.ref f7)))
    (l7 : K.lookup f7 = some ⟨ocf7, odf7, .func (PySem.W.fnOf "parts_of" "parts_of" (defArgs sParts) (defBody sParts) (defScope sParts) .none kVf7 dcf7 pmf7 anf7 cdf7 ctf7), slf7⟩)
    (c7 : PySem.W.codeIn K cdf7 "parts_of" = true)
    (k7 : PySem.W.keepIn K (.ref f7) = true)
    (a8 : PySem.W.nsIn K mainGlobals "told" = some (some (.ref f8)))
    (l8 : K.lookup f8 = some ⟨ocf8, odf8, .func (PySem.W.fnOf "told" "told" (defArgs sTold) (defBody sTold) (defScope sTold) .none kVf8 dcf8 pmf8 anf8 cdf8 ctf8), slf8⟩)
    (c8 : PySem.W.codeIn K cdf8 "told" = true)
    (k8 : PySem.W.keepIn K (.ref f8) = true)
    (a9 : PySem.W.nsIn K mainGlobals "lower" = some (some (.ref f9)))
    (l9 : K.lookup f9 = some ⟨ocf9, odf9, .func (PySem.W.fnOf "lower" "lower" (defArgs sLower) (defBody sLower) (defScope sLower) .none kVf9 dcf9 pmf9 anf9 cdf9 ctf9), slf9⟩)
    (c9 : PySem.W.codeIn K cdf9 "lower" = true)
    (k9 : PySem.W.keepIn K (.ref f9) = true)
    (a10 : PySem.W.nsIn K mainGlobals "held" = some (some (.ref f10)))
    (l10 : K.lookup f10 = some ⟨ocf10, odf10, .func (PySem.W.fnOf "held" "held" (defArgs sHeld) (defBody sHeld) (defScope sHeld) .none kVf10 dcf10 pmf10 anf10 cdf10 ctf10), slf10⟩)
    (c10 : PySem.W.codeIn K cdf10 "held" = true)
    (k10 : PySem.W.keepIn K (.ref f10) = true)
    (a11 : PySem.W.nsIn K mainGlobals "is_ascending" = some (some (.ref f11)))
    (l11 : K.lookup f11 = some ⟨ocf11, odf11, .func (PySem.W.fnOf "is_ascending" "is_ascending" (defArgs sAsc) (defBody sAsc) (defScope sAsc) .none kVf11 dcf11 pmf11 anf11 cdf11 ctf11), slf11⟩)
    (c11 : PySem.W.codeIn K cdf11 "is_ascending" = true)
    (k11 : PySem.W.keepIn K (.ref f11) = true)
    (a12 : PySem.W.nsIn K mainGlobals "over_one_bottom" = some (some (.ref f12)))
    (l12 : K.lookup f12 = some ⟨ocf12, odf12, .func (PySem.W.fnOf "over_one_bottom" "over_one_bottom" (defArgs sOver) (defBody sOver) (defScope sOver) .none kVf12 dcf12 pmf12 anf12 cdf12 ctf12), slf12⟩)
    (c12 : PySem.W.codeIn K cdf12 "over_one_bottom" = true)
    (k12 : PySem.W.keepIn K (.ref f12) = true)
    (a13 : PySem.W.nsIn K mainGlobals "raised" = some (some (.ref f13)))
    (l13 : K.lookup f13 = some ⟨ocf13, odf13, .func (PySem.W.fnOf "raised" "raised" (defArgs sRaised) (defBody sRaised) (defScope sRaised) .none kVf13 dcf13 pmf13 anf13 cdf13 ctf13), slf13⟩)
    (c13 : PySem.W.codeIn K cdf13 "raised" = true)
    (k13 : PySem.W.keepIn K (.ref f13) = true)
    (a14 : PySem.W.nsIn K mainGlobals "value_at" = some (some (.ref f14)))
    (l14 : K.lookup f14 = some ⟨ocf14, odf14, .func (PySem.W.fnOf "value_at" "value_at" (defArgs sVal) (defBody sVal) (defScope sVal) .none kVf14 dcf14 pmf14 anf14 cdf14 ctf14), slf14⟩)
    (c14 : PySem.W.codeIn K cdf14 "value_at" = true)
    (k14 : PySem.W.keepIn K (.ref f14) = true)
    (a15 : PySem.W.nsIn K mainGlobals "told_row" = some (some (.ref f15)))
    (l15 : K.lookup f15 = some ⟨ocf15, odf15, .func (PySem.W.fnOf "told_row" "told_row" (defArgs sTRow) (defBody sTRow) (defScope sTRow) .none kVf15 dcf15 pmf15 anf15 cdf15 ctf15), slf15⟩)
    (c15 : PySem.W.codeIn K cdf15 "told_row" = true)
    (k15 : PySem.W.keepIn K (.ref f15) = true)
    (a16 : PySem.W.nsIn K mainGlobals "error_of" = some (some (.ref f16)))
    (l16 : K.lookup f16 = some ⟨ocf16, odf16, .func (PySem.W.fnOf "error_of" "error_of" (defArgs sErr) (defBody sErr) (defScope sErr) .none kVf16 dcf16 pmf16 anf16 cdf16 ctf16), slf16⟩)
    (c16 : PySem.W.codeIn K cdf16 "error_of" = true)
    (k16 : PySem.W.keepIn K (.ref f16) = true)
    (a17 : PySem.W.nsIn K mainGlobals "_law_gcd" = some (some (.ref f17)))
    (l17 : K.lookup f17 = some ⟨ocf17, odf17, .func (PySem.W.fnOf "_law_gcd" "_law_gcd" (defArgs sLGcd) (defBody sLGcd) (defScope sLGcd) .none kVf17 dcf17 pmf17 anf17 cdf17 ctf17), slf17⟩)
    (c17 : PySem.W.codeIn K cdf17 "_law_gcd" = true)
    (k17 : PySem.W.keepIn K (.ref f17) = true)
    (a18 : PySem.W.nsIn K mainGlobals "_law_q" = some (some (.ref f18)))
    (l18 : K.lookup f18 = some ⟨ocf18, odf18, .func (PySem.W.fnOf "_law_q" "_law_q" (defArgs sLQ) (defBody sLQ) (defScope sLQ) .none kVf18 dcf18 pmf18 anf18 cdf18 ctf18), slf18⟩)
    (c18 : PySem.W.codeIn K cdf18 "_law_q" = true)
    (k18 : PySem.W.keepIn K (.ref f18) = true)
    (a19 : PySem.W.nsIn K mainGlobals "_law_plus" = some (some (.ref f19)))
    (l19 : K.lookup f19 = some ⟨ocf19, odf19, .func (PySem.W.fnOf "_law_plus" "_law_plus" (defArgs sLPlus) (defBody sLPlus) (defScope sLPlus) .none kVf19 dcf19 pmf19 anf19 cdf19 ctf19), slf19⟩)
    (c19 : PySem.W.codeIn K cdf19 "_law_plus" = true)
    (k19 : PySem.W.keepIn K (.ref f19) = true)
    (a20 : PySem.W.nsIn K mainGlobals "_law_minus" = some (some (.ref f20)))
    (l20 : K.lookup f20 = some ⟨ocf20, odf20, .func (PySem.W.fnOf "_law_minus" "_law_minus" (defArgs sLMinus) (defBody sLMinus) (defScope sLMinus) .none kVf20 dcf20 pmf20 anf20 cdf20 ctf20), slf20⟩)
    (c20 : PySem.W.codeIn K cdf20 "_law_minus" = true)
    (k20 : PySem.W.keepIn K (.ref f20) = true)
    (a21 : PySem.W.nsIn K mainGlobals "_law_times" = some (some (.ref f21)))
    (l21 : K.lookup f21 = some ⟨ocf21, odf21, .func (PySem.W.fnOf "_law_times" "_law_times" (defArgs sLTimes) (defBody sLTimes) (defScope sLTimes) .none kVf21 dcf21 pmf21 anf21 cdf21 ctf21), slf21⟩)
    (c21 : PySem.W.codeIn K cdf21 "_law_times" = true)
    (k21 : PySem.W.keepIn K (.ref f21) = true)
    (a22 : PySem.W.nsIn K mainGlobals "_law_less" = some (some (.ref f22)))
    (l22 : K.lookup f22 = some ⟨ocf22, odf22, .func (PySem.W.fnOf "_law_less" "_law_less" (defArgs sLLess) (defBody sLLess) (defScope sLLess) .none kVf22 dcf22 pmf22 anf22 cdf22 ctf22), slf22⟩)
    (c22 : PySem.W.codeIn K cdf22 "_law_less" = true)
    (k22 : PySem.W.keepIn K (.ref f22) = true)
    (a23 : PySem.W.nsIn K mainGlobals "_law_abs" = some (some (.ref f23)))
    (l23 : K.lookup f23 = some ⟨ocf23, odf23, .func (PySem.W.fnOf "_law_abs" "_law_abs" (defArgs sLAbs) (defBody sLAbs) (defScope sLAbs) .none kVf23 dcf23 pmf23 anf23 cdf23 ctf23), slf23⟩)
    (c23 : PySem.W.codeIn K cdf23 "_law_abs" = true)
    (k23 : PySem.W.keepIn K (.ref f23) = true)
    (a24 : PySem.W.nsIn K mainGlobals "_law_passed" = some (some (.ref f24)))
    (l24 : K.lookup f24 = some ⟨ocf24, odf24, .func (PySem.W.fnOf "_law_passed" "_law_passed" (defArgs sPassed) (defBody sPassed) (defScope sPassed) .none kVf24 dcf24 pmf24 anf24 cdf24 ctf24), slf24⟩)
    (c24 : PySem.W.codeIn K cdf24 "_law_passed" = true)
    (k24 : PySem.W.keepIn K (.ref f24) = true)
    (a25 : PySem.W.nsIn K mainGlobals "_law_ratio" = some (some (.ref f25)))
    (l25 : K.lookup f25 = some ⟨ocf25, odf25, .func (PySem.W.fnOf "_law_ratio" "_law_ratio" (defArgs sLRatio) (defBody sLRatio) (defScope sLRatio) .none kVf25 dcf25 pmf25 anf25 cdf25 ctf25), slf25⟩)
    (c25 : PySem.W.codeIn K cdf25 "_law_ratio" = true)
    (k25 : PySem.W.keepIn K (.ref f25) = true)
    (a26 : PySem.W.nsIn K mainGlobals "_law_lower_one" = some (some (.ref f26)))
    (l26 : K.lookup f26 = some ⟨ocf26, odf26, .func (PySem.W.fnOf "_law_lower_one" "_law_lower_one" (defArgs sLMin) (defBody sLMin) (defScope sLMin) .none kVf26 dcf26 pmf26 anf26 cdf26 ctf26), slf26⟩)
    (c26 : PySem.W.codeIn K cdf26 "_law_lower_one" = true)
    (k26 : PySem.W.keepIn K (.ref f26) = true)
    (a27 : PySem.W.nsIn K mainGlobals "_law_sorted" = some (some (.ref f27)))
    (l27 : K.lookup f27 = some ⟨ocf27, odf27, .func (PySem.W.fnOf "_law_sorted" "_law_sorted" (defArgs sSort) (defBody sSort) (defScope sSort) .none kVf27 dcf27 pmf27 anf27 cdf27 ctf27), slf27⟩)
    (c27 : PySem.W.codeIn K cdf27 "_law_sorted" = true)
    (k27 : PySem.W.keepIn K (.ref f27) = true)
    (a28 : PySem.W.nsIn K mainGlobals "_law_poly" = some (some (.ref f28)))
    (l28 : K.lookup f28 = some ⟨ocf28, odf28, .func (PySem.W.fnOf "_law_poly" "_law_poly" (defArgs sLPoly) (defBody sLPoly) (defScope sLPoly) .none kVf28 dcf28 pmf28 anf28 cdf28 ctf28), slf28⟩)
    (c28 : PySem.W.codeIn K cdf28 "_law_poly" = true)
    (k28 : PySem.W.keepIn K (.ref f28) = true)
    (a29 : PySem.W.nsIn K mainGlobals "_law_p_at" = some (some (.ref f29)))
    (l29 : K.lookup f29 = some ⟨ocf29, odf29, .func (PySem.W.fnOf "_law_p_at" "_law_p_at" (defArgs sLPAt) (defBody sLPAt) (defScope sLPAt) .none kVf29 dcf29 pmf29 anf29 cdf29 ctf29), slf29⟩)
    (c29 : PySem.W.codeIn K cdf29 "_law_p_at" = true)
    (k29 : PySem.W.keepIn K (.ref f29) = true)
    (a30 : PySem.W.nsIn K mainGlobals "_law_made_poly" = some (some (.ref f30)))
    (l30 : K.lookup f30 = some ⟨ocf30, odf30, .func (PySem.W.fnOf "_law_made_poly" "_law_made_poly" (defArgs sMade) (defBody sMade) (defScope sMade) .none kVf30 dcf30 pmf30 anf30 cdf30 ctf30), slf30⟩)
    (c30 : PySem.W.codeIn K cdf30 "_law_made_poly" = true)
    (k30 : PySem.W.keepIn K (.ref f30) = true)
    (a31 : PySem.W.nsIn K mainGlobals "_law_drawn" = some (some (.ref f31)))
    (l31 : K.lookup f31 = some ⟨ocf31, odf31, .func (PySem.W.fnOf "_law_drawn" "_law_drawn" (defArgs sDrawn) (defBody sDrawn) (defScope sDrawn) .none kVf31 dcf31 pmf31 anf31 cdf31 ctf31), slf31⟩)
    (c31 : PySem.W.codeIn K cdf31 "_law_drawn" = true)
    (k31 : PySem.W.keepIn K (.ref f31) = true)
    (a32 : PySem.W.nsIn K mainGlobals "_law_some_points" = some (some (.ref f32)))
    (l32 : K.lookup f32 = some ⟨ocf32, odf32, .func (PySem.W.fnOf "_law_some_points" "_law_some_points" (defArgs sSome) (defBody sSome) (defScope sSome) .none kVf32 dcf32 pmf32 anf32 cdf32 ctf32), slf32⟩)
    (c32 : PySem.W.codeIn K cdf32 "_law_some_points" = true)
    (k32 : PySem.W.keepIn K (.ref f32) = true)
    (a33 : PySem.W.nsIn K mainGlobals "_law_made_points" = some (some (.ref f33)))
    (l33 : K.lookup f33 = some ⟨ocf33, odf33, .func (PySem.W.fnOf "_law_made_points" "_law_made_points" (defArgs sMadeP) (defBody sMadeP) (defScope sMadeP) .none kVf33 dcf33 pmf33 anf33 cdf33 ctf33), slf33⟩)
    (c33 : PySem.W.codeIn K cdf33 "_law_made_points" = true)
    (k33 : PySem.W.keepIn K (.ref f33) = true)
    (a34 : PySem.W.nsIn K mainGlobals "_law_error_of" = some (some (.ref f34)))
    (l34 : K.lookup f34 = some ⟨ocf34, odf34, .func (PySem.W.fnOf "_law_error_of" "_law_error_of" (defArgs sLErr) (defBody sLErr) (defScope sLErr) .none kVf34 dcf34 pmf34 anf34 cdf34 ctf34), slf34⟩)
    (c34 : PySem.W.codeIn K cdf34 "_law_error_of" = true)
    (k34 : PySem.W.keepIn K (.ref f34) = true)
    (a35 : PySem.W.nsIn K mainGlobals "_law_fault" = some (some (.ref f35)))
    (l35 : K.lookup f35 = some ⟨ocf35, odf35, .func (PySem.W.fnOf "_law_fault" "_law_fault" (defArgs sFault) (defBody sFault) (defScope sFault) .none kVf35 dcf35 pmf35 anf35 cdf35 ctf35), slf35⟩)
    (c35 : PySem.W.codeIn K cdf35 "_law_fault" = true)
    (k35 : PySem.W.keepIn K (.ref f35) = true)
    (a36 : PySem.W.nsIn K mainGlobals "_law_refused_right" = some (some (.ref f36)))
    (l36 : K.lookup f36 = some ⟨ocf36, odf36, .func (PySem.W.fnOf "_law_refused_right" "_law_refused_right" (defArgs sRef) (defBody sRef) (defScope sRef) .none kVf36 dcf36 pmf36 anf36 (.ref cL) ctf36), slf36⟩)
    (c36 : PySem.W.codeIn K (.ref cL) "_law_refused_right" = true)
    (k36 : PySem.W.keepIn K (.ref f36) = true)
    (a37 : PySem.W.nsIn K mainGlobals "law" = some (some (.ref f37)))
    (l37 : K.lookup f37 = some ⟨ocf37, odf37, .func (PySem.W.fnOf "law" "law" (defArgs sLaw) (defBody sLaw) (defScope sLaw) .none kVf37 dcf37 pmf37 anf37 cdf37 ctf37), slf37⟩)
    (c37 : PySem.W.codeIn K cdf37 "law" = true)
    (k37 : PySem.W.keepIn K (.ref f37) = true)
    (tl : K.lookup cL = some ⟨eL, dL, .fields vL, sL⟩)
    (tv : vL[11]? = some (.ref Pt))
    (tn : K.lookup Pt = none)
    (tr : ((recsOf q).any fun e => e.name == Str.ofString "_law_refused_right") = true)
    (aggcd : PySem.W.nsIn K mainGlobals "gcd" = some (some (.builtin "math.gcd")))
    (aglcm : PySem.W.nsIn K mainGlobals "lcm" = some (some (.builtin "math.lcm")))
    (m0 : PySem.W.nsIn K mainGlobals "BadNumber" = some (some (.ref C0)))
    (ei0 : PySem.W.findIn K (.ref C0) "__init__" = some (some (.ref i0)))
    (ti0 : PySem.W.typeIn K (.ref i0) = some (.type "function"))
    (li0 : K.lookup i0 = some ⟨oci0, odi0, .func (PySem.W.fnOf "__init__" "BadNumber.__init__" (defArgs (inClass (topS 4) 0)) (defBody (inClass (topS 4) 0)) (defScope (inClass (topS 4) 0)) .none kVi0 dci0 pmi0 ani0 cdi0 cti0), sli0⟩)
    (ci0 : PySem.W.codeIn K cdi0 "BadNumber.__init__" = true)
    (ki0 : PySem.W.keepIn K (.ref i0) = true)
    (lc0 : K.lookup C0 = some (excClassObj nm0 qn0 C0 N0 bs0 bm0 true sn0 sub0 ab0 col0 dd0 ka0 kb0 kc0 kd0 ke0 "ValueError.__new__"))
    (lb0 : PySem.HandSPX.refsVE bm0 = true)
    (big0 : (oexB K C0 && decide (PySem.W.findIn K (.ref C0) "what" = some none) && decide (PySem.W.findIn K (.ref C0) "number" = some none)) = true)
    (m1 : PySem.W.nsIn K mainGlobals "BadRow" = some (some (.ref C1)))
    (ei1 : PySem.W.findIn K (.ref C1) "__init__" = some (some (.ref i1)))
    (ti1 : PySem.W.typeIn K (.ref i1) = some (.type "function"))
    (li1 : K.lookup i1 = some ⟨oci1, odi1, .func (PySem.W.fnOf "__init__" "BadRow.__init__" (defArgs (inClass (topS 5) 0)) (defBody (inClass (topS 5) 0)) (defScope (inClass (topS 5) 0)) .none kVi1 dci1 pmi1 ani1 cdi1 cti1), sli1⟩)
    (ci1 : PySem.W.codeIn K cdi1 "BadRow.__init__" = true)
    (ki1 : PySem.W.keepIn K (.ref i1) = true)
    (lc1 : K.lookup C1 = some (excClassObj nm1 qn1 C1 N1 bs1 bm1 true sn1 sub1 ab1 col1 dd1 ka1 kb1 kc1 kd1 ke1 "ValueError.__new__"))
    (lb1 : PySem.HandSPX.refsVE bm1 = true)
    (big1 : (oexB K C1 && decide (PySem.W.findIn K (.ref C1) "row" = some none)) = true)
    (mcg : PySem.W.nsIn K mainGlobals "Poly" = some (some (.ref Cg)))
    (eg0 : PySem.W.findIn K (.ref Cg) "__init__" = some (some (.ref g0)))
    (tg0 : PySem.W.typeIn K (.ref g0) = some (.type "function"))
    (lg0 : K.lookup g0 = some ⟨ocg0, odg0, .func (PySem.W.fnOf "__init__" "Poly.__init__" (defArgs (inClass (topS 25) 0)) (defBody (inClass (topS 25) 0)) (defScope (inClass (topS 25) 0)) .none kVg0 dcg0 pmg0 ang0 cdg0 ctg0), slg0⟩)
    (cg0 : PySem.W.codeIn K cdg0 "Poly.__init__" = true)
    (kg0 : PySem.W.keepIn K (.ref g0) = true)
    (eg1 : PySem.W.findIn K (.ref Cg) "__eq__" = some (some (.ref g1)))
    (tg1 : PySem.W.typeIn K (.ref g1) = some (.type "function"))
    (lg1 : K.lookup g1 = some ⟨ocg1, odg1, .func (PySem.W.fnOf "__eq__" "Poly.__eq__" (defArgs (inClass (topS 25) 1)) (defBody (inClass (topS 25) 1)) (defScope (inClass (topS 25) 1)) .none kVg1 dcg1 pmg1 ang1 cdg1 ctg1), slg1⟩)
    (cg1 : PySem.W.codeIn K cdg1 "Poly.__eq__" = true)
    (kg1 : PySem.W.keepIn K (.ref g1) = true)
    (mct : PySem.W.nsIn K mainGlobals "Points" = some (some (.ref Ct)))
    (et0 : PySem.W.findIn K (.ref Ct) "__init__" = some (some (.ref t0)))
    (tt0 : PySem.W.typeIn K (.ref t0) = some (.type "function"))
    (lt0 : K.lookup t0 = some ⟨oct0, odt0, .func (PySem.W.fnOf "__init__" "Points.__init__" (defArgs (inClass (topS 37) 0)) (defBody (inClass (topS 37) 0)) (defScope (inClass (topS 37) 0)) (.ref dT) kVt0 dct0 pmt0 ant0 cdt0 ctt0), slt0⟩)
    (ct0 : PySem.W.codeIn K cdt0 "Points.__init__" = true)
    (kt0 : PySem.W.keepIn K (.ref t0) = true)
    (mcea : PySem.W.nsIn K mainGlobals "Nearest" = some (some (.ref Cea)))
    (eea0 : PySem.W.findIn K (.ref Cea) "__init__" = some (some (.ref ea0)))
    (tea0 : PySem.W.typeIn K (.ref ea0) = some (.type "function"))
    (lea0 : K.lookup ea0 = some ⟨ocea0, odea0, .func (PySem.W.fnOf "__init__" "Nearest.__init__" (defArgs (inClass (topS 38) 0)) (defBody (inClass (topS 38) 0)) (defScope (inClass (topS 38) 0)) .none kVea0 dcea0 pmea0 anea0 cdea0 ctea0), slea0⟩)
    (cea0 : PySem.W.codeIn K cdea0 "Nearest.__init__" = true)
    (kea0 : PySem.W.keepIn K (.ref ea0) = true)
    (mceb : PySem.W.nsIn K mainGlobals "Barred" = some (some (.ref Ceb)))
    (eeb0 : PySem.W.findIn K (.ref Ceb) "__init__" = some (some (.ref eb0)))
    (teb0 : PySem.W.typeIn K (.ref eb0) = some (.type "function"))
    (leb0 : K.lookup eb0 = some ⟨oceb0, odeb0, .func (PySem.W.fnOf "__init__" "Barred.__init__" (defArgs (inClass (topS 39) 0)) (defBody (inClass (topS 39) 0)) (defScope (inClass (topS 39) 0)) .none kVeb0 dceb0 pmeb0 aneb0 cdeb0 cteb0), sleb0⟩)
    (ceb0 : PySem.W.codeIn K cdeb0 "Barred.__init__" = true)
    (keb0 : PySem.W.keepIn K (.ref eb0) = true)
    (mcec : PySem.W.nsIn K mainGlobals "Boundless" = some (some (.ref Cec)))
    (eec0 : PySem.W.findIn K (.ref Cec) "__init__" = some (some (.ref ec0)))
    (tec0 : PySem.W.typeIn K (.ref ec0) = some (.type "function"))
    (lec0 : K.lookup ec0 = some ⟨ocec0, odec0, .func (PySem.W.fnOf "__init__" "Boundless.__init__" (defArgs (inClass (topS 40) 0)) (defBody (inClass (topS 40) 0)) (defScope (inClass (topS 40) 0)) .none kVec0 dcec0 pmec0 anec0 cdec0 ctec0), slec0⟩)
    (cec0 : PySem.W.codeIn K cdec0 "Boundless.__init__" = true)
    (kec0 : PySem.W.keepIn K (.ref ec0) = true)
    (mced : PySem.W.nsIn K mainGlobals "Reach" = some (some (.ref Ced)))
    (eed0 : PySem.W.findIn K (.ref Ced) "__init__" = some (some (.ref ed0)))
    (ted0 : PySem.W.typeIn K (.ref ed0) = some (.type "function"))
    (led0 : K.lookup ed0 = some ⟨oced0, oded0, .func (PySem.W.fnOf "__init__" "Reach.__init__" (defArgs (inClass (topS 41) 0)) (defBody (inClass (topS 41) 0)) (defScope (inClass (topS 41) 0)) .none kVed0 dced0 pmed0 aned0 cded0 cted0), sled0⟩)
    (ced0 : PySem.W.codeIn K cded0 "Reach.__init__" = true)
    (ked0 : PySem.W.keepIn K (.ref ed0) = true)
    (tT : K.lookup dT = some ⟨eT, fT, .seq #[Value.none] nT, sT⟩)
    (zint : PySem.W.nsIn K mainGlobals "int" = some none)
    (zlist : PySem.W.nsIn K mainGlobals "list" = some none)
    (zlen : PySem.W.nsIn K mainGlobals "len" = some none)
    (zrange : PySem.W.nsIn K mainGlobals "range" = some none)
    (zstr : PySem.W.nsIn K mainGlobals "str" = some none)
    (zisinstance : PySem.W.nsIn K mainGlobals "isinstance" = some none)
    (zbool : PySem.W.nsIn K mainGlobals "bool" = some none)
    (ztuple : PySem.W.nsIn K mainGlobals "tuple" = some none)
    (zabs : PySem.W.nsIn K mainGlobals "abs" = some none)
    (zall : PySem.W.nsIn K mainGlobals "all" = some none)
    (zzip : PySem.W.nsIn K mainGlobals "zip" = some none)
    (bigT : insB K Ct ["points", "numbers", "weights"] = true)
    (bigea : insB K Cea ["poly", "error", "bar"] = true)
    (bigeb : insB K Ceb ["bar"] = true)
    (bigec : insB K Cec ["poly", "way"] = true)
    (biged : insB K Ced ["least", "most", "low", "high", "low_tie", "high_tie"] = true)
    (bigE : (decide (PySem.W.findIn K (.ref Ct) "__eq__" = some (some (.builtin "object.__eq__"))) && (decide (PySem.W.mroIn K Ct (.type "object") = some true) && decide (PySem.W.kitOne K (.ref Cg) (.type "list") = some false))) = true)
    (bigX : (xfB K C1 && decide (PySem.W.exmOne K (.ref C1) (.ref C1) = some true)) = true)
    (bigP : polyB K Cg = true) :
    LawG l w K CX0 11 63 "_law_script" mg fa h := by
  have e := hfa.symm.trans (PySem.W.mg_of X G a37)
  cases e
  have mgo : ∀ {x : Str} {a : Value}, PySem.W.nsIn K mainGlobals x = some (some a) → mg x = some a := fun z => PySem.W.mg_of X G z
  have mgn : ∀ {x : Str}, PySem.W.nsIn K mainGlobals x = some none → mg x = none := fun z => PySem.W.mg_none_of X G z
  have tb := TB "_law_refused_right" _ cL Pt _ _ _ _ _ _ tr (mgo a36) l36 rfl rfl tl tv
  have F0 := fun_mk (st := sPen) l0 c0 k0
  have F1 := fun_mk (st := sDraw) l1 c1 k1
  have F2 := fun_mk (st := sPick) l2 c2 k2
  have F3 := fun_mk (st := sIsWhole) l3 c3 k3
  have F4 := fun_mk (st := sIsRatio) l4 c4 k4
  have F5 := fun_mk (st := sIsRow) l5 c5 k5
  have F6 := fun_mk (st := sLowest) l6 c6 k6
  have F7 := fun_mk (st := sParts) l7 c7 k7
  have F8 := fun_mk (st := sTold) l8 c8 k8
  have F9 := fun_mk (st := sLower) l9 c9 k9
  have F10 := fun_mk (st := sHeld) l10 c10 k10
  have F11 := fun_mk (st := sAsc) l11 c11 k11
  have F12 := fun_mk (st := sOver) l12 c12 k12
  have F13 := fun_mk (st := sRaised) l13 c13 k13
  have F14 := fun_mk (st := sVal) l14 c14 k14
  have F15 := fun_mk (st := sTRow) l15 c15 k15
  have F16 := fun_mk (st := sErr) l16 c16 k16
  have F17 := fun_mk (st := sLGcd) l17 c17 k17
  have F18 := fun_mk (st := sLQ) l18 c18 k18
  have F19 := fun_mk (st := sLPlus) l19 c19 k19
  have F20 := fun_mk (st := sLMinus) l20 c20 k20
  have F21 := fun_mk (st := sLTimes) l21 c21 k21
  have F22 := fun_mk (st := sLLess) l22 c22 k22
  have F23 := fun_mk (st := sLAbs) l23 c23 k23
  have F24 := fun_mk (st := sPassed) l24 c24 k24
  have F25 := fun_mk (st := sLRatio) l25 c25 k25
  have F26 := fun_mk (st := sLMin) l26 c26 k26
  have F27 := fun_mk (st := sSort) l27 c27 k27
  have F28 := fun_mk (st := sLPoly) l28 c28 k28
  have F29 := fun_mk (st := sLPAt) l29 c29 k29
  have F30 := fun_mk (st := sMade) l30 c30 k30
  have F31 := fun_mk (st := sDrawn) l31 c31 k31
  have F32 := fun_mk (st := sSome) l32 c32 k32
  have F33 := fun_mk (st := sMadeP) l33 c33 k33
  have F34 := fun_mk (st := sLErr) l34 c34 k34
  have F35 := fun_mk (st := sFault) l35 c35 k35
  have F36 := fun_mk (st := sRef) l36 c36 k36
  have F37 := fun_mk (st := sLaw) l37 c37 k37
  have b0 := F0.binds (ps := ["_law_script"]) fun _ _ _ _ _ _ us hl => match us, hl with | [_], _ => rfl
  have b1 := F1.binds (ps := ["_law_pen_here", "_law_many"]) fun _ _ _ _ _ _ us hl => match us, hl with | [_, _], _ => rfl
  have b2 := F2.binds (ps := ["_law_pen_here", "_law_some"]) fun _ _ _ _ _ _ us hl => match us, hl with | [_, _], _ => rfl
  have b3 := F3.binds (ps := ["value"]) fun _ _ _ _ _ _ us hl => match us, hl with | [_], _ => rfl
  have b4 := F4.binds (ps := ["value"]) fun _ _ _ _ _ _ us hl => match us, hl with | [_], _ => rfl
  have b5 := F5.binds (ps := ["value"]) fun _ _ _ _ _ _ us hl => match us, hl with | [_], _ => rfl
  have b6 := F6.binds (ps := ["top", "bottom"]) fun _ _ _ _ _ _ us hl => match us, hl with | [_, _], _ => rfl
  have b7 := F7.binds (ps := ["value", "what"]) fun _ _ _ _ _ _ us hl => match us, hl with | [_, _], _ => rfl
  have b8 := F8.binds (ps := ["value", "what"]) fun _ _ _ _ _ _ us hl => match us, hl with | [_, _], _ => rfl
  have b9 := F9.binds (ps := ["one", "other"]) fun _ _ _ _ _ _ us hl => match us, hl with | [_, _], _ => rfl
  have b10 := F10.binds (ps := ["value"]) fun _ _ _ _ _ _ us hl => match us, hl with | [_], _ => rfl
  have b11 := F11.binds (ps := ["ratios"]) fun _ _ _ _ _ _ us hl => match us, hl with | [_], _ => rfl
  have b12 := F12.binds (ps := ["numbers"]) fun _ _ _ _ _ _ us hl => match us, hl with | [_], _ => rfl
  have b13 := F13.binds (ps := ["number", "many"]) fun _ _ _ _ _ _ us hl => match us, hl with | [_, _], _ => rfl
  have b14 := F14.binds (ps := ["row", "top", "bottom"]) fun _ _ _ _ _ _ us hl => match us, hl with | [_, _, _], _ => rfl
  have b15 := F15.binds (ps := ["ratios"]) fun _ _ _ _ _ _ us hl => match us, hl with | [_], _ => rfl
  have b16 := F16.binds (ps := ["points", "poly"]) fun _ _ _ _ _ _ us hl => match us, hl with | [_, _], _ => rfl
  have b17 := F17.binds (ps := ["_law_one", "_law_two"]) fun _ _ _ _ _ _ us hl => match us, hl with | [_, _], _ => rfl
  have b18 := F18.binds (ps := ["_law_top", "_law_bottom"]) fun _ _ _ _ _ _ us hl => match us, hl with | [_, _], _ => rfl
  have b19 := F19.binds (ps := ["_law_one", "_law_two"]) fun _ _ _ _ _ _ us hl => match us, hl with | [_, _], _ => rfl
  have b20 := F20.binds (ps := ["_law_one", "_law_two"]) fun _ _ _ _ _ _ us hl => match us, hl with | [_, _], _ => rfl
  have b21 := F21.binds (ps := ["_law_one", "_law_two"]) fun _ _ _ _ _ _ us hl => match us, hl with | [_, _], _ => rfl
  have b22 := F22.binds (ps := ["_law_one", "_law_two"]) fun _ _ _ _ _ _ us hl => match us, hl with | [_, _], _ => rfl
  have b23 := F23.binds (ps := ["_law_one"]) fun _ _ _ _ _ _ us hl => match us, hl with | [_], _ => rfl
  have b24 := F24.binds (ps := ["_law_pen_here", "_law_ratio_here"]) fun _ _ _ _ _ _ us hl => match us, hl with | [_, _], _ => rfl
  have b25 := F25.binds (ps := ["_law_pen_here", "_law_most"]) fun _ _ _ _ _ _ us hl => match us, hl with | [_, _], _ => rfl
  have b26 := F26.binds (ps := ["_law_some"]) fun _ _ _ _ _ _ us hl => match us, hl with | [_], _ => rfl
  have b27 := F27.binds (ps := ["_law_some"]) fun _ _ _ _ _ _ us hl => match us, hl with | [_], _ => rfl
  have b28 := F28.binds (ps := ["_law_numbers"]) fun _ _ _ _ _ _ us hl => match us, hl with | [_], _ => rfl
  have b29 := F29.binds (ps := ["_law_one", "_law_point"]) fun _ _ _ _ _ _ us hl => match us, hl with | [_, _], _ => rfl
  have b30 := F30.binds (ps := ["_law_pen_here", "_law_one"]) fun _ _ _ _ _ _ us hl => match us, hl with | [_, _], _ => rfl
  have b31 := F31.binds (ps := ["_law_pen_here", "_law_degree", "_law_most"]) fun _ _ _ _ _ _ us hl => match us, hl with | [_, _, _], _ => rfl
  have b32 := F32.binds (ps := ["_law_pen_here", "_law_many", "_law_most"]) fun _ _ _ _ _ _ us hl => match us, hl with | [_, _, _], _ => rfl
  have b33 := F33.binds (ps := ["_law_pen_here", "_law_some"]) fun _ _ _ _ _ _ us hl => match us, hl with | [_, _], _ => rfl
  have b34 := F34.binds (ps := ["_law_some", "_law_poly_here"]) fun _ _ _ _ _ _ us hl => match us, hl with | [_, _], _ => rfl
  have b35 := F35.binds (ps := ["_law_call"]) fun _ _ _ _ _ _ us hl => match us, hl with | [_], _ => rfl
  have b36 := F36.binds (ps := ["_law_pen_here", "_law_good", "_law_odd", "_law_wrong"]) fun _ _ _ _ _ _ us hl => match us, hl with | [_, _, _, _], _ => rfl
  have FI0 := fun_mk (st := inClass (topS 4) 0) li0 ci0 ki0
  have bI0 := FI0.binds (ps := ["self", "what", "number"]) fun _ _ _ _ _ _ us hl => match us, hl with | [_, _, _], _ => rfl
  have oo0 : OexC K C0 := oexB_ok ((Bool.and_eq_true_iff.mp ((Bool.and_eq_true_iff.mp (big0)).1)).1) ⟨nm0, qn0, N0, bs0, bm0, sn0, sub0, ab0, col0, dd0, ka0, kb0, kc0, kd0, ke0, lc0, lb0⟩
  have no0_0 := (of_decide_eq_true (Bool.and_eq_true_iff.mp ((Bool.and_eq_true_iff.mp (big0)).1)).2 : PySem.W.findIn K (.ref C0) "what" = some none)
  have no0_1 := (of_decide_eq_true (Bool.and_eq_true_iff.mp (big0)).2 : PySem.W.findIn K (.ref C0) "number" = some none)
  have FI1 := fun_mk (st := inClass (topS 5) 0) li1 ci1 ki1
  have bI1 := FI1.binds (ps := ["self", "row"]) fun _ _ _ _ _ _ us hl => match us, hl with | [_, _], _ => rfl
  have oo1 : OexC K C1 := oexB_ok ((Bool.and_eq_true_iff.mp (big1)).1) ⟨nm1, qn1, N1, bs1, bm1, sn1, sub1, ab1, col1, dd1, ka1, kb1, kc1, kd1, ke1, lc1, lb1⟩
  have no1_0 := (of_decide_eq_true (Bool.and_eq_true_iff.mp (big1)).2 : PySem.W.findIn K (.ref C1) "row" = some none)
  obtain ⟨PC, PMk, PKp⟩ := polyC (mg := mg) (mgo mcg) bigP
  have Fg0 := fun_mk (st := inClass (topS 25) 0) lg0 cg0 kg0
  have bg0 := Fg0.binds (ps := ["self", "numbers"]) fun _ _ _ _ _ _ us hl => match us, hl with | [_, _], _ => rfl
  have Fg1 := fun_mk (st := inClass (topS 25) 1) lg1 cg1 kg1
  have bg1 := Fg1.binds (ps := ["self", "other"]) fun _ _ _ _ _ _ us hl => match us, hl with | [_, _], _ => rfl
  have Ft0 : FunD K "__init__" "Points.__init__" (defArgs (inClass (topS 37) 0)) (defBody (inClass (topS 37) 0)) (defScope (inClass (topS 37) 0)) [V.non] [] t0 _ := ⟨⟨_, _, .ref dT, _, _, _, _, _, _, _, rfl, lt0, ct0, .inr ⟨by simp, dT, _, [Value.none], nT, rfl, tT, rfl, .cons rfl .nil⟩, .inl rfl⟩, kt0⟩
  have Fea0 := fun_mk (st := inClass (topS 38) 0) lea0 cea0 kea0
  have bea0 := Fea0.binds (ps := ["self", "poly", "error", "bar"]) fun _ _ _ _ _ _ us hl => match us, hl with | [_, _, _, _], _ => rfl
  have Feb0 := fun_mk (st := inClass (topS 39) 0) leb0 ceb0 keb0
  have beb0 := Feb0.binds (ps := ["self", "bar"]) fun _ _ _ _ _ _ us hl => match us, hl with | [_, _], _ => rfl
  have Fec0 := fun_mk (st := inClass (topS 40) 0) lec0 cec0 kec0
  have bec0 := Fec0.binds (ps := ["self", "poly", "way"]) fun _ _ _ _ _ _ us hl => match us, hl with | [_, _, _], _ => rfl
  have Fed0 := fun_mk (st := inClass (topS 41) 0) led0 ced0 ked0
  have bed0 := Fed0.binds (ps := ["self", "least", "most", "low", "high", "low_tie", "high_tie"]) fun _ _ _ _ _ _ us hl => match us, hl with | [_, _, _, _, _, _, _], _ => rfl
  have B : Bi mg := { int := mgn zint, list := mgn zlist, len := mgn zlen, range := mgn zrange }
  have T : Bk mg := { toBi := B, isinstance := mgn zisinstance, bool := mgn zbool, tuple := mgn ztuple, abs := mgn zabs, str := mgn zstr, gcd := mgo aggcd }
  have bl : ∀ (s : Shared) (u : Value), BindsTo s (PySem.W.fnOf "law" "law" (defArgs sLaw) (defBody sLaw) (defScope sLaw) .none kVf37 dcf37 pmf37 anf37 cdf37 ctf37) ⟨[u], []⟩ [("_law_script", u)] := fun s u => .of_eq rfl
  refine ⟨_, [(cL, Pt)], spLaw K Pt, (fun p hp => by rw [List.mem_singleton.mp hp]; exact tb.2), (fun p hp => by rw [List.mem_singleton.mp hp]; exact tn), (fun p hp => by rw [List.mem_singleton.mp hp]; exact tb.1), (fun s u => bl s u), (fun H a ns hl _ hT hS => ⟨a, ns, rfl, hS, hl, hT _ (List.mem_singleton.mpr rfl), fun _ => rfl⟩), fun b _ _ mm1 hTB => ?_⟩
  have hTb : LamX.TabB b mg cL Pt := hTB _ (List.mem_singleton.mpr rfl)
  let NBadNumber : Ex l.prog w K mg b "BadNumber" C0 ["what", "number"] := ⟨oo0, i0, _, mgo m0, ei0, ti0, bI0, iniBadNumber FI0 oo0 no0_0 no0_1⟩
  let NBadRow : Ex l.prog w K mg b "BadRow" C1 ["row"] := ⟨oo1, i1, _, mgo m1, ei1, ti1, bI1, iniBadRow FI1 oo1 no1_0⟩
  let G_law_draw : Df l.prog w K mg b "_law_draw" 1 ["_law_pen_here", "_law_many"] spDraw := ⟨f1, _, mgo a1, k1, b1, ok_draw F1 B⟩
  let G_law_pick : Df l.prog w K mg b "_law_pick" 2 ["_law_pen_here", "_law_some"] spPick := ⟨f2, _, mgo a2, k2, b2, ok_pick F2 B G_law_draw⟩
  let G_law_pen : Df l.prog w K mg b "_law_pen" 1 ["_law_script"] (spPen K) := ⟨f0, _, mgo a0, k0, b0, ok_pen F0 B⟩
  let Gis_whole : Df l.prog w K mg b "is_whole" 1 ["value"] (spWhole K) := ⟨f3, _, mgo a3, k3, b3, ok_is_whole F3 T⟩
  let Gis_ratio : Df l.prog w K mg b "is_ratio" 2 ["value"] (spIsRatio K) := ⟨f4, _, mgo a4, k4, b4, ok_is_ratio F4 T Gis_whole⟩
  let Gis_ratio_row : Df l.prog w K mg b "is_ratio_row" 3 ["value"] (spIsRow K) := ⟨f5, _, mgo a5, k5, b5, ok_is_row F5 T (mgn zall) Gis_ratio⟩
  let Glowest : Df l.prog w K mg b "lowest" 1 ["top", "bottom"] spLow := ⟨f6, _, mgo a6, k6, b6, ok_lowest F6 T⟩
  let Gparts_of : Dx l.prog w K mg b "parts_of" 3 ["value", "what"] (spParts K C0) := ⟨f7, _, mgo a7, k7, b7, ok_parts F7 T Gis_ratio NBadNumber⟩
  let Gtold : Dx l.prog w K mg b "told" 4 ["value", "what"] (spTold K C0) := ⟨f8, _, mgo a8, k8, b8, ok_told F8 Gparts_of Glowest⟩
  let Glower : Dx l.prog w K mg b "lower" 4 ["one", "other"] (spTwo K C0 okLower) := ⟨f9, _, mgo a9, k9, b9, ok_lower F9 Gparts_of Glowest NBadNumber⟩
  let PM : PoM l.prog w K mg b Cg C1 := ⟨PC, g0, _, ⟨PMk, eg0, fn_of_ty tg0, PKp⟩, bg0, ok_poly_init Fg0 T PC NBadRow Gis_ratio_row Gtold, g1, _, eg1, fn_of_ty tg1, bg1, ok_poly_eq Fg1 T mm1 PC⟩
  let Gheld : Df l.prog w K mg b "held" 1 ["value"] (spHeld K) := ⟨f10, _, mgo a10, k10, b10, ok_held F10 T⟩
  let Gis_ascending : Df l.prog w K mg b "is_ascending" 5 ["ratios"] (spAsc K) := ⟨f11, _, mgo a11, k11, b11, ok_asc F11 T (mgn zall) (mgn zzip) Glower⟩
  let Gover_one_bottom : Df l.prog w K mg b "over_one_bottom" 1 ["numbers"] (spOver K) := ⟨f12, _, mgo a12, k12, b12, ok_over F12 (mgo aglcm)⟩
  let Graised : Df l.prog w K mg b "raised" 1 ["number", "many"] spRaised := ⟨f13, _, mgo a13, k13, b13, ok_raised F13 T⟩
  let Gvalue_at : Df l.prog w K mg b "value_at" 1 ["row", "top", "bottom"] (spVal K) := ⟨f14, _, mgo a14, k14, b14, ok_val F14 T⟩
  let Gtold_row : Df l.prog w K mg b "told_row" 5 ["ratios"] (spTRow K) := ⟨f15, _, mgo a15, k15, b15, ok_trow F15 T Gtold⟩
  obtain ⟨TC, TMk, TKp⟩ := insC (mg := mg) (mgo mct) bigT
  obtain ⟨hme, hE⟩ := Bool.and_eq_true_iff.mp bigE
  obtain ⟨hmo, hpl⟩ := Bool.and_eq_true_iff.mp hE
  have hme := of_decide_eq_true hme
  have hmo := of_decide_eq_true hmo
  have hpl := of_decide_eq_true hpl
  have PTC : PtC K mg Ct := ⟨TC.m, TC.cl, TC.nf _ (by simp), TC.nf _ (by simp), TC.nf _ (by simp)⟩
  obtain ⟨dsT, vsT, b3T⟩ := pt_b3 Ft0
  obtain ⟨gT, bkT⟩ := pt_bk Ft0
  let PT_ : PtM l.prog w K mg b Ct C1 := ⟨PTC, t0, _, ⟨TMk, et0, fn_of_ty tt0, TKp⟩, ok_pti Ft0 T PTC NBadRow (mgn zall) Gis_ratio_row Gis_ascending Glower Gtold_row, pt_b4 Ft0, dsT, vsT, b3T, gT, bkT⟩
  obtain ⟨ICea, IMea, IKea⟩ := insC (mg := mg) (mgo mcea) bigea
  let IN_Nearest : InM l.prog w K mg b Cg "Nearest" Cea ["poly", "error", "bar"] := ⟨ICea, ea0, _, ⟨IMea, eea0, fn_of_ty tea0, IKea⟩, ok_neai Fea0 T ICea PC hpl Gheld, bea0⟩
  obtain ⟨ICeb, IMeb, IKeb⟩ := insC (mg := mg) (mgo mceb) bigeb
  let IN_Barred : InM l.prog w K mg b Cg "Barred" Ceb ["bar"] := ⟨ICeb, eb0, _, ⟨IMeb, eeb0, fn_of_ty teb0, IKeb⟩, ok_bari Feb0 T ICeb PC hpl Gheld, beb0⟩
  obtain ⟨ICec, IMec, IKec⟩ := insC (mg := mg) (mgo mcec) bigec
  let IN_Boundless : InM l.prog w K mg b Cg "Boundless" Cec ["poly", "way"] := ⟨ICec, ec0, _, ⟨IMec, eec0, fn_of_ty tec0, IKec⟩, ok_boui Fec0 T ICec PC hpl Gheld, bec0⟩
  obtain ⟨ICed, IMed, IKed⟩ := insC (mg := mg) (mgo mced) biged
  let IN_Reach : InM l.prog w K mg b Cg "Reach" Ced ["least", "most", "low", "high", "low_tie", "high_tie"] := ⟨ICed, ed0, _, ⟨IMed, eed0, fn_of_ty ted0, IKed⟩, ok_reai Fed0 T ICed PC hpl Gheld, bed0⟩
  let Gerror_of : Df l.prog w K mg b "error_of" 5 ["points", "poly"] (spErr K Cg Ct) := ⟨f16, _, mgo a16, k16, b16, ok_err F16 T (mgn zzip) PTC PC Gover_one_bottom Graised Gvalue_at Glower Glowest⟩
  let G_law_gcd : Df l.prog w K mg b "_law_gcd" 1 ["_law_one", "_law_two"] spGcd := ⟨f17, _, mgo a17, k17, b17, ok_lgcd F17 T⟩
  let G_law_q : Df l.prog w K mg b "_law_q" 2 ["_law_top", "_law_bottom"] spQ := ⟨f18, _, mgo a18, k18, b18, ok_lq F18 G_law_gcd⟩
  let G_law_plus : Df l.prog w K mg b "_law_plus" 3 ["_law_one", "_law_two"] (spL2 rAdd) := ⟨f19, _, mgo a19, k19, b19, ok_lplus F19 G_law_q⟩
  let G_law_minus : Df l.prog w K mg b "_law_minus" 3 ["_law_one", "_law_two"] (spL2 rSub) := ⟨f20, _, mgo a20, k20, b20, ok_lminus F20 G_law_q⟩
  let G_law_times : Df l.prog w K mg b "_law_times" 3 ["_law_one", "_law_two"] (spL2 rMul) := ⟨f21, _, mgo a21, k21, b21, ok_ltimes F21 G_law_q⟩
  let G_law_less : Df l.prog w K mg b "_law_less" 1 ["_law_one", "_law_two"] spLess := ⟨f22, _, mgo a22, k22, b22, ok_lless F22⟩
  let G_law_abs : Df l.prog w K mg b "_law_abs" 1 ["_law_one"] spAbs := ⟨f23, _, mgo a23, k23, b23, ok_labs F23 T⟩
  let G_law_passed : Df l.prog w K mg b "_law_passed" 3 ["_law_pen_here", "_law_ratio_here"] (spPassed K) := ⟨f24, _, mgo a24, k24, b24, ok_passed F24 G_law_draw G_law_pick⟩
  let G_law_ratio : Df l.prog w K mg b "_law_ratio" 3 ["_law_pen_here", "_law_most"] spRatio := ⟨f25, _, mgo a25, k25, b25, ok_lratio F25 G_law_draw G_law_pick G_law_q⟩
  let G_law_lower_one : Df l.prog w K mg b "_law_lower_one" 2 ["_law_some"] (spMin K) := ⟨f26, _, mgo a26, k26, b26, ok_lmin F26 G_law_less⟩
  let G_law_sorted : Df l.prog w K mg b "_law_sorted" 3 ["_law_some"] (spSort K) := ⟨f27, _, mgo a27, k27, b27, ok_sort F27 T mm1 G_law_lower_one⟩
  let G_law_poly : Df l.prog w K mg b "_law_poly" 1 ["_law_numbers"] (spLPoly K) := ⟨f28, _, mgo a28, k28, b28, ok_lpoly F28 T mm1⟩
  let G_law_p_at : Df l.prog w K mg b "_law_p_at" 4 ["_law_one", "_law_point"] spLPA := ⟨f29, _, mgo a29, k29, b29, ok_lpat F29 G_law_plus G_law_times⟩
  let G_law_made_poly : Df l.prog w K mg b "_law_made_poly" 7 ["_law_pen_here", "_law_one"] (spMade K Cg) := ⟨f30, _, mgo a30, k30, b30, ok_made F30 T PM G_law_draw G_law_pick G_law_passed⟩
  let G_law_drawn : Df l.prog w K mg b "_law_drawn" 4 ["_law_pen_here", "_law_degree", "_law_most"] spDrawn := ⟨f31, _, mgo a31, k31, b31, ok_drawn F31 T G_law_draw G_law_ratio G_law_poly⟩
  let G_law_some_points : Df l.prog w K mg b "_law_some_points" 4 ["_law_pen_here", "_law_many", "_law_most"] spSome := ⟨f32, _, mgo a32, k32, b32, ok_some F32 T G_law_draw G_law_pick G_law_ratio G_law_abs G_law_sorted⟩
  let G_law_made_points : Df l.prog w K mg b "_law_made_points" 8 ["_law_pen_here", "_law_some"] (spMadeP Ct) := ⟨f33, _, mgo a33, k33, b33, ok_madep F33 T mm1 PT_ G_law_draw G_law_passed⟩
  let G_law_error_of : Df l.prog w K mg b "_law_error_of" 5 ["_law_some", "_law_poly_here"] spLErr := ⟨f34, _, mgo a34, k34, b34, ok_lerr F34 T (mgn zzip) G_law_times G_law_minus G_law_abs G_law_less G_law_p_at⟩
  have RC : RwC K mg C1 := ⟨mgo m1, xfB_ok (Bool.and_eq_true_iff.mp bigX).1, of_decide_eq_true (Bool.and_eq_true_iff.mp bigX).2, no1_0⟩
  let Y : Yf K mg := ⟨f35, kVf35, dcf35, pmf35, anf35, cdf35, ctf35, ocf35, odf35, slf35, mgo a35, k35, l35, c35, b35⟩
  let G_law_refused_right : Df l.prog w K mg b "_law_refused_right" 10 ["_law_pen_here", "_law_good", "_law_odd", "_law_wrong"] (spRef K Pt) := ⟨f36, _, mgo a36, k36, b36, ok_ref F36 T mm1 PT_ RC cL Pt rfl hTb Y G_law_pick⟩
  exact ok_law F37 T mm1 Pt PM PT_ IN_Nearest IN_Barred IN_Boundless IN_Reach hme hmo G_law_pen G_law_draw G_law_pick G_law_q G_law_some_points G_law_made_points G_law_drawn G_law_made_poly Gerror_of G_law_error_of G_law_refused_right
end Vf

open PySem PySem.W PyProof.Rows
set_option maxRecDepth 100000 in
set_option maxHeartbeats 0 in
theorem PySem.Challenge.cw_nearcurves_k37_points_and_errors_holds : PySem.Challenge.rw_nearcurves_k37_points_and_errors.Holds := by
  w_on; o_law; k_head; (case hw => w_witness2)
  k_fill
  refine Vf.walkT (l := PySem.Challenge.rw_nearcurves_k37_points_and_errors) (n := 63) (k := 11) (C := fun _ => L2.CX0) (x := "_law_script") rfl (by decide) rfl ⟨rfl, by decide, by decide⟩ (by decide +kernel) (fun w h Y => PySem.W.km_in_of Y) ?F (fun _ _ _ _ _ z => z)
  case F =>
    intro w mg fa h Y X G hmg TB
    refine' Vf.all_mk X G hmg TB ?a0 ?l0 ?c0 ?k0 ?a1 ?l1 ?c1 ?k1 ?a2 ?l2 ?c2 ?k2 ?a3 ?l3 ?c3 ?k3 ?a4 ?l4 ?c4 ?k4 ?a5 ?l5 ?c5 ?k5 ?a6 ?l6 ?c6 ?k6 ?a7 ?l7 ?c7 ?k7 ?a8 ?l8 ?c8 ?k8 ?a9 ?l9 ?c9 ?k9 ?a10 ?l10 ?c10 ?k10 ?a11 ?l11 ?c11 ?k11 ?a12 ?l12 ?c12 ?k12 ?a13 ?l13 ?c13 ?k13 ?a14 ?l14 ?c14 ?k14 ?a15 ?l15 ?c15 ?k15 ?a16 ?l16 ?c16 ?k16 ?a17 ?l17 ?c17 ?k17 ?a18 ?l18 ?c18 ?k18 ?a19 ?l19 ?c19 ?k19 ?a20 ?l20 ?c20 ?k20 ?a21 ?l21 ?c21 ?k21 ?a22 ?l22 ?c22 ?k22 ?a23 ?l23 ?c23 ?k23 ?a24 ?l24 ?c24 ?k24 ?a25 ?l25 ?c25 ?k25 ?a26 ?l26 ?c26 ?k26 ?a27 ?l27 ?c27 ?k27 ?a28 ?l28 ?c28 ?k28 ?a29 ?l29 ?c29 ?k29 ?a30 ?l30 ?c30 ?k30 ?a31 ?l31 ?c31 ?k31 ?a32 ?l32 ?c32 ?k32 ?a33 ?l33 ?c33 ?k33 ?a34 ?l34 ?c34 ?k34 ?a35 ?l35 ?c35 ?k35 ?a36 ?l36 ?c36 ?k36 ?a37 ?l37 ?c37 ?k37 ?tl ?tv ?tn ?tr ?aggcd ?aglcm ?m0 ?ei0 ?ti0 ?li0 ?ci0 ?ki0 ?lc0 ?lb0 ?big0 ?m1 ?ei1 ?ti1 ?li1 ?ci1 ?ki1 ?lc1 ?lb1 ?big1 ?mcg ?eg0 ?tg0 ?lg0 ?cg0 ?kg0 ?eg1 ?tg1 ?lg1 ?cg1 ?kg1 ?mct ?et0 ?tt0 ?lt0 ?ct0 ?kt0 ?mcea ?eea0 ?tea0 ?lea0 ?cea0 ?kea0 ?mceb ?eeb0 ?teb0 ?leb0 ?ceb0 ?keb0 ?mcec ?eec0 ?tec0 ?lec0 ?cec0 ?kec0 ?mced ?eed0 ?ted0 ?led0 ?ced0 ?ked0 ?tT ?zint ?zlist ?zlen ?zrange ?zstr ?zisinstance ?zbool ?ztuple ?zabs ?zall ?zzip ?bigT ?bigea ?bigeb ?bigec ?biged ?bigE ?bigX ?bigP
    (case a0 => k_is)
    (case l0 => k_is)
    (case c0 => k_is)
    (case k0 => k_is)
    (case a1 => k_is)
    (case l1 => k_is)
    (case c1 => k_is)
    (case k1 => k_is)
    (case a2 => k_is)
    (case l2 => k_is)
    (case c2 => k_is)
    (case k2 => k_is)
    (case a3 => k_is)
    (case l3 => k_is)
    (case c3 => k_is)
    (case k3 => k_is)
    (case a4 => k_is)
    (case l4 => k_is)
    (case c4 => k_is)
    (case k4 => k_is)
    (case a5 => k_is)
    (case l5 => k_is)
    (case c5 => k_is)
    (case k5 => k_is)
    (case a6 => k_is)
    (case l6 => k_is)
    (case c6 => k_is)
    (case k6 => k_is)
    (case a7 => k_is)
    (case l7 => k_is)
    (case c7 => k_is)
    (case k7 => k_is)
    (case a8 => k_is)
    (case l8 => k_is)
    (case c8 => k_is)
    (case k8 => k_is)
    (case a9 => k_is)
    (case l9 => k_is)
    (case c9 => k_is)
    (case k9 => k_is)
    (case a10 => k_is)
    (case l10 => k_is)
    (case c10 => k_is)
    (case k10 => k_is)
    (case a11 => k_is)
    (case l11 => k_is)
    (case c11 => k_is)
    (case k11 => k_is)
    (case a12 => k_is)
    (case l12 => k_is)
    (case c12 => k_is)
    (case k12 => k_is)
    (case a13 => k_is)
    (case l13 => k_is)
    (case c13 => k_is)
    (case k13 => k_is)
    (case a14 => k_is)
    (case l14 => k_is)
    (case c14 => k_is)
    (case k14 => k_is)
    (case a15 => k_is)
    (case l15 => k_is)
    (case c15 => k_is)
    (case k15 => k_is)
    (case a16 => k_is)
    (case l16 => k_is)
    (case c16 => k_is)
    (case k16 => k_is)
    (case a17 => k_is)
    (case l17 => k_is)
    (case c17 => k_is)
    (case k17 => k_is)
    (case a18 => k_is)
    (case l18 => k_is)
    (case c18 => k_is)
    (case k18 => k_is)
    (case a19 => k_is)
    (case l19 => k_is)
    (case c19 => k_is)
    (case k19 => k_is)
    (case a20 => k_is)
    (case l20 => k_is)
    (case c20 => k_is)
    (case k20 => k_is)
    (case a21 => k_is)
    (case l21 => k_is)
    (case c21 => k_is)
    (case k21 => k_is)
    (case a22 => k_is)
    (case l22 => k_is)
    (case c22 => k_is)
    (case k22 => k_is)
    (case a23 => k_is)
    (case l23 => k_is)
    (case c23 => k_is)
    (case k23 => k_is)
    (case a24 => k_is)
    (case l24 => k_is)
    (case c24 => k_is)
    (case k24 => k_is)
    (case a25 => k_is)
    (case l25 => k_is)
    (case c25 => k_is)
    (case k25 => k_is)
    (case a26 => k_is)
    (case l26 => k_is)
    (case c26 => k_is)
    (case k26 => k_is)
    (case a27 => k_is)
    (case l27 => k_is)
    (case c27 => k_is)
    (case k27 => k_is)
    (case a28 => k_is)
    (case l28 => k_is)
    (case c28 => k_is)
    (case k28 => k_is)
    (case a29 => k_is)
    (case l29 => k_is)
    (case c29 => k_is)
    (case k29 => k_is)
    (case a30 => k_is)
    (case l30 => k_is)
    (case c30 => k_is)
    (case k30 => k_is)
    (case a31 => k_is)
    (case l31 => k_is)
    (case c31 => k_is)
    (case k31 => k_is)
    (case a32 => k_is)
    (case l32 => k_is)
    (case c32 => k_is)
    (case k32 => k_is)
    (case a33 => k_is)
    (case l33 => k_is)
    (case c33 => k_is)
    (case k33 => k_is)
    (case a34 => k_is)
    (case l34 => k_is)
    (case c34 => k_is)
    (case k34 => k_is)
    (case a35 => k_is)
    (case l35 => k_is)
    (case c35 => k_is)
    (case k35 => k_is)
    (case a36 => k_is)
    (case l36 => k_is)
    (case c36 => k_is)
    (case k36 => k_is)
    (case a37 => k_is)
    (case l37 => k_is)
    (case c37 => k_is)
    (case k37 => k_is)
    (case tl => k_is)
    (case tv => first | rfl | k_is)
    (case tn => first | kernel_rfl | k_is)
    (case tr => decide +kernel)
    (case aggcd => k_is)
    (case aglcm => k_is)
    (case m0 => k_is)
    (case ei0 => k_is)
    (case ti0 => k_is)
    (case li0 => k_is)
    (case ci0 => k_is)
    (case ki0 => k_is)
    (case lc0 => k_is)
    (case lb0 => decide +kernel)
    (case big0 => kernel_rfl)
    (case m1 => k_is)
    (case ei1 => k_is)
    (case ti1 => k_is)
    (case li1 => k_is)
    (case ci1 => k_is)
    (case ki1 => k_is)
    (case lc1 => k_is)
    (case lb1 => decide +kernel)
    (case big1 => kernel_rfl)
    (case mcg => k_is)
    (case eg0 => k_is)
    (case tg0 => k_is)
    (case lg0 => k_is)
    (case cg0 => k_is)
    (case kg0 => k_is)
    (case eg1 => k_is)
    (case tg1 => k_is)
    (case lg1 => k_is)
    (case cg1 => k_is)
    (case kg1 => k_is)
    (case mct => k_is)
    (case et0 => k_is)
    (case tt0 => k_is)
    (case lt0 => k_is)
    (case ct0 => k_is)
    (case kt0 => k_is)
    (case mcea => k_is)
    (case eea0 => k_is)
    (case tea0 => k_is)
    (case lea0 => k_is)
    (case cea0 => k_is)
    (case kea0 => k_is)
    (case mceb => k_is)
    (case eeb0 => k_is)
    (case teb0 => k_is)
    (case leb0 => k_is)
    (case ceb0 => k_is)
    (case keb0 => k_is)
    (case mcec => k_is)
    (case eec0 => k_is)
    (case tec0 => k_is)
    (case lec0 => k_is)
    (case cec0 => k_is)
    (case kec0 => k_is)
    (case mced => k_is)
    (case eed0 => k_is)
    (case ted0 => k_is)
    (case led0 => k_is)
    (case ced0 => k_is)
    (case ked0 => k_is)
    (case tT => k_is)
    (case zint => k_is)
    (case zlist => k_is)
    (case zlen => k_is)
    (case zrange => k_is)
    (case zstr => k_is)
    (case zisinstance => k_is)
    (case zbool => k_is)
    (case ztuple => k_is)
    (case zabs => k_is)
    (case zall => k_is)
    (case zzip => k_is)
    (case bigT => kernel_rfl)
    (case bigea => kernel_rfl)
    (case bigeb => kernel_rfl)
    (case bigec => kernel_rfl)
    (case biged => kernel_rfl)
    (case bigE => kernel_rfl)
    (case bigX => kernel_rfl)
    (case bigP => kernel_rfl)
