import PyProof.Rows.All
import Wide.All
import OpenK.AllK
import Wide.FinOn
import HandS.ForMost
import HandS.ForExc
import HandS.EndBits
import HandS.EndTab
import HandS.Lambda
import HandS.ExcInit
import HandS.ExcValue
import HandS.ExcIs
import HandS.IsInst
import PyProof.ReprLen
import PyProof.StrLawsRepr
import HandS.TryMany
import HandS.ExcField
import HandS.CallLocal
import HandS.Gcd
import HandS.Wide
import KE.DataEq
import HandS.SlotsOwn
import HandS.WordsExc
import HandS.Zip
import KE.GoesZip
import KE.GoesMore
import KE.GoesEnum
import HandS.TupAny
import HandS.TupMul
import PyProof.StrOps2
import KE.IntTextLaws
import KE.KIntText
import KE.IntTextText
import HandS.FStr
import HandS.Style
import HandS.More
import PySem.Challenge.RW_nearcurves_k07_whole_texts_of_polynomial
set_option Elab.async false
set_option linter.all false
set_option maxRecDepth 100000
set_option maxHeartbeats 4000000
/-! common: data with dicts, repr, a promise where no guard stands, the entry -/
namespace Vf
open PySem PySem.Spec PyProof.Rows L2

/-- a key as data -/
def kD : Key → PyData
  | .inl i => .int i
  | .inr x => .str x

mutual
/-- the value v, read in H, is the data d (dicts too) -/
inductive Dt (K : PySem.W.Frag) (H : Hp) : V → PyData → Prop
  | non : Dt K H .non .none
  | bl (b : Bool) : Dt K H (.bl b) (.bool b)
  | int (i : Int) : Dt K H (.int i) (.int i)
  | str (x : Str) : Dt K H (.str x) (.str x)
  | lst {a : Addr} {vs : List V} {ds : List PyData} : SqL K H a vs → Dts K H vs ds → Dt K H (.ref a) (.list ds)
  | tup {a : Addr} {vs : List V} {ds : List PyData} : SqT K H a vs → Dts K H vs ds → Dt K H (.ref a) (.tuple ds)
  | dct {a : Addr} {kvs : List (Key × V)} {ds : List PyData} : H a = some (.dK kvs) → Dts K H (kvs.map (·.2)) ds → Dt K H (.ref a) (.dict ((kvs.map fun p => kD p.1).zip ds))
inductive Dts (K : PySem.W.Frag) (H : Hp) : List V → List PyData → Prop
  | nil : Dts K H [] []
  | cons {v : V} {vs : List V} {d : PyData} {ds : List PyData} : Dt K H v d → Dts K H vs ds → Dts K H (v :: vs) (d :: ds)
end

theorem Dts.len {K : PySem.W.Frag} {H : Hp} : ∀ {vs : List V} {ds : List PyData}, Dts K H vs ds → vs.length = ds.length
  | _, _, .nil => rfl
  | _, _, .cons _ t => congrArg (· + 1) t.len
theorem Dts.at {K : PySem.W.Frag} {H : Hp} : ∀ {vs : List V} {ds : List PyData} {i : Nat} {v : V}, Dts K H vs ds → vs[i]? = some v → ∃ d, ds[i]? = some d ∧ Dt K H v d
  | _, _, _, _, .nil, e => by simp at e
  | _, _, 0, _, .cons h _, e => by simp at e; subst e; exact ⟨_, rfl, h⟩
  | _, _, i + 1, v, .cons _ t, e => by
    obtain ⟨d, h1, h2⟩ := t.at (i := i) (v := v) (by simpa using e)
    exact ⟨d, by simpa using h1, h2⟩
theorem Dts.app {K : PySem.W.Frag} {H : Hp} : ∀ {vs ws : List V} {ds es : List PyData}, Dts K H vs ds → Dts K H ws es → Dts K H (vs ++ ws) (ds ++ es)
  | _, _, _, _, .nil, h => h
  | _, _, _, _, .cons a t, h => .cons a (t.app h)
theorem Dts.take {K : PySem.W.Frag} {H : Hp} : ∀ {vs : List V} {ds : List PyData} (n : Nat), Dts K H vs ds → Dts K H (vs.take n) (ds.take n)
  | _, _, 0, _ => .nil
  | _, _, _ + 1, .nil => .nil
  | _, _, n + 1, .cons a t => .cons a (t.take n)

/-- all that is tracked in H stands in H' -/
theorem same_sqL {K : PySem.W.Frag} {H H' : Hp} {a : Addr} {xs : List V} (e : Same H H') (h : SqL K H a xs) : SqL K H' a xs := e.seq h
theorem same_sqT {K : PySem.W.Frag} {H H' : Hp} {a : Addr} {xs : List V} (e : Same H H') (h : SqT K H a xs) : SqT K H' a xs := by
  rcases h with (h | ⟨o, h⟩) | h
  · exact Or.inl (Or.inl (e a _ h))
  · exact Or.inl (Or.inr ⟨o, e a _ h⟩)
  · exact Or.inr h
mutual
theorem Dt.mono {K : PySem.W.Frag} {H H' : Hp} (e : Same H H') : ∀ {v : V} {d : PyData}, Dt K H v d → Dt K H' v d
  | _, _, .non => .non
  | _, _, .bl b => .bl b
  | _, _, .int i => .int i
  | _, _, .str x => .str x
  | _, _, .lst h1 h2 => .lst (same_sqL e h1) (Dts.mono e h2)
  | _, _, .tup h1 h2 => .tup (same_sqT e h1) (Dts.mono e h2)
  | _, _, .dct h1 h2 => .dct (e _ _ h1) (Dts.mono e h2)
theorem Dts.mono {K : PySem.W.Frag} {H H' : Hp} (e : Same H H') : ∀ {vs : List V} {ds : List PyData}, Dts K H vs ds → Dts K H' vs ds
  | _, _, .nil => .nil
  | _, _, .cons h1 h2 => .cons (Dt.mono e h1) (Dts.mono e h2)
end

/-- the dict of modules stands in the base -/
def M1 (b : Heap) : Prop := ∃ o es ep, b.get? sysModules = some o ∧ o.data = .dict es ep

theorem key_reads {h : Heap} {P : Program} {w : World} : ∀ {es : List DictEntry} {vs : List (Key × Value)} {ps : List (Key × V)}, PySem.Pairs (mixKind P w) es vs → KV ps vs →
    ReadsAll h (es.map (·.key)) (ps.map fun p => kD p.1) [] ∧ Vals (ps.map (·.2)) (es.map (·.val))
  | _, _, _, .nil, .nil => ⟨.nil, .nil⟩
  | _, _, _, .cons k1 k2 t, .cons r1 r2 => by
    obtain ⟨g1, g2⟩ := key_reads (h := h) t r2
    obtain ⟨e1, e2⟩ := r1
    refine ⟨?_, .cons (by have z := e2; rw [← k2] at z; exact z) g2⟩
    rw [← e1] at k1
    rename_i e kv es' kvs' p ps'
    have k3 : keyIs p.1 e.key = true := k1
    rcases keyIs_shape k3 with ⟨i, t, a1, a2⟩ | ⟨x, t, a1, a2⟩
    · have z : Reads h e.key (kD p.1) [] := by rw [a1, a2]; exact .int i t
      exact .cons (as := []) (bs := []) z g1
    · have z : Reads h e.key (kD p.1) [] := by rw [a1, a2]; exact .str x t
      exact .cons (as := []) (bs := []) z g1
theorem zip_fst {α β : Type} : ∀ {l : List α} {r : List β}, l.length = r.length → (l.zip r).map (·.1) = l
  | [], _, _ => by simp
  | a :: l, [], h => by simp at h
  | a :: l, b :: r, h => by
    rw [List.zip_cons_cons, List.map_cons, zip_fst (by simpa using h)]
theorem zip_snd {α β : Type} : ∀ {l : List α} {r : List β}, l.length = r.length → (l.zip r).map (·.2) = r
  | [], [], _ => rfl
  | [], b :: r, h => by simp at h
  | a :: l, [], h => by simp at h
  | a :: l, b :: r, h => by
    rw [List.zip_cons_cons, List.map_cons, zip_snd (by simpa using h)]

section
variable {X : Cx} {pins : List (Addr × Obj)} {σ : L2.St} {H : Hp} {s : Shared}
theorem not_sys (I : Inv X pins σ H s) (m : M1 X.base) {a : Addr} {o : Obj} {vs : Array Value} {n : Nat} (e : s.heap.get? a = some o) (d : o.data = .seq vs n) : sysModules ≠ a := fun z => by
  obtain ⟨o1, es, ep, e1, e2⟩ := m
  have q := I.bk _ _ e1
  rw [z, e] at q
  cases q
  rw [d] at e2
  cases e2
mutual
theorem Dt.reads (I : Inv X pins σ H s) (m : M1 X.base) : ∀ {v : V} {d : PyData} {u : Value}, Dt X.K H v d → RelV v u → ∃ as, Reads s.heap u d as ∧ sysModules ∉ as
  | _, _, u, .non, r => by
    obtain rfl : u = Value.none := r
    exact ⟨[], .none, by simp⟩
  | _, _, u, .bl b, r => by
    obtain rfl : u = Value.bool b := r
    exact ⟨[], .bool b, by simp⟩
  | _, _, u, .int i, r => by
    obtain ⟨t, rfl⟩ := r
    exact ⟨[], .int i t, by simp⟩
  | _, _, u, .str x, r => by
    obtain ⟨t, rfl⟩ := r
    exact ⟨[], .str x t, by simp⟩
  | _, _, u, .lst (a := a) h1 h2, r => by
    obtain rfl : u = Value.ref a := r
    obtain ⟨its, rv, ⟨o, n, e1, e2, e3, e4⟩, hz⟩ := I.list h1
    obtain ⟨as, ra, na⟩ := Dts.reads I m h2 rv
    refine ⟨_, .list e1 e2 e4 (by simpa using ra), fun z => ?_⟩
    rcases List.mem_cons.mp z with z | z
    · exact not_sys I m e1 e4 z
    · exact na z
  | _, _, u, .tup (a := a) h1 h2, r => by
    obtain rfl : u = Value.ref a := r
    obtain ⟨its, rv, ⟨o, e1, e2, n, e4⟩, hz⟩ := I.tuple h1
    obtain ⟨as, ra, na⟩ := Dts.reads I m h2 rv
    exact ⟨_, .tuple e1 e2 e4 (by simpa using ra), na⟩
  | _, _, u, .dct (a := a) (kvs := ps) (ds := ds) h1 h2, r => by
    obtain rfl : u = Value.ref a := r
    obtain ⟨hz, hs, vs, kv, o, es, ep, e1, ex, e2, hk, hp, hn⟩ := dk_of I.hok h1
    obtain ⟨g1, g2⟩ := key_reads (h := s.heap) hp kv
    obtain ⟨bs, rb, nb⟩ := Dts.reads I m h2 g2
    have hl : (ps.map fun p => kD p.1).length = ds.length := by
      have z := h2.len
      rw [List.length_map] at z ⊢
      exact z
    refine ⟨a :: [] ++ bs, .dict e1 ex.1 e2 (by rw [zip_fst hl]; exact g1) (by rw [zip_snd hl]; exact rb), fun z => ?_⟩
    rcases List.mem_cons.mp z with z | z
    · rw [z] at hs
      simp at hs
    · exact nb z
theorem Dts.reads (I : Inv X pins σ H s) (m : M1 X.base) : ∀ {vs : List V} {ds : List PyData} {us : List Value}, Dts X.K H vs ds → Vals vs us → ∃ as, ReadsAll s.heap us ds as ∧ sysModules ∉ as
  | _, _, _, .nil, .nil => ⟨[], .nil, by simp⟩
  | _, _, _, .cons h1 h2, .cons r1 r2 => by
    obtain ⟨as, q1, n1⟩ := Dt.reads I m h1 r1
    obtain ⟨bs, q2, n2⟩ := Dts.reads I m h2 r2
    refine ⟨as ++ bs, .cons q1 q2, fun z => ?_⟩
    rcases List.mem_append.mp z with z | z
    · exact n1 z
    · exact n2 z
end
end

/-- the sizes of the parts of a text of data -/
def small : PyData → Prop := fun d => d.showable = true ∧ d.depth ≤ 64 ∧ d.shown.length ≤ sizeLine
/-- repr of data, where no guard stands -/
theorem call_reprD {X : Cx} {k : Nat} (hg : X.A.guards = some []) (hr : Room k X.A) (m : M1 X.base) :
    CallR X (.builtin "repr") (fun xs H Q => ∃ v d, xs = [v] ∧ Dt X.K H v d ∧ small d ∧ Q (.str d.shown) H) := by
  intro pins s σ H xs us Q I r h
  obtain ⟨v, d, rfl, hd, ⟨hs, hz, hl⟩, q⟩ := h
  obtain ⟨u, rfl, ru⟩ := vals1 r
  obtain ⟨as, rd, na⟩ := Dt.reads I m hd ru
  cases rd with
  | none => exact PySem.P.repr_of_none ⟨.str _, H, I.tok _, ⟨_, rfl⟩, by simpa only [PyData.shown] using q⟩
  | bool b => exact PySem.P.repr_of_bool ⟨.str _, H, I.tok _, ⟨_, rfl⟩, by simpa only [PyData.shown] using q⟩
  | int i t => exact PySem.P.repr_of_int (by simpa [PyData.showable] using hs) ⟨.str _, H, I.tok _, ⟨_, rfl⟩, by simpa only [PyData.shown] using q⟩
  | str x t => exact PySem.P.repr_of_str ⟨.str _, H, I.tok _, ⟨_, rfl⟩, by simpa only [PyData.shown] using q⟩ (by simpa only [PyData.shown] using hl)
  | list a1 a2 a3 a4 => exact repr_of_reads' (.list a1 a2 a3 a4) hs (fun _ => na) hg (by have := hr.un; omega) (fun _ _ e => e) (fun h' u tk hk => ⟨.str _, H, I.kept hk, ⟨_, rfl⟩, q⟩) hl
  | tuple a1 a2 a3 a4 => exact repr_of_reads' (.tuple a1 a2 a3 a4) hs (fun _ => na) hg (by have := hr.un; omega) (fun _ _ e => e) (fun h' u tk hk => ⟨.str _, H, I.kept hk, ⟨_, rfl⟩, q⟩) hl
  | dict a1 a2 a3 a4 a5 => exact repr_of_reads' (.dict a1 a2 a3 a4 a5) hs (fun _ => na) hg (by have := hr.un; omega) (fun _ _ e => e) (fun h' u tk hk => ⟨.str _, H, I.kept hk, ⟨_, rfl⟩, q⟩) hl

/-! ### a promise that is asked only where no guard stands -/
structure FnG (P : Program) (w : World) (K : PySem.W.Frag) (mg : Str → Option Value) (base : Heap) (C : CXT) (k : Nat) (f : Addr) (fd : FuncData) (ps : List Str) (sp : Sp) : Prop where
  arity : ∀ vs H Q E, sp vs H Q E → vs.length = ps.length
  go : ∀ {A : Around} {out : List Env} {s : Shared} {H : Hp} {args : Args} {us : List Value} {vs : List V} {Q : VK} {E : XK}, A.guards = some [] → Room k A → Env0 P w K mg base A out s H → BindsTo s fd args (ps.zip us) →
    Vals vs us → sp vs H Q E → codeAny (model P w) A (.call (.ref f) args) (CR C out P w H s Q E) s
theorem fnG_of {C : CXT} {P : Program} {w : World} {K : PySem.W.Frag} {mg : Str → Option Value} {base : Heap} {x qual : Str} {st : Stmt} {f : Addr} {fd : FuncData} {N ps : List Str} {k : Nat} {sp : Sp} (F : Fun K x qual st f fd) (S : FnScope N ps (defScope st))
    (ar : ∀ vs H Q E, sp vs H Q E → vs.length = ps.length)
    (body : ∀ (cdv : Value) (A : Around) (out : List Env) (s : Shared) (H : Hp) (vs : List V) (Q : VK) (E : XK), A.guards = some [] → Room k (A.deeper (envOfC qual (defScope st) s.heap.objs.size f cdv)) → PySem.W.codeIn K cdv qual = true → sp vs H Q E →
      ∃ t, PSs (cxOf C P w K mg base N qual (defScope st) f cdv A out s H E) (defBody st) t ∧ t { nx := fun _ H' => Q .non H', rt := Q } (start N vs) H) : FnG P w K mg base C (k + 1) f fd ps sp := by
  obtain ⟨oc, od, kV, doc, pm, an, cdv, ct, osl, e, lk, hcd⟩ := F.ex
  subst e
  refine ⟨ar, fun {A out s H args us vs Q E} hgu hr e0 hb r h => ?_⟩
  exact LamX.run_ofS lk hcd S hr e0 hb r (ar _ _ _ _ h) fun hr' => body cdv A out s H vs Q E hgu hr' hcd h

theorem fnG_of0 {P : Program} {w : World} {K : PySem.W.Frag} {mg : Str → Option Value} {base : Heap} {x qual : Str} {st : Stmt} {f : Addr} {fd : FuncData} {N ps : List Str} {k : Nat} {sp : Sp} (F : Fun K x qual st f fd) (S : FnScope N ps (defScope st))
    (ar : ∀ vs H Q E, sp vs H Q E → vs.length = ps.length)
    (body : ∀ (cdv : Value) (A : Around) (out : List Env) (s : Shared) (H : Hp) (vs : List V) (Q : VK) (E : XK), A.guards = some [] → Room k (A.deeper (envOfC qual (defScope st) s.heap.objs.size f cdv)) → PySem.W.codeIn K cdv qual = true → sp vs H Q E →
      ∃ t, PSs (cxOf CX0 P w K mg base N qual (defScope st) f cdv A out s H E).nox (defBody st) t ∧ t { nx := fun _ H' => Q .non H', rt := Q } (start N vs) H) : FnG P w K mg base CX0 (k + 1) f fd ps sp :=
  fnG_of F S ar fun cdv A out s H vs Q E h1 h2 h3 h4 => by
    obtain ⟨t, z, q⟩ := body cdv A out s H vs Q E h1 h2 h3 h4
    exact ⟨t, z.nox, q⟩

/-! ### the entry -/
/-- what is tracked where the law is called: the script, the tables of code objects -/
structure Fit (P : Program) (w : World) (K : PySem.W.Frag) (h : Heap) (cs : List (Addr × Addr)) (a : Addr) (ns : List Int) (H : Hp) : Prop where
  tabs : ∀ p ∈ cs, H p.2 = some (.tbl #[])
  scr : SqL K H a (ns.map V.int)
  held : HOk P w H h
  only : ∀ b u, H b = some u → (b = a ∧ K.lookup a = none ∧ ∃ o xs, u = .frz o (.lst xs)) ∨ ((∃ p ∈ cs, b = p.2) ∧ u = .tbl #[])
def isTab (cs : List (Addr × Addr)) (b : Addr) : Bool := cs.any fun p => p.2 == b
theorem isTab_mem {cs : List (Addr × Addr)} {b : Addr} (h : isTab cs b = true) : ∃ p ∈ cs, b = p.2 := by
  obtain ⟨p, hp, e⟩ := List.any_eq_true.mp h
  exact ⟨p, hp, (beq_iff_eq.mp e).symm⟩
theorem isTab_of {cs : List (Addr × Addr)} {p : Addr × Addr} (h : p ∈ cs) : isTab cs p.2 = true := List.any_eq_true.mpr ⟨p, h, beq_self_eq_true _⟩
/-- the heap as it is told at the entry -/
def entryH (t : Bool) (o : Obj) (ns : List Int) (cs : List (Addr × Addr)) (a : Addr) : Hp := fun b =>
  if isTab cs b = true then some (.tbl #[]) else if t = true ∧ b = a then some (.frz o (.lst (ns.map V.int))) else none
theorem fit_ex {P : Program} {w : World} {K : PySem.W.Frag} {h : Heap} {cs : List (Addr × Addr)} {a : Addr} {vs : List Value} {ns : List Int} (hK : K.In h) (hT : ∀ p ∈ cs, h.get? p.2 = some { cls := .none, data := .fields #[] })
    (ha : h.get? a = some { cls := .type "list", data := .seq vs.toArray }) (hi : IntsAre vs ns) (hl : ns.length ≤ sizeLine) : ∃ H, Fit P w K h cs a ns H := by
  have rv := vals_ints hi
  have nt : isTab cs a = false := by
    cases e : isTab cs a with
    | false => rfl
    | true =>
      obtain ⟨p, hp, e2⟩ := isTab_mem e
      have q := hT p hp
      rw [← e2, ha] at q
      cases q
  have hl2 : (ns.map V.int).length ≤ sizeLine := by rw [List.length_map]; exact hl
  cases hk : K.lookup a with
  | some o =>
    have q := hK a o hk
    rw [ha] at q
    have q2 := Option.some.inj q
    refine ⟨entryH false { cls := .type "list", data := .seq vs.toArray } ns cs a, fun p hp => if_pos (isTab_of hp), ?_, fun b u e => ?_, fun b u e => ?_⟩
    · refine Or.inr ⟨o, vs.toArray, 0, hk, by rw [← q2], by rw [← q2], by rw [← q2], ?_, by simpa using rv⟩
      rw [List.size_toArray, hi.length]
      exact hl
    all_goals
      unfold entryH at e
      by_cases t : isTab cs b = true
      · rw [if_pos t] at e
        obtain ⟨p, hp, e2⟩ := isTab_mem t
        cases e
        first
          | (rw [e2]; exact hT p hp)
          | exact Or.inr ⟨⟨p, hp, e2⟩, rfl⟩
      · rw [if_neg t, if_neg (fun z => Bool.false_ne_true z.1)] at e
        cases e
  | none =>
    refine ⟨entryH true { cls := .type "list", data := .seq vs.toArray } ns cs a, fun p hp => if_pos (isTab_of hp), ?_, fun b u e => ?_, fun b u e => ?_⟩
    · refine Or.inl (Or.inr ⟨{ cls := .type "list", data := .seq vs.toArray }, ?_⟩)
      unfold entryH
      rw [if_neg (by rw [nt]; decide), if_pos ⟨rfl, rfl⟩]
    all_goals
      unfold entryH at e
      by_cases t : isTab cs b = true
      · rw [if_pos t] at e
        obtain ⟨p, hp, e2⟩ := isTab_mem t
        cases e
        first
          | (rw [e2]; exact hT p hp)
          | exact Or.inr ⟨⟨p, hp, e2⟩, rfl⟩
      · rw [if_neg t] at e
        by_cases ba : b = a
        · rw [if_pos ⟨rfl, ba⟩] at e
          cases e
          first
            | (rw [ba]; exact ⟨ha, hl2, vs, _, rv, ha⟩)
            | exact Or.inl ⟨ba, hk, _, _, rfl⟩
        · rw [if_neg (fun z => ba z.2)] at e
          cases e
/-- the law's call, from its promise where no guard stands -/
theorem law_enter {P : Program} {w : World} {K : PySem.W.Frag} {mg mb : Str → Option Value} {C : CXT} {k : Nat} {fa a : Addr} {cs : List (Addr × Addr)} {fd : FuncData} {x : Str} {sp : Sp} {s1 : Shared} {vs : List Value} {ns : List Int}
    (hK : K.In s1.heap) (hG : s1.heap.Ns mainGlobals mg) (hB : s1.heap.Ns builtinsNs mb) (hBB : ∀ x : Str, x ≠ "__name__" → mb x = bootBuiltins x) (hL : s1.heap.NoLimit) (hg : s1.gens = #[])
    (hT : ∀ p ∈ cs, s1.heap.get? p.2 = some { cls := .none, data := .fields #[] }) (nT : ∀ p ∈ cs, K.lookup p.2 = none) (hC : ∀ p ∈ cs, PySem.W.CodeHd s1.heap p.1 p.2)
    (hM : ∃ (bm : Addr) (ob : Obj), mg "__builtins__" = some (.ref bm) ∧ bm ≠ builtinsNs ∧ s1.heap.get? bm = some ob ∧ ob.cls = .type "module" ∧ ob.dict = some builtinsNs ∧ ob.data = .plain)
    (hs : M1 s1.heap) (ha : s1.heap.get? a = some { cls := .type "list", data := .seq vs.toArray }) (hi : IntsAre vs ns) (hl : ns.length ≤ sizeLine) (hr : Room k callerA)
    (F : ∀ b : Heap, K.In b → b.Ns mainGlobals mg → M1 b → (∀ p ∈ cs, LamX.TabB b mg p.1 p.2) → FnG P w K mg b C k fa fd [x] sp) (bind : ∀ (s : Shared) (u : Value), BindsTo s fd ⟨[u], []⟩ [(x, u)])
    (hsp : ∀ H : Hp, (∀ p ∈ cs, H p.2 = some (.tbl #[])) → SqL K H a (ns.map V.int) → sp [.ref a] H (fun v _ => v = .bl true) E0)
    (hE : ∀ H e s', C [] H s1 E0 e s' → False) :
    codeAny (model P w) callerA (.call (.ref fa) ⟨[.ref a], []⟩) (fun r s' => r = .ok (.ret (.bool true)) ∧ OldK s1.heap s'.heap ∧ s'.os = s1.os ∧ AllBare s'.gens) s1 := by
  obtain ⟨H, ft⟩ := fit_ex (P := P) (w := w) hK hT ha hi hl
  -- an object of neither kind is not tracked
  have un : ∀ {b : Addr} {o : Obj}, s1.heap.get? b = some o → (∀ us n, o.data ≠ .seq us n) → o.data ≠ .fields #[] → H b = none := by
    intro b o e n1 n2
    cases q : H b with
    | none => rfl
    | some u =>
      exfalso
      rcases ft.only b u q with ⟨z, _⟩ | ⟨⟨p, hp, z⟩, _⟩
      · rw [z, ha] at e
        cases e
        exact n1 _ _ rfl
      · rw [z, hT p hp] at e
        cases e
        exact n2 rfl
  have inB : ∀ {b : Addr} {o : Obj}, s1.heap.get? b = some o → (∀ us n, o.data ≠ .seq us n) → o.data ≠ .fields #[] → (hidT s1.heap H).get? b = some o := fun e n1 n2 => hidT_get e (un e n1 n2)
  have nsB : ∀ {b : Addr} {m : Str → Option Value}, s1.heap.Ns b m → (hidT s1.heap H).Ns b m := by
    intro b m ⟨o, es, ep, e, d, r⟩
    refine ⟨o, es, ep, inB e (fun us n z => ?_) (fun z => ?_), d, r⟩ <;> rw [d] at z <;> cases z
  have kB : K.In (hidT s1.heap H) := fun b o e => by
    refine hidT_get (hK b o e) ?_
    cases q : H b with
    | none => rfl
    | some u =>
      exfalso
      rcases ft.only b u q with ⟨z, n, _⟩ | ⟨⟨p, hp, z⟩, _⟩
      · rw [z, n] at e
        cases e
      · rw [z, nT p hp] at e
        cases e
  have mB : M1 (hidT s1.heap H) := by
    obtain ⟨o, es, ep, e, d⟩ := hs
    refine ⟨o, es, ep, inB e (fun us n z => ?_) (fun z => ?_), d⟩ <;> rw [d] at z <;> cases z
  have tB : ∀ p ∈ cs, LamX.TabB (hidT s1.heap H) mg p.1 p.2 := fun p hp => by
    obtain ⟨o, us, file, tf, flags, tg, inF, text, tt, c1, c2, c3, c4, c5, c6, c7, c8, c9, c10⟩ := hC p hp
    obtain ⟨bm, ob, d1, d2, d3, d4, d5, d6⟩ := hM
    have tp := hT p hp
    refine ⟨⟨o, us, file, tf, flags, tg, inF, text, tt, inB c1 (fun us n z => ?_) (fun z => ?_), c2, c3, c4, c5, c6, c7, c8, c9, c10⟩, ⟨bm, ob, d1, d2, fun z => ?_, fun z => ?_, inB d3 (fun us n z => ?_) (fun z => ?_), d4, d5, d6⟩, fun z => ?_⟩
    · rw [c3] at z
      cases z
    · rw [c3] at z
      cases z
      simp at c4
    · obtain ⟨o2, es, ep, e, d, _⟩ := hG
      rw [z, e] at d3
      cases d3
      rw [d] at d6
      cases d6
    · rw [z, tp] at d3
      cases d3
      cases d6
    · rw [d6] at z
      cases z
    · rw [d6] at z
      cases z
    · obtain ⟨o2, es, ep, e, d, _⟩ := hG
      rw [z, tp] at e
      cases e
      cases d
  have e0 : Env0 P w K mg (hidT s1.heap H) callerA [] s1 H := {
    frames := rfl
    mod := ⟨kB, nsB hG, ⟨mb, nsB hB, hBB⟩, let ⟨mc, z1, z2⟩ := hL; ⟨mc, nsB z1, z2⟩⟩
    bs := fun b o e => of_hidT e
    bsz := Nat.le_of_eq (hidT_size _ _)
    funs := trivial
    frf := fun b hb => nomatch (show b ∈ ([] : List Addr) from hb)
    hok := ft.held
    bare := .of_eq hg }
  refine codeAny_mono ((F _ kB (nsB hG) mB tB).go (us := [.ref a]) (vs := [.ref a]) rfl hr e0 (bind s1 _) (.cons rfl .nil) (hsp H ft.tabs ft.scr)) fun r s' h => ?_
  match r, h with
  | .error e, h => exact (hE H e s' h).elim
  | .ok .next, h => exact h.elim
  | .ok .brk, h => exact h.elim
  | .ok .cont, h => exact h.elim
  | .ok (.ret u), ⟨v, H', os, bare, U, held', rv, ev⟩ =>
    have ev2 : v = .bl true := ev
    rw [ev2] at rv
    obtain rfl : u = Value.bool true := rv
    have tab' : ∀ p ∈ cs, ∃ more : Array Value, s'.heap.get? p.2 = some { cls := .none, data := .fields more } := fun p hp => by
      obtain ⟨more, z⟩ := U.tbls p.2 #[] (ft.tabs p hp)
      exact ⟨_, held' _ _ z⟩
    have old : ∀ b o, isTab cs b = false → s1.heap.get? b = some o → s'.heap.get? b = some o := fun b o nb e => by
      cases q : H b with
      | none => exact U.keep b o e q (fun z => nomatch (show b ∈ ([] : List Addr) from z)) (fun z => nomatch z)
      | some y =>
        rcases ft.only b y q with ⟨_, _, ob, xs, z⟩ | ⟨⟨p, hp, z⟩, _⟩
        · rw [z] at q
          have g1 := (ft.held b _ q).1
          have g2 := (held' b _ (U.frzs b ob _ q)).1
          rw [e] at g1
          cases g1
          exact g2
        · rw [z, isTab_of hp] at nb
          cases nb
    refine ⟨rfl, ⟨fun b o e => ?_, fun b o e => ?_⟩, os, bare⟩
    · cases nb : isTab cs b with
      | false => exact .inl (old b o nb e)
      | true =>
        obtain ⟨p, hp, z⟩ := isTab_mem nb
        obtain ⟨more, hm⟩ := tab' p hp
        rw [z] at e ⊢
        rw [hT p hp] at e
        cases e
        exact .inr (.inl ⟨((hC p hp).tab (hT p hp)).isCodeTable, rfl, #[], more, rfl, by rw [Array.empty_append]; exact hm⟩)
    · cases nb : isTab cs b with
      | false => exact ⟨o, old b o nb e⟩
      | true =>
        obtain ⟨p, hp, z⟩ := isTab_mem nb
        obtain ⟨more, hm⟩ := tab' p hp
        rw [z]
        exact ⟨_, hm⟩
end Vf

set_option maxRecDepth 100000
set_option maxHeartbeats 4000000
/-! exceptions held as values -/
namespace Vf
open PySem PySem.Spec PyProof.Rows L2
section
open PySem.W PySem.Calls
variable {prog : Program} {w : World} {K : Frag} {x D : Addr} {ox : Obj} {od : Option Obj}
theorem bound_any {C : Addr} {nm : Str} {a g : Value} (c : (clsIn K C).isSome = true) (fa : findIn K (.ref C) nm = some (some a)) (fg : specialIn K a "__get__" = some (some g)) (ft : takesIn K a = some true) : findObj K C od nm = some (.bind g a) := by
  obtain ⟨cd, c⟩ := Option.isSome_iff_exists.mp c
  simp only [findObj, c, fa, fg, ft, Option.bind_some]
/-- what isinstance asks of the class of an exception -/
structure XC (K : Frag) (D : Addr) : Prop where
  ga : findIn K (.ref D) "__getattribute__" = some (some (.builtin "BaseException.__getattribute__"))
  gg : findIn K (.ref D) "__getattr__" = some none
  sb : subIn K (.ref D) (.type "BaseException") = some true
  hd : hasDictIn K D = true
  ca : findIn K (.ref D) "__class__" = some (some (.builtin "object.__class__"))
  cn : specialIn K (.builtin "object.__class__") "__get__" = some (some (.builtin "getset_descriptor.__get__"))
  ct : takesIn K (.builtin "object.__class__") = some true
  mo : mroIn K D (.type "object") = some true
theorem XC.cls {K : Frag} {D : Addr} (T : XC K D) : (clsIn K D).isSome = true := by
  obtain ⟨cd, e, _⟩ := any_some T.hd
  simp only [e, Option.isSome_some]
/-- its class, asked of the exception itself, whatever its dict holds -/
theorem own_class {A : Around} {E : Value → Shared → Prop} {s : Shared} {Q : Option Value → Shared → Prop} (T : XC K D) (X : K.In s.heap) (I : InstAt s.heap x ox D od) (q : Q (some (.ref D)) { s with toks := s.toks + 1 }) :
    wpAny (model prog w) A (getAttr? (.ref x) "__class__") Q E s := by
  obtain ⟨hp, gs, dr, tk, os⟩ := s
  have l0 := I.type (M := model prog w)
  have l1 := looks_findIn (M := model prog w) X T.ga
  have l2 := looks_findIn (M := model prog w) X T.gg
  have l3 := looks_find (M := model prog w) X I (bound_any (od := od) T.cls T.ca T.cn T.ct)
  have y1 : (onTheHeap (Value.ref D) && Value.builtin "BaseException.__getattribute__" == Value.builtin "object.__getattribute__") = false := by
    rw [show (Value.builtin "BaseException.__getattribute__" == Value.builtin "object.__getattribute__") = false from by decide +kernel, Bool.and_false]
  unfold getAttr?
  unfold getAttrBy?
  unfold getAttrBy
  refine wpAny_bind (wpAny_mkText (wpAny_bind ?_))
  refine wpAny_attempt (wpAny_holding (wpAny_bind (l0.at ?_)))
  refine wpAny_bind (l1.at ?_)
  show wpAny _ _ (if (onTheHeap (Value.ref D) && Value.builtin "BaseException.__getattribute__" == Value.builtin "object.__getattribute__") = true then _ else _) _ _ _
  rw [y1]
  rw [if_neg Bool.false_ne_true]
  unfold getAttrByItsOwn
  unfold hookBefore
  refine wpAny_bind ?_
  rw [if_pos (show onTheHeap (Value.ref D) = true from rfl)]
  refine l2.at (wpAny_bind (wpAny_attempt (wpAny_holding ?_)))
  unfold callGetattribute
  rw [show (false && onTheHeap (Value.builtin "BaseException.__getattribute__")) = false from rfl, if_neg Bool.false_ne_true]
  unfold boundAndCalled
  rw [PySem.F.excAttr_ValueError.ga.bind (.ref x)]
  refine wpAny_bind (wpAny_pure ?_)
  show wpAny _ _ (call (.builtin "BaseException.__getattribute__") [.ref x, .str "__class__" tk]) _ _ _
  refine wpAny_call (codeAny_call_builtin PySem.F.excAttr_ValueError.ga.plain PySem.F.entry_bexc_ga ?_)
  have sub : Looks (model prog w) hp (isInstance (.ref x) (.type "BaseException")) true := l0.andThen (looks_subIn X T.sb)
  refine @check_slot (model prog w) _ _ ⟨hp, gs, dr, tk + 1, os⟩ "BaseException.__getattribute__" "BaseException" "__getattribute__" (.ref x) [.str "__class__" tk] [] _ (by decide +kernel) (by decide +kernel) sub
    (PySem.F.args_bexc_ga (.ref x) (.str "__class__" tk)) ?_
  unfold Builtin.«object.__getattribute__»
  refine wpAny_bind ?_
  refine wpAny_of_eq (a := ((Value.ref x : Value), [Value.str "__class__" tk])) (by first | rfl | (simp only [slotArgs]; rfl)) ?_
  refine wpAny_bind (wpAny_pure (wpAny_bind (l0.at ?_)))
  refine wpAny_bind (l3.at ?_)
  show wpAny _ _ (holding [Value.builtin "object.__class__"] (call (.builtin "getset_descriptor.__get__") [.builtin "object.__class__", .ref x, .ref D]) >>= ret) _ _ _
  refine wpAny_bind (wpAny_holding (wpAny_call (class_get (s := ⟨hp, gs, dr, tk + 1, os⟩) (od := od) X I T.mo ?_)))
  refine wpAny_pure ?_
  show wpAny _ _ (handedOut (.ref D)) _ _ _
  rw [handedOut_of (v := .ref D) rfl]
  first
    | exact wpAny_pure (wpAny_pure q)
    | exact wpAny_pure q
    | exact wpAny_pure (wpAny_bind (wpAny_pure (wpAny_pure q)))
theorem kit_own (T : XC K D) : KitX K (.ref x) (.ref D) (fun h => InstAt h x ox D od) := by
  obtain ⟨cd, e, _⟩ := any_some T.hd
  have at_ : ∃ c d sl, K.lookup D = some ⟨c, d, .cls cd, sl⟩ := by
    unfold clsIn at e
    split at e
    · rename_i ho
      cases e
      exact ⟨_, _, _, ho⟩
    · cases e
  obtain ⟨c, d, sl, ho⟩ := at_
  refine ⟨fun _ _ _ I => I.type, fun _ _ X _ => ?_, fun h tp dd its n sl' X ht => ?_, fun X I q => own_class T X I q⟩
  · intro A Q E s k q
    unfold isType
    unfold loadHead
    exact wpAny_bind (wpAny_loadPart (k _ _ (X _ _ ho)) (wpAny_pure q))
  · cases z : (Value.ref D == Value.ref tp) with
    | false => rfl
    | true =>
      have e2 : D = tp := Value.ref.inj (beq_iff_eq.mp z)
      have z2 := X _ _ ho
      rw [e2, ht] at z2
      cases z2
end

/-- an exception of the class at C stands at a as a value; what it keeps -/
def XAt (H : Hp) (a C : Addr) : Option (List (Str × V)) → Prop
  | none => H a = some (ExO (.ref C) a)
  | some fs => ∃ d, H a = some (exo a C (some d)) ∧ H d = some (exd d fs)
theorem XAt.same {H H' : Hp} {a C : Addr} {o : Option (List (Str × V))} (s : Same H H') (h : XAt H a C o) : XAt H' a C o := by
  cases o with
  | none => exact s _ _ h
  | some fs =>
    obtain ⟨d, h1, h2⟩ := h
    exact ⟨d, s _ _ h1, s _ _ h2⟩
section
variable {X : Cx} {pins : List (Addr × Obj)} {σ : L2.St} {H : Hp} {s : Shared}
theorem XAt.inst {a C : Addr} {o : Option (List (Str × V))} (I : Inv X pins σ H s) (h : XAt H a C o) : ∃ oe od, PySem.W.InstAt s.heap a oe C od := by
  cases o with
  | none =>
    obtain ⟨⟨oe, vs, e1, e2, e3, _⟩, _⟩ := I.hok a _ h
    exact ⟨oe, none, e1, e2.1, by unfold PySem.W.notCls; rw [e3] <;> rfl, by rw [e2.2]; trivial⟩
  | some fs =>
    obtain ⟨d, h1, h2⟩ := h
    obtain ⟨t1, e1⟩ := exo_at I.hok h1
    obtain ⟨mA, hn, _⟩ := exd_at I.hok h2
    obtain ⟨od, eo, _⟩ := lookIn_ns hn
    exact ⟨_, some od, e1, rfl, rfl, eo⟩
/-- isinstance of an exception that is held as a value -/
theorem call_isiX : CallR X (.builtin "isinstance") (fun xs H Q => ∃ (a C : Addr) (o : Option (List (Str × V))) (c : V) (u : Value) (b : Bool), xs = [.ref a, c] ∧ ClsV c u ∧ XAt H a C o ∧ XC X.K C ∧ PySem.W.kitOne X.K (.ref C) u = some b ∧ Q (.bl b) H) := by
  intro pins s σ H xs us Q I r h
  obtain ⟨a, C, o, c, u, b, rfl, k, x, T, e, q⟩ := h
  obtain ⟨u1, u2, rfl, r1, r2⟩ := vals2 r
  have e2 := k.eq r2
  subst e2
  obtain rfl : u1 = Value.ref a := r1
  obtain ⟨oe, od, J⟩ := x.inst I
  exact PySem.W.kia_one (kit_own T) I.kIn J e (fun z => nomatch z) fun tk => ⟨.bl b, H, I.tok tk, rfl, q⟩
/-- e.f of such an exception -/
def tXv (K : PySem.W.Frag) (f : Str) (te : TE) : TE := fun σ H Q => te σ H fun y H1 => ∃ (a C : Addr) (fs : List (Str × V)) (v : V), y = .ref a ∧ XAt H1 a C (some fs) ∧ XC K C ∧ PySem.W.findIn K (.ref C) f = some none ∧ fs.lookup f = some v ∧ Q v H1
theorem pe_xv {e : Expr} {te : TE} {pos : Pos} {n : Str} (he : PE X e te) (hb : attributeBase e n X.env (eval e X.env) = eval e X.env := by rfl) : PE X (.Attribute e n pos) (tXv X.K n te) := by
  refine ⟨fun pins s σ H Q I h => attr_of hb (thn (he.run pins s σ H _ I h) fun u s1 ⟨y, H1, I1, ry, a, C, fs, v, ey, xa, T, hno, hl, q⟩ => ?_)⟩
  subst ey
  obtain rfl : u = Value.ref a := ry
  obtain ⟨d, h1, h2⟩ := xa
  obtain ⟨t1, e1⟩ := exo_at I1.hok h1
  obtain ⟨mA, hn, rel⟩ := exd_at I1.hok h2
  obtain ⟨od, eo, lk⟩ := lookIn_ns hn
  obtain ⟨v', hu, ru⟩ := RelO.some_of (v := v) (o := mA n) (by rw [← hl]; exact rel n)
  exact HandSPX.exc_get (ox := { cls := .ref C, dict := some d, data := .fields #[.ref t1, .none, .none, .none, .bool false, .none] }) (od := some od) I1.kIn ⟨e1, rfl, rfl, eo⟩ T.ga T.gg T.sb (PySem.W.findObj_own T.hd hno rfl (by rw [lk, hu])) (handed_of ru) ⟨v, H1, I1.tok _, ru, q⟩
/-- C(e, ..), as a value, its own __init__ keeping sp -/
def tMkV (C : Addr) (sp : Sp) (ta : TA) : TE := fun σ H Q => ta σ H fun vs H1 => vs.length ≤ 1000 ∧ ∀ a, H1 a = none → sp (.ref a :: vs) (upd H1 a (exo a C none)) (fun v H2 => v = .non ∧ Q (.ref a) H2) E0
theorem pe_mkv {x : Str} {C fI : Addr} {k : Nat} {fd : FuncData} {ps : List Str} {sp : Sp} {e : Expr} {es : List Expr} {ta : TA} {p pos : Pos} (T : OexC X.K C) (iC : PySem.W.findIn X.K (.ref C) "__init__" = some (some (.ref fI))) (tI : PySem.W.typeIn X.K (.ref fI) = some (.type "function"))
    (F : FnOk X.prog X.w X.K X.mg X.base CX0 k fI fd ps sp) (hr : Room (k + 1) X.A) (hb : Binds X.K fd ps []) (hg : Gl X x) (hm : X.mg x = some (.ref C)) (ha : PA X (e :: es) ta)
    (hdb : (x == ("__debug__" : Str)) = false := by decide) (he : starEach (e :: es) X.env = (false, eval e X.env) :: starEach es X.env := by rfl) (hpl : (backTo pos (starEach es X.env)).any (·.1) = false := by rfl) :
    PE X (.Call (.Name x p) (e :: es) [] pos) (tMkV C sp ta) := by
  refine ⟨fun pins s σ H Q I h => wpAny_Call_Name_kw (ld_glob I hg hm ?_ hdb)⟩
  obtain ⟨nm, q, N, bs, bm, sn, sub, ab, col, dd, k0, k1, k2, k3, k5, hC, hbm⟩ := T.cls
  refine PySem.W.callWith_K (h₀ := X.base) I.ok.mod.kin T.kC (thn (ha.run pos pins s σ H _ I h) fun us s1 ⟨vs, H1, I1, rv, hz, g⟩ => ⟨I1.kIn, ?_⟩) he hpl
  show wpAny _ _ (call (.ref C) us) _ _ _
  obtain ⟨hp, gs, dr, tk, os⟩ := s1
  have new : H1 (hp.objs.size + 1) = none := I1.hok.fresh (Nat.le_succ _)
  have g := g (hp.objs.size + 1) new
  let h2 := (hp.push (PySem.W.kdv_tup us)).push (PySem.HandSPX.excO C hp.objs.size)
  have at2 : h2.get? (hp.objs.size + 1) = some (PySem.HandSPX.excO C hp.objs.size) := by
    show ((hp.push (PySem.W.kdv_tup us)).push (PySem.HandSPX.excO C hp.objs.size)).get? (hp.objs.size + 1) = _
    heap_get
  have I2 : Inv X pins σ (upd H1 (hp.objs.size + 1) (exo (hp.objs.size + 1) C none)) ⟨h2, gs, dr, tk, os⟩ :=
    I1.laid (t' := tk) (a := hp.objs.size + 1) (h' := h2) (fun b o z => Heap.get?_push_of_some _ (Heap.get?_push_of_some _ z)) (Nat.le_succ _) (exo_ok at2)
  have r2 : Vals (V.ref (hp.objs.size + 1) :: vs) (Value.ref (hp.objs.size + 1) :: us) := .cons rfl rv
  have ln : (Value.ref (hp.objs.size + 1) :: us ++ []).length = ps.length := by
    rw [List.append_nil, ← r2.length]
    exact F.len _ _ _ _ g
  have hus : us.length ≤ sizeLine := by
    rw [← Paired.length rv, sizeLine_eq]
    omega
  have bd := hb ⟨h2, gs, dr, tk, os⟩ (Value.ref (hp.objs.size + 1) :: us) I2.kIn ln
  rw [List.append_nil] at bd
  refine wpAny_call (PySem.HandSPX.call_own PySem.F.excBase_ValueError (fun Y => PySem.HandSPX.refsVE_contains Y bm hbm) (I1.kIn _ _ hC) (PySem.W.looks_findIn I1.kIn iC) (fun self => PySem.W.bind_fn I1.kIn self tI) hus ?_)
  refine codeAny_mono (F.run _ X.stack _ _ _ _ _ _ E0 (hr.make C us []) (I2.env0.make C us []) bd r2 g) fun r s' z => ?_
  match r, z with
  | .error er, z => exact z.elim
  | .ok .next, z => exact z.elim
  | .ok .brk, z => exact z.elim
  | .ok .cont, z => exact z.elim
  | .ok (.ret u), ⟨v, H2, o2, b2, un2, ok2, ru, ev, q2⟩ =>
    subst ev
    refine ⟨ru, ?_⟩
    exact I2.after ⟨.ref (hp.objs.size + 1), H2, o2, b2, un2, ok2, rfl, q2⟩
/-- C(), a class without an __init__ of its own -/
theorem pe_mk0 {x : Str} {C : Addr} {p pos : Pos} (q : PySem.W.excIn X.K C [.type "ValueError", .type "Exception", .type "BaseException", .type "object"] "ValueError.__new__" = true) (kC : PySem.W.keepIn X.K (.ref C) = true) (hg : Gl X x) (hm : X.mg x = some (.ref C))
    (hdb : (x == ("__debug__" : Str)) = false := by decide) : PE X (.Call (.Name x p) [] [] pos) (fun _ H Q => ∀ a, H a = none → Q (.ref a) (upd H a (ExO (.ref C) a))) := by
  refine ⟨fun pins s σ H Q I h => wpAny_Call_Name_kw (ld_glob I hg hm (PySem.W.callWith_K0 I.kIn kC ?_) hdb)⟩
  obtain ⟨hp, gs, dr, tk, os⟩ := s
  obtain ⟨bm, N, nm, qn, bs, hdct, sn, sub, ab, col, dd, k0, k1, k2, k3, k5, mN, hC, hN, hni, T⟩ := exc_obj I.kIn q
  refine wpAny_call_exc_subT PySem.F.excBase_ValueError T hC hN hni (fun h' a M => ?_) (by rw [sizeLine_eq]; decide)
  have n : H a = none := I.hok.gone M.new
  obtain ⟨t, e, _, _⟩ := M.there
  exact ⟨.ref a, upd H a (ExO (.ref C) a), I.laidN M.keeps M.new n (exO_ok e ⟨rfl, rfl⟩ rfl rfl rfl (by show 4 < 6; decide)), rfl, h a n⟩
end
end Vf
namespace Vf
open PySem PySem.Spec PyProof.Rows L2
def xcB (K : PySem.W.Frag) (D : Addr) : Bool :=
  decide (PySem.W.findIn K (.ref D) "__getattribute__" = some (some (.builtin "BaseException.__getattribute__"))) && (decide (PySem.W.findIn K (.ref D) "__getattr__" = some none) && (decide (PySem.W.subIn K (.ref D) (.type "BaseException") = some true) &&
  (PySem.W.hasDictIn K D && (decide (PySem.W.findIn K (.ref D) "__class__" = some (some (.builtin "object.__class__"))) && (decide (PySem.W.specialIn K (.builtin "object.__class__") "__get__" = some (some (.builtin "getset_descriptor.__get__"))) &&
  (decide (PySem.W.takesIn K (.builtin "object.__class__") = some true) && decide (PySem.W.mroIn K D (.type "object") = some true)))))))
theorem xcB_ok {K : PySem.W.Frag} {D : Addr} (h : xcB K D = true) : XC K D := by
  obtain ⟨h1, h⟩ := Bool.and_eq_true_iff.mp h
  obtain ⟨h2, h⟩ := Bool.and_eq_true_iff.mp h
  obtain ⟨h3, h⟩ := Bool.and_eq_true_iff.mp h
  obtain ⟨h4, h⟩ := Bool.and_eq_true_iff.mp h
  obtain ⟨h5, h⟩ := Bool.and_eq_true_iff.mp h
  obtain ⟨h6, h⟩ := Bool.and_eq_true_iff.mp h
  obtain ⟨h7, h8⟩ := Bool.and_eq_true_iff.mp h
  exact ⟨of_decide_eq_true h1, of_decide_eq_true h2, of_decide_eq_true h3, h4, of_decide_eq_true h5, of_decide_eq_true h6, of_decide_eq_true h7, of_decide_eq_true h8⟩
end Vf

set_option maxRecDepth 100000
set_option maxHeartbeats 4000000
/-! sizes of texts of data; walks -/
namespace Vf
open PySem PySem.Spec PyProof.Rows L2
/-- good data: shallow, shown in few signs -/
structure Gd (d : PyData) : Prop where
  sh : d.showable = true
  dp : d.depth ≤ 10
  ln : d.shown.length ≤ 100000
theorem gd_none : Gd .none := ⟨rfl, by decide, by simp only [PyData.shown]; decide⟩
theorem gd_bool (b : Bool) : Gd (.bool b) := ⟨rfl, by simp [PyData.depth], by cases b <;> (simp only [PyData.shown]; decide)⟩
theorem log_small {z : Int} (h : z.natAbs < 2 ^ 1920) : z.natAbs.log2 < 1920 := by
  by_cases e : z.natAbs = 0
  · rw [e]
    decide
  · exact (Nat.log2_lt e).mpr h
theorem gd_int {z : Int} (h : z.natAbs < 2 ^ 1920) : Gd (.int z) := by
  have l := log_small h
  refine ⟨by simp only [PyData.showable, l, decide_true], by simp [PyData.depth], ?_⟩
  simp only [PyData.shown]
  exact Nat.le_trans (int_text_len_1921 l) (by decide)
theorem gd_str {x : Str} (h : ∀ c ∈ x.cps.toList, c < 16 ^ 8) (hl : x.length ≤ 9000) : Gd (.str x) := by
  refine ⟨rfl, by simp [PyData.depth], ?_⟩
  simp only [PyData.shown]
  have q := StrLaws.reprText_len x h
  omega
theorem int_codes (z : Int) : ∀ c ∈ (Str.ofString (toString z)).cps.toList, c < 16 ^ 8 := fun c h => by
  by_cases e : c < 58
  · have : (58 : Nat) < 16 ^ 8 := by decide
    omega
  · exact absurd h (int_text_free' c ⟨by omega, by omega⟩ z)
theorem sum_le_of {l : List Nat} {m : Nat} (h : ∀ x ∈ l, x ≤ m) : l.sum ≤ l.length * m := by
  induction l with
  | nil => simp
  | cons a r ih =>
    have h1 := h a (List.mem_cons_self ..)
    have h2 := ih fun x hx => h x (List.mem_cons_of_mem _ hx)
    rw [List.sum_cons, List.length_cons, Nat.add_mul]
    omega
theorem shownAll_map : ∀ ds : List PyData, PyData.shownAll ds = ds.map PyData.shown
  | [] => by simp only [PyData.shownAll, List.map_nil]
  | d :: r => by simp only [PyData.shownAll, List.map_cons, shownAll_map r]
theorem showableAll_of : ∀ {ds : List PyData}, (∀ d ∈ ds, d.showable = true) → PyData.showableAll ds = true
  | [], _ => by simp only [PyData.showableAll]
  | d :: r, h => by
    simp only [PyData.showableAll, h d (List.mem_cons_self ..), showableAll_of fun x hx => h x (List.mem_cons_of_mem _ hx), Bool.and_self]
theorem depthAll_of {m : Nat} : ∀ {ds : List PyData}, (∀ d ∈ ds, d.depth ≤ m) → PyData.depthAll ds ≤ m
  | [], _ => by simp only [PyData.depthAll]; exact Nat.zero_le _
  | d :: r, h => by
    simp only [PyData.depthAll]
    exact Nat.max_le.mpr ⟨h d (List.mem_cons_self ..), depthAll_of fun x hx => h x (List.mem_cons_of_mem _ hx)⟩
/-- few data, each shown in at most m signs -/
theorem seq_len {ds : List PyData} {m : Nat} (h : ∀ d ∈ ds, d.shown.length ≤ m) : (((PyData.shownAll ds).map (·.length)).sum ≤ ds.length * m) ∧ (PyData.shownAll ds).length = ds.length := by
  rw [shownAll_map]
  refine ⟨?_, by rw [List.length_map]⟩
  have q := sum_le_of (l := ((ds.map PyData.shown).map (·.length))) (m := m) (fun x hx => by
    obtain ⟨s, hs, e⟩ := List.mem_map.mp hx
    obtain ⟨d, hd, e2⟩ := List.mem_map.mp hs
    rw [← e, ← e2]
    exact h d hd)
  rw [List.length_map, List.length_map] at q
  exact q
theorem small_seq {ds : List PyData} {n m : Nat} (hn : ds.length ≤ n) (h1 : ∀ d ∈ ds, d.showable = true) (h2 : ∀ d ∈ ds, d.depth ≤ 60) (h3 : ∀ d ∈ ds, d.shown.length ≤ m) (hz : n * m + 2 * n + 3 ≤ 16777216) : small (.list ds) ∧ small (.tuple ds) := by
  obtain ⟨a, b⟩ := seq_len h3
  have c : ds.length * m ≤ n * m := Nat.mul_le_mul_right _ hn
  have d1 := depthAll_of h2
  refine ⟨⟨by simp only [PyData.showable]; exact showableAll_of h1, by simp only [PyData.depth]; omega, ?_⟩, by simp only [PyData.showable]; exact showableAll_of h1, by simp only [PyData.depth]; omega, ?_⟩
  · simp only [PyData.shown]
    have q := listText_len_le (PyData.shownAll ds)
    rw [sizeLine_eq]
    omega
  · simp only [PyData.shown]
    have q := tupleText_len_le (PyData.shownAll ds)
    rw [sizeLine_eq]
    omega
theorem gd_seq {ds : List PyData} {n m : Nat} (hn : ds.length ≤ n) (h1 : ∀ d ∈ ds, d.showable = true) (h2 : ∀ d ∈ ds, d.depth ≤ 9) (h3 : ∀ d ∈ ds, d.shown.length ≤ m) (hz : n * m + 2 * n + 3 ≤ 100000) : Gd (.list ds) ∧ Gd (.tuple ds) := by
  obtain ⟨a, b⟩ := seq_len h3
  have c : ds.length * m ≤ n * m := Nat.mul_le_mul_right _ hn
  have d1 := depthAll_of h2
  refine ⟨⟨by simp only [PyData.showable]; exact showableAll_of h1, by simp only [PyData.depth]; omega, ?_⟩, by simp only [PyData.showable]; exact showableAll_of h1, by simp only [PyData.depth]; omega, ?_⟩
  · simp only [PyData.shown]
    have q := listText_len_le (PyData.shownAll ds)
    omega
  · simp only [PyData.shown]
    have q := tupleText_len_le (PyData.shownAll ds)
    omega
theorem small_of_gd {ds : List PyData} (hn : ds.length ≤ 100) (h : ∀ d ∈ ds, Gd d) : small (.list ds) ∧ small (.tuple ds) :=
  small_seq hn (fun d hd => (h d hd).sh) (fun d hd => Nat.le_trans (h d hd).dp (by decide)) (fun d hd => (h d hd).ln) (by decide)
theorem Gd.small {d : PyData} (h : Gd d) : small d := ⟨h.sh, Nat.le_trans h.dp (by decide), Nat.le_trans h.ln (by rw [sizeLine_eq]; decide)⟩
theorem gd_dict1 {x : Str} {z : Int} (hx : ∀ c ∈ x.cps.toList, c < 16 ^ 8) (hl : x.length ≤ 1000) (h : z.natAbs < 2 ^ 1920) : Gd (.dict [(.str x, .int z)]) := by
  have l := log_small h
  refine ⟨by simp only [PyData.showable, PyData.showableKv, l, decide_true, Bool.and_self], by simp only [PyData.depth, PyData.depthKv]; decide, ?_⟩
  simp only [PyData.shown, PyData.shownKv]
  have q := dictText_len_le [reprText x ++ ": " ++ (Str.ofString (toString z))]
  have r := StrLaws.reprText_len x hx
  have s := int_text_len_1921 l
  simp only [List.map_cons, List.map_nil, List.sum_cons, List.sum_nil, List.length_cons, List.length_nil, strLen_append] at q
  have t : (Str.ofString ": ").length = 2 := by decide +kernel
  refine Nat.le_trans q ?_
  have t2 : ((": " : String) : Str).length = 2 := t
  omega

/-- for i, x in enumerate(a list) -/
theorem for_enumL {K : PySem.W.Frag} {a : Addr} {xs : List V} {g : TG} {tb : TS} {D : Ends} {σ : L2.St} {H : Hp} (Pv : Nat → L2.St → Hp → Prop) (h0 : Pv 0 σ H) (hq : ∀ i σ H, Pv i σ H → SqL K H a xs)
    (hs : ∀ (i : Nat) (x : V) (T : Addr) (σ : L2.St) (H : Hp), xs[i]? = some x → Pv i σ H → H T = none → g (.ref T) σ (upd H T (.tup [.int (i : Nat), x])) fun σ2 H2 => tb { D with nx := Pv (i + 1), ct := Pv (i + 1), bk := D.nx } σ2 H2) (hd : ∀ σ H, Pv xs.length σ H → D.nx σ H) :
    ∃ W : Nat → Nat → L2.St → Hp → Prop, (∃ m, W 0 m σ H) ∧ ∀ i m σ H, W i m σ H →
      ((Ite K a).stop i H ∧ D.nx σ H) ∨ ((Ite K a).go i H ∧ ∃ N : L2.St → Hp → Prop, (∀ σ' H', N σ' H' → ∃ m', m' < m ∧ W (i + 1) m' σ' H') ∧ ∀ v H', (Ite K a).yld i H v H' → g v σ H' fun σ2 H2 => tb { D with nx := N, ct := N, bk := D.nx } σ2 H2) := by
  refine ⟨fun i m σ H => m + i = xs.length ∧ Pv i σ H, ⟨xs.length, rfl, h0⟩, fun i m σ H ⟨e, p⟩ => ?_⟩
  have q := hq i σ H p
  match m, e with
  | 0, e =>
    have e2 : i = xs.length := by omega
    rw [e2] at p ⊢
    exact .inl ⟨⟨xs, q, Nat.le_refl _⟩, hd σ H p⟩
  | m + 1, e =>
    have lt : i < xs.length := by omega
    refine .inr ⟨⟨xs, xs[i], q, List.getElem?_eq_getElem lt⟩, Pv (i + 1), fun σ' H' p' => ⟨m, Nat.lt_succ_self m, by omega, p'⟩, fun v H' y => ?_⟩
    obtain ⟨T, x, e1, n, e2, hx⟩ := y
    rw [e1, e2]
    exact hs i x T σ H (hx xs q) p n
end Vf

set_option maxRecDepth 100000
set_option maxHeartbeats 4000000
/-! the end of a law's row, from its promise where no guard stands; what the top has written, read off -/
namespace Vf
open PySem PySem.Spec PyProof.Rows L2
/-- what is known of the law's def at the heap behind the top -/
def LawG (l : PySem.W.OpenLaw) (w : World) (K : PySem.W.Frag) (C : CXT) (k n : Nat) (x : Str) (mg : Str → Option Value) (fa : Addr) (h : Heap) : Prop :=
  ∃ (fd : FuncData) (cs : List (Addr × Addr)) (sp : Sp), (∀ p ∈ cs, h.get? p.2 = some { cls := .none, data := .fields #[] }) ∧ (∀ p ∈ cs, K.lookup p.2 = none) ∧ (∀ p ∈ cs, PySem.W.CodeHd h p.1 p.2) ∧
    (∀ (s : Shared) (u : Value), BindsTo s fd ⟨[u], []⟩ [(x, u)]) ∧
    (∀ (H : Hp) (a : Addr) (ns : List Int), ns.length ≤ n → (∀ z ∈ ns, Builtin.Int.intBits z ≤ 1048576) → (∀ p ∈ cs, H p.2 = some (.tbl #[])) → SqL K H a (ns.map V.int) → sp [.ref a] H (fun v _ => v = .bl true) E0) ∧
    ∀ b : Heap, K.In b → b.Ns mainGlobals mg → M1 b → (∀ p ∈ cs, LamX.TabB b mg p.1 p.2) → FnG l.prog w K mg b C k fa fd [x] sp
theorem walkG {l : PySem.W.OpenLaw} {n k : Nat} {q : Program} {loose : List Str} {XP : (Str → Option Value) → Heap → Prop} {YP : World → Heap → Prop} {d : DefRec} {K : Params → PySem.W.Frag} {C : World → CXT} {x : Str}
    (hn : l.most = some n) (hn2 : n ≤ sizeLine) (hdf : d.params.defaults = []) (hr : Room k callerA) (hi : importsNone q = true) (hY : ∀ (w : World) (h : Heap), YP w h → (K w.params).In h)
    (F : ∀ (w : World) (mg : Str → Option Value) (fa : Addr) (h : Heap), YP w h → (K w.params).In h → h.Ns mainGlobals mg → mg d.name = some (.ref fa) → LawG l w (K w.params) (C w) k n x mg fa h)
    (hE : ∀ (w : World) (H : Hp) (s : Shared) (e : Value) (s' : Shared), C w [] H s E0 e s' → False) : PySem.W.WalkO q loose XP YP l.row.toRowW d [] (fun f vs => PySem.call f vs) := by
  refine Att.attach_callB hn hdf fun w s0 s1 mg mb fa o pm cd doc a vs ns G Y ho hd hcd hmg hobj hints hlen hbits hg => ?_
  have X := hY w _ Y
  obtain ⟨fd, cs, sp, hT, nT, hC, bind, hsp, hF⟩ := F w mg fa _ Y X G.T.g hmg
  have m1 : M1 s1.heap := by
    obtain ⟨mm, ⟨o, es, ep, e, dt, _⟩, _⟩ := (G.T.seer hi).mods
    exact ⟨o, es, ep, e, dt⟩
  exact law_enter X G.T.g G.T.b G.T.builtins G.T.nolimit hg hT nT hC G.T.bmain m1 hobj hints (Nat.le_trans hlen hn2) hr hF bind (fun H h1 h2 => hsp H a ns hlen hbits h1 h2) fun H e s' => hE w H s1 e s'

/-- a def of the text, as the written part tells it -/
structure Wr (K : PySem.W.Frag) (qual x : Str) (st : Stmt) (f : Addr) : Prop where
  ex : ∃ fd, Fun K x qual st f fd
theorem wr_mk {K : PySem.W.Frag} {x qual : Str} {st : Stmt} {f : Addr} {oc : Value} {od an : Option Addr} {osl : Array (Option Value)} {kV doc pm cdv ct : Value} (l : K.lookup f = some ⟨oc, od, .func (PySem.W.fnOf x qual (defArgs st) (defBody st) (defScope st) .none kV doc pm an cdv ct), osl⟩)
    (c : PySem.W.codeIn K cdv qual = true) (k : PySem.W.keepIn K (.ref f) = true) : Wr K qual x st f := ⟨_, fun_mk l c k⟩
/-- an exception class, its facts in one look -/
def oexB (K : PySem.W.Frag) (C : Addr) : Bool :=
  decide (PySem.W.findIn K (.ref C) "__setattr__" = some (some (.builtin "object.__setattr__"))) && (decide (PySem.W.subIn K (.ref C) (.type "BaseException") = some true) &&
    (decide (PySem.W.typeIn K (.ref C) = some (.type "type")) && PySem.W.keepIn K (.ref C)))
theorem oexB_ok {K : PySem.W.Frag} {C : Addr} (h : oexB K C = true) (c : ∃ nm q N bs bm sn sub ab col dd k0 k1 k2 k3 k5, K.lookup C = some (excClassObj nm q C N bs bm true sn sub ab col dd k0 k1 k2 k3 k5 "ValueError.__new__") ∧ PySem.HandSPX.refsVE bm = true) : OexC K C := by
  obtain ⟨h1, h⟩ := Bool.and_eq_true_iff.mp h
  obtain ⟨h2, h⟩ := Bool.and_eq_true_iff.mp h
  obtain ⟨h3, h4⟩ := Bool.and_eq_true_iff.mp h
  exact ⟨c, of_decide_eq_true h1, of_decide_eq_true h2, of_decide_eq_true h3, h4⟩
end Vf

set_option maxRecDepth 100000
set_option maxHeartbeats 4000000
/-! rules: several clauses with a name each; // by any great int -/
namespace Vf
open PySem PySem.Spec PyProof.Rows L2
/-- what each clause «except c as n» wishes, n in slot i, from the first one on -/
def wEach (K : PySem.W.Frag) (i : Nat) (Wo : WX) (D : Ends) : List (Value × (Addr → Value → Option Addr → TS)) → WX
  | [] => Wo
  | (c, ts) :: r => wAs K c i ts (wEach K i Wo D r) D
inductive Each (X : Cx) (i : Nat) : List ExceptHandler → List (Value × (Addr → Value → Option Addr → TS)) → Prop
  | nil : Each X i [] []
  | cons {x n : Str} {c : Value} {ts : Addr → Value → Option Addr → TS} {b : Stmt} {bs : List Stmt} {p q : Pos} {hds : List ExceptHandler} {l : List (Value × (Addr → Value → Option Addr → TS))} (nm : Names X x c) (at_ : X.N[i]? = some n) (lo : X.env.kindOf n = some .local)
      (su : ∀ (a : Addr) (oe : Obj) (cls : Value) (d : Option Addr) (pn : List (Addr × Obj)), Zc cls d oe → (∃ vs, oe.data = .fields vs) → PSs (X.suite a ((a, oe) :: pn)) (b :: bs) (ts a cls d)) (t : Each X i hds l) :
      Each X i (.ExceptHandler (some (.Name x p)) (some n) (b :: bs) q :: hds) ((c, ts) :: l)
section
variable {X : Cx} {i : Nat} {body : List Stmt} {h1 : ExceptHandler} {hs : List ExceptHandler} {l : List (Value × (Addr → Value → Option Addr → TS))} {pos : Pos} {tb : WX → TS} {Wo : WX}
/-- try: body / except .. as n: .. / except .. as n: .. -/
theorem ps_try_each (st : X.stack = X.env :: X.outer) (fr : X.env.frame = some X.env.locals) (nd : X.N.Nodup) (tk : Takes X Wo)
    (bd : ∀ (W : WX) (pn : List (Addr × Obj)) (xe : Value → Shared → Prop), Takes (X.tr pn xe) W → PassesOwn (model X.prog X.w) X.A X.env xe → PSs (X.tr pn xe) body (tb W)) (hd : Each X i (h1 :: hs) l) :
    PS X (.Try body (h1 :: hs) [] [] pos) (fun D σ H => tb (wEach X.K i Wo D l) D σ H) := by
  refine ⟨fun pins s σ H D I h => wpAny_Try_except ?_⟩
  have ok := I.ok
  have A1 : X.A.frames = some (X.env :: X.outer) := ok.frames.trans (congrArg some st)
  have run := (bd (wEach X.K i Wo D l) (X.pn ++ pins) (fun e s1 => wpAny (model X.prog X.w) X.A (noteFrame e X.env) (fun _ s2 => wpAny (model X.prog X.w) X.A (setFlight e none) (fun _ s3 => wpAny (model X.prog X.w) X.A (handleBy e X.env (h1 :: hs)) (SP X pins D) X.xe s3) X.xe s2) X.xe s1)
    (fun u s' xx => ?_) PassesOwn.looking).run [] s σ H D (I.toTry _) h
  · refine wpAny_mono run (fun f s1 z => ?_) fun e s1 z => z
    match f, z with
    | .next, ⟨σ', H', J, q⟩ => exact wpAny_execs_nil ⟨σ', H', J.ofTry ok, q⟩
    | .brk, ⟨σ', H', J, q⟩ => exact ⟨σ', H', J.ofTry ok, q⟩
    | .cont, ⟨σ', H', J, q⟩ => exact ⟨σ', H', J.ofTry ok, q⟩
    | .ret u, ⟨v, σ', H', J, r, q⟩ => exact ⟨v, σ', H', J.ofTry ok, r, q⟩
  · obtain ⟨a, B, sI, pins', σ1, H1, cls, d, ea, J', nb, up, sky, na, os, ag, w⟩ := xx
    subst ea
    have J : Inv X pins σ1 H1 sI := J'.ofTry ok
    rw [st] at sky
    show wpAny (model X.prog X.w) X.A (noteFrame (.ref a) X.env) _ _ _
    refine Sky.land Zc.steady A1 fr sky fun h3 fl up3 => ?_
    have J3 : Inv X pins σ1 H1 { s' with heap := h3 } := J.landed nb fl.1 (up.trans up3) os ag
    obtain ⟨oe, vs, he, hz, hdt⟩ := fl.there
    have out : a ∉ frs (X.env :: X.outer) := fun m => by
      obtain ⟨_, o2, e2, ne⟩ := fl.2.2.1.mem m
      rw [he] at e2
      cases e2
      exact ne _ hdt
    have notL : a ≠ X.env.locals := fun z => out (List.mem_filterMap.mpr ⟨X.env, List.mem_cons_self, by rw [fr, z]⟩)
    have notF : a ∉ X.fs := fun m => by
      obtain ⟨e, he, q⟩ := List.mem_filterMap.mp m
      exact out (List.mem_filterMap.mpr ⟨e, List.mem_cons_of_mem _ he, q⟩)
    have S3 := J3.suite he hdt na notL notF
    have ty : PySem.W.Looks (model X.prog X.w) h3 (typeOf (.ref a)) cls := fun A Q E s k q => wpAny_typeOf_ref (k _ _ he) (by rw [hz.1]; exact q)
    have each : ∀ (hs2 : List ExceptHandler) (l2 : List (Value × (Addr → Value → Option Addr → TS))), Each X i hs2 l2 → wEach X.K i Wo D l2 cls d σ1 H1 → wpAny (model X.prog X.w) X.A (handleBy (.ref a) X.env hs2) (SP X pins D) X.xe { s' with heap := h3 } := by
      intro hs2 l2 hk
      induction hk with
      | nil =>
        intro wo
        refine wpAny_handleBy_nil ?_
        obtain ⟨_, _, _, o2, v2, T2, oT2, t2, g1, g2, g3, g4, g5⟩ := id fl
        unfold PySem.passOn
        refine wpAny_bind (wpAny_field g1 g3 g4 ?_)
        rw [if_neg (show ¬ ((Value.ref T2 == Value.none) = true) from by simp)]
        have last : wpAny (model X.prog X.w) X.A (setFlight (.ref a) X.env.frame) (fun _ s4 => wpAny (model X.prog X.w) X.A (throw (.ref a) : Sem Flow) (SP X pins D) X.xe s4) X.xe { s' with heap := h3 } := by
          rw [fr]
          refine HandSPX.setFlight_upZ fl fun h4 up4 u4 => wpAny_throw (tk _ _ ⟨a, B, sI, pins, σ1, H1, cls, d, rfl, J, nb, (up.trans up3).trans u4, .inr (.inr (by rw [st]; exact up4)), na, os, ag, wo⟩)
        first
          | exact wpAny_bind (wpAny_pure (wpAny_bind last))
          | exact wpAny_bind last
      | @cons x n c ts b bs p q hds l3 nm at_ lo su t ih =>
        intro wo
        obtain ⟨k, hk, yes, no⟩ := wo
        refine wpAny_handleBy_cons (codeAny_handlers_test ?_) (by intro q; cases q)
        have LM := PySem.W.exm_one (M := model X.prog X.w) (J3.kIn) ty hk
        have see : ∀ {Q : Value → Shared → Prop} {E : Value → Shared → Prop}, Q c { s' with heap := h3 } → wpAny (model X.prog X.w) (X.A.mark (some (.ref a))) (eval (.Name x p) X.env) Q E { s' with heap := h3 } := by
          intro Q E q
          obtain ⟨g1, g2, g3 | ⟨g3, g4, g5⟩⟩ := nm
          · exact ld_glob (X := X.suite a ((a, oe) :: (X.pn ++ pins))) S3 g1 g3 q g2
          · exact ld_blt (X := X.suite a ((a, oe) :: (X.pn ++ pins))) S3 g1 g3 g4 q g5 g2
        refine see (LM.here ?_)
        cases k with
        | false =>
          show wpAny _ X.A (handleBy (.ref a) X.env hds) _ _ _
          exact ih (no rfl)
        | true =>
          refine codeAny_handlers_suite_as (HandSPX.lands_againZ fl fun h4 fl4 up4 => ?_)
          have J4 : Inv X pins σ1 H1 { s' with heap := h4 } := J.landed nb fl4.1 ((up.trans up3).trans up4) os ag
          obtain ⟨o4, v4, e4, z4, d4⟩ := fl4.there
          have S4 := J4.suite e4 d4 na notL notF
          refine store_ok (X := X.suite a ((a, o4) :: (X.pn ++ pins))) (v := .ref a) S4 nd at_ (.inl lo) rfl (fun s5 S5 => ?_) (.inr lo)
          refine wpAny_mono ((su a o4 cls d (X.pn ++ pins) z4 ⟨_, d4⟩).run [] s5 _ H1 _ S5 (yes rfl a na)) (fun f s6 z => ?_) (fun _ _ z => False.elim z)
          have away : ∀ {σ6 : L2.St} {H6 : Hp} {Q : Shared → Prop}, Inv (X.suite a ((a, o4) :: (X.pn ++ pins))) [] σ6 H6 s6 → (∀ s7, Inv X pins (σ6.set i none) H6 s7 → Q s7) →
              wpAny (model X.prog X.w) X.A (do bindName X.env n .none; unbindBehindTheSuite X.env n q) (fun _ s7 => Q s7) X.xe s6 := fun S6 g => gone_ok (S6.unsuite ok) nd at_ lo g
          match f, z with
          | .next, ⟨σ6, H6, S6, g⟩ => exact away S6 fun s7 J7 => ⟨_, _, J7, g⟩
          | .brk, ⟨σ6, H6, S6, g⟩ => exact away S6 fun s7 J7 => ⟨_, _, J7, g⟩
          | .cont, ⟨σ6, H6, S6, g⟩ => exact away S6 fun s7 J7 => ⟨_, _, J7, g⟩
          | .ret u, ⟨v6, σ6, H6, S6, r6, g⟩ => exact away S6 fun s7 J7 => ⟨_, _, _, J7, r6, g⟩
    exact each _ _ hd w
end
/-- // by an int that is not 0, below 2 ^ 9000 in size -/
def CDivZ (_ j : Int) : Prop := j ≠ 0 ∧ j.natAbs.log2 < 9000
theorem op_fdivZ {X : Cx} : OpR X (binaryOp .FloorDiv) (rI CDivZ fun i j => .int (i.fdiv j)) := opI fun i j _ _ _ _ _ hc q => floordiv_int hc.1 q (.inl (PyProof.noPylong_of_log2 hc.2))
end Vf

/-! ratios: the mathematics -/
namespace Vf
/-- the greatest common divisor, with the sign of the bottom -/
def sg (t b : Int) : Int := if b < 0 then -((Nat.gcd t.natAbs b.natAbs : Nat) : Int) else ((Nat.gcd t.natAbs b.natAbs : Nat) : Int)
/-- in lowest terms -/
def low (t b : Int) : Int × Int := (t.fdiv (sg t b), b.fdiv (sg t b))
theorem fdiv_of_mul {s k : Int} (h : s ≠ 0) : (s * k).fdiv s = k := Int.mul_fdiv_cancel_left k h
theorem gcd_pos {t b : Int} (h : b ≠ 0) : 0 < Nat.gcd t.natAbs b.natAbs := Nat.gcd_pos_of_pos_right _ (by omega)
theorem sg_ne {t b : Int} (h : b ≠ 0) : sg t b ≠ 0 := by
  have g := gcd_pos (t := t) h
  unfold sg
  split <;> omega
/-- t and b are the sign's multiples -/
theorem sg_dvd {t b : Int} (h : b ≠ 0) : ∃ t' b' : Int, t = sg t b * t' ∧ b = sg t b * b' ∧ 0 < b' ∧ Nat.gcd t'.natAbs b'.natAbs = 1 := by
  have g := gcd_pos (t := t) h
  generalize hG : Nat.gcd t.natAbs b.natAbs = G at g
  have d1 : ((G : Nat) : Int) ∣ t := Int.ofNat_dvd_left.mpr (by rw [← hG]; exact Nat.gcd_dvd_left _ _)
  have d2 : ((G : Nat) : Int) ∣ b := Int.ofNat_dvd_left.mpr (by rw [← hG]; exact Nat.gcd_dvd_right _ _)
  obtain ⟨x, hx⟩ := d1
  obtain ⟨y, hy⟩ := d2
  have one : Nat.gcd x.natAbs y.natAbs = 1 := by
    have e1 : t.natAbs = G * x.natAbs := by rw [hx, Int.natAbs_mul, Int.natAbs_natCast]
    have e2 : b.natAbs = G * y.natAbs := by rw [hy, Int.natAbs_mul, Int.natAbs_natCast]
    have e3 : Nat.gcd (G * x.natAbs) (G * y.natAbs) = G * Nat.gcd x.natAbs y.natAbs := Nat.gcd_mul_left _ _ _
    rw [← e1, ← e2, hG] at e3
    have e4 : G * 1 = G * Nat.gcd x.natAbs y.natAbs := by omega
    exact (Nat.eq_of_mul_eq_mul_left g e4).symm
  have gp : (0 : Int) < (G : Int) := by omega
  have sg_e : sg t b = if b < 0 then -(G : Int) else (G : Int) := by unfold sg; rw [hG]
  by_cases hb : b < 0
  · refine ⟨-x, -y, ?_, ?_, ?_, ?_⟩
    · rw [sg_e, if_pos hb, Int.neg_mul_neg]; exact hx
    · rw [sg_e, if_pos hb, Int.neg_mul_neg]; exact hy
    · rw [hy] at hb
      have : y < 0 := by
        rcases Int.lt_or_le y 0 with z | z
        · exact z
        · have := Int.mul_nonneg (Int.le_of_lt gp) z
          omega
      omega
    · rw [Int.natAbs_neg, Int.natAbs_neg]; exact one
  · refine ⟨x, y, ?_, ?_, ?_, one⟩
    · rw [sg_e, if_neg hb]; exact hx
    · rw [sg_e, if_neg hb]; exact hy
    · rcases Int.lt_or_le 0 y with z | z
      · exact z
      · have h2 : (G : Int) * y ≤ 0 := Int.mul_nonpos_of_nonneg_of_nonpos (Int.le_of_lt gp) z
        rw [← hy] at h2
        omega
theorem low_eq {t b t' b' : Int} (h : b ≠ 0) (e1 : t = sg t b * t') (e2 : b = sg t b * b') : low t b = (t', b') := by
  have s := sg_ne (t := t) h
  unfold low
  have a1 : t.fdiv (sg t b) = t' := by
    have z := fdiv_of_mul (s := sg t b) (k := t') s
    rw [← e1] at z
    exact z
  have a2 : b.fdiv (sg t b) = b' := by
    have z := fdiv_of_mul (s := sg t b) (k := b') s
    rw [← e2] at z
    exact z
  rw [a1, a2]
/-- in lowest terms: its bottom is above 0, nothing is common -/
structure Low (t b : Int) : Prop where
  pos : 0 < b
  one : Nat.gcd t.natAbs b.natAbs = 1
theorem low_is {t b : Int} (h : b ≠ 0) : Low (low t b).1 (low t b).2 := by
  obtain ⟨x, y, e1, e2, hp, ho⟩ := sg_dvd (t := t) h
  rw [low_eq h e1 e2]
  exact ⟨hp, ho⟩
theorem low_id {t b : Int} (h : Low t b) : low t b = (t, b) := by
  have hb : b ≠ 0 := by have := h.pos; omega
  have e : sg t b = 1 := by unfold sg; rw [h.one, if_neg (by have := h.pos; omega)]; rfl
  exact low_eq hb (by rw [e, Int.one_mul]) (by rw [e, Int.one_mul])
theorem sg_scale {t b k : Int} (hk : 0 < k) : sg (t * k) (b * k) = sg t b * k := by
  have e : Nat.gcd (t * k).natAbs (b * k).natAbs = Nat.gcd t.natAbs b.natAbs * k.natAbs := by
    rw [Int.natAbs_mul, Int.natAbs_mul, Nat.gcd_mul_right]
  have ek : ((k.natAbs : Nat) : Int) = k := by omega
  unfold sg
  rw [e]
  by_cases hb : b < 0
  · have : b * k < 0 := Int.mul_neg_of_neg_of_pos hb hk
    rw [if_pos hb, if_pos this, Int.natCast_mul, ek, Int.neg_mul]
  · have : ¬ b * k < 0 := by
      have := Int.mul_nonneg (show (0 : Int) ≤ b by omega) (Int.le_of_lt hk)
      omega
    rw [if_neg hb, if_neg this, Int.natCast_mul, ek]
theorem low_scale {t b k : Int} (h : b ≠ 0) (hk : 0 < k) : low (t * k) (b * k) = low t b := by
  obtain ⟨x, y, e1, e2, _, _⟩ := sg_dvd (t := t) h
  have hbk : b * k ≠ 0 := Int.mul_ne_zero h (by omega)
  rw [low_eq h e1 e2]
  refine low_eq hbk ?_ ?_
  · rw [sg_scale hk, Int.mul_assoc, Int.mul_comm k x, ← Int.mul_assoc, ← e1]
  · rw [sg_scale hk, Int.mul_assoc, Int.mul_comm k y, ← Int.mul_assoc, ← e2]
/-- a ratio k times over is the ratio -/
theorem low_back {t b k : Int} (h : Low t b) (hk : 0 < k) : low (t * k) (b * k) = (t, b) := by
  rw [low_scale (by have := h.pos; omega) hk, low_id h]
theorem low_size {t b : Int} (h : b ≠ 0) : (low t b).1.natAbs ≤ t.natAbs ∧ (low t b).2.natAbs ≤ b.natAbs := by
  obtain ⟨x, y, e1, e2, _, _⟩ := sg_dvd (t := t) h
  rw [low_eq h e1 e2]
  have s : 0 < (sg t b).natAbs := by have := sg_ne (t := t) h; omega
  have a1 : t.natAbs = (sg t b).natAbs * x.natAbs := by rw [← Int.natAbs_mul, ← e1]
  have a2 : b.natAbs = (sg t b).natAbs * y.natAbs := by rw [← Int.natAbs_mul, ← e2]
  rw [a1, a2]
  exact ⟨Nat.le_mul_of_pos_left _ s, Nat.le_mul_of_pos_left _ s⟩
theorem low_val {t b : Int} (h : b ≠ 0) : t * (low t b).2 = (low t b).1 * b := by
  obtain ⟨x, y, e1, e2, _, _⟩ := sg_dvd (t := t) h
  rw [low_eq h e1 e2]
  generalize sg t b = s at e1 e2
  rw [e1, e2]
  show s * x * y = x * (s * y)
  rw [Int.mul_comm s x, Int.mul_assoc]
theorem sg_size {t b : Int} (h : b ≠ 0) : (sg t b).natAbs ≤ b.natAbs := by
  have e : (sg t b).natAbs = Nat.gcd t.natAbs b.natAbs := by
    unfold sg
    split
    · rw [Int.natAbs_neg, Int.natAbs_natCast]
    · rw [Int.natAbs_natCast]
  rw [e]
  exact Nat.le_of_dvd (by omega) (Nat.gcd_dvd_right _ _)
/-- Euclid's laps: what holds ahead of the i-th -/
structure Lap (G P : Nat) (i : Nat) (a b : Int) : Prop where
  a0 : 0 ≤ a
  b0 : 0 ≤ b
  g : Nat.gcd a.natAbs b.natAbs = G
  le : i = 0 ∨ b ≤ a
  sm : a.natAbs * b.natAbs * 2 ^ (i - 1) ≤ P
theorem lap0 (x y : Int) : Lap (Nat.gcd x.natAbs y.natAbs) (x.natAbs * y.natAbs) 0 (if x < 0 then -x else x) (if y < 0 then -y else y) := by
  have e : ∀ z : Int, (if z < 0 then -z else z) = ((z.natAbs : Nat) : Int) := fun z => by split <;> omega
  rw [e, e]
  exact ⟨by omega, by omega, by rw [Int.natAbs_natCast, Int.natAbs_natCast], .inl rfl, by rw [Int.natAbs_natCast, Int.natAbs_natCast]; simp⟩
theorem lap_next {G P i : Nat} {a b : Int} (h : Lap G P i a b) (hb : b ≠ 0) : Lap G P (i + 1) b (a % b) := by
  have b1 : 0 < b := by have := h.b0; omega
  have r0 := Int.emod_nonneg a hb
  have r1 := Int.emod_lt_of_pos a b1
  obtain ⟨x, rfl⟩ := Int.eq_ofNat_of_zero_le h.a0
  obtain ⟨y, rfl⟩ := Int.eq_ofNat_of_zero_le h.b0
  have em : ((x : Int) % (y : Int)) = ((x % y : Nat) : Int) := by omega
  refine ⟨by omega, r0, ?_, .inr (by omega), ?_⟩
  · rw [em, Int.natAbs_natCast, Int.natAbs_natCast]
    have g := h.g
    rw [Int.natAbs_natCast, Int.natAbs_natCast] at g
    rw [Nat.gcd_comm, ← Nat.gcd_rec, Nat.gcd_comm]
    exact g
  · have s := h.sm
    rw [em]
    rw [Int.natAbs_natCast, Int.natAbs_natCast] at s ⊢
    rw [Nat.add_sub_cancel]
    have y1 : 0 < y := by omega
    rcases h.le with z | z
    · rw [z] at s ⊢
      simp only [Nat.zero_sub, Nat.pow_zero, Nat.mul_one] at s ⊢
      have : x % y ≤ x := Nat.mod_le _ _
      calc y * (x % y) ≤ y * x := Nat.mul_le_mul_left _ this
        _ = x * y := Nat.mul_comm _ _
        _ ≤ P := s
    · have hxy : y ≤ x := by omega
      have hm : 2 * (x % y) ≤ x := by
        have q := Nat.div_add_mod x y
        have q1 : 1 ≤ x / y := (Nat.le_div_iff_mul_le y1).mpr (by omega)
        have q2 : y * 1 ≤ y * (x / y) := Nat.mul_le_mul_left _ q1
        have q3 := Nat.mod_lt x y1
        omega
      by_cases hi : i = 0
      · rw [hi] at s ⊢
        simp only [Nat.zero_sub, Nat.pow_zero, Nat.mul_one] at s ⊢
        have : x % y ≤ x := Nat.mod_le _ _
        calc y * (x % y) ≤ y * x := Nat.mul_le_mul_left _ this
          _ = x * y := Nat.mul_comm _ _
          _ ≤ P := s
      · have ei : 2 ^ i = 2 * 2 ^ (i - 1) := by
          have : i = (i - 1) + 1 := by omega
          rw [this, Nat.pow_succ, Nat.add_sub_cancel, Nat.mul_comm]
        rw [ei]
        calc y * (x % y) * (2 * 2 ^ (i - 1)) = (2 * (x % y)) * (y * 2 ^ (i - 1)) := by
              rw [Nat.mul_comm y (x % y), Nat.mul_assoc, Nat.mul_left_comm y 2, ← Nat.mul_assoc (x % y) 2, Nat.mul_comm (x % y) 2]
          _ ≤ x * (y * 2 ^ (i - 1)) := Nat.mul_le_mul_right _ hm
          _ = x * y * 2 ^ (i - 1) := by rw [Nat.mul_assoc]
          _ ≤ P := s
theorem lap_end {G P i : Nat} {a b : Int} (h : Lap G P i a b) (hb : b = 0) : a = ((G : Nat) : Int) := by
  have g := h.g
  rw [hb] at g
  have e : Nat.gcd a.natAbs (0 : Int).natAbs = a.natAbs := Nat.gcd_zero_right _
  rw [e] at g
  have := h.a0
  omega
theorem lap_over {G P : Nat} {i : Nat} {a b : Int} (h : Lap G P i a b) (hi : 0 < i) (hP : P < 2 ^ (i - 1)) : b = 0 := by
  have s := h.sm
  have l : b ≤ a := by rcases h.le with z | z <;> omega
  rcases Nat.eq_zero_or_pos (a.natAbs * b.natAbs) with z | z
  · rcases Nat.mul_eq_zero.mp z with z | z
    · have := h.b0; omega
    · omega
  · have : 1 * 2 ^ (i - 1) ≤ a.natAbs * b.natAbs * 2 ^ (i - 1) := Nat.mul_le_mul_right _ z
    omega
end Vf

set_option maxRecDepth 100000
set_option maxHeartbeats 4000000
/-! rules: a list or tuple walked; == of data; == by a class's own def; rows of ratios -/
namespace Vf
open PySem PySem.Spec PyProof.Rows L2
section
variable {X : Cx} {tg : Expr}
/-- a walk over a list or a tuple -/
def iSeq (K : PySem.W.Frag) (tl : TE) : TI := fun σ H R => tl σ H fun x H1 => ∃ a, x = .ref a ∧ ((∃ xs, SqL K H1 a xs ∧ R (Itl K a) H1) ∨ (∃ xs, SqT K H1 a xs ∧ R (Itt K a) H1))
theorem pi_seq {l : Expr} {tl : TE} (hl : PE X l tl) : PI X tg l (iSeq X.K tl) := by
  refine ⟨fun pins s σ H R I h => ?_⟩
  refine thn (hl.run pins s σ H _ I h) fun v s1 ⟨x, H1, I1, r1, q1⟩ => ?_
  obtain ⟨a, e, q1⟩ := q1
  subst e
  rcases q1 with ⟨xs, hq, q⟩ | ⟨xs, hq, q⟩
  · cases r1
    obtain ⟨its, rv, p, hz⟩ := I1.list hq
    refine wpAny_pyIter_list p.isList ?_
    refine ⟨s1.heap.objs.size, [s1.heap.objs.size], _, _, H1, rfl, I1.kept (t' := s1.toks) fun b o e => Heap.get?_push_of_some _ e, turn_list a _, ⟨_, Heap.get?_push_size _ rfl, rfl, rfl⟩, fun b hb => ?_, q⟩
    have e : b = s1.heap.objs.size := by simpa using hb
    subst e
    exact I1.fpOk (Nat.le_refl _) (I1.hok.fresh (Nat.le_refl _))
  · cases r1
    obtain ⟨its, rv, p, hz⟩ := I1.tuple hq
    refine wpAny_pyIter_tuple (show s1.heap.IsTuple a its.toArray from p) ?_
    refine ⟨s1.heap.objs.size, [s1.heap.objs.size], _, _, H1, rfl, I1.kept (t' := s1.toks) fun b o e => Heap.get?_push_of_some _ e, turn_tuple a _, ⟨_, Heap.get?_push_size _ rfl, rfl, rfl⟩, fun b hb => ?_, q⟩
    have e : b = s1.heap.objs.size := by simpa using hb
    subst e
    exact I1.fpOk (Nat.le_refl _) (I1.hok.fresh (Nat.le_refl _))
/-- list(x), told by its constants alone -/
def rListOf (K : PySem.W.Frag) : List V → Hp → VK → Prop := fun xs H Q => ∃ p ys, xs = [.ref p] ∧ (SqL K H p ys ∨ SqT K H p ys) ∧ ∀ l, H l = none → Q (.ref l) (upd H l (.lst ys))
theorem call_listK : CallR X (.type "list") (rListOf X.K) := call_list_of
/-- == and != of data without dicts -/
def rEqT (K : PySem.W.Frag) : R2 := fun x y H Q => ∃ d e, Dt K H x d ∧ Dt K H y e ∧ d.plain = true ∧ e.plain = true ∧ d.depth ≤ 60 ∧ Q (.bl (PyData.eqv d e)) H
def rNeT (K : PySem.W.Frag) : R2 := fun x y H Q => ∃ d e, Dt K H x d ∧ Dt K H y e ∧ d.plain = true ∧ e.plain = true ∧ d.depth ≤ 60 ∧ Q (.bl (!PyData.eqv d e)) H
theorem op_eqT (hu : X.A.units + 64 < cLine) (m : M1 X.base) : OpR X (compareOp .Eq) (rEqT X.K) := by
  intro pins s σ H x y v u Q I rx ry h
  obtain ⟨d, e, hd, he, pd, pe, hz, q⟩ := h
  obtain ⟨as, r1, _⟩ := Dt.reads I m hd rx
  obtain ⟨bs, r2, _⟩ := Dt.reads I m he ry
  exact SeqAt.eq_plain r1 r2 pd pe (by have := Nat.min_le_left d.depth e.depth; omega) ⟨.bl _, H, I, rfl, q⟩
theorem op_neT (hu : X.A.units + 64 < cLine) (m : M1 X.base) : OpR X (compareOp .NotEq) (rNeT X.K) := by
  intro pins s σ H x y v u Q I rx ry h
  obtain ⟨d, e, hd, he, pd, pe, hz, q⟩ := h
  obtain ⟨as, r1, _⟩ := Dt.reads I m hd rx
  obtain ⟨bs, r2, _⟩ := Dt.reads I m he ry
  exact SeqAt.ne_plain r1 r2 pd pe (by have := Nat.min_le_left d.depth e.depth; omega) ⟨.bl _, H, I, rfl, q⟩
/-- x == y, x of the class at C whose own == is at g -/
def rEqO (K : PySem.W.Frag) (C : Addr) (sp : Sp) (E : XK) : R2 := fun x y H Q => ∃ a dx fs t, x = .ref a ∧ H a = some (.ins C dx fs) ∧ TyX K H y t ∧ PySem.W.notFirst K C t = true ∧ sp [x, y] H Q E
theorem op_eqO {CX : CXT} {C g : Addr} {k : Nat} {fd : FuncData} {ps : List Str} {sp : Sp} {E : XK} (hs : PySem.W.findIn X.K (.ref C) "__eq__" = some (some (.ref g))) (hf : PySem.W.isFn X.K (.ref g) = true)
    (F : FnOk X.prog X.w X.K X.mg X.base CX k g fd ps sp) (hb : Binds X.K fd ps []) (hr : Room k X.A) (hx : Passes CX X E) : OpR X (compareOp .Eq) (rEqO X.K C sp E) := by
  intro pins s σ H x y v u Q I rx ry h
  obtain ⟨a, dx, fs, t, rfl, ha, ty, hn, q⟩ := h
  cases (show v = Value.ref a from rx)
  obtain ⟨mA, O, _⟩ := ins_get I.hok ha
  obtain ⟨od, J, _⟩ := O.look
  obtain ⟨P, Z, p, _⟩ := kit_of I ry ty
  obtain ⟨m, hF⟩ := I.fr
  refine PySem.W.cmp_K (op := .Eq) (tb := t) hr.units0 hF I.ok.mod.kin J (Z.ty _ _ I.kIn p) hn hs hf ?_
  have hsp : sp ([V.ref a, y] ++ []) H Q E := q
  refine wpAny_mono (run_fn (us := [.ref a, u]) (vs := [.ref a, y]) F hr hb .nil hx I (.cons rfl (.cons ry .nil)) hsp) (fun w s' z => ?_) fun _ _ x => x
  obtain ⟨z', H', I', rz, qz⟩ := z
  exact SlX.cmpback rz ⟨z', H', I', rz, qz⟩
end
/-- what is new in the second heap -/
def nw (H H' : Hp) : Hp := fun b => match H b with
  | some _ => none
  | none => H' b
theorem nw_at {H H' : Hp} {b : Addr} {o : HO} (h : H b = none) (e : H' b = some o) : nw H H' b = some o := by
  unfold nw
  rw [h]
  exact e
theorem nw_get {H H' : Hp} {b : Addr} {o : HO} (e : nw H H' b = some o) : H b = none ∧ H' b = some o := by
  unfold nw at e
  split at e
  · cases e
  · exact ⟨by assumption, e⟩
theorem nw_sub {H H' : Hp} : Same (nw H H') H' := fun b o e => (nw_get e).2
/-- the heap without l and p -/
def fz (l p : Addr) (H : Hp) : Hp := fun b => if b = l ∨ b = p then none else H b
theorem fz_at {l p b : Addr} {H : Hp} {o : HO} (h1 : b ≠ l) (h2 : b ≠ p) (e : H b = some o) : fz l p H b = some o := by
  unfold fz
  rw [if_neg (fun z => z.elim h1 h2)]
  exact e
theorem fz_get {l p b : Addr} {H : Hp} {o : HO} (e : fz l p H b = some o) : b ≠ l ∧ b ≠ p ∧ H b = some o := by
  unfold fz at e
  by_cases h : b = l ∨ b = p
  · rw [if_pos h] at e
    cases e
  · rw [if_neg h] at e
    exact ⟨fun z => h (.inl z), fun z => h (.inr z), e⟩
theorem fz_sub {l p : Addr} {H : Hp} : Same (fz l p H) H := fun b o e => (fz_get e).2.2
theorem fz_mono {l p : Addr} {H H' : Hp} (k : ∀ b o, b ≠ l → b ≠ p → H b = some o → H' b = some o) : Same (fz l p H) (fz l p H') := fun b o e => by
  obtain ⟨h1, h2, h3⟩ := fz_get e
  exact fz_at h1 h2 (k b o h1 h2 h3)
theorem nw_fz {l p : Addr} {H H' : Hp} {o1 o2 : HO} (hl : H l = some o1) (hp : H p = some o2) : Same (nw H H') (fz l p H') := fun b o e => by
  obtain ⟨h1, h2⟩ := nw_get e
  exact fz_at (fun z => by rw [z, hl] at h1; cases h1) (fun z => by rw [z, hp] at h1; cases h1) h2
theorem some_free {p b : Addr} {H H' : Hp} {o : HO} (k : ∀ c u, c ≠ p → H c = some u → H' c = some u) (hp : H' p = some o) (n : H' b = none) : H b = none := by
  cases e : H b with
  | none => rfl
  | some u =>
    by_cases h : b = p
    · rw [h, hp] at n
      cases n
    · rw [k b u h e] at n
      cases n
/-! ### rows of ratios -/
def pairD (p : Int × Int) : PyData := .tuple [.int p.1, .int p.2]
/-- a row without the zeros behind -/
def strip (l : List (Int × Int)) : List (Int × Int) := (l.reverse.dropWhile fun p => p.1 == 0).reverse
theorem strip_nil : strip [] = [] := rfl
theorem strip_snoc (l : List (Int × Int)) (x : Int × Int) : strip (l ++ [x]) = if x.1 = 0 then strip l else l ++ [x] := by
  unfold strip
  rw [List.reverse_append]
  simp only [List.reverse_cons, List.reverse_nil, List.nil_append, List.singleton_append, List.dropWhile_cons, beq_iff_eq]
  split
  · rfl
  · rw [List.reverse_cons, List.reverse_reverse]
theorem snoc_ind {α : Type} {P : List α → Prop} (h0 : P []) (hs : ∀ l x, P l → P (l ++ [x])) : ∀ l, P l := fun l => by
  have h : ∀ r : List α, P r.reverse := fun r => by
    induction r with
    | nil => exact h0
    | cons x r ih => rw [List.reverse_cons]; exact hs _ _ ih
  have z := h l.reverse
  rw [List.reverse_reverse] at z
  exact z
theorem snoc_cases {α : Type} (l : List α) : l = [] ∨ ∃ r x, l = r ++ [x] := snoc_ind (P := fun l => l = [] ∨ ∃ r x, l = r ++ [x]) (.inl rfl) (fun l x _ => .inr ⟨l, x, rfl⟩) l
theorem strip_last : ∀ {l r : List (Int × Int)} {x : Int × Int}, strip l = r ++ [x] → x.1 ≠ 0 := by
  intro l
  refine snoc_ind (P := fun l => ∀ {r : List (Int × Int)} {x : Int × Int}, strip l = r ++ [x] → x.1 ≠ 0) (fun {r x} h => by simp [strip_nil] at h) (fun l y ih {r x} h => ?_) l
  rw [strip_snoc] at h
  split at h
  · exact ih h
  · have z := (List.append_inj' h rfl).2
    cases z
    assumption
theorem strip_pre (l : List (Int × Int)) : ∃ r, l = strip l ++ r ∧ ∀ x ∈ r, x.1 = 0 := by
  refine snoc_ind (P := fun l => ∃ r, l = strip l ++ r ∧ ∀ x ∈ r, x.1 = 0) ⟨[], rfl, fun x h => by cases h⟩ (fun l y ih => ?_) l
  rw [strip_snoc]
  split
  · rename_i h0
    obtain ⟨r, e, hr⟩ := ih
    refine ⟨r ++ [y], by rw [← List.append_assoc, ← e], fun x hx => ?_⟩
    rcases List.mem_append.mp hx with z | z
    · exact hr x z
    · rw [List.mem_singleton.mp z]; exact h0
  · exact ⟨[], by simp, fun x h => by cases h⟩
theorem strip_mem {l : List (Int × Int)} {x : Int × Int} (h : x ∈ strip l) : x ∈ l := by
  obtain ⟨r, e, _⟩ := strip_pre l
  rw [e]
  exact List.mem_append.mpr (.inl h)
theorem strip_len (l : List (Int × Int)) : (strip l).length ≤ l.length := by
  obtain ⟨r, e, _⟩ := strip_pre l
  have := congrArg List.length e
  rw [List.length_append] at this
  omega
theorem strip_id {l : List (Int × Int)} (h : ∀ r x, l = r ++ [x] → x.1 ≠ 0) : strip l = l := by
  rcases snoc_cases l with e | ⟨r, x, e⟩
  · rw [e]; rfl
  · have z := h r x e
    rw [e, strip_snoc, if_neg z]
/-- tuples of two whole numbers each, at their addresses -/
inductive Tups (H : Hp) : List Addr → List (Int × Int) → Prop
  | nil : Tups H [] []
  | cons {a : Addr} {as : List Addr} {p : Int × Int} {ps : List (Int × Int)} : H a = some (.tup [.int p.1, .int p.2]) → Tups H as ps → Tups H (a :: as) (p :: ps)
theorem Tups.len {H : Hp} : ∀ {as : List Addr} {ps : List (Int × Int)}, Tups H as ps → as.length = ps.length
  | _, _, .nil => rfl
  | _, _, .cons _ t => congrArg (· + 1) t.len
theorem Tups.imp {H H' : Hp} (e : ∀ (a : Addr) (p : Int × Int), H a = some (.tup [.int p.1, .int p.2]) → H' a = some (.tup [.int p.1, .int p.2])) : ∀ {as : List Addr} {ps : List (Int × Int)}, Tups H as ps → Tups H' as ps
  | _, _, .nil => .nil
  | _, _, .cons h t => .cons (e _ _ h) (t.imp e)
theorem Tups.same {H H' : Hp} (e : Same H H') {as : List Addr} {ps : List (Int × Int)} (h : Tups H as ps) : Tups H' as ps := h.imp fun a p q => e _ _ q
theorem Tups.snoc {H : Hp} : ∀ {as : List Addr} {ps : List (Int × Int)} {a : Addr} {p : Int × Int}, Tups H as ps → H a = some (.tup [.int p.1, .int p.2]) → Tups H (as ++ [a]) (ps ++ [p])
  | _, _, _, _, .nil, h => .cons h .nil
  | _, _, _, _, .cons h t, h2 => .cons h (t.snoc h2)
theorem Tups.unsnoc {H : Hp} : ∀ {as : List Addr} {ps : List (Int × Int)} {p : Int × Int}, Tups H as (ps ++ [p]) → ∃ as' a, as = as' ++ [a] ∧ Tups H as' ps ∧ H a = some (.tup [.int p.1, .int p.2])
  | _, [], _, .cons h .nil => ⟨[], _, rfl, .nil, h⟩
  | _, _ :: _, _, .cons h t => by
    obtain ⟨as', a, e, t', h'⟩ := t.unsnoc
    exact ⟨_ :: as', a, by rw [e]; rfl, .cons h t', h'⟩
theorem Tups.dts {K : PySem.W.Frag} {H : Hp} : ∀ {as : List Addr} {ps : List (Int × Int)}, Tups H as ps → Dts K H (as.map V.ref) (ps.map pairD)
  | _, _, .nil => .nil
  | _, _, .cons h t => .cons (.tup (SqT.of h) (.cons (.int _) (.cons (.int _) .nil))) t.dts
theorem Tups.app {H : Hp} : ∀ {as bs : List Addr} {ps qs : List (Int × Int)}, Tups H as ps → Tups H bs qs → Tups H (as ++ bs) (ps ++ qs)
  | _, _, _, _, .nil, h => h
  | _, _, _, _, .cons a t, h => .cons a (t.app h)
theorem Tups.take {H : Hp} : ∀ {as : List Addr} {ps : List (Int × Int)} (n : Nat), Tups H as ps → Tups H (as.take n) (ps.take n)
  | _, _, 0, _ => .nil
  | _, _, _ + 1, .nil => .nil
  | _, _, n + 1, .cons a t => .cons a (t.take n)
theorem Tups.at {H : Hp} : ∀ {as : List Addr} {ps : List (Int × Int)} {i : Nat} {a : Addr}, Tups H as ps → as[i]? = some a → ∃ p, ps[i]? = some p ∧ H a = some (.tup [.int p.1, .int p.2])
  | _, _, _, _, .nil, e => by simp at e
  | _, _, 0, _, .cons h _, e => by simp at e; subst e; exact ⟨_, rfl, h⟩
  | _, _, i + 1, a, .cons _ t, e => by
    obtain ⟨d, h1, h2⟩ := t.at (i := i) (a := a) (by simpa using e)
    exact ⟨d, by simpa using h1, h2⟩
theorem eqv_pair (p q : Int × Int) : PyData.eqv (pairD p) (pairD q) = decide (p = q) := by
  obtain ⟨a, b⟩ := p
  obtain ⟨c, d⟩ := q
  unfold pairD
  simp only [PyData.eqv, PyData.eqvAll, Bool.and_true]
  by_cases h1 : a = c <;> by_cases h2 : b = d <;> simp [h1, h2]
theorem eqvAll_pairs : ∀ l r : List (Int × Int), PyData.eqvAll (l.map pairD) (r.map pairD) = decide (l = r)
  | [], [] => by simp [PyData.eqvAll]
  | [], _ :: _ => by simp [PyData.eqvAll]
  | _ :: _, [] => by simp [PyData.eqvAll]
  | p :: l, q :: r => by
    simp only [List.map_cons, PyData.eqvAll, eqv_pair, eqvAll_pairs l r]
    by_cases h1 : p = q <;> by_cases h2 : l = r <;> simp [h1, h2]
theorem eqv_row (l r : List (Int × Int)) : PyData.eqv (.tuple (l.map pairD)) (.tuple (r.map pairD)) = decide (l = r) := by
  simp only [PyData.eqv]
  exact eqvAll_pairs l r
theorem eqv_rowL (l r : List (Int × Int)) : PyData.eqv (.list (l.map pairD)) (.list (r.map pairD)) = decide (l = r) := by
  simp only [PyData.eqv]
  exact eqvAll_pairs l r
theorem plain_pairs : ∀ l : List (Int × Int), PyData.plainAll (l.map pairD) = true
  | [] => by simp only [List.map_nil, PyData.plainAll]
  | p :: l => by
    simp only [List.map_cons, PyData.plainAll, plain_pairs l, pairD, PyData.plain, Bool.and_self]
theorem plain_row (l : List (Int × Int)) : (PyData.tuple (l.map pairD)).plain = true ∧ (PyData.list (l.map pairD)).plain = true := by
  simp only [PyData.plain]
  exact ⟨plain_pairs l, plain_pairs l⟩
theorem depth_pairs : ∀ l : List (Int × Int), PyData.depthAll (l.map pairD) ≤ 1
  | [] => by simp only [List.map_nil, PyData.depthAll]; omega
  | p :: l => by
    have h := depth_pairs l
    simp only [List.map_cons, PyData.depthAll, pairD, PyData.depth]
    exact Nat.max_le.mpr ⟨by simp, h⟩
theorem depth_row (l : List (Int × Int)) : (PyData.tuple (l.map pairD)).depth ≤ 60 ∧ (PyData.list (l.map pairD)).depth ≤ 60 := by
  have h := depth_pairs l
  simp only [PyData.depth]
  omega
/-- a comprehension over a list or a tuple -/
theorem lc_seq {K : PySem.W.Frag} {a : Addr} {xs : List V} {g : TG} {tt : TT} {te : TE} {vs : List Nat} {σ : L2.St} {H1 : Hp} {Qd : Addr → Hp → Prop} (h : SqL K H1 a xs ∨ SqT K H1 a xs) (Pv : Addr → Nat → Hp → Prop)
    (h0 : ∀ D, H1 D = none → Pv D 0 (upd H1 D (.lst []))) (hl : ∀ D i H, H1 D = none → Pv D i H → (SqL K H1 a xs → SqL K H a xs) ∧ (SqT K H1 a xs → SqT K H a xs))
    (hs : ∀ D i x H, H1 D = none → xs[i]? = some x → Pv D i H → g x (wipe σ vs) H fun σ2 H2 => wipe σ2 vs = wipe σ vs ∧ tt σ2 H2 fun b H3 =>
      if b = true then te σ2 H3 fun y H4 => ∃ acc, H4 D = some (.lst acc) ∧ acc.length < sizeLine ∧ Pv D (i + 1) (upd H4 D (.lst (acc ++ [y]))) else Pv D (i + 1) H3) (hd : ∀ D H, H1 D = none → Pv D xs.length H → Qd D H) :
    (∃ xs, SqL K H1 a xs ∧ ∀ D, H1 D = none → ∃ W : Nat → Nat → Hp → Prop, (∃ m, W 0 m (upd H1 D (.lst []))) ∧ ∀ i m H, W i m H →
      (((Itl K a).stop i H ∧ Qd D H) ∨ ((Itl K a).go i H ∧ ∃ Nx : Hp → Prop, (∀ H', Nx H' → ∃ m', m' < m ∧ W (i + 1) m' H') ∧ ∀ x H', (Itl K a).yld i H x H' → g x (wipe σ vs) H' fun σ2 H2 => wipe σ2 vs = wipe σ vs ∧ tt σ2 H2 fun b H3 =>
        if b = true then te σ2 H3 fun y H4 => ∃ acc, H4 D = some (.lst acc) ∧ acc.length < sizeLine ∧ Nx (upd H4 D (.lst (acc ++ [y]))) else Nx H3))) ∨
    (∃ xs, SqT K H1 a xs ∧ ∀ D, H1 D = none → ∃ W : Nat → Nat → Hp → Prop, (∃ m, W 0 m (upd H1 D (.lst []))) ∧ ∀ i m H, W i m H →
      (((Itt K a).stop i H ∧ Qd D H) ∨ ((Itt K a).go i H ∧ ∃ Nx : Hp → Prop, (∀ H', Nx H' → ∃ m', m' < m ∧ W (i + 1) m' H') ∧ ∀ x H', (Itt K a).yld i H x H' → g x (wipe σ vs) H' fun σ2 H2 => wipe σ2 vs = wipe σ vs ∧ tt σ2 H2 fun b H3 =>
        if b = true then te σ2 H3 fun y H4 => ∃ acc, H4 D = some (.lst acc) ∧ acc.length < sizeLine ∧ Nx (upd H4 D (.lst (acc ++ [y]))) else Nx H3))) := by
  rcases h with h | h
  · exact .inl ⟨xs, h, fun D hD => lc_list (K := K) (a := a) (xs := xs) (Pv D) (h0 D hD) (fun i H _ p => (hl D i H hD p).1 h) (fun i x H hi p => hs D i x H hD hi p) (fun H p => hd D H hD p)⟩
  · exact .inr ⟨xs, h, fun D hD => lc_tup (K := K) (a := a) (xs := xs) (Pv D) (h0 D hD) (fun i H _ p => (hl D i H hD p).2 h) (fun i x H hi p => hs D i x H hD hi p) (fun H p => hd D H hD p)⟩
theorem strip_strip (l : List (Int × Int)) : strip (strip l) = strip l := strip_id fun r x h => strip_last h
end Vf

set_option maxRecDepth 100000
set_option maxHeartbeats 4000000
/-! ratios and rows of them as numbers: the mathematics -/
namespace Vf
/-- a number as its pair -/
def pq (r : Rat) : Int × Int := (r.num, (r.den : Int))
theorem low_pq {t b : Int} (h : b ≠ 0) : low t b = pq (Rat.divInt t b) := by
  obtain ⟨x, y, e1, e2, hp, ho⟩ := sg_dvd (t := t) h
  have s := sg_ne (t := t) h
  have e : Rat.divInt t b = Rat.divInt x y := by
    calc Rat.divInt t b = Rat.divInt (sg t b * x) (sg t b * y) := by rw [← e1, ← e2]
      _ = Rat.divInt x y := Rat.divInt_mul_left s
  rw [low_eq h e1 e2, e]
  obtain ⟨n, rfl⟩ := Int.eq_ofNat_of_zero_le (Int.le_of_lt hp)
  have hn : n ≠ 0 := by omega
  have ho' : x.natAbs.Coprime n := ho
  have e2 : Rat.divInt x (n : Int) = ⟨x, n, hn, ho'⟩ := by
    rw [Rat.divInt_ofNat, Rat.mk_eq_mkRat]
  rw [e2]
  rfl
theorem pq_low (r : Rat) : Low (pq r).1 (pq r).2 := ⟨by have := r.den_pos; show (0 : Int) < (r.den : Int); omega, r.reduced⟩
theorem pq_inj {a b : Rat} (h : pq a = pq b) : a = b := by
  have h1 := congrArg Prod.fst h
  have h2 := congrArg Prod.snd h
  exact Rat.ext h1 (Int.ofNat.inj h2)
theorem low_is_pq {p : Int × Int} (h : Low p.1 p.2) : ∃ r : Rat, p = pq r := by
  refine ⟨Rat.divInt p.1 p.2, ?_⟩
  rw [← low_pq (by have := h.pos; omega), low_id h]
theorem cast_ne {M : Int} (h : M ≠ 0) : (M : Rat) ≠ 0 := fun z => h (by exact_mod_cast z)
theorem low_mul {A M : Int} {q : Rat} (hM : M ≠ 0) (h : q * (M : Rat) = (A : Rat)) : low A M = pq q := by
  rw [low_pq hM, Rat.divInt_eq_div]
  congr 1
  rw [← h, Rat.mul_div_cancel (cast_ne hM)]
theorem low_add (a b : Rat) : low (a.num * b.den + b.num * a.den) (a.den * b.den) = pq (a + b) := by
  have h : ((a.den : Int) * (b.den : Int)) ≠ 0 := by
    have := a.den_nz
    have := b.den_nz
    exact Int.mul_ne_zero (by omega) (by omega)
  rw [low_pq h, Rat.add_def', ← Rat.divInt_ofNat]
  congr 1
theorem low_times (a b : Rat) : low (a.num * b.num) (a.den * b.den) = pq (a * b) := by
  have h : ((a.den : Int) * (b.den : Int)) ≠ 0 := by
    have := a.den_nz
    have := b.den_nz
    exact Int.mul_ne_zero (by omega) (by omega)
  rw [low_pq h, Rat.mul_def', ← Rat.divInt_ofNat]
  congr 1
/-- a number is a whole part of 1 / M, at most N of them -/
def Fr (M N : Nat) (r : Rat) : Prop := ∃ n : Int, r * (M : Rat) = (n : Rat) ∧ n.natAbs ≤ N
theorem Fr.size {M N : Nat} {r : Rat} (hM : 0 < M) (h : Fr M N r) : r.num.natAbs ≤ N ∧ r.den ≤ M := by
  obtain ⟨n, e, hn⟩ := h
  have hM' : (M : Int) ≠ 0 := by omega
  have z := low_mul (A := n) (M := (M : Int)) (q := r) hM' (by exact_mod_cast e)
  obtain ⟨s1, s2⟩ := low_size (t := n) hM'
  rw [z] at s1 s2
  have s1 : r.num.natAbs ≤ n.natAbs := s1
  have s2 : (r.den : Int).natAbs ≤ (M : Int).natAbs := s2
  omega
theorem Fr.add {M N N' : Nat} {a b : Rat} (h : Fr M N a) (h' : Fr M N' b) : Fr M (N + N') (a + b) := by
  obtain ⟨n, e, hn⟩ := h
  obtain ⟨n', e', hn'⟩ := h'
  refine ⟨n + n', ?_, by omega⟩
  rw [Rat.add_mul, e, e']
  exact_mod_cast rfl
theorem Fr.mul {M N M' N' : Nat} {a b : Rat} (h : Fr M N a) (h' : Fr M' N' b) : Fr (M * M') (N * N') (a * b) := by
  obtain ⟨n, e, hn⟩ := h
  obtain ⟨n', e', hn'⟩ := h'
  refine ⟨n * n', ?_, ?_⟩
  · have : ((M * M' : Nat) : Rat) = (M : Rat) * (M' : Rat) := by exact_mod_cast rfl
    have h2 : ((n * n' : Int) : Rat) = (n : Rat) * (n' : Rat) := by exact_mod_cast rfl
    rw [this, h2, ← e, ← e']
    grind
  · rw [Int.natAbs_mul]
    exact Nat.mul_le_mul hn hn'
theorem Fr.neg {M N : Nat} {a : Rat} (h : Fr M N a) : Fr M N (-a) := by
  obtain ⟨n, e, hn⟩ := h
  refine ⟨-n, ?_, by omega⟩
  rw [Rat.neg_mul, e]
  exact_mod_cast rfl
theorem Fr.scale {M N : Nat} {a : Rat} (k : Nat) (h : Fr M N a) : Fr (M * k) (N * k) a := by
  obtain ⟨n, e, hn⟩ := h
  refine ⟨n * k, ?_, ?_⟩
  · have : ((M * k : Nat) : Rat) = (M : Rat) * (k : Rat) := by exact_mod_cast rfl
    have h2 : ((n * k : Int) : Rat) = (n : Rat) * (k : Rat) := by exact_mod_cast rfl
    rw [this, h2, ← e]
    grind
  · rw [Int.natAbs_mul, Int.natAbs_natCast]
    exact Nat.mul_le_mul_right _ hn
theorem Fr.zero (M N : Nat) : Fr M N 0 := ⟨0, by rw [Rat.zero_mul]; rfl, Nat.zero_le _⟩
theorem Fr.le {M N N' : Nat} {a : Rat} (h : Fr M N a) (e : N ≤ N') : Fr M N' a := by
  obtain ⟨n, e1, hn⟩ := h
  exact ⟨n, e1, by omega⟩
theorem Fr.self (r : Rat) : Fr r.den r.num.natAbs r := by
  refine ⟨r.num, ?_, Nat.le_refl _⟩
  have h : (r.den : Rat) ≠ 0 := by
    have := r.den_nz
    exact_mod_cast this
  have z : (r.num : Rat) / (r.den : Rat) = r := by
    have := Rat.num_divInt_den r
    rw [Rat.divInt_eq_div] at this
    exact_mod_cast this
  rw [← z]
  rw [z]
  have := Rat.div_mul_cancel (a := (r.num : Rat)) h
  rw [z] at this
  exact this
theorem Fr.dvd {M M' N : Nat} {a : Rat} (h : Fr M N a) (d : M ∣ M') : ∃ k, M' = M * k ∧ Fr M' (N * k) a := by
  obtain ⟨k, e⟩ := d
  exact ⟨k, e, by rw [e]; exact h.scale k⟩
/-- below 2 ^ 1900 above and below -/
def Sr (r : Rat) : Prop := r.num.natAbs < 2 ^ 1900 ∧ r.den < 2 ^ 1900
theorem Fr.sr {M N : Nat} {r : Rat} (hM : 0 < M) (h : Fr M N r) (h1 : M < 2 ^ 1900) (h2 : N < 2 ^ 1900) : Sr r := by
  obtain ⟨a, b⟩ := h.size hM
  exact ⟨Nat.lt_of_le_of_lt a h2, Nat.lt_of_le_of_lt b h1⟩
/-! ### rows -/
def cf (l : List Rat) (i : Nat) : Rat := l.getD i 0
theorem cf_lt {l : List Rat} {i : Nat} (h : i < l.length) : cf l i = l[i] := by
  unfold cf
  rw [List.getD_eq_getElem?_getD, List.getElem?_eq_getElem h]
  rfl
theorem cf_get {l : List Rat} {i : Nat} {x : Rat} (h : l[i]? = some x) : cf l i = x := by
  unfold cf
  rw [List.getD_eq_getElem?_getD, h]
  rfl
theorem cf_ge {l : List Rat} {i : Nat} (h : l.length ≤ i) : cf l i = 0 := by
  unfold cf
  rw [List.getD_eq_getElem?_getD, List.getElem?_eq_none h]
  rfl
theorem cf_nil (i : Nat) : cf [] i = 0 := rfl
theorem cf_app {l r : List Rat} {i : Nat} : cf (l ++ r) i = if i < l.length then cf l i else cf r (i - l.length) := by
  unfold cf
  rw [List.getD_eq_getElem?_getD, List.getD_eq_getElem?_getD, List.getD_eq_getElem?_getD]
  split
  · rw [List.getElem?_append_left (by assumption)]
  · rw [List.getElem?_append_right (by omega)]
/-- a row without zeros behind -/
def stripQ (l : List Rat) : List Rat := (l.reverse.dropWhile fun r => r == 0).reverse
theorem stripQ_snoc (l : List Rat) (x : Rat) : stripQ (l ++ [x]) = if x = 0 then stripQ l else l ++ [x] := by
  unfold stripQ
  rw [List.reverse_append]
  simp only [List.reverse_cons, List.reverse_nil, List.nil_append, List.singleton_append, List.dropWhile_cons, beq_iff_eq]
  split
  · rfl
  · rw [List.reverse_cons, List.reverse_reverse]
theorem strip_map (l : List Rat) : strip (l.map pq) = (stripQ l).map pq := by
  refine snoc_ind (P := fun l => strip (l.map pq) = (stripQ l).map pq) rfl (fun l x ih => ?_) l
  rw [List.map_append, List.map_cons, List.map_nil, strip_snoc, stripQ_snoc, ih]
  have e : ((pq x).1 = 0) ↔ x = 0 := Rat.num_eq_zero
  by_cases h : x = 0
  · rw [if_pos h, if_pos (e.mpr h)]
  · rw [if_neg h, if_neg (fun z => h (e.mp z)), List.map_append]
    rfl
theorem cf_stripQ (l : List Rat) : ∀ i, cf (stripQ l) i = cf l i := by
  refine snoc_ind (P := fun l => ∀ i, cf (stripQ l) i = cf l i) (fun i => rfl) (fun l x ih i => ?_) l
  rw [stripQ_snoc]
  split
  · rename_i h
    rw [ih, cf_app, h]
    split
    · rfl
    · rename_i h2
      rw [cf_ge (by omega)]
      by_cases h3 : i - l.length = 0
      · rw [h3]; rfl
      · rw [cf_ge (show ([0] : List Rat).length ≤ i - l.length by show 1 ≤ _; omega)]
  · rfl
/-- no zero behind -/
def Stp (l : List Rat) : Prop := ∀ r x, l = r ++ [x] → x ≠ 0
theorem stripQ_stp (l : List Rat) : Stp (stripQ l) := by
  refine snoc_ind (P := fun l => Stp (stripQ l)) (fun r x h => by simp [stripQ] at h) (fun l y ih r x h => ?_) l
  rw [stripQ_snoc] at h
  split at h
  · exact ih r x h
  · have z := (List.append_inj' h rfl).2
    cases z
    assumption
theorem stripQ_id {l : List Rat} (h : Stp l) : stripQ l = l := by
  rcases snoc_cases l with e | ⟨r, x, e⟩
  · rw [e]; rfl
  · have z := h r x e
    rw [e, stripQ_snoc, if_neg z]
theorem stp_last {l : List Rat} (h : Stp l) (hl : 0 < l.length) : cf l (l.length - 1) ≠ 0 := by
  rcases snoc_cases l with e | ⟨r, x, e⟩
  · rw [e] at hl; cases hl
  · have z := h r x e
    rw [e, List.length_append]
    show cf (r ++ [x]) (r.length + 1 - 1) ≠ 0
    rw [cf_app, if_neg (by omega)]
    rw [show r.length + 1 - 1 - r.length = 0 by omega]
    exact z
theorem stp_len {a b : List Rat} (h : Stp a) (e : ∀ i, cf a i = cf b i) : a.length ≤ b.length := by
  rcases Nat.lt_or_ge b.length a.length with z | z
  · have q := stp_last h (by omega)
    rw [e, cf_ge (by omega)] at q
    exact absurd rfl q
  · exact z
theorem stp_ext {a b : List Rat} (ha : Stp a) (hb : Stp b) (e : ∀ i, cf a i = cf b i) : a = b := by
  have h1 := stp_len ha e
  have h2 := stp_len hb fun i => (e i).symm
  refine List.ext_getElem (by omega) fun i p q => ?_
  have z := e i
  rw [cf_lt p, cf_lt q] at z
  exact z
theorem stripQ_ext {a b : List Rat} (e : ∀ i, cf a i = cf b i) : stripQ a = stripQ b :=
  stp_ext (stripQ_stp a) (stripQ_stp b) fun i => by rw [cf_stripQ, cf_stripQ, e]
/-- the row of n numbers -/
def tab (n : Nat) (f : Nat → Rat) : List Rat := (List.range n).map f
theorem tab_len (n : Nat) (f : Nat → Rat) : (tab n f).length = n := by unfold tab; rw [List.length_map, List.length_range]
theorem cf_tab (n : Nat) (f : Nat → Rat) (i : Nat) : cf (tab n f) i = if i < n then f i else 0 := by
  by_cases h : i < n
  · rw [if_pos h]
    refine cf_get ?_
    unfold tab
    rw [List.getElem?_map, List.getElem?_range h]
    rfl
  · rw [if_neg h, cf_ge (by rw [tab_len]; omega)]
theorem tab_snoc (n : Nat) (f : Nat → Rat) : tab (n + 1) f = tab n f ++ [f n] := by
  unfold tab
  rw [List.range_succ, List.map_append]
  rfl
def padd (a b : List Rat) : List Rat := tab (max a.length b.length) fun i => cf a i + cf b i
theorem cf_padd (a b : List Rat) (i : Nat) : cf (padd a b) i = cf a i + cf b i := by
  unfold padd
  rw [cf_tab]
  split
  · rfl
  · rw [cf_ge (show a.length ≤ i by omega), cf_ge (show b.length ≤ i by omega), Rat.add_zero]
def pscale (a : List Rat) (c : Rat) : List Rat := a.map (· * c)
theorem cf_map {f : Rat → Rat} (hf : f 0 = 0) (a : List Rat) (i : Nat) : cf (a.map f) i = f (cf a i) := by
  by_cases h : i < a.length
  · rw [cf_lt (by rw [List.length_map]; exact h), cf_lt h, List.getElem_map]
  · rw [cf_ge (by rw [List.length_map]; omega), cf_ge (by omega), hf]
/-- sums -/
def sm (f : Nat → Rat) : Nat → Rat
  | 0 => 0
  | n + 1 => sm f n + f n
theorem sm_ext {f g : Nat → Rat} : ∀ {n : Nat}, (∀ i, i < n → f i = g i) → sm f n = sm g n
  | 0, _ => rfl
  | n + 1, h => by
    show sm f n + f n = sm g n + g n
    rw [sm_ext fun i hi => h i (by omega), h n (by omega)]
theorem sm_zero {f : Nat → Rat} : ∀ {n : Nat}, (∀ i, i < n → f i = 0) → sm f n = 0
  | 0, _ => rfl
  | n + 1, h => by
    show sm f n + f n = 0
    rw [sm_zero fun i hi => h i (by omega), h n (by omega), Rat.add_zero]
theorem sm_more {f : Nat → Rat} {n : Nat} : ∀ {m : Nat}, n ≤ m → (∀ i, n ≤ i → i < m → f i = 0) → sm f m = sm f n
  | 0, h, _ => by
    have : n = 0 := by omega
    rw [this]
  | m + 1, h, z => by
    by_cases e : n = m + 1
    · rw [e]
    · show sm f m + f m = sm f n
      rw [sm_more (m := m) (by omega) fun i h1 h2 => z i h1 (by omega), z m (by omega) (by omega), Rat.add_zero]
theorem sm_fr {f : Nat → Rat} {M N : Nat} : ∀ {n : Nat}, (∀ i, i < n → Fr M N (f i)) → Fr M (n * N) (sm f n)
  | 0, _ => Fr.zero _ _
  | n + 1, h => by
    have a := sm_fr (n := n) fun i hi => h i (by omega)
    have b := h n (by omega)
    have c := a.add b
    rw [Nat.succ_mul]
    exact c
/-- the number of a power in a product -/
def pc (a b : List Rat) (k : Nat) : Rat := sm (fun i => cf a i * cf b (k - i)) (k + 1)
def pmul (a b : List Rat) : List Rat := tab (a.length + b.length - 1) (pc a b)
theorem pc_zero {a b : List Rat} {k : Nat} (h : a.length + b.length ≤ k + 1) : pc a b k = 0 := by
  unfold pc
  refine sm_zero fun i hi => ?_
  by_cases h1 : i < a.length
  · rw [cf_ge (show b.length ≤ k - i by omega), Rat.mul_zero]
  · rw [cf_ge (show a.length ≤ i by omega), Rat.zero_mul]
theorem cf_pmul (a b : List Rat) (k : Nat) : cf (pmul a b) k = pc a b k := by
  unfold pmul
  rw [cf_tab]
  split
  · rfl
  · rw [pc_zero (by omega)]
end Vf

set_option maxRecDepth 100000
set_option maxHeartbeats 4000000
/-! rules: lcm; + - * of an object of a class with anything -/
namespace PySem.W
open PySem PySem.Spec PyProof.Rows
section
variable {prog : Program} {w : World} {A : Around} {E : Value → Shared → Prop} {s : Shared} {K : Frag} {x C L f g : Addr} {h₀ : Heap} {m : Str → Option Value} {ox : Obj} {od : Option Obj}
/-- whether a built-in type has a slot for the operator -/
def slotB (r1 r2 : Option Value) : Bool := (r1.isSome && !isSeqSlot r1) || (r2.isSome && !isSeqSlot r2)
theorem fills_type {M : Model} {h : Heap} {nm t : String} {r1 r2 : Option Value} (X : K.In h) (h1 : findIn K (.type t) (PySem.dunder nm) = some r1) (h2 : findIn K (.type t) (PySem.dunderR nm) = some r2) : Looks M h (fillsNumberSlot (.type t) nm) (slotB r1 r2) := by
  intro A Q E s k q
  unfold fillsNumberSlot
  refine wpAny_bind (looks_findIn X h1 A _ E s k ?_)
  refine wpAny_bind (looks_findIn X h2 A _ E s k ?_)
  exact wpAny_pure q
theorem own_slot {M : Model} {h : Heap} {nm : String} (X : K.In h) (hs : findIn K (.ref C) (PySem.dunder nm) = some (some (.ref f))) (hR : findIn K (.ref C) (PySem.dunderR nm) = some (some (.ref g))) : Looks M h (numberSlotInPython (.ref C) nm) true := by
  intro A Q E s k q
  unfold numberSlotInPython
  refine wpAny_bind (looks_findIn X hs A _ E s k ?_)
  refine wpAny_bind (wpAny_pure ?_)
  refine wpAny_bind (looks_findIn X hR A _ E s k ?_)
  refine wpAny_bind (wpAny_pure ?_)
  exact wpAny_pure q
theorem type_slot {M : Model} {h : Heap} {nm t : String} : Looks M h (numberSlotInPython (.type t) nm) false := by
  intro A Q E s k q
  unfold numberSlotInPython
  exact wpAny_pure q
/-- left an object of the class at C, right of a built-in type -/
theorem binop_left {op : Operator} {b : Value} {t : String} {r1 r2 : Option Value} {Q : Value → Shared → Prop} (F : Fr h₀ L s.heap m) (X₀ : K.In h₀) (I : InstAt s.heap x ox C od) (hb : Looks (model prog w) s.heap (typeOf b) (.type t)) (hc : selfFirst K C = true)
    (hs : findIn K (.ref C) (PySem.dunder op.info.2) = some (some (.ref f))) (hf : isFn K (.ref f) = true) (hR : findIn K (.ref C) (PySem.dunderR op.info.2) = some (some (.ref g)))
    (h1 : findIn K (.type t) (PySem.dunder op.info.2) = some r1) (h2 : findIn K (.type t) (PySem.dunderR op.info.2) = some r2) (sub : subIn K (.type t) (.ref C) = some false)
    (h : wpAny (model prog w) A (call (.ref f) [.ref x, b]) (CmpBack Q) E s) : wpAny (model prog w) A (binaryOp op (.ref x) b) Q E s := by
  have X := X₀.keeps F.keep
  obtain ⟨cd, hcd, hm⟩ := any_some hc
  obtain ⟨rest, hm⟩ : ∃ rest, cd.mro = .ref C :: rest := by
    cases q : cd.mro with
    | nil => rw [q] at hm; cases hm
    | cons a r => rw [q] at hm; exact ⟨r, by rw [List.head?_cons] at hm; cases (beq_iff_eq.mp hm); rfl⟩
  unfold binaryOp
  refine wpAny_holding (wpAny_bind ?_)
  unfold binaryOp1
  refine wpAny_bind (I.type.here (wpAny_bind (hb.here (wpAny_bind ((fills_K X hcd hm hs).here ?_)))))
  have ne : (Value.ref C == Value.type t) = false := by rfl
  simp only [ne, if_neg Bool.false_ne_true]
  refine wpAny_bind ((fills_type X h1 h2).here ?_)
  have fin : wpAny (model prog w) A (tryMethod (.ref x) (PySem.dunder op.info.2) b) (fun r s' => ∃ v, r = some v ∧ Q v s') E s := by
    unfold tryMethod
    refine wpAny_bind (special_fn X I hs (beq_iff_eq.mp hf) (wpAny_mono h (fun v s' hv => ?_) fun _ _ e => e))
    cases v <;> first | exact hv.elim | exact wpAny_pure ⟨_, rfl, hv⟩
  cases hsl : slotB r1 r2 with
  | false =>
    simp only [Bool.and_false, Bool.false_eq_true, if_false, Bool.false_and]
    refine wpAny_bind (wpAny_pure ?_)
    simp only [Bool.false_eq_true, if_false]
    refine wpAny_bind (wpAny_mono fin (fun r s' z => ?_) fun _ _ e => e)
    obtain ⟨v, rfl, q⟩ := z
    exact wpAny_pure (wpAny_pure q)
  | true =>
    simp only [Bool.and_self, if_true]
    refine wpAny_bind ((looks_subIn X sub).here ?_)
    simp only [Bool.false_eq_true, if_false, Bool.not_false, Bool.and_self, if_true]
    refine wpAny_bind ((own_slot X hs hR).here ?_)
    simp only [if_true]
    refine wpAny_bind ((type_slot).here ?_)
    simp only [Bool.not_false, if_true]
    refine wpAny_bind ((looks_findIn X h2).here ?_)
    refine wpAny_bind (wpAny_mono fin (fun r s' z => ?_) fun _ _ e => e)
    obtain ⟨v, rfl, q⟩ := z
    exact wpAny_pure (wpAny_pure q)
/-- left of a built-in type without such a slot, right an object of the class at C -/
theorem binop_right {op : Operator} {a : Value} {t : String} {r1 r2 : Option Value} {Q : Value → Shared → Prop} (F : Fr h₀ L s.heap m) (X₀ : K.In h₀) (I : InstAt s.heap x ox C od) (ha : Looks (model prog w) s.heap (typeOf a) (.type t)) (hc : selfFirst K C = true)
    (hs : findIn K (.ref C) (PySem.dunder op.info.2) = some (some (.ref f))) (hR : findIn K (.ref C) (PySem.dunderR op.info.2) = some (some (.ref g))) (hg : isFn K (.ref g) = true)
    (h1 : findIn K (.type t) (PySem.dunder op.info.2) = some r1) (h2 : findIn K (.type t) (PySem.dunderR op.info.2) = some r2) (sub : subIn K (.ref C) (.type t) = some false)
    (hl : slotB r1 r2 = true → ∀ (Q : Option Value → Shared → Prop), Q none s → wpAny (model prog w) A (tryMethod a (PySem.dunder op.info.2) (.ref x)) Q E s)
    (h : wpAny (model prog w) A (call (.ref g) [.ref x, a]) (CmpBack Q) E s) : wpAny (model prog w) A (binaryOp op a (.ref x)) Q E s := by
  have X := X₀.keeps F.keep
  obtain ⟨cd, hcd, hm⟩ := any_some hc
  obtain ⟨rest, hm⟩ : ∃ rest, cd.mro = .ref C :: rest := by
    cases q : cd.mro with
    | nil => rw [q] at hm; cases hm
    | cons a r => rw [q] at hm; exact ⟨r, by rw [List.head?_cons] at hm; cases (beq_iff_eq.mp hm); rfl⟩
  have fin : wpAny (model prog w) A (tryMethod (.ref x) (PySem.dunderR op.info.2) a) (fun r s' => ∃ v, r = some v ∧ Q v s') E s := by
    unfold tryMethod
    refine wpAny_bind (special_fn X I hR (beq_iff_eq.mp hg) (wpAny_mono h (fun v s' hv => ?_) fun _ _ e => e))
    cases v <;> first | exact hv.elim | exact wpAny_pure ⟨_, rfl, hv⟩
  unfold binaryOp
  refine wpAny_holding (wpAny_bind ?_)
  unfold binaryOp1
  refine wpAny_bind (ha.here (wpAny_bind (I.type.here (wpAny_bind ((fills_type X h1 h2).here ?_)))))
  have ne : (Value.type t == Value.ref C) = false := by rfl
  simp only [ne, if_neg Bool.false_ne_true]
  refine wpAny_bind ((fills_K X hcd hm hs).here ?_)
  cases hsl : slotB r1 r2 with
  | false =>
    simp only [Bool.and_false, Bool.false_eq_true, if_false, Bool.false_and]
    refine wpAny_bind (wpAny_pure ?_)
    simp only [Bool.false_eq_true, if_false, Bool.not_false, Bool.and_self, if_true]
    refine wpAny_bind (wpAny_mono fin (fun r s' z => ?_) fun _ _ e => e)
    obtain ⟨v, rfl, q⟩ := z
    first
      | exact wpAny_bind (wpAny_rule (wpAny_pure (wpAny_pure q)))
      | exact wpAny_rule (wpAny_pure (wpAny_pure q))
  | true =>
    simp only [Bool.and_self, if_true]
    refine wpAny_bind ((looks_subIn X sub).here ?_)
    simp only [Bool.false_eq_true, if_false, Bool.not_false, Bool.and_self, if_true]
    refine wpAny_bind ((type_slot).here ?_)
    simp only [Bool.false_eq_true, if_false]
    refine wpAny_bind (hl hsl _ ?_)
    refine wpAny_bind (wpAny_mono fin (fun r s' z => ?_) fun _ _ e => e)
    obtain ⟨v, rfl, q⟩ := z
    first
      | exact wpAny_bind (wpAny_rule (wpAny_pure (wpAny_pure q)))
      | exact wpAny_rule (wpAny_pure (wpAny_pure q))
/-- - of an object of the class at C -/
theorem neg_own {Q : Value → Shared → Prop} (F : Fr h₀ L s.heap m) (X₀ : K.In h₀) (I : InstAt s.heap x ox C od) (hs : findIn K (.ref C) "__neg__" = some (some (.ref f))) (hf : isFn K (.ref f) = true)
    (h : wpAny (model prog w) A (call (.ref f) [.ref x]) Q E s) : wpAny (model prog w) A (unaryOp .USub (.ref x)) Q E s := by
  have X := X₀.keeps F.keep
  unfold unaryOp
  refine wpAny_holding ?_
  refine wpAny_ite_false (by rfl) ?_
  refine wpAny_bind (special_fn X I hs (beq_iff_eq.mp hf) (wpAny_mono h (fun v s' hv => ?_) fun _ _ e => e))
  exact wpAny_pure hv
end
end PySem.W

set_option maxRecDepth 100000
set_option maxHeartbeats 4000000
namespace PySem.W
open PySem PySem.Spec PyProof.Rows
section
variable {prog : Program} {w : World} {A : Around} {E : Value → Shared → Prop} {s : Shared} {x C dx : Addr} {i : Int} {t : Tok}
theorem intBinary_none {name : String} {f : Int → Int → Sem Fin} {R : Fin → Shared → Prop} (hs : slotArgs name 1 ⟨[.int i t, .ref x], []⟩ = pure (Value.int i t, [Value.ref x])) (hx : s.heap.get? x = some (instObj C dx)) (h : R (.done (.ret .notImplemented)) s) :
    wpAny (model prog w) A (Builtin.Int.intBinary name f false ⟨[.int i t, .ref x], []⟩) R E s := by
  unfold Builtin.Int.intBinary
  refine wpAny_bind (wpAny_of_eq hs ?_)
  refine wpAny_bind (wpAny_of_eq (a := i) rfl ?_)
  show wpAny (model prog w) A (asInt? (.ref x) >>= _) _ _ _
  unfold asInt?
  refine wpAny_bind (wpAny_bind (wpAny_load hx (wpAny_pure ?_)))
  first
    | exact wpAny_bind (wpAny_rule (wpAny_pure h))
    | exact wpAny_rule (wpAny_pure h)
theorem int_none {nm : Str} {id : String} {Q : Option Value → Shared → Prop} (sl : Slot "int" nm id) (y : wpAny (model prog w) A (call (.builtin id) [.int i t, .ref x]) (fun v s' => v = .notImplemented ∧ Q none s') E s) : wpAny (model prog w) A (tryMethod (.int i t) nm (.ref x)) Q E s := by
  have ty : s.TypeIs (.int i t) "int" := typeIs_int _ _ _
  unfold tryMethod
  refine wpAny_bind ?_
  refine wpAny_mono (wpAny_callSpecial?_slot (Q := fun v s' => v = some .notImplemented ∧ Q none s') ty sl (wpAny_mono y (fun v s' z => ?_) fun _ _ e => e)) (fun v s' z => ?_) fun _ _ e => e
  · obtain ⟨rfl, q⟩ := z
    exact ⟨rfl, q⟩
  · obtain ⟨rfl, q⟩ := z
    exact wpAny_pure q
theorem int_add_none {Q : Option Value → Shared → Prop} (hx : s.heap.get? x = some (instObj C dx)) (h : Q none s) : wpAny (model prog w) A (tryMethod (.int i t) (PySem.dunder "add") (.ref x)) Q E s := by
  have ha : argsOk "int.__add__" ⟨[.int i t, .ref x], []⟩ := PySem.F.args_int_add_2 _ _
  have ty : s.TypeIs (.int i t) "int" := typeIs_int _ _ _
  have y : wpAny (model prog w) A (call (.builtin "int.__add__") [.int i t, .ref x]) (fun v s' => v = .notImplemented ∧ Q none s') E s := by
    refine wpAny_call_entry (b := Builtin.«int.__add__») (T := "int") (name := PySem.dunder "add") (id := "int.__add__") PySem.F.slot_int_add ty PySem.F.entry_int_add ?_ ha
    exact intBinary_none (name := "__add__") (by rfl) hx ⟨_, rfl, rfl, h⟩
  have sl : Slot "int" (PySem.dunder "add") "int.__add__" := PySem.F.slot_int_add
  generalize PySem.dunder "add" = nm at sl ⊢
  exact int_none sl y
theorem int_sub_none {Q : Option Value → Shared → Prop} (hx : s.heap.get? x = some (instObj C dx)) (h : Q none s) : wpAny (model prog w) A (tryMethod (.int i t) (PySem.dunder "sub") (.ref x)) Q E s := by
  have ha : argsOk "int.__sub__" ⟨[.int i t, .ref x], []⟩ := PySem.F.args_int_sub_2 _ _
  have ty : s.TypeIs (.int i t) "int" := typeIs_int _ _ _
  have y : wpAny (model prog w) A (call (.builtin "int.__sub__") [.int i t, .ref x]) (fun v s' => v = .notImplemented ∧ Q none s') E s := by
    refine wpAny_call_entry (b := Builtin.«int.__sub__») (T := "int") (name := PySem.dunder "sub") (id := "int.__sub__") PySem.F.slot_int_sub ty PySem.F.entry_int_sub ?_ ha
    exact intBinary_none (name := "__sub__") (by rfl) hx ⟨_, rfl, rfl, h⟩
  have sl : Slot "int" (PySem.dunder "sub") "int.__sub__" := PySem.F.slot_int_sub
  generalize PySem.dunder "sub" = nm at sl ⊢
  exact int_none sl y
theorem int_mul_none {Q : Option Value → Shared → Prop} (hx : s.heap.get? x = some (instObj C dx)) (h : Q none s) : wpAny (model prog w) A (tryMethod (.int i t) (PySem.dunder "mul") (.ref x)) Q E s := by
  have ha : argsOk "int.__mul__" ⟨[.int i t, .ref x], []⟩ := PySem.F.args_int_mul_2 _ _
  have ty : s.TypeIs (.int i t) "int" := typeIs_int _ _ _
  have y : wpAny (model prog w) A (call (.builtin "int.__mul__") [.int i t, .ref x]) (fun v s' => v = .notImplemented ∧ Q none s') E s := by
    refine wpAny_call_entry (b := Builtin.«int.__mul__») (T := "int") (name := PySem.dunder "mul") (id := "int.__mul__") PySem.F.slot_int_mul ty PySem.F.entry_int_mul ?_ ha
    exact intBinary_none (name := "__mul__") (by rfl) hx ⟨_, rfl, rfl, h⟩
  have sl : Slot "int" (PySem.dunder "mul") "int.__mul__" := PySem.F.slot_int_mul
  generalize PySem.dunder "mul" = nm at sl ⊢
  exact int_none sl y
end
end PySem.W

set_option maxRecDepth 100000
set_option maxHeartbeats 4000000
/-! rules: + - * and the sign, of an object of a class; lcm -/
namespace Vf
open PySem PySem.Spec PyProof.Rows L2
theorem dun_add : PySem.dunder "add" = ("__add__" : Str) := by decide +kernel
theorem dun_sub : PySem.dunder "sub" = ("__sub__" : Str) := by decide +kernel
theorem dun_mul : PySem.dunder "mul" = ("__mul__" : Str) := by decide +kernel
theorem dunR_add : PySem.dunderR "add" = ("__radd__" : Str) := by decide +kernel
theorem dunR_sub : PySem.dunderR "sub" = ("__rsub__" : Str) := by decide +kernel
theorem dunR_mul : PySem.dunderR "mul" = ("__rmul__" : Str) := by decide +kernel
def slotT (t nm : String) : Option Bool := match PySem.fastLookup t (PySem.dunder nm), PySem.fastLookup t (PySem.dunderR nm) with
  | some a, some b => some (PySem.W.slotB a b)
  | _, _ => none
theorem slotT_ok {K : PySem.W.Frag} {t nm : String} {b : Bool} (h : slotT t nm = some b) : ∃ r1 r2, PySem.W.findIn K (.type t) (PySem.dunder nm) = some r1 ∧ PySem.W.findIn K (.type t) (PySem.dunderR nm) = some r2 ∧ PySem.W.slotB r1 r2 = b := by
  unfold slotT at h
  split at h
  · rename_i a c e1 e2
    cases h
    exact ⟨a, c, e1, e2, rfl⟩
  · cases h
theorem slot_tup_add : slotT "tuple" "add" = some false := by decide +kernel
theorem slot_tup_sub : slotT "tuple" "sub" = some false := by decide +kernel
theorem slot_tup_mul : slotT "tuple" "mul" = some false := by decide +kernel
theorem slot_int_add : slotT "int" "add" = some true := by decide +kernel
theorem slot_int_sub : slotT "int" "sub" = some true := by decide +kernel
theorem slot_int_mul : slotT "int" "mul" = some true := by decide +kernel
section
variable {X : Cx} {CX : CXT} {C f g : Addr} {k : Nat} {fd : FuncData} {ps : List Str} {sp : Sp} {E : XK}
/-- the callee's answer is no mark of a missing operator -/
theorem back {pins : List (Addr × Obj)} {σ : L2.St} {Q : VK} {z : Value} {s' : Shared} (h : EP X pins σ Q z s') : PySem.W.CmpBack (EP X pins σ Q) z s' := by
  obtain ⟨z', H', I', rz, qz⟩ := h
  exact SlX.cmpback rz ⟨z', H', I', rz, qz⟩
def rOwnS (C : Addr) (sp : Sp) (E : XK) : R2 := fun x y H Q => ∃ a dx fs b dy gs, x = .ref a ∧ y = .ref b ∧ H a = some (.ins C dx fs) ∧ H b = some (.ins C dy gs) ∧ sp [x, y] H Q E
theorem op_ownS {op : Operator} (hs : PySem.W.findIn X.K (.ref C) (PySem.dunder op.info.2) = some (some (.ref g))) (hf : PySem.W.isFn X.K (.ref g) = true) (sf : PySem.W.selfFirst X.K C = true)
    (F : FnOk X.prog X.w X.K X.mg X.base CX k g fd ps sp) (hb : Binds X.K fd ps []) (hr : Room k X.A) (hx : Passes CX X E) : OpR X (binaryOp op) (rOwnS C sp E) := by
  intro pins s σ H x y v u Q I rx ry h
  obtain ⟨a, dx, fs, b, dy, gs, rfl, rfl, ha, hb', q⟩ := h
  cases (show v = Value.ref a from rx)
  cases (show u = Value.ref b from ry)
  obtain ⟨mA, O, _⟩ := ins_get I.hok ha
  obtain ⟨od, J, _⟩ := O.look
  obtain ⟨mB, O2, _⟩ := ins_get I.hok hb'
  obtain ⟨od2, J2, _⟩ := O2.look
  obtain ⟨m, hF⟩ := I.fr
  have hsp : sp ([V.ref a, V.ref b] ++ []) H Q E := q
  exact PySem.W.binop_K hF I.ok.mod.kin J J2.type sf hs hf (wpAny_mono (run_fn (us := [.ref a, .ref b]) (vs := [.ref a, .ref b]) F hr hb .nil hx I (.cons rfl (.cons rfl .nil)) hsp) (fun w s' z => back z) fun _ _ x => x)
def rOwnL (K : PySem.W.Frag) (C : Addr) (t : String) (sp : Sp) (E : XK) : R2 := fun x y H Q => ∃ a dx fs, x = .ref a ∧ H a = some (.ins C dx fs) ∧ TyX K H y (.type t) ∧ sp [x, y] H Q E
theorem op_ownL {op : Operator} {t : String} {rb : Bool} (hs : PySem.W.findIn X.K (.ref C) (PySem.dunder op.info.2) = some (some (.ref g))) (hf : PySem.W.isFn X.K (.ref g) = true) (sf : PySem.W.selfFirst X.K C = true)
    (hR : PySem.W.findIn X.K (.ref C) (PySem.dunderR op.info.2) = some (some (.ref f))) (st : slotT t op.info.2 = some rb) (sub : PySem.W.subIn X.K (.type t) (.ref C) = some false)
    (F : FnOk X.prog X.w X.K X.mg X.base CX k g fd ps sp) (hb : Binds X.K fd ps []) (hr : Room k X.A) (hx : Passes CX X E) : OpR X (binaryOp op) (rOwnL X.K C t sp E) := by
  intro pins s σ H x y v u Q I rx ry h
  obtain ⟨a, dx, fs, rfl, ha, ty, q⟩ := h
  cases (show v = Value.ref a from rx)
  obtain ⟨mA, O, _⟩ := ins_get I.hok ha
  obtain ⟨od, J, _⟩ := O.look
  obtain ⟨P, Z, p, _⟩ := kit_of I ry ty
  obtain ⟨m, hF⟩ := I.fr
  obtain ⟨r1, r2, h1, h2, _⟩ := slotT_ok (K := X.K) st
  have hsp : sp ([V.ref a, y] ++ []) H Q E := q
  exact PySem.W.binop_left hF I.ok.mod.kin J (Z.ty _ _ I.kIn p) sf hs hf hR h1 h2 sub (wpAny_mono (run_fn (us := [.ref a, u]) (vs := [.ref a, y]) F hr hb .nil hx I (.cons rfl (.cons ry .nil)) hsp) (fun w s' z => back z) fun _ _ x => x)
def rOwnR (K : PySem.W.Frag) (C : Addr) (t : String) (sp : Sp) (E : XK) : R2 := fun x y H Q => ∃ a dx fs, y = .ref a ∧ H a = some (.ins C dx fs) ∧ TyX K H x (.type t) ∧ sp [y, x] H Q E
/-- what the left side's own slot says of an object: nothing -/
def LeftNone (t : String) (op : Operator) : Prop := ∀ {prog : Program} {w : World} {A : Around} {E : Value → Shared → Prop} {s : Shared} {x : Addr} {C dx : Addr} {H : Hp} {K : PySem.W.Frag} {y : V} {v : Value}, TyX K H y (.type t) → RelV y v → s.heap.get? x = some (PySem.W.instObj C dx) → ∀ (Q : Option Value → Shared → Prop), Q none s → wpAny (model prog w) A (tryMethod v (PySem.dunder op.info.2) (.ref x)) Q E s
theorem op_ownR {op : Operator} {t : String} {rb : Bool} (hs : PySem.W.findIn X.K (.ref C) (PySem.dunder op.info.2) = some (some (.ref f))) (sf : PySem.W.selfFirst X.K C = true)
    (hR : PySem.W.findIn X.K (.ref C) (PySem.dunderR op.info.2) = some (some (.ref g))) (hg : PySem.W.isFn X.K (.ref g) = true) (st : slotT t op.info.2 = some rb) (sub : PySem.W.subIn X.K (.ref C) (.type t) = some false) (ln : rb = true → LeftNone t op)
    (F : FnOk X.prog X.w X.K X.mg X.base CX k g fd ps sp) (hb : Binds X.K fd ps []) (hr : Room k X.A) (hx : Passes CX X E) : OpR X (binaryOp op) (rOwnR X.K C t sp E) := by
  intro pins s σ H x y v u Q I rx ry h
  obtain ⟨a, dx, fs, rfl, ha, ty, q⟩ := h
  cases (show u = Value.ref a from ry)
  obtain ⟨mA, O, _⟩ := ins_get I.hok ha
  obtain ⟨od, J, _⟩ := O.look
  obtain ⟨_, _, _, ob, _⟩ := (show ObjOk X.prog X.w H s.heap a (.ins C dx fs) from I.hok a _ ha)
  obtain ⟨P, Z, p, _⟩ := kit_of I rx ty
  obtain ⟨m, hF⟩ := I.fr
  obtain ⟨r1, r2, h1, h2, e⟩ := slotT_ok (K := X.K) st
  have hsp : sp ([V.ref a, x] ++ []) H Q E := q
  exact PySem.W.binop_right hF I.ok.mod.kin J (Z.ty _ _ I.kIn p) sf hs hR hg h1 h2 sub (fun z Q' q' => ln (e.symm.trans z) ty rx ob Q' q')
    (wpAny_mono (run_fn (us := [.ref a, v]) (vs := [.ref a, x]) F hr hb .nil hx I (.cons rfl (.cons rx .nil)) hsp) (fun w s' z => back z) fun _ _ x => x)
theorem left_int {op : Operator} (h : op = .Add ∨ op = .Sub ∨ op = .Mult) : LeftNone "int" op := by
  intro prog w A E s x C dx H K y v ty rv hx Q q
  have key : ∀ {T : Value}, TyX K H y T → T = .type "int" → ∃ i, y = V.int i := fun {T} ty e => by
    cases ty with
    | base b =>
      cases b with
      | int i => exact ⟨i, rfl⟩
      | ins _ _ _ _ _ _ => cases e
      | _ => exact absurd (Value.type.inj e) (by decide)
    | _ => exact absurd (Value.type.inj e) (by decide)
  obtain ⟨i, rfl⟩ := key ty rfl
  obtain ⟨t, rfl⟩ := (show ∃ t, v = Value.int i t from rv)
  rcases h with rfl | rfl | rfl
  · exact PySem.W.int_add_none hx q
  · exact PySem.W.int_sub_none hx q
  · exact PySem.W.int_mul_none hx q
def rNegO (C : Addr) (sp : Sp) (E : XK) : V → Hp → VK → Prop := fun x H Q => ∃ a dx fs, x = .ref a ∧ H a = some (.ins C dx fs) ∧ sp [x] H Q E
theorem un_negO (hs : PySem.W.findIn X.K (.ref C) "__neg__" = some (some (.ref g))) (hf : PySem.W.isFn X.K (.ref g) = true) (F : FnOk X.prog X.w X.K X.mg X.base CX k g fd ps sp) (hb : Binds X.K fd ps []) (hr : Room k X.A) (hx : Passes CX X E) : UnR X (unaryOp .USub) (rNegO C sp E) := by
  intro pins s σ H x v Q I rx h
  obtain ⟨a, dx, fs, rfl, ha, q⟩ := h
  cases (show v = Value.ref a from rx)
  obtain ⟨mA, O, _⟩ := ins_get I.hok ha
  obtain ⟨od, J, _⟩ := O.look
  obtain ⟨m, hF⟩ := I.fr
  have hsp : sp ([V.ref a] ++ []) H Q E := q
  exact PySem.W.neg_own hF I.ok.mod.kin J hs hf (run_fn (us := [.ref a]) (vs := [.ref a]) F hr hb .nil hx I (.cons rfl .nil) hsp)
/-- math.lcm of two whole numbers -/
def rLcm : List V → Hp → VK → Prop := fun vs H Q => ∃ a b : Int, vs = [.int a, .int b] ∧ a.natAbs < 2 ^ 4000 ∧ b.natAbs < 2 ^ 4000 ∧ Q (.int ((Nat.lcm a.natAbs b.natAbs : Nat) : Int)) H
theorem log_4000 {n : Nat} (h : n < 2 ^ 4000) : n.log2 < 4000 := by
  by_cases e : n = 0
  · rw [e]; decide
  · exact (Nat.log2_lt e).mpr h
theorem cr_lcm : CallR X (.builtin "math.lcm") rLcm := by
  intro pins s σ H vs us Q I r h
  obtain ⟨a, b, rfl, ha, hb, q⟩ := h
  obtain ⟨t, u, rfl⟩ := Vals.int2 r
  have one : Nat.lcm 1 a.natAbs = a.natAbs := Nat.lcm_one_left _
  have m1 : max 1 a.natAbs < 2 ^ 4000 := by
    have : (1 : Nat) < 2 ^ 4000 := Nat.one_lt_pow (by decide) (by decide)
    omega
  have m2 : max a.natAbs b.natAbs < 2 ^ 4000 := by omega
  have l1 := log_4000 m1
  have l2 := log_4000 m2
  have sz : ((((Nat.lcm 1 a.natAbs).lcm b.natAbs : Nat) : Int)).natAbs.log2 < bitsLine := by
    rw [one, Int.natAbs_natCast]
    have le : a.natAbs.lcm b.natAbs ≤ a.natAbs * b.natAbs := by
      rw [← Nat.gcd_mul_lcm]
      by_cases z : a.natAbs.gcd b.natAbs = 0
      · have : a.natAbs.lcm b.natAbs = 0 := by unfold Nat.lcm; rw [Nat.gcd_eq_zero_iff.mp z |>.1]; simp
        rw [this]; omega
      · exact Nat.le_mul_of_pos_left _ (by omega)
    have lt : a.natAbs.lcm b.natAbs < 2 ^ 8000 := by
      refine Nat.lt_of_le_of_lt le ?_
      rw [show (8000 : Nat) = 4000 + 4000 from rfl, Nat.pow_add]
      exact Nat.mul_lt_mul'' ha hb
    by_cases e : a.natAbs.lcm b.natAbs = 0
    · rw [e]; decide
    · exact Nat.lt_trans ((Nat.log2_lt e).mpr lt) (by decide)
  refine PySem.call_function_meets PySem.W.MGF.kind_lcm PySem.W.MGF.plain_lcm PySem.W.MGF.entry_lcm (PySem.W.MGF.args_lcm _ _) (PySem.W.mg_run_lcm a t b u (by omega) (by omega) sz).meets ?_
  rw [one]
  exact ⟨.int _, H, I.tok _, ⟨_, rfl⟩, q⟩
end
end Vf

set_option maxRecDepth 100000
set_option maxHeartbeats 4000000
/-! comprehensions over zip and ranges; rows of numbers at their addresses -/
namespace Vf
open PySem PySem.Spec PyProof.Rows L2
/-- a comprehension over zip(a, b), two lists alike in length -/
theorem lc_zipL {K : PySem.W.Frag} {a b : Addr} {xs ys : List V} {g : TG} {tt : TT} {te : TE} {vs : List Nat} {σ : L2.St} {H1 : Hp} {D : Addr} {Qd : Hp → Prop} (hl : xs.length = ys.length) (Pv : Nat → Hp → Prop) (h0 : Pv 0 (upd H1 D (.lst [])))
    (hq : ∀ i H, Pv i H → SqL K H a xs ∧ SqL K H b ys)
    (hs : ∀ (i : Nat) (x y : V) (T : Addr) (H : Hp), xs[i]? = some x → ys[i]? = some y → Pv i H → H T = none → g (.ref T) (wipe σ vs) (upd H T (.tup [x, y])) fun σ2 H2 => wipe σ2 vs = wipe σ vs ∧ tt σ2 H2 fun b H3 =>
      if b = true then te σ2 H3 fun y H4 => ∃ acc, H4 D = some (.lst acc) ∧ acc.length < sizeLine ∧ Pv (i + 1) (upd H4 D (.lst (acc ++ [y]))) else Pv (i + 1) H3) (hd : ∀ H, Pv xs.length H → Qd H) :
    ∃ W : Nat → Nat → Hp → Prop, (∃ m, W 0 m (upd H1 D (.lst []))) ∧ ∀ i m H, W i m H →
      (((Itz K a b).stop i H ∧ Qd H) ∨ ((Itz K a b).go i H ∧ ∃ Nx : Hp → Prop, (∀ H', Nx H' → ∃ m', m' < m ∧ W (i + 1) m' H') ∧ ∀ x H', (Itz K a b).yld i H x H' → g x (wipe σ vs) H' fun σ2 H2 => wipe σ2 vs = wipe σ vs ∧ tt σ2 H2 fun b H3 =>
        if b = true then te σ2 H3 fun y H4 => ∃ acc, H4 D = some (.lst acc) ∧ acc.length < sizeLine ∧ Nx (upd H4 D (.lst (acc ++ [y]))) else Nx H3)) := by
  refine ⟨fun i m H => m = xs.length - i ∧ i ≤ xs.length ∧ Pv i H, ⟨xs.length, by simp, Nat.zero_le _, h0⟩, ?_⟩
  rintro i m H ⟨rfl, hi, p⟩
  obtain ⟨qx, qy⟩ := hq i H p
  by_cases hlt : i < xs.length
  · have hx : xs[i]? = some xs[i] := List.getElem?_eq_getElem hlt
    have hlt2 : i < ys.length := by omega
    have hy : ys[i]? = some ys[i] := List.getElem?_eq_getElem hlt2
    refine .inr ⟨⟨xs, ys, xs[i], ys[i], qx, qy, hx, hy⟩, Pv (i + 1), fun H' p' => ⟨xs.length - (i + 1), by omega, rfl, hlt, p'⟩, fun v H' y => ?_⟩
    obtain ⟨T, x', y', e1, n, e2, h1, h2⟩ := y
    rw [e1, e2]
    exact hs i x' y' T H (h1 xs qx) (h2 ys qy) p n
  · have e : i = xs.length := by omega
    subst e
    exact .inl ⟨⟨xs, ys, qx, qy, .inl (Nat.le_refl _)⟩, hd H p⟩
/-- a tuple that tells the number q -/
def TR (H : Hp) (r : Addr) (q : Rat) : Prop := H r = some (.tup [.int q.num, .int (q.den : Int)])
theorem TR.pq {H : Hp} {r : Addr} {q : Rat} (h : TR H r q) : H r = some (.tup [.int (pq q).1, .int (pq q).2]) := h
theorem TR.same {H H' : Hp} {r : Addr} {q : Rat} (h : TR H r q) (s : Same H H') : TR H' r q := s _ _ h
/-- a list of such tuples -/
def RL (H : Hp) (l : Addr) (qs : List Rat) : Prop := ∃ as, H l = some (.lst (as.map V.ref)) ∧ Tups H as (qs.map pq)
theorem RL.same {H H' : Hp} {l : Addr} {qs : List Rat} (h : RL H l qs) (s : Same H H') : RL H' l qs := by
  obtain ⟨as, e, t⟩ := h
  exact ⟨as, s _ _ e, t.same s⟩
theorem Tups.atQ {H : Hp} {as : List Addr} {qs : List Rat} {i : Nat} {a : Addr} (h : Tups H as (qs.map pq)) (e : as[i]? = some a) : ∃ q, qs[i]? = some q ∧ TR H a q := by
  obtain ⟨p, h1, h2⟩ := h.at e
  rw [List.getElem?_map] at h1
  cases hq : qs[i]? with
  | none => rw [hq] at h1; cases h1
  | some q =>
    rw [hq] at h1
    cases h1
    exact ⟨q, rfl, h2⟩
theorem Tups.lenQ {H : Hp} {as : List Addr} {qs : List Rat} (h : Tups H as (qs.map pq)) : as.length = qs.length := by
  have := h.len
  rw [List.length_map] at this
  exact this
theorem Tups.snocQ {H : Hp} {as : List Addr} {qs : List Rat} {a : Addr} {q : Rat} (h : Tups H as (qs.map pq)) (e : TR H a q) : Tups H (as ++ [a]) ((qs ++ [q]).map pq) := by
  rw [List.map_append]
  exact h.snoc e
theorem Tups.getQ {H : Hp} {as : List Addr} {qs : List Rat} {i : Nat} (h : Tups H as (qs.map pq)) (hi : i < qs.length) : ∃ a, as[i]? = some a ∧ TR H a (cf qs i) := by
  have hl := h.lenQ
  have hi' : i < as.length := by omega
  obtain ⟨q, h1, h2⟩ := h.atQ (List.getElem?_eq_getElem hi')
  refine ⟨as[i], List.getElem?_eq_getElem hi', ?_⟩
  rw [cf_get h1]
  exact h2
theorem Tups.setQ {H : Hp} : ∀ {as : List Addr} {qs : List Rat} (i : Nat) {a : Addr} {q : Rat}, Tups H as (qs.map pq) → TR H a q → Tups H (as.set i a) ((qs.set i q).map pq)
  | [], [], _, _, _, _, _ => .nil
  | _ :: _, _ :: _, 0, _, _, .cons _ t, e => .cons e t
  | _ :: _, _ :: _, i + 1, _, _, .cons h t, e => .cons h (t.setQ i e)
theorem tr_zero {H : Hp} {r : Addr} (h : H r = some (.tup [.int 0, .int 1])) : TR H r 0 := h
theorem tups_rep0 {H : Hp} {a : Addr} (h : TR H a 0) (n : Nat) : Tups H (List.replicate n a) ((List.replicate n (0 : Rat)).map pq) := by
  rw [List.map_replicate]
  exact Tups.rep' (p := pq 0) h n
where
  Tups.rep' {H : Hp} {a : Addr} {p : Int × Int} (h : H a = some (.tup [.int p.1, .int p.2])) : ∀ n : Nat, Tups H (List.replicate n a) (List.replicate n p)
    | 0 => .nil
    | n + 1 => .cons h (Tups.rep' h n)
theorem flat_repQ (n : Nat) (a : Addr) : (List.replicate n [V.ref a]).flatten = (List.replicate n a).map V.ref := by
  rw [List.flatten_replicate_singleton, List.map_replicate]
theorem cf_rep0 (n i : Nat) : cf (List.replicate n 0) i = 0 := by
  unfold cf
  rw [List.getD_eq_getElem?_getD, List.getElem?_replicate]
  split <;> rfl
theorem cf_set {l : List Rat} {i j : Nat} {x : Rat} (h : i < l.length) : cf (l.set i x) j = if j = i then x else cf l j := by
  unfold cf
  rw [List.getD_eq_getElem?_getD, List.getD_eq_getElem?_getD, List.getElem?_set]
  by_cases e : i = j
  · rw [if_pos e, if_pos e.symm, if_pos h]
    rfl
  · rw [if_neg e, if_neg (fun z => e z.symm)]
theorem big_mulW {x y : Int} (h1 : x.natAbs < 2 ^ 3900) (h2 : y.natAbs < 2 ^ 3900) : CMulW x y := wide_mul h1 h2 (by decide) (by decide) (by decide)
theorem Sr.n {q : Rat} (h : Sr q) : q.num.natAbs < 2 ^ 3900 := Nat.lt_trans h.1 (Nat.pow_lt_pow_right (by decide) (by decide))
theorem Sr.d {q : Rat} (h : Sr q) : ((q.den : Int)).natAbs < 2 ^ 3900 := by
  rw [Int.natAbs_natCast]
  exact Nat.lt_trans h.2 (Nat.pow_lt_pow_right (by decide) (by decide))
theorem pow_add2 (a b : Nat) : (2 : Nat) ^ a * 2 ^ b = 2 ^ (a + b) := (Nat.pow_add _ _ _).symm
theorem sr_sum {a b : Rat} (ha : Sr a) (hb : Sr b) : (a.num * b.den + b.num * a.den).natAbs < 2 ^ 4000 ∧ ((a.den : Int) * b.den).natAbs < 2 ^ 4000 ∧ (a.num * b.num).natAbs < 2 ^ 4000 := by
  have m : ∀ {x y : Nat}, x < 2 ^ 1900 → y < 2 ^ 1900 → x * y < 2 ^ 3800 := fun {x y} h1 h2 => by
    have := Nat.mul_lt_mul'' h1 h2
    rw [pow_add2] at this
    exact this
  have l1 : (2 : Nat) ^ 3800 + 2 ^ 3800 = 2 ^ 3801 := by rw [show (3801 : Nat) = 3800 + 1 from rfl, Nat.pow_succ]; omega
  have l2 : (2 : Nat) ^ 3801 ≤ 2 ^ 4000 := Nat.pow_le_pow_right (by decide) (by decide)
  have l3 : (2 : Nat) ^ 3800 ≤ 2 ^ 4000 := Nat.pow_le_pow_right (by decide) (by decide)
  have m1 := m ha.1 hb.2
  have m2 := m hb.1 ha.2
  have m3 := m ha.2 hb.2
  have m4 := m ha.1 hb.1
  have e1 : (a.num * b.den).natAbs = a.num.natAbs * b.den := by rw [Int.natAbs_mul, Int.natAbs_natCast]
  have e2 : (b.num * a.den).natAbs = b.num.natAbs * a.den := by rw [Int.natAbs_mul, Int.natAbs_natCast]
  refine ⟨?_, ?_, ?_⟩
  · have := Int.natAbs_add_le (a.num * b.den) (b.num * a.den)
    omega
  · rw [Int.natAbs_mul, Int.natAbs_natCast, Int.natAbs_natCast]
    omega
  · rw [Int.natAbs_mul]
    omega
end Vf

set_option maxRecDepth 100000
set_option maxHeartbeats 4000000
/-! a range that stands in a name, walked; rows of whole numbers -/
namespace Vf
open PySem PySem.Spec PyProof.Rows L2
section
variable {X : Cx} {tg : Expr}
def rRng1 : List V → Hp → VK → Prop := fun vs H Q => ∃ j, vs = [V.int j] ∧ ∀ p, H p = none → Q (.ref p) (upd H p (.rng 0 j))
theorem cr_range1 : CallR X (.type "range") rRng1 := by
  intro pins s σ H vs us Q I r h
  obtain ⟨j, rfl, q⟩ := h
  cases r with
  | cons r rr =>
    cases rr
    obtain ⟨t, rfl⟩ := r
    refine call_range_1 ⟨.ref s.heap.objs.size, upd H s.heap.objs.size (.rng 0 j), I.laid (t' := s.toks + 1 + 1) (fun b o e => Heap.get?_push_of_some _ e) (Nat.le_refl _) ?_, rfl, q _ (I.hok.fresh (Nat.le_refl _))⟩
    exact ⟨_, t, _, Heap.get?_push_size _ rfl⟩
def iRngV (te : TE) : TI := fun σ H R => te σ H fun x H1 => ∃ a lo hi, x = .ref a ∧ H1 a = some (.rng lo hi) ∧ (-(2 ^ 62) ≤ lo ∧ lo < 2 ^ 62 ∧ -(2 ^ 62) ≤ hi ∧ hi < 2 ^ 62) ∧ R (Itr lo (hi - lo).toNat) H1
theorem pi_rng {l : Expr} {tl : TE} (hl : PE X l tl) : PI X tg l (iRngV tl) := by
  refine ⟨fun pins s σ H R I h => ?_⟩
  refine thn (hl.run pins s σ H _ I h) fun v s1 ⟨x, H1, I1, r1, q1⟩ => ?_
  obtain ⟨a, lo, hi, rfl, ha, ⟨h1, h2, h3, h4⟩, q⟩ := q1
  cases r1
  obtain ⟨t, u, v, ho⟩ := I1.hok a _ ha
  refine wpAny_pyIter_range (show IsRange s1.heap a lo hi 1 t u v from ho) (small_one h1 h2 h3 h4) ?_
  refine ⟨s1.heap.objs.size, [s1.heap.objs.size], _, _, H1, rfl, I1.kept (t' := s1.toks) fun b o e => Heap.get?_push_of_some _ e, turn_range _ lo (hi - lo).toNat, ?_, fun b hb => ?_, q⟩
  · have e1 : lo + ((0 : Nat) : Int) * 1 = lo := by simp
    have e2 : (((hi - lo).toNat : Nat) : Int) - ((0 : Nat) : Int) = Builtin.Range.rangeSize lo hi 1 := by rw [rangeSize_one]; split <;> omega
    show IsRangeIter _ _ (lo + ((0 : Nat) : Int) * 1) ((((hi - lo).toNat : Nat) : Int) - ((0 : Nat) : Int)) 1
    rw [e1, e2]
    exact Heap.get?_push_size _ rfl
  · have e : b = s1.heap.objs.size := by simpa using hb
    subst e
    exact I1.fpOk (Nat.le_refl _) (I1.hok.fresh (Nat.le_refl _))
end
/-! ### whole numbers over one bottom -/
/-- the row ns tells the numbers qs over M -/
def Over (M : Int) (ns : List Int) (qs : List Rat) : Prop := ns.length = qs.length ∧ ∀ i, ((ns.getD i 0 : Int) : Rat) = cf qs i * (M : Rat)
def ci (ns : List Int) (i : Nat) : Int := ns.getD i 0
theorem Over.at {M : Int} {ns : List Int} {qs : List Rat} (h : Over M ns qs) (i : Nat) : cf qs i * (M : Rat) = ((ci ns i : Int) : Rat) := (h.2 i).symm
theorem ci_lt {l : List Int} {i : Nat} (h : i < l.length) : l[i]? = some (ci l i) := by
  unfold ci
  rw [List.getD_eq_getElem?_getD, List.getElem?_eq_getElem h]
  rfl
theorem ci_get {l : List Int} {i : Nat} {x : Int} (h : l[i]? = some x) : ci l i = x := by
  unfold ci
  rw [List.getD_eq_getElem?_getD, h]
  rfl
theorem ci_ge {l : List Int} {i : Nat} (h : l.length ≤ i) : ci l i = 0 := by
  unfold ci
  rw [List.getD_eq_getElem?_getD, List.getElem?_eq_none_iff.mpr h]
  rfl
def tabI (n : Nat) (f : Nat → Int) : List Int := (List.range n).map f
theorem tabI_len (n : Nat) (f : Nat → Int) : (tabI n f).length = n := by unfold tabI; rw [List.length_map, List.length_range]
theorem tabI_snoc (n : Nat) (f : Nat → Int) : tabI (n + 1) f = tabI n f ++ [f n] := by
  unfold tabI
  rw [List.range_succ, List.map_append]
  rfl
theorem ci_tab (n : Nat) (f : Nat → Int) (i : Nat) : ci (tabI n f) i = if i < n then f i else 0 := by
  unfold ci tabI
  rw [List.getD_eq_getElem?_getD, List.getElem?_map]
  by_cases h : i < n
  · rw [if_pos h, List.getElem?_range h]; rfl
  · rw [if_neg h, List.getElem?_eq_none_iff.mpr (by rw [List.length_range]; omega)]; rfl
def smI (f : Nat → Int) : Nat → Int
  | 0 => 0
  | n + 1 => smI f n + f n
theorem smI_cast (f : Nat → Int) : ∀ n, ((smI f n : Int) : Rat) = sm (fun i => (f i : Rat)) n
  | 0 => rfl
  | n + 1 => by
    show (((smI f n + f n : Int)) : Rat) = sm (fun i => (f i : Rat)) n + (f n : Rat)
    rw [Rat.intCast_add, smI_cast f n]
end Vf

set_option maxRecDepth 100000
set_option maxHeartbeats 4000000
/-! zip and enumerate over lists and tuples alike, in loops and comprehensions -/
namespace Vf
open PySem PySem.Spec PyProof.Rows L2
/-- a list (true) or a tuple (false) of these items -/
def SqB (p : Bool) (K : PySem.W.Frag) (H : Hp) (a : Addr) (xs : List V) : Prop := match p with
  | true => SqL K H a xs
  | false => SqT K H a xs
def ItB (p : Bool) (h : Heap) (it a : Addr) (i : Nat) : Prop := match p with
  | true => h.IsListIter it a i
  | false => h.IsTupleIter it a i
def ArB (p : Bool) (h : Heap) (a : Addr) (items : Array Value) : Prop := match p with
  | true => h.IsList a items
  | false => h.IsTuple a items
theorem sqB_or {K : PySem.W.Frag} {H : Hp} {a : Addr} {xs : List V} (h : SqL K H a xs ∨ SqT K H a xs) : ∃ p, SqB p K H a xs := by
  rcases h with h | h
  · exact ⟨true, h⟩
  · exact ⟨false, h⟩
theorem sqB_to {p : Bool} {K : PySem.W.Frag} {H : Hp} {a : Addr} {xs : List V} (h : SqB p K H a xs) : SqL K H a xs ∨ SqT K H a xs := by
  cases p
  · exact .inr h
  · exact .inl h
theorem SqB.same {p : Bool} {K : PySem.W.Frag} {H H' : Hp} {a : Addr} {xs : List V} (h : SqB p K H a xs) (s : Same H H') : SqB p K H' a xs := by
  cases p
  · exact same_sqT s h
  · exact same_sqL s h
theorem drawsB {prog : Program} {w : World} {A : Around} (p : Bool) (hh : A.handled = none) (it l : Addr) (hne : l ≠ it) (items : Array Value) :
    Draws prog w A it [it, l] items.size (fun i v => items[i]? = some v) (fun i h => ItB p h it l i ∧ ArB p h l items) := by
  cases p
  · exact Draws.tuple hh it l hne items
  · exact Draws.list hh it l hne items
def obB (p : Bool) (a : Addr) : Obj := match p with
  | true => { cls := .type "list_iterator", data := .fields #[.ref a, .int 0 0] }
  | false => { cls := .type "tuple_iterator", data := .fields #[.ref a, .int 0 0] }
theorem beginsB (p : Bool) (a : Addr) (items : Array Value) : Begins (.ref a) (obB p a) fun h => ArB p h a items := by
  cases p
  · exact begins_tuple a items
  · exact begins_list a items
theorem itB_of {p : Bool} {h : Heap} {it a : Addr} (e : h.get? it = some (obB p a)) : ItB p h it a 0 := by
  cases p
  · exact ⟨_, e, rfl, rfl⟩
  · exact ⟨_, e, rfl, rfl⟩
theorem ItB.at {p : Bool} {h h' : Heap} {it a : Addr} {i : Nat} (st : ItB p h it a i) (k : ∀ o, h.get? it = some o → h'.get? it = some o) : ItB p h' it a i := by
  cases p
  · exact Heap.IsTupleIter.at st k
  · exact Heap.IsListIter.at st k
theorem ItB.obj {p : Bool} {h : Heap} {it a : Addr} {i : Nat} (st : ItB p h it a i) : ∃ o, h.get? it = some o ∧ ∀ v, o.data ≠ .cell v := by
  cases p
  · obtain ⟨o, e, _, d⟩ := st
    exact ⟨o, e, fun v z => by rw [d] at z; cases z⟩
  · obtain ⟨o, e, _, d⟩ := st
    exact ⟨o, e, fun v z => by rw [d] at z; cases z⟩
section
variable {X : Cx} {pins : List (Addr × Obj)} {σ : L2.St} {H : Hp} {s : Shared}
theorem seqB (I : Inv X pins σ H s) {p : Bool} {a : Addr} {xs : List V} (h : SqB p X.K H a xs) : ∃ its : List Value, Vals xs its ∧ ArB p s.heap a its.toArray := by
  cases p
  · obtain ⟨its, rv, q, _⟩ := I.tuple h
    exact ⟨its, rv, q⟩
  · obtain ⟨its, rv, q, _⟩ := I.list h
    exact ⟨its, rv, q.isList⟩
theorem seqB_inj (I : Inv X pins σ H s) {p : Bool} {a : Addr} {xs ys : List V} (h1 : SqB p X.K H a xs) (h2 : SqB p X.K H a ys) : xs = ys := by
  cases p
  · exact I.tuple_inj h1 h2
  · exact I.list_inj h1 h2
theorem ArB.lt {p : Bool} {h : Heap} {a : Addr} {its : Array Value} (q : ArB p h a its) : a < h.objs.size := by
  cases p
  · obtain ⟨o, e, _⟩ := q
    exact Heap.lt_size e
  · obtain ⟨o, e, _⟩ := q
    exact Heap.lt_size e
end
/-- the lists or tuples at a and b as they stand at each turn, the items in new pairs -/
def ItzB (p q : Bool) (K : PySem.W.Frag) (a b : Addr) : It :=
  ⟨fun i H => ∃ (xs ys : List V) (x y : V), SqB p K H a xs ∧ SqB q K H b ys ∧ xs[i]? = some x ∧ ys[i]? = some y,
    fun i H v H' => ∃ T x y, v = .ref T ∧ H T = none ∧ H' = upd H T (.tup [x, y]) ∧ (∀ xs, SqB p K H a xs → xs[i]? = some x) ∧ ∀ ys, SqB q K H b ys → ys[i]? = some y,
    fun i H => ∃ xs ys : List V, SqB p K H a xs ∧ SqB q K H b ys ∧ i ≤ xs.length ∧ i ≤ ys.length ∧ (xs.length = i ∨ ys.length = i)⟩
theorem sepB {a b z TI TO i1 i2 : Addr} (D : ZipApart z TI TO i1 i2 a b) : ZipSep2 z TI TO i1 i2 [i1, a] [i2, b] where
  TIz := D.TIz
  TOz := D.TOz
  TITO := D.TITO
  TIi1 := D.TIi1
  mem1 := by simp
  zf1 := by simp [D.i1z.symm, D.l1z.symm]
  Tf1 := by simp [D.TOi1, D.l1TO.symm]
  TIi2 := D.TIi2
  mem2 := by simp
  zf2 := by simp [D.i2z.symm, D.l2z.symm]
  Tf2 := by simp [D.TOi2, D.l2TO.symm]
  sep1_2 := by simp [D.i12, D.l2i1.symm]
  sep2_1 := by simp [D.i12.symm, D.l1i2.symm]
theorem turn_zipB {P : Program} {w : World} {K : PySem.W.Frag} {elts : List Expr} {kk : Nat} {tpos : Pos} (p q : Bool) {a b z TI TO i1 i2 : Addr} (D : ZipApart z TI TO i1 i2 a b) :
    Turn P w K (.Tuple elts kk tpos) (ItzB p q K a b) [z, TI, TO, i1, i2] z (fun i h => IsZip h z TI TO .none ∧ IsPair h TI (.ref i1) (.ref i2) ∧ (∃ x y, IsPair h TO x y) ∧ ItB p h i1 a i ∧ ItB q h i2 b i) where
  mem := by simp
  obj := fun i h st c hc => by
    obtain ⟨hz, hTI, ⟨x, y, hTO⟩, h1, h2⟩ := st
    have e' : c = z ∨ c = TI ∨ c = TO ∨ c = i1 ∨ c = i2 := by simpa using hc
    rcases e' with q | q | q | q | q
    · rw [q]; exact ⟨_, hz, fun v q => nomatch q⟩
    · rw [q]; exact ⟨_, hTI, fun v q => nomatch q⟩
    · rw [q]; exact ⟨_, hTO, fun v q => nomatch q⟩
    · rw [q]; exact h1.obj
    · rw [q]; exact h2.obj
  keep := fun i h h' st k => by
    obtain ⟨hz, hTI, ⟨x, y, hTO⟩, h1, h2⟩ := st
    exact ⟨k z (by simp) _ hz, k TI (by simp) _ hTI, ⟨x, y, k TO (by simp) _ hTO⟩, h1.at fun o q => k i1 (by simp) o q, h2.at fun o q => k i2 (by simp) o q⟩
  item := by
    intro X hP hw hK hc i pins s σ H E I hf st hg
    subst hP hw hK
    obtain ⟨hz, hTI, ⟨x0, y0, hTO⟩, h1, h2⟩ := st
    obtain ⟨xs, ys, x, y, hqx, hqy, hx, hy⟩ := hg
    obtain ⟨its, rv, p1⟩ := seqB I hqx
    obtain ⟨its2, rv2, p2⟩ := seqB I hqy
    obtain ⟨u, hu, ru⟩ := rv.get hx
    obtain ⟨u2, hu2, ru2⟩ := rv2.get hy
    have hzl : z < s.heap.objs.size := Heap.lt_size hz
    have hh : X.A.in1.handled = none := I.ok.hd hc
    have l1 : i < its.toArray.size := by
      have := (List.getElem?_eq_some_iff.mp hu).1
      simpa using this
    have l2 : i < its2.toArray.size := by
      have := (List.getElem?_eq_some_iff.mp hu2).1
      simpa using this
    refine wpAny_pyNext_zipD2_item (sepB D) (drawsB p hh i1 a D.l1i1 its.toArray) (drawsB q hh i2 b D.l2i2 its2.toArray) hz hTI hTO ⟨h1, p1⟩ ⟨h2, p2⟩ l1 l2 fun u' u2' h' tk e1 e2 z' TO' h1' h2' hT hsz hk => ?_
    have eu : u' = u := by
      rw [List.getElem?_toArray, hu] at e1
      exact (Option.some.inj e1).symm
    have eu2 : u2' = u2 := by
      rw [List.getElem?_toArray, hu2] at e2
      exact (Option.some.inj e2).symm
    subst eu eu2
    refine ⟨_, rfl, wpAny_letOwnedTupleGo_zip (s := { s with heap := h', toks := tk }) z' fun h'' z'' sb => ?_⟩
    have hT2 : h''.get? s.heap.objs.size = some { cls := .type "tuple", data := .seq #[u', u2'] } := (sb.2 _ (Nat.ne_of_gt hzl)).trans hT
    have new : ObjOk X.prog X.w (upd H s.heap.objs.size (.tup [x, y])) h'' s.heap.objs.size (.tup [x, y]) :=
      ⟨by show 2 ≤ sizeLine; decide, [u', u2'], .cons ru (.cons ru2 .nil), ⟨_, hT2, rfl, _, rfl⟩⟩
    have I1 : Inv X pins σ (upd H s.heap.objs.size (.tup [x, y])) { s with heap := h'', toks := tk } :=
      I.turnedNew (t' := tk) (ch := [z, TI, TO, i1, i2]) (fun c o hb q => (sb.2 c (fun q' => hb (by simp [q']))).trans (hk c o (fun q' => hb (by simp [q'])) (fun q' => hb (by simp [q'])) (fun q' => hb (by simp [q'])) (fun q' => hb (by simp [q'])) q)) hf (Nat.le_refl _) new
    refine ⟨.ref s.heap.objs.size, _, I1, rfl, ⟨_, x, y, rfl, I.hok.fresh (Nat.le_refl _), rfl, fun l hl => by rw [seqB_inj I hl hqx]; exact hx, fun l hl => by rw [seqB_inj I hl hqy]; exact hy⟩, ⟨z'', ?_, ⟨u', u2', ?_⟩, ?_, ?_⟩, fun c hcm => ?_⟩
    · exact (sb.2 _ D.TIz).trans (hk _ _ D.TIz D.TITO D.TIi1 D.TIi2 hTI)
    · exact (sb.2 _ D.TOz).trans TO'
    · exact h1'.1.at fun o q => (sb.2 _ D.i1z).trans q
    · exact h2'.1.at fun o q => (sb.2 _ D.i2z).trans q
    · have hlt : c < s.heap.objs.size := by
        have e' : c = z ∨ c = TI ∨ c = TO ∨ c = i1 ∨ c = i2 := by simpa using hcm
        rcases e' with q | q | q | q | q
        · rw [q]; exact hzl
        · rw [q]; exact Heap.lt_size hTI
        · rw [q]; exact Heap.lt_size hTO
        · rw [q]; obtain ⟨_, e1, _⟩ := h1.obj; exact Heap.lt_size e1
        · rw [q]; obtain ⟨_, e1, _⟩ := h2.obj; exact Heap.lt_size e1
      rw [upd_ne (Nat.ne_of_lt hlt)]
      exact (hf c hcm).1
  done := by
    intro X hP hw hK hc i pins s σ H E I hf st hg
    subst hP hw hK
    obtain ⟨hz, hTI, ⟨x0, y0, hTO⟩, h1, h2⟩ := st
    obtain ⟨xs, ys, hqx, hqy, le1, le2, hend⟩ := hg
    obtain ⟨its, rv, p1⟩ := seqB I hqx
    obtain ⟨its2, rv2, p2⟩ := seqB I hqy
    have l1 := rv.length
    have l2 := rv2.length
    have hh : X.A.in1.handled = none := I.ok.hd hc
    have s1 : its.toArray.size = its.length := by simp
    have s2 : its2.toArray.size = its2.length := by simp
    refine wpAny_pyNext_zipD2_end (sepB D) (drawsB p hh i1 a D.l1i1 its.toArray) (drawsB q hh i2 b D.l2i2 its2.toArray) hz hTI hTO ⟨h1, p1⟩ ⟨h2, p2⟩ (by rw [s1]; omega) (by rw [s2]; omega) (by rw [s1, s2]; omega) fun h' tk hk => ⟨rfl, I.turnedL (t' := tk) (ch := [z, TI, TO, i1, i2]) (fun c o hb q =>
      hk c o (fun q' => hb (by simp [q'])) (fun q' => hb (by simp [q'])) (fun q' => hb (by simp [q'])) (fun q' => hb (by simp [q'])) q) hf⟩
  self := fun A i s Q E st h => wpAny_pyIter_zip st.1 h
def iZipB (K : PySem.W.Frag) (ta : TA) : TI := fun σ H R => ta σ H fun vs H1 => ∃ p q a b xs ys, vs = [.ref a, .ref b] ∧ SqB p K H1 a xs ∧ SqB q K H1 b ys ∧ R (ItzB p q K a b) H1
theorem pi_zipB {X : Cx} {e e2 : Expr} {ta : TA} {p pos tpos : Pos} {elts : List Expr} {kk : Nat} (hg : Gl X "zip") (hm : X.mg "zip" = none) (ha : PA X [e, e2] ta)
    (hs : starEach [e, e2] X.env = (false, eval e X.env) :: starEach [e2] X.env := by rfl) (hpl : (backTo pos (starEach [e2] X.env)).any (·.1) = false := by rfl) :
    PI X (.Tuple elts kk tpos) (.Call (.Name "zip" p) [e, e2] [] pos) (iZipB X.K ta) := by
  refine ⟨fun pins s σ H R I h => ?_⟩
  refine Call_ (ld_blt I hg hm PyProof.Rows.boot_zip (PyProof.Rows.callWith_type1 (thn (ha.run pos pins s σ H _ I h) fun us s1 ⟨vs, H1, I1, r1, q1⟩ => ?_) hs hpl))
  obtain ⟨p, q, a, b, xs, ys, ex, hqx, hqy, g⟩ := q1
  subst ex
  cases r1 with
  | cons r rr =>
    cases rr with
    | cons r' rr =>
      cases rr
      cases r
      cases r'
      have fresh5 : ∀ c, c ∈ [s1.heap.objs.size + 4, s1.heap.objs.size + 2, s1.heap.objs.size + 3, s1.heap.objs.size, s1.heap.objs.size + 1] → FpOk X pins H1 c := fun c hcm => by
        have e' : c = s1.heap.objs.size + 4 ∨ c = s1.heap.objs.size + 2 ∨ c = s1.heap.objs.size + 3 ∨ c = s1.heap.objs.size ∨ c = s1.heap.objs.size + 1 := by simpa using hcm
        have hle : s1.heap.objs.size ≤ c := by
          rcases e' with z | z | z | z | z
          · rw [z]; exact Nat.le_add_right _ _
          · rw [z]; exact Nat.le_add_right _ _
          · rw [z]; exact Nat.le_add_right _ _
          · rw [z]; exact Nat.le_refl _
          · rw [z]; exact Nat.le_add_right _ _
        exact I1.fpOk hle (I1.hok.fresh hle)
      obtain ⟨its, rv, p1⟩ := seqB I1 hqx
      obtain ⟨its2, rv2, p2⟩ := seqB I1 hqy
      refine zip_begins2 (beginsB p a its.toArray) (beginsB q b its2.toArray) p1 p2 fun h' hz hTI hTO h1 h2 hsz hk => wpAny_pyIter_zip hz ?_
      have I2 : Inv X pins σ H1 { s1 with heap := h' } := I1.kept (t' := s1.toks) hk
      exact ⟨s1.heap.objs.size + 4, [s1.heap.objs.size + 4, s1.heap.objs.size + 2, s1.heap.objs.size + 3, s1.heap.objs.size, s1.heap.objs.size + 1], _, _, H1, rfl, I2, turn_zipB p q (PySem.W.ktu_apart s1.heap.objs.size a b p1.lt p2.lt), ⟨hz, hTI, ⟨_, _, hTO⟩, itB_of h1, itB_of h2⟩, fresh5, g⟩
/-- a comprehension over zip of two rows alike in length -/
theorem lc_zipB {p q : Bool} {K : PySem.W.Frag} {a b : Addr} {xs ys : List V} {g : TG} {tt : TT} {te : TE} {vs : List Nat} {σ : L2.St} {H1 : Hp} {D : Addr} {Qd : Hp → Prop} (hl : xs.length = ys.length) (Pv : Nat → Hp → Prop) (h0 : Pv 0 (upd H1 D (.lst [])))
    (hq : ∀ i H, Pv i H → SqB p K H a xs ∧ SqB q K H b ys)
    (hs : ∀ (i : Nat) (x y : V) (T : Addr) (H : Hp), xs[i]? = some x → ys[i]? = some y → Pv i H → H T = none → g (.ref T) (wipe σ vs) (upd H T (.tup [x, y])) fun σ2 H2 => wipe σ2 vs = wipe σ vs ∧ tt σ2 H2 fun b H3 =>
      if b = true then te σ2 H3 fun y H4 => ∃ acc, H4 D = some (.lst acc) ∧ acc.length < sizeLine ∧ Pv (i + 1) (upd H4 D (.lst (acc ++ [y]))) else Pv (i + 1) H3) (hd : ∀ H, Pv xs.length H → Qd H) :
    ∃ W : Nat → Nat → Hp → Prop, (∃ m, W 0 m (upd H1 D (.lst []))) ∧ ∀ i m H, W i m H →
      (((ItzB p q K a b).stop i H ∧ Qd H) ∨ ((ItzB p q K a b).go i H ∧ ∃ Nx : Hp → Prop, (∀ H', Nx H' → ∃ m', m' < m ∧ W (i + 1) m' H') ∧ ∀ x H', (ItzB p q K a b).yld i H x H' → g x (wipe σ vs) H' fun σ2 H2 => wipe σ2 vs = wipe σ vs ∧ tt σ2 H2 fun b H3 =>
        if b = true then te σ2 H3 fun y H4 => ∃ acc, H4 D = some (.lst acc) ∧ acc.length < sizeLine ∧ Nx (upd H4 D (.lst (acc ++ [y]))) else Nx H3)) := by
  refine ⟨fun i m H => m = xs.length - i ∧ i ≤ xs.length ∧ Pv i H, ⟨xs.length, by simp, Nat.zero_le _, h0⟩, ?_⟩
  rintro i m H ⟨rfl, hi, pv⟩
  obtain ⟨qx, qy⟩ := hq i H pv
  by_cases hlt : i < xs.length
  · have hx : xs[i]? = some xs[i] := List.getElem?_eq_getElem hlt
    have hlt2 : i < ys.length := by omega
    have hy : ys[i]? = some ys[i] := List.getElem?_eq_getElem hlt2
    refine .inr ⟨⟨xs, ys, xs[i], ys[i], qx, qy, hx, hy⟩, Pv (i + 1), fun H' p' => ⟨xs.length - (i + 1), by omega, rfl, hlt, p'⟩, fun v H' y => ?_⟩
    obtain ⟨T, x', y', e1, n, e2, h1, h2⟩ := y
    rw [e1, e2]
    exact hs i x' y' T H (h1 xs qx) (h2 ys qy) pv n
  · have e : i = xs.length := by omega
    subst e
    exact .inl ⟨⟨xs, ys, qx, qy, Nat.le_refl _, by omega, .inl rfl⟩, hd H pv⟩
/-- a loop over zip of two rows alike in length -/
theorem for_zipB {p q : Bool} {K : PySem.W.Frag} {a b : Addr} {xs ys : List V} {g : TG} {tb : TS} {D : Ends} {σ : L2.St} {H : Hp} (hl : xs.length = ys.length) (Pv : Nat → L2.St → Hp → Prop) (h0 : Pv 0 σ H) (hq : ∀ i σ H, Pv i σ H → SqB p K H a xs ∧ SqB q K H b ys)
    (hs : ∀ (i : Nat) (x y : V) (T : Addr) (σ : L2.St) (H : Hp), xs[i]? = some x → ys[i]? = some y → Pv i σ H → H T = none → g (.ref T) σ (upd H T (.tup [x, y])) fun σ2 H2 => tb { D with nx := Pv (i + 1), ct := Pv (i + 1), bk := D.nx } σ2 H2) (hd : ∀ σ H, Pv xs.length σ H → D.nx σ H) :
    ∃ W : Nat → Nat → L2.St → Hp → Prop, (∃ m, W 0 m σ H) ∧ ∀ i m σ H, W i m σ H →
      ((ItzB p q K a b).stop i H ∧ D.nx σ H) ∨ ((ItzB p q K a b).go i H ∧ ∃ N : L2.St → Hp → Prop, (∀ σ' H', N σ' H' → ∃ m', m' < m ∧ W (i + 1) m' σ' H') ∧ ∀ v H', (ItzB p q K a b).yld i H v H' → g v σ H' fun σ2 H2 => tb { D with nx := N, ct := N, bk := D.nx } σ2 H2) := by
  refine ⟨fun i m σ H => m = xs.length - i ∧ i ≤ xs.length ∧ Pv i σ H, ⟨xs.length, rfl, Nat.zero_le _, h0⟩, ?_⟩
  rintro i m σ H ⟨rfl, hi, pv⟩
  obtain ⟨qx, qy⟩ := hq i σ H pv
  by_cases hlt : i < xs.length
  · have hx : xs[i]? = some xs[i] := List.getElem?_eq_getElem hlt
    have hlt2 : i < ys.length := by omega
    have hy : ys[i]? = some ys[i] := List.getElem?_eq_getElem hlt2
    refine .inr ⟨⟨xs, ys, _, _, qx, qy, hx, hy⟩, Pv (i + 1), fun σ' H' p' => ⟨xs.length - (i + 1), by omega, rfl, hlt, p'⟩, fun v H' y => ?_⟩
    obtain ⟨T, x', y', rfl, hT, rfl, f1, f2⟩ := y
    exact hs i x' y' T σ H (f1 xs qx) (f2 ys qy) pv hT
  · have e : i = xs.length := by omega
    subst e
    exact .inl ⟨⟨xs, ys, qx, qy, Nat.le_refl _, by omega, .inl rfl⟩, hd σ H pv⟩
/-! ### enumerate -/
def IteB (p : Bool) (K : PySem.W.Frag) (a : Addr) : It :=
  ⟨fun i H => ∃ (xs : List V) (x : V), SqB p K H a xs ∧ xs[i]? = some x, fun i H v H' => ∃ T x, v = .ref T ∧ H T = none ∧ H' = upd H T (.tup [.int (i : Nat), x]) ∧ ∀ xs, SqB p K H a xs → xs[i]? = some x, fun i H => ∃ xs : List V, SqB p K H a xs ∧ xs.length = i⟩
theorem turn_enumB {P : Program} {w : World} {K : PySem.W.Frag} {elts : List Expr} {kk : Nat} {tpos : Pos} (p : Bool) (a e it : Addr) (hae : a ≠ e) (hai : a ≠ it) :
    Turn P w K (.Tuple elts kk tpos) (IteB p K a) [e, it] e (fun i h => (∃ old, IsEnum h e it ((i : Nat) : Int) old) ∧ ItB p h it a i ∧ e ≠ it) where
  mem := by simp
  obj := fun i h st b hb => by
    obtain ⟨⟨old, he⟩, h1, _⟩ := st
    have e' : b = e ∨ b = it := by simpa using hb
    rcases e' with z | z
    · rw [z]; exact ⟨_, he, fun v q => nomatch q⟩
    · rw [z]; exact h1.obj
  keep := fun i h h' st k => let ⟨⟨old, he⟩, hi, hne⟩ := st; ⟨⟨old, k e (by simp) _ he⟩, hi.at fun o q => k it (by simp) o q, hne⟩
  item := by
    intro X hP hw hK hc i pins s σ H E I hf st hg
    subst hP hw hK
    obtain ⟨⟨old, he⟩, hit, hne⟩ := st
    obtain ⟨xs, x, hq, hx⟩ := hg
    obtain ⟨its, rv, p1⟩ := seqB I hq
    obtain ⟨u, hu, ru⟩ := rv.get hx
    have hel : e < s.heap.objs.size := Heap.lt_size he
    have hil : it < s.heap.objs.size := by obtain ⟨_, q, _⟩ := hit.obj; exact Heap.lt_size q
    have hh : X.A.in1.handled = none := I.ok.hd hc
    have l1 : i < its.toArray.size := by
      have := (List.getElem?_eq_some_iff.mp hu).1
      simpa using this
    refine wpAny_pyNext_enum_itemD (drawsB p hh it a hai its.toArray) he ⟨hit, p1⟩ l1 hne (by simp [hne, hae.symm]) fun u' h' tk e1 ho hit' hT hsz hk => ?_
    have eu : u' = u := by
      rw [List.getElem?_toArray, hu] at e1
      exact (Option.some.inj e1).symm
    subst eu
    refine ⟨_, rfl, wpAny_letOwnedTupleGo_enum (s := { s with heap := h', toks := tk + 1 }) ho fun h'' he' sb => ?_⟩
    have hT2 : h''.get? s.heap.objs.size = some { cls := .type "tuple", data := .seq #[.int i tk, u'] } := (sb.2 _ (Nat.ne_of_gt hel)).trans hT
    have new : ObjOk X.prog X.w (upd H s.heap.objs.size (.tup [.int (i : Nat), x])) h'' s.heap.objs.size (.tup [.int (i : Nat), x]) :=
      ⟨by show 2 ≤ sizeLine; decide, [.int i tk, u'], .cons ⟨_, rfl⟩ (.cons ru .nil), ⟨_, hT2, rfl, _, rfl⟩⟩
    have I1 : Inv X pins σ (upd H s.heap.objs.size (.tup [.int (i : Nat), x])) { s with heap := h'', toks := tk + 1 } :=
      I.turnedNew (ch := [e, it]) (fun b ob hb q => (sb.2 b (fun z => hb (by simp [z]))).trans (hk b ob (fun z => hb (by simp [z])) (fun z => hb (by simp [z])) q)) hf (Nat.le_refl _) new
    refine ⟨.ref s.heap.objs.size, _, I1, rfl, ⟨_, x, rfl, I.hok.fresh (Nat.le_refl _), rfl, fun ys hy => by rw [seqB_inj I hy hq]; exact hx⟩, ⟨⟨u', ?_⟩, hit'.1.at fun o q => (sb.2 it (Ne.symm hne)).trans q, hne⟩, fun b hb => ?_⟩
    · have e1 : ((i + 1 : Nat) : Int) = (i : Int) + 1 := by omega
      rw [e1]; exact he'
    · have hb' : b < s.heap.objs.size := by
        have e' : b = e ∨ b = it := by simpa using hb
        rcases e' with z | z
        · rw [z]; exact hel
        · rw [z]; exact hil
      rw [upd_ne (Nat.ne_of_lt hb')]
      exact (hf b hb).1
  done := by
    intro X hP hw hK hc i pins s σ H E I hf st hg
    subst hP hw hK
    obtain ⟨⟨old, he⟩, hit, hne⟩ := st
    obtain ⟨xs, hq, hx⟩ := hg
    obtain ⟨its, rv, p1⟩ := seqB I hq
    obtain ⟨f0, f1, f2, f3, f4, f5⟩ := hf it (by simp)
    have hl := rv.length
    have hh : X.A.in1.handled = none := I.ok.hd hc
    have s1 : its.toArray.size = i := by simp; omega
    refine wpAny_pyNext_enum_endD (drawsB p hh it a hai its.toArray) he (by rw [s1]; exact ⟨hit, p1⟩) fun h' eb => ⟨rfl, I.turned (t' := s.toks) (fun b o hb q => eb b o hb q) f0 f1 f3 f4 f5⟩
  self := fun A i s Q E st h => let ⟨⟨_, he⟩, _⟩ := st; wpAny_pyIter_enum he h
theorem meets_enumerate_newB1 {v : Value} {o : Obj} {H : Heap → Prop} (B : Begins v o H) :
    Meets (Builtin.«enumerate.__new__» ⟨[.type "enumerate", v], []⟩) (fun _ R s => H s.heap ∧
      R (.ok (.ret (.ref (s.heap.push o).objs.size))) { s with heap := (s.heap.push o).push { cls := .type "enumerate", data := .fields #[.none, .bool false, .ref s.heap.objs.size, rawInt 0, .none, .none] } }) :=
  .of_wp fun prog w A R s h => by
    obtain ⟨hp, g, d, tk, os⟩ := s; obtain ⟨h1, h⟩ := h
    have hsub := sub_enumerate
    have q1 : ∀ {A' : Around} {E : Value → Shared → Prop} {Q : Value → Shared → Prop}, Q (.ref hp.objs.size) ⟨hp.push o, g, d, tk, os⟩ → wpAny (model prog w) A' (pyIter v) Q E ⟨hp, g, d, tk, os⟩ :=
      fun q => B.iter prog w _ _ ⟨hp, g, d, tk, os⟩ _ h1 q
    wp_walk using q1
    first
      | exact ⟨_, rfl, h⟩
      | (refine wpAny_stack_any fun st => wpAny_pure ?_
         split
         · rename_i c _ _ _ _ _
           cases (c == Value.type "enumerate")
           · wp_walk using q1
             exact ⟨_, rfl, h⟩
           · wp_walk using q1
             exact ⟨_, rfl, h⟩
         · wp_walk using q1
           exact ⟨_, rfl, h⟩)
section
variable {prog : Program} {w : World} {A : Around} {E : Value → Shared → Prop} {s : Shared}
theorem enum_begins1 {v : Value} {o : Obj} {H : Heap → Prop} {Q : Value → Shared → Prop} (B : Begins v o H) (h1 : H s.heap)
    (h : ∀ h', IsEnum h' (s.heap.objs.size + 1) s.heap.objs.size 0 .none → h'.get? s.heap.objs.size = some o → h'.objs.size = s.heap.objs.size + 2 →
      (∀ b o, s.heap.get? b = some o → h'.get? b = some o) → Q (.ref (s.heap.objs.size + 1)) { s with heap := h' }) :
    wpAny (model prog w) A (call (.type "enumerate") [v]) Q E s := by
  refine callType_new F.called_enumerate (by decide) (F.typeCall_enumerate_1 _) (F.newCall_enumerate_1 _) (fun obj => F.args_object_init_2 obj _) F.entry_enumerate_new
    (meets_enumerate_newB1 B) ⟨h1, ?_⟩
  have hz : (s.heap.push o).objs.size = s.heap.objs.size + 1 := Heap.size_push ..
  show _ ∧ _
  rw [hz]
  have he : IsEnum ((s.heap.push o).push { cls := .type "enumerate", data := .fields #[.none, .bool false, .ref s.heap.objs.size, rawInt 0, .none, .none] }) (s.heap.objs.size + 1) s.heap.objs.size 0 .none := by
    have := Heap.get?_push_size (s.heap.push o) (o := { cls := .type "enumerate", data := .fields #[.none, .bool false, .ref s.heap.objs.size, rawInt 0, .none, .none] }) rfl
    rw [hz] at this; exact this
  refine ⟨⟨_, he, rfl⟩, h _ he (Heap.get?_push_of_some _ (Heap.get?_push_size _ B.free)) (by rw [Heap.size_push, hz]) fun b o x => Heap.get?_push_of_some _ (Heap.get?_push_of_some _ x)⟩
end
def iEnumB (K : PySem.W.Frag) (ta : TA) : TI := fun σ H R => ta σ H fun vs H1 => ∃ p a xs, vs = [.ref a] ∧ SqB p K H1 a xs ∧ R (IteB p K a) H1
theorem pi_enumB {X : Cx} {e : Expr} {ta : TA} {p pos tpos : Pos} {elts : List Expr} {kk : Nat} (hg : Gl X "enumerate") (hm : X.mg "enumerate" = none) (ha : PA X [e] ta) (hs : starEach [e] X.env = [(false, eval e X.env)] := by rfl) :
    PI X (.Tuple elts kk tpos) (.Call (.Name "enumerate" p) [e] [] pos) (iEnumB X.K ta) := by
  refine ⟨fun pins s σ H R I h => ?_⟩
  refine Call_ (ld_blt I hg hm boot_enumerate (PyProof.Rows.callWith_type1 (thn (ha.run pos pins s σ H _ I h) fun us s1 ⟨vs, H1, I1, r1, q1⟩ => ?_) hs rfl))
  obtain ⟨p, a, xs, ex, hq, q⟩ := q1
  subst ex
  cases r1 with
  | cons r rr =>
    cases rr
    cases r
    obtain ⟨its, rv, p1⟩ := seqB I1 hq
    have al := p1.lt
    refine enum_begins1 (beginsB p a its.toArray) p1 fun h' he hit hsz hk => wpAny_pyIter_enum he ?_
    have I2 : Inv X pins σ H1 { s1 with heap := h' } := I1.kept (t' := s1.toks) hk
    refine ⟨s1.heap.objs.size + 1, [s1.heap.objs.size + 1, s1.heap.objs.size], _, _, H1, rfl, I2, turn_enumB p a (s1.heap.objs.size + 1) s1.heap.objs.size (Nat.ne_of_lt (Nat.lt_of_lt_of_le al (Nat.le_add_right _ _))) (Nat.ne_of_lt al), ⟨⟨.none, he⟩, itB_of hit, Nat.succ_ne_self _⟩, fun b hb => ?_, q⟩
    have e' : b = s1.heap.objs.size + 1 ∨ b = s1.heap.objs.size := by simpa using hb
    have hle : s1.heap.objs.size ≤ b := by
      rcases e' with z | z
      · rw [z]; exact Nat.le_add_right _ _
      · rw [z]; exact Nat.le_refl _
    exact I1.fpOk hle (I1.hok.fresh hle)
/-- a comprehension over enumerate of a row -/
theorem lc_enumB {p : Bool} {K : PySem.W.Frag} {a : Addr} {xs : List V} {g : TG} {tt : TT} {te : TE} {vs : List Nat} {σ : L2.St} {H1 : Hp} {D : Addr} {Qd : Hp → Prop} (Pv : Nat → Hp → Prop) (h0 : Pv 0 (upd H1 D (.lst [])))
    (hq : ∀ i H, Pv i H → SqB p K H a xs)
    (hs : ∀ (i : Nat) (x : V) (T : Addr) (H : Hp), xs[i]? = some x → Pv i H → H T = none → g (.ref T) (wipe σ vs) (upd H T (.tup [.int (i : Nat), x])) fun σ2 H2 => wipe σ2 vs = wipe σ vs ∧ tt σ2 H2 fun b H3 =>
      if b = true then te σ2 H3 fun y H4 => ∃ acc, H4 D = some (.lst acc) ∧ acc.length < sizeLine ∧ Pv (i + 1) (upd H4 D (.lst (acc ++ [y]))) else Pv (i + 1) H3) (hd : ∀ H, Pv xs.length H → Qd H) :
    ∃ W : Nat → Nat → Hp → Prop, (∃ m, W 0 m (upd H1 D (.lst []))) ∧ ∀ i m H, W i m H →
      (((IteB p K a).stop i H ∧ Qd H) ∨ ((IteB p K a).go i H ∧ ∃ Nx : Hp → Prop, (∀ H', Nx H' → ∃ m', m' < m ∧ W (i + 1) m' H') ∧ ∀ x H', (IteB p K a).yld i H x H' → g x (wipe σ vs) H' fun σ2 H2 => wipe σ2 vs = wipe σ vs ∧ tt σ2 H2 fun b H3 =>
        if b = true then te σ2 H3 fun y H4 => ∃ acc, H4 D = some (.lst acc) ∧ acc.length < sizeLine ∧ Nx (upd H4 D (.lst (acc ++ [y]))) else Nx H3)) := by
  refine ⟨fun i m H => m = xs.length - i ∧ i ≤ xs.length ∧ Pv i H, ⟨xs.length, by simp, Nat.zero_le _, h0⟩, ?_⟩
  rintro i m H ⟨rfl, hi, pv⟩
  have qx := hq i H pv
  by_cases hlt : i < xs.length
  · have hx : xs[i]? = some xs[i] := List.getElem?_eq_getElem hlt
    refine .inr ⟨⟨xs, xs[i], qx, hx⟩, Pv (i + 1), fun H' p' => ⟨xs.length - (i + 1), by omega, rfl, hlt, p'⟩, fun v H' y => ?_⟩
    obtain ⟨T, x', e1, n, e2, h1⟩ := y
    rw [e1, e2]
    exact hs i x' T H (h1 xs qx) pv n
  · have e : i = xs.length := by omega
    subst e
    exact .inl ⟨⟨xs, qx, rfl⟩, hd H pv⟩
end Vf

set_option maxRecDepth 100000
set_option maxHeartbeats 4000000
/-! enumerate over a text -/
namespace Vf
open PySem PySem.Spec PyProof.Rows L2
def IteS (x : Str) : It :=
  ⟨fun i H => i < x.cps.size, fun i H v H' => ∃ T c, v = .ref T ∧ H T = none ∧ H' = upd H T (.tup [.int (i : Nat), .str ⟨#[c]⟩]) ∧ x.cps[i]? = some c, fun i H => x.cps.size = i⟩
theorem strIter_at {h h' : Heap} {it : Addr} {ty : String} {x : Str} {t : Tok} {i : Nat} (st : h.IsStrIter it ty x t i) (k : ∀ o, h.get? it = some o → h'.get? it = some o) : h'.IsStrIter it ty x t i := by
  obtain ⟨o, ho, r⟩ := st
  exact ⟨o, k o ho, r⟩
theorem strIter_obj {h : Heap} {it : Addr} {ty : String} {x : Str} {t : Tok} {i : Nat} (st : h.IsStrIter it ty x t i) : ∃ o, h.get? it = some o ∧ ∀ v, o.data ≠ .cell v := by
  obtain ⟨o, e, c, d⟩ := st
  exact ⟨o, e, fun v z => by rw [d] at z; cases z⟩
theorem turn_enumS {P : Program} {w : World} {K : PySem.W.Frag} {elts : List Expr} {kk : Nat} {tpos : Pos} (x : Str) (t : Tok) (e it : Addr) :
    Turn P w K (.Tuple elts kk tpos) (IteS x) [e, it] e (fun i h => (∃ old, IsEnum h e it ((i : Nat) : Int) old) ∧ h.IsStrIter it (strIterType x) x t i ∧ e ≠ it) where
  mem := by simp
  obj := fun i h st b hb => by
    obtain ⟨⟨old, he⟩, h1, _⟩ := st
    have e' : b = e ∨ b = it := by simpa using hb
    rcases e' with z | z
    · rw [z]; exact ⟨_, he, fun v q => nomatch q⟩
    · rw [z]; exact strIter_obj h1
  keep := fun i h h' st k => let ⟨⟨old, he⟩, hi, hne⟩ := st; ⟨⟨old, k e (by simp) _ he⟩, strIter_at hi fun o q => k it (by simp) o q, hne⟩
  item := by
    intro X hP hw hK hc i pins s σ H E I hf st hg
    subst hP hw hK
    obtain ⟨⟨old, he⟩, hit, hne⟩ := st
    have hel : e < s.heap.objs.size := Heap.lt_size he
    have hil : it < s.heap.objs.size := by obtain ⟨_, q, _⟩ := strIter_obj hit; exact Heap.lt_size q
    have hh : X.A.in1.handled = none := I.ok.hd hc
    refine wpAny_pyNext_enum_itemD (Draws.text hh it x t) he hit hg hne (by simp [hne]) fun u' h' tk e1 ho hit' hT hsz hk => ?_
    obtain ⟨c, u, hcx, rfl⟩ := e1
    refine ⟨_, rfl, wpAny_letOwnedTupleGo_enum (s := { s with heap := h', toks := tk + 1 }) ho fun h'' he' sb => ?_⟩
    have hT2 : h''.get? s.heap.objs.size = some { cls := .type "tuple", data := .seq #[.int i tk, .str ⟨#[c]⟩ u] } := (sb.2 _ (Nat.ne_of_gt hel)).trans hT
    have new : ObjOk X.prog X.w (upd H s.heap.objs.size (.tup [.int (i : Nat), .str ⟨#[c]⟩])) h'' s.heap.objs.size (.tup [.int (i : Nat), .str ⟨#[c]⟩]) :=
      ⟨by show 2 ≤ sizeLine; decide, [.int i tk, .str ⟨#[c]⟩ u], .cons ⟨_, rfl⟩ (.cons ⟨_, rfl⟩ .nil), ⟨_, hT2, rfl, _, rfl⟩⟩
    have I1 : Inv X pins σ (upd H s.heap.objs.size (.tup [.int (i : Nat), .str ⟨#[c]⟩])) { s with heap := h'', toks := tk + 1 } :=
      I.turnedNew (ch := [e, it]) (fun b ob hb q => (sb.2 b (fun z => hb (by simp [z]))).trans (hk b ob (fun z => hb (by simp [z])) (fun z => hb (by simp [z])) q)) hf (Nat.le_refl _) new
    refine ⟨.ref s.heap.objs.size, _, I1, rfl, ⟨_, c, rfl, I.hok.fresh (Nat.le_refl _), rfl, hcx⟩, ⟨⟨.str ⟨#[c]⟩ u, ?_⟩, strIter_at hit' fun o q => (sb.2 it (Ne.symm hne)).trans q, hne⟩, fun b hb => ?_⟩
    · have e1 : ((i + 1 : Nat) : Int) = (i : Int) + 1 := by omega
      rw [e1]; exact he'
    · have hb' : b < s.heap.objs.size := by
        have e' : b = e ∨ b = it := by simpa using hb
        rcases e' with z | z
        · rw [z]; exact hel
        · rw [z]; exact hil
      rw [upd_ne (Nat.ne_of_lt hb')]
      exact (hf b hb).1
  done := by
    intro X hP hw hK hc i pins s σ H E I hf st hg
    subst hP hw hK
    obtain ⟨⟨old, he⟩, hit, hne⟩ := st
    obtain ⟨f0, f1, f2, f3, f4, f5⟩ := hf it (by simp)
    have hh : X.A.in1.handled = none := I.ok.hd hc
    refine wpAny_pyNext_enum_endD (Draws.text hh it x t) he (by rw [show x.cps.size = i from hg]; exact hit) fun h' eb => ⟨rfl, I.turned (t' := s.toks) (fun b o hb q => eb b o hb q) f0 f1 f3 f4 f5⟩
  self := fun A i s Q E st h => let ⟨⟨_, he⟩, _⟩ := st; wpAny_pyIter_enum he h
def iEnumS (ta : TA) : TI := fun σ H R => ta σ H fun vs H1 => ∃ x, vs = [.str x] ∧ R (IteS x) H1
theorem pi_enumS {X : Cx} {e : Expr} {ta : TA} {p pos tpos : Pos} {elts : List Expr} {kk : Nat} (hg : Gl X "enumerate") (hm : X.mg "enumerate" = none) (ha : PA X [e] ta) (hs : starEach [e] X.env = [(false, eval e X.env)] := by rfl) :
    PI X (.Tuple elts kk tpos) (.Call (.Name "enumerate" p) [e] [] pos) (iEnumS ta) := by
  refine ⟨fun pins s σ H R I h => ?_⟩
  refine Call_ (ld_blt I hg hm boot_enumerate (PyProof.Rows.callWith_type1 (thn (ha.run pos pins s σ H _ I h) fun us s1 ⟨vs, H1, I1, r1, q1⟩ => ?_) hs rfl))
  obtain ⟨x, ex, q⟩ := q1
  subst ex
  cases r1 with
  | cons r rr =>
    cases rr
    obtain ⟨t, rfl⟩ := r
    refine call_enumerate_str fun h' he hit hsz hk => wpAny_pyIter_enum he ?_
    have I2 : Inv X pins σ H1 { s1 with heap := h' } := I1.kept (t' := s1.toks) hk
    refine ⟨s1.heap.objs.size + 1, [s1.heap.objs.size + 1, s1.heap.objs.size], _, _, H1, rfl, I2, turn_enumS x t (s1.heap.objs.size + 1) s1.heap.objs.size, ⟨⟨.none, he⟩, hit, Nat.succ_ne_self _⟩, fun b hb => ?_, q⟩
    have e' : b = s1.heap.objs.size + 1 ∨ b = s1.heap.objs.size := by simpa using hb
    have hle : s1.heap.objs.size ≤ b := by
      rcases e' with z | z
      · rw [z]; exact Nat.le_add_right _ _
      · rw [z]; exact Nat.le_refl _
    exact I1.fpOk hle (I1.hok.fresh hle)
/-- a loop over enumerate of a text -/
theorem for_enumS {x : Str} {g : TG} {tb : TS} {D : Ends} {σ : L2.St} {H : Hp} (Pv : Nat → L2.St → Hp → Prop) (h0 : Pv 0 σ H)
    (hs : ∀ (i c : Nat) (T : Addr) (σ : L2.St) (H : Hp), x.cps[i]? = some c → Pv i σ H → H T = none → g (.ref T) σ (upd H T (.tup [.int (i : Nat), .str ⟨#[c]⟩])) fun σ2 H2 => tb { D with nx := Pv (i + 1), ct := Pv (i + 1), bk := D.nx } σ2 H2) (hd : ∀ σ H, Pv x.cps.size σ H → D.nx σ H) :
    ∃ W : Nat → Nat → L2.St → Hp → Prop, (∃ m, W 0 m σ H) ∧ ∀ i m σ H, W i m σ H →
      ((IteS x).stop i H ∧ D.nx σ H) ∨ ((IteS x).go i H ∧ ∃ N : L2.St → Hp → Prop, (∀ σ' H', N σ' H' → ∃ m', m' < m ∧ W (i + 1) m' σ' H') ∧ ∀ v H', (IteS x).yld i H v H' → g v σ H' fun σ2 H2 => tb { D with nx := N, ct := N, bk := D.nx } σ2 H2) := by
  refine ⟨fun i m σ H => m = x.cps.size - i ∧ i ≤ x.cps.size ∧ Pv i σ H, ⟨x.cps.size, rfl, Nat.zero_le _, h0⟩, ?_⟩
  rintro i m σ H ⟨rfl, hi, pv⟩
  by_cases hlt : i < x.cps.size
  · refine .inr ⟨hlt, Pv (i + 1), fun σ' H' p' => ⟨x.cps.size - (i + 1), by omega, rfl, hlt, p'⟩, fun v H' y => ?_⟩
    obtain ⟨T, c, rfl, hT, rfl, hc⟩ := y
    exact hs i c T σ H hc pv hT
  · have e : i = x.cps.size := by omega
    subst e
    exact .inl ⟨rfl, hd σ H pv⟩
end Vf

set_option maxRecDepth 100000
set_option maxHeartbeats 4000000
/-! slices of lists and tuples alike; zip of rows of any lengths, of three rows -/
namespace Vf
open PySem PySem.Spec PyProof.Rows L2
def rSlQ (K : PySem.W.Frag) : V → Option Int → Option Int → Hp → VK → Prop := fun x lo hi H Q => ∃ p a xs, x = .ref a ∧ SqB p K H a xs ∧ ∀ b H', Same H H' → SqB p K H' b (cutV xs lo hi) → Q (.ref b) H'
theorem same_new {H : Hp} {p : Addr} {o : HO} (n : H p = none) : Same H (upd H p o) := fun b u e => by rw [upd_ne (ne_of_none e n)]; exact e
theorem sl_seq {X : Cx} : SlR X (rSlQ X.K) := by
  intro pins s σ H x v vl vu lo hi sl Q I rx hs pl pu h
  obtain ⟨p, a, xs, rfl, hq, q⟩ := h
  cases p with
  | false =>
    refine sl_tupA pins s σ H _ v vl vu lo hi sl Q I rx hs pl pu ⟨a, xs, rfl, hq, fun hw => ?_, fun _ t nt => q t _ (same_new nt) (.inl (.inl upd_same))⟩
    refine q a H (Same.refl _) ?_
    have e : cutV xs lo hi = xs := by
      unfold cutV
      rw [hw.1, hw.2, Nat.sub_zero, List.drop_zero, List.take_length]
    rw [e]
    exact hq
  | true => exact sl_list pins s σ H _ v vl vu lo hi sl Q I rx hs pl pu ⟨a, xs, rfl, hq, fun t nt => q t _ (same_new nt) (.inl (.inl upd_same))⟩
/-- a comprehension over zip of two rows of any lengths -/
theorem lc_zipM {p q : Bool} {K : PySem.W.Frag} {a b : Addr} {xs ys : List V} {g : TG} {tt : TT} {te : TE} {vs : List Nat} {σ : L2.St} {H1 : Hp} {D : Addr} {Qd : Hp → Prop} (n : Nat) (hn : n = min xs.length ys.length) (Pv : Nat → Hp → Prop) (h0 : Pv 0 (upd H1 D (.lst [])))
    (hq : ∀ i H, Pv i H → SqB p K H a xs ∧ SqB q K H b ys)
    (hs : ∀ (i : Nat) (x y : V) (T : Addr) (H : Hp), i < n → xs[i]? = some x → ys[i]? = some y → Pv i H → H T = none → g (.ref T) (wipe σ vs) (upd H T (.tup [x, y])) fun σ2 H2 => wipe σ2 vs = wipe σ vs ∧ tt σ2 H2 fun b H3 =>
      if b = true then te σ2 H3 fun y H4 => ∃ acc, H4 D = some (.lst acc) ∧ acc.length < sizeLine ∧ Pv (i + 1) (upd H4 D (.lst (acc ++ [y]))) else Pv (i + 1) H3) (hd : ∀ H, Pv n H → Qd H) :
    ∃ W : Nat → Nat → Hp → Prop, (∃ m, W 0 m (upd H1 D (.lst []))) ∧ ∀ i m H, W i m H →
      (((ItzB p q K a b).stop i H ∧ Qd H) ∨ ((ItzB p q K a b).go i H ∧ ∃ Nx : Hp → Prop, (∀ H', Nx H' → ∃ m', m' < m ∧ W (i + 1) m' H') ∧ ∀ x H', (ItzB p q K a b).yld i H x H' → g x (wipe σ vs) H' fun σ2 H2 => wipe σ2 vs = wipe σ vs ∧ tt σ2 H2 fun b H3 =>
        if b = true then te σ2 H3 fun y H4 => ∃ acc, H4 D = some (.lst acc) ∧ acc.length < sizeLine ∧ Nx (upd H4 D (.lst (acc ++ [y]))) else Nx H3)) := by
  refine ⟨fun i m H => m = n - i ∧ i ≤ n ∧ Pv i H, ⟨n, by simp, Nat.zero_le _, h0⟩, ?_⟩
  rintro i m H ⟨rfl, hi, pv⟩
  obtain ⟨qx, qy⟩ := hq i H pv
  by_cases hlt : i < n
  · have h1 : i < xs.length := by omega
    have h2 : i < ys.length := by omega
    have hx : xs[i]? = some xs[i] := List.getElem?_eq_getElem h1
    have hy : ys[i]? = some ys[i] := List.getElem?_eq_getElem h2
    refine .inr ⟨⟨xs, ys, xs[i], ys[i], qx, qy, hx, hy⟩, Pv (i + 1), fun H' p' => ⟨n - (i + 1), by omega, rfl, hlt, p'⟩, fun v H' y => ?_⟩
    obtain ⟨T, x', y', e1, m, e2, h1, h2⟩ := y
    rw [e1, e2]
    exact hs i x' y' T H hlt (h1 xs qx) (h2 ys qy) pv m
  · have e : i = n := by omega
    subst e
    exact .inl ⟨⟨xs, ys, qx, qy, by omega, by omega, by omega⟩, hd H pv⟩
/-! ### three rows -/
def Itz3 (p q r : Bool) (K : PySem.W.Frag) (a b c : Addr) : It :=
  ⟨fun i H => ∃ (xs ys ws : List V) (x y w : V), SqB p K H a xs ∧ SqB q K H b ys ∧ SqB r K H c ws ∧ xs[i]? = some x ∧ ys[i]? = some y ∧ ws[i]? = some w,
    fun i H v H' => ∃ T x y w, v = .ref T ∧ H T = none ∧ H' = upd H T (.tup [x, y, w]) ∧ (∀ xs, SqB p K H a xs → xs[i]? = some x) ∧ (∀ ys, SqB q K H b ys → ys[i]? = some y) ∧ ∀ ws, SqB r K H c ws → ws[i]? = some w,
    fun i H => ∃ xs ys ws : List V, SqB p K H a xs ∧ SqB q K H b ys ∧ SqB r K H c ws ∧ i ≤ xs.length ∧ i ≤ ys.length ∧ i ≤ ws.length ∧ (xs.length = i ∨ ys.length = i ∨ ws.length = i)⟩
/-- the cells of a zip of three, the first one at n, over rows that stood before -/
theorem sep3 {n a b c : Addr} (ha : a < n) (hb : b < n) (hc : c < n) : ZipSep3 (n + 5) (n + 3) (n + 4) n (n + 1) (n + 2) [n, a] [n + 1, b] [n + 2, c] := by
  have up : ∀ {x : Addr} (k : Nat), x < n → n + k ≠ x := fun {x} k h => Nat.ne_of_gt (Nat.lt_of_lt_of_le h (Nat.le_add_right n k))
  have d : ∀ {i j : Nat}, i < j → n + i ≠ n + j := fun {i j} h => Nat.ne_of_lt (Nat.add_lt_add_left h n)
  have z : ∀ {j : Nat}, 0 < j → n + j ≠ n := fun {j} h => Nat.ne_of_gt (Nat.lt_add_of_pos_right h)
  have no : ∀ {x y w : Addr}, x ≠ y → x ≠ w → x ∉ [y, w] := fun {x y w} h1 h2 h => by
    rcases List.mem_cons.mp h with h | h
    · exact h1 h
    · exact h2 (List.mem_singleton.mp h)
  exact {
    TIz := d (by decide)
    TOz := d (by decide)
    TITO := d (by decide)
    TIi1 := z (by decide)
    mem1 := List.mem_cons_self ..
    zf1 := no (z (by decide)) (up 5 ha)
    Tf1 := no (z (by decide)) (up 4 ha)
    TIi2 := (d (by decide)).symm
    mem2 := List.mem_cons_self ..
    zf2 := no (d (by decide)).symm (up 5 hb)
    Tf2 := no (d (by decide)).symm (up 4 hb)
    TIi3 := (d (by decide)).symm
    mem3 := List.mem_cons_self ..
    zf3 := no (d (by decide)).symm (up 5 hc)
    Tf3 := no (d (by decide)).symm (up 4 hc)
    sep1_2 := no (z (by decide)).symm (Nat.ne_of_gt hb)
    sep1_3 := no (z (by decide)).symm (Nat.ne_of_gt hc)
    sep2_1 := no (z (by decide)) (up 1 ha)
    sep2_3 := no (d (by decide)) (up 1 hc)
    sep3_1 := no (z (by decide)) (up 2 ha)
    sep3_2 := no (d (by decide)).symm (up 2 hb) }
theorem turn_zip3 {P : Program} {w : World} {K : PySem.W.Frag} {elts : List Expr} {kk : Nat} {tpos : Pos} (p q r : Bool) {n a b c : Addr} (ha : a < n) (hb : b < n) (hc : c < n) :
    Turn P w K (.Tuple elts kk tpos) (Itz3 p q r K a b c) [n + 5, n + 3, n + 4, n, n + 1, n + 2] (n + 5) (fun i h => IsZip h (n + 5) (n + 3) (n + 4) .none ∧ IsTupOf3 h (n + 3) (.ref n) (.ref (n + 1)) (.ref (n + 2)) ∧ (∃ x y z, IsTupOf3 h (n + 4) x y z) ∧ ItB p h n a i ∧ ItB q h (n + 1) b i ∧ ItB r h (n + 2) c i) where
  mem := by simp
  obj := fun i h st d hd => by
    obtain ⟨hz, hTI, ⟨x, y, z, hTO⟩, h1, h2, h3⟩ := st
    have e' : d = n + 5 ∨ d = n + 3 ∨ d = n + 4 ∨ d = n ∨ d = n + 1 ∨ d = n + 2 := by simpa using hd
    rcases e' with q | q | q | q | q | q
    · rw [q]; exact ⟨_, hz, fun v q => nomatch q⟩
    · rw [q]; exact ⟨_, hTI, fun v q => nomatch q⟩
    · rw [q]; exact ⟨_, hTO, fun v q => nomatch q⟩
    · rw [q]; exact h1.obj
    · rw [q]; exact h2.obj
    · rw [q]; exact h3.obj
  keep := fun i h h' st k => by
    obtain ⟨hz, hTI, ⟨x, y, z, hTO⟩, h1, h2, h3⟩ := st
    exact ⟨k _ (by simp) _ hz, k _ (by simp) _ hTI, ⟨x, y, z, k _ (by simp) _ hTO⟩, h1.at fun o q => k _ (by simp) o q, h2.at fun o q => k _ (by simp) o q, h3.at fun o q => k _ (by simp) o q⟩
  item := by
    intro X hP hw hK hcm i pins s σ H E I hf st hg
    subst hP hw hK
    obtain ⟨hz, hTI, ⟨x0, y0, z0, hTO⟩, h1, h2, h3⟩ := st
    obtain ⟨xs, ys, ws, x, y, w', hqx, hqy, hqw, hx, hy, hw'⟩ := hg
    obtain ⟨its, rv, p1⟩ := seqB I hqx
    obtain ⟨its2, rv2, p2⟩ := seqB I hqy
    obtain ⟨its3, rv3, p3⟩ := seqB I hqw
    obtain ⟨u, hu, ru⟩ := rv.get hx
    obtain ⟨u2, hu2, ru2⟩ := rv2.get hy
    obtain ⟨u3, hu3, ru3⟩ := rv3.get hw'
    have hzl : n + 5 < s.heap.objs.size := Heap.lt_size hz
    have hh : X.A.in1.handled = none := I.ok.hd hcm
    have lt : ∀ {l : List Value} {v : Value}, l[i]? = some v → i < l.toArray.size := fun h => by
      have := (List.getElem?_eq_some_iff.mp h).1
      simpa using this
    have na : a ≠ n := Nat.ne_of_lt ha
    have nb : b ≠ n + 1 := Nat.ne_of_lt (Nat.lt_succ_of_lt hb)
    have nc : c ≠ n + 2 := Nat.ne_of_lt (Nat.lt_of_lt_of_le hc (Nat.le_add_right _ _))
    refine wpAny_pyNext_zipD3_item (sep3 ha hb hc) (drawsB p hh n a na its.toArray) (drawsB q hh (n + 1) b nb its2.toArray) (drawsB r hh (n + 2) c nc its3.toArray) hz hTI hTO ⟨h1, p1⟩ ⟨h2, p2⟩ ⟨h3, p3⟩ (lt hu) (lt hu2) (lt hu3) fun u' u2' u3' h' tk e1 e2 e3 z' TO' h1' h2' h3' hT hsz hk => ?_
    have eu : u' = u := by
      rw [List.getElem?_toArray, hu] at e1
      exact (Option.some.inj e1).symm
    have eu2 : u2' = u2 := by
      rw [List.getElem?_toArray, hu2] at e2
      exact (Option.some.inj e2).symm
    have eu3 : u3' = u3 := by
      rw [List.getElem?_toArray, hu3] at e3
      exact (Option.some.inj e3).symm
    subst eu eu2 eu3
    refine ⟨_, rfl, wpAny_letOwnedTupleGo_zip (s := { s with heap := h', toks := tk }) z' fun h'' z'' sb => ?_⟩
    have hT2 : h''.get? s.heap.objs.size = some { cls := .type "tuple", data := .seq #[u', u2', u3'] } := (sb.2 _ (Nat.ne_of_gt hzl)).trans hT
    have new : ObjOk X.prog X.w (upd H s.heap.objs.size (.tup [x, y, w'])) h'' s.heap.objs.size (.tup [x, y, w']) :=
      ⟨by show 3 ≤ sizeLine; decide, [u', u2', u3'], .cons ru (.cons ru2 (.cons ru3 .nil)), ⟨_, hT2, rfl, _, rfl⟩⟩
    have I1 : Inv X pins σ (upd H s.heap.objs.size (.tup [x, y, w'])) { s with heap := h'', toks := tk } :=
      I.turnedNew (t' := tk) (ch := [n + 5, n + 3, n + 4, n, n + 1, n + 2]) (fun c o hb q => (sb.2 c (fun q' => hb (by simp [q']))).trans (hk c o (fun q' => hb (by simp [q'])) (fun q' => hb (by simp [q'])) (fun q' => hb (by simp [q'])) (fun q' => hb (by simp [q'])) (fun q' => hb (by simp [q'])) q)) hf (Nat.le_refl _) new
    have S := sep3 ha hb hc
    refine ⟨.ref s.heap.objs.size, _, I1, rfl, ⟨_, x, y, w', rfl, I.hok.fresh (Nat.le_refl _), rfl, fun l hl => by rw [seqB_inj I hl hqx]; exact hx, fun l hl => by rw [seqB_inj I hl hqy]; exact hy, fun l hl => by rw [seqB_inj I hl hqw]; exact hw'⟩, ⟨z'', ?_, ⟨u', u2', u3', ?_⟩, ?_, ?_, ?_⟩, fun d hcm => ?_⟩
    · exact (sb.2 _ S.TIz).trans (hk _ _ S.TIz S.TITO S.TIi1 S.TIi2 S.TIi3 hTI)
    · exact (sb.2 _ S.TOz).trans TO'
    · exact h1'.1.at fun o q => (sb.2 _ S.zi1.symm).trans q
    · exact h2'.1.at fun o q => (sb.2 _ S.zi2.symm).trans q
    · exact h3'.1.at fun o q => (sb.2 _ S.zi3.symm).trans q
    · have hlt : d < s.heap.objs.size := by
        have e' : d = n + 5 ∨ d = n + 3 ∨ d = n + 4 ∨ d = n ∨ d = n + 1 ∨ d = n + 2 := by simpa using hcm
        have lo : ∀ {k : Nat}, k ≤ 5 → n + k < s.heap.objs.size := fun {k} h => Nat.lt_of_le_of_lt (Nat.add_le_add_left h n) hzl
        rcases e' with q | q | q | q | q | q
        · rw [q]; exact hzl
        · rw [q]; exact lo (by decide)
        · rw [q]; exact lo (by decide)
        · rw [q]; exact Nat.lt_of_le_of_lt (Nat.le_add_right n 5) hzl
        · rw [q]; exact lo (by decide)
        · rw [q]; exact lo (by decide)
      rw [upd_ne (Nat.ne_of_lt hlt)]
      exact (hf d hcm).1
  done := by
    intro X hP hw hK hcm i pins s σ H E I hf st hg
    subst hP hw hK
    obtain ⟨hz, hTI, ⟨x0, y0, z0, hTO⟩, h1, h2, h3⟩ := st
    obtain ⟨xs, ys, ws, hqx, hqy, hqw, le1, le2, le3, hend⟩ := hg
    obtain ⟨its, rv, p1⟩ := seqB I hqx
    obtain ⟨its2, rv2, p2⟩ := seqB I hqy
    obtain ⟨its3, rv3, p3⟩ := seqB I hqw
    have l1 := rv.length
    have l2 := rv2.length
    have l3 := rv3.length
    have hh : X.A.in1.handled = none := I.ok.hd hcm
    have s1 : its.toArray.size = its.length := by simp
    have s2 : its2.toArray.size = its2.length := by simp
    have s3 : its3.toArray.size = its3.length := by simp
    have na : a ≠ n := Nat.ne_of_lt ha
    have nb : b ≠ n + 1 := Nat.ne_of_lt (Nat.lt_succ_of_lt hb)
    have nc : c ≠ n + 2 := Nat.ne_of_lt (Nat.lt_of_lt_of_le hc (Nat.le_add_right _ _))
    refine wpAny_pyNext_zipD3_end (sep3 ha hb hc) (drawsB p hh n a na its.toArray) (drawsB q hh (n + 1) b nb its2.toArray) (drawsB r hh (n + 2) c nc its3.toArray) hz hTI hTO ⟨h1, p1⟩ ⟨h2, p2⟩ ⟨h3, p3⟩ (by rw [s1]; omega) (by rw [s2]; omega) (by rw [s3]; omega) (by rw [s1, s2, s3]; omega) fun h' tk hk => ⟨rfl, I.turnedL (t' := tk) (ch := [n + 5, n + 3, n + 4, n, n + 1, n + 2]) (fun c o hb q =>
      hk c o (fun q' => hb (by simp [q'])) (fun q' => hb (by simp [q'])) (fun q' => hb (by simp [q'])) (fun q' => hb (by simp [q'])) (fun q' => hb (by simp [q'])) q) hf⟩
  self := fun A i s Q E st h => wpAny_pyIter_zip st.1 h
def iZip3 (K : PySem.W.Frag) (ta : TA) : TI := fun σ H R => ta σ H fun vs H1 => ∃ p q r a b c xs ys ws, vs = [.ref a, .ref b, .ref c] ∧ SqB p K H1 a xs ∧ SqB q K H1 b ys ∧ SqB r K H1 c ws ∧ R (Itz3 p q r K a b c) H1
theorem pi_zip3 {X : Cx} {e e2 e3 : Expr} {ta : TA} {p pos tpos : Pos} {elts : List Expr} {kk : Nat} (hg : Gl X "zip") (hm : X.mg "zip" = none) (ha : PA X [e, e2, e3] ta)
    (hs : starEach [e, e2, e3] X.env = (false, eval e X.env) :: starEach [e2, e3] X.env := by rfl) (hpl : (backTo pos (starEach [e2, e3] X.env)).any (·.1) = false := by rfl) :
    PI X (.Tuple elts kk tpos) (.Call (.Name "zip" p) [e, e2, e3] [] pos) (iZip3 X.K ta) := by
  refine ⟨fun pins s σ H R I h => ?_⟩
  refine Call_ (ld_blt I hg hm PyProof.Rows.boot_zip (PyProof.Rows.callWith_type1 (thn (ha.run pos pins s σ H _ I h) fun us s1 ⟨vs, H1, I1, r1, q1⟩ => ?_) hs hpl))
  obtain ⟨p, q, r, a, b, c, xs, ys, ws, ex, hqx, hqy, hqw, g⟩ := q1
  subst ex
  cases r1 with
  | cons r1 rr =>
    cases rr with
    | cons r2 rr =>
      cases rr with
      | cons r3 rr =>
        cases rr
        cases r1
        cases r2
        cases r3
        have fresh : ∀ d, d ∈ [s1.heap.objs.size + 5, s1.heap.objs.size + 3, s1.heap.objs.size + 4, s1.heap.objs.size, s1.heap.objs.size + 1, s1.heap.objs.size + 2] → FpOk X pins H1 d := fun d hcm => by
          have e' : d = s1.heap.objs.size + 5 ∨ d = s1.heap.objs.size + 3 ∨ d = s1.heap.objs.size + 4 ∨ d = s1.heap.objs.size ∨ d = s1.heap.objs.size + 1 ∨ d = s1.heap.objs.size + 2 := by simpa using hcm
          have hle : s1.heap.objs.size ≤ d := by
            rcases e' with z | z | z | z | z | z
            · rw [z]; exact Nat.le_add_right _ _
            · rw [z]; exact Nat.le_add_right _ _
            · rw [z]; exact Nat.le_add_right _ _
            · rw [z]; exact Nat.le_refl _
            · rw [z]; exact Nat.le_add_right _ _
            · rw [z]; exact Nat.le_add_right _ _
          exact I1.fpOk hle (I1.hok.fresh hle)
        obtain ⟨its, rv, p1⟩ := seqB I1 hqx
        obtain ⟨its2, rv2, p2⟩ := seqB I1 hqy
        obtain ⟨its3, rv3, p3⟩ := seqB I1 hqw
        refine zip_begins3 (beginsB p a its.toArray) (beginsB q b its2.toArray) (beginsB r c its3.toArray) p1 p2 p3 fun h' hz hTI hTO h1 h2 h3 hsz hk => wpAny_pyIter_zip hz ?_
        have I2 : Inv X pins σ H1 { s1 with heap := h' } := I1.kept (t' := s1.toks) hk
        exact ⟨s1.heap.objs.size + 5, [s1.heap.objs.size + 5, s1.heap.objs.size + 3, s1.heap.objs.size + 4, s1.heap.objs.size, s1.heap.objs.size + 1, s1.heap.objs.size + 2], _, _, H1, rfl, I2, turn_zip3 p q r p1.lt p2.lt p3.lt, ⟨hz, hTI, ⟨_, _, _, hTO⟩, itB_of h1, itB_of h2, itB_of h3⟩, fresh, g⟩
/-- a loop over zip of three rows alike in length -/
theorem for_zip3 {p q r : Bool} {K : PySem.W.Frag} {a b c : Addr} {xs ys ws : List V} {g : TG} {tb : TS} {D : Ends} {σ : L2.St} {H : Hp} (hl : xs.length = ys.length) (hl2 : xs.length = ws.length) (Pv : Nat → L2.St → Hp → Prop) (h0 : Pv 0 σ H) (hq : ∀ i σ H, Pv i σ H → SqB p K H a xs ∧ SqB q K H b ys ∧ SqB r K H c ws)
    (hs : ∀ (i : Nat) (x y w : V) (T : Addr) (σ : L2.St) (H : Hp), xs[i]? = some x → ys[i]? = some y → ws[i]? = some w → Pv i σ H → H T = none → g (.ref T) σ (upd H T (.tup [x, y, w])) fun σ2 H2 => tb { D with nx := Pv (i + 1), ct := Pv (i + 1), bk := D.nx } σ2 H2) (hd : ∀ σ H, Pv xs.length σ H → D.nx σ H) :
    ∃ W : Nat → Nat → L2.St → Hp → Prop, (∃ m, W 0 m σ H) ∧ ∀ i m σ H, W i m σ H →
      ((Itz3 p q r K a b c).stop i H ∧ D.nx σ H) ∨ ((Itz3 p q r K a b c).go i H ∧ ∃ N : L2.St → Hp → Prop, (∀ σ' H', N σ' H' → ∃ m', m' < m ∧ W (i + 1) m' σ' H') ∧ ∀ v H', (Itz3 p q r K a b c).yld i H v H' → g v σ H' fun σ2 H2 => tb { D with nx := N, ct := N, bk := D.nx } σ2 H2) := by
  refine ⟨fun i m σ H => m = xs.length - i ∧ i ≤ xs.length ∧ Pv i σ H, ⟨xs.length, rfl, Nat.zero_le _, h0⟩, ?_⟩
  rintro i m σ H ⟨rfl, hi, pv⟩
  obtain ⟨qx, qy, qw⟩ := hq i σ H pv
  by_cases hlt : i < xs.length
  · have hx : xs[i]? = some xs[i] := List.getElem?_eq_getElem hlt
    have hy : ys[i]? = some (ys[i]'(by omega)) := List.getElem?_eq_getElem (by omega)
    have hw : ws[i]? = some (ws[i]'(by omega)) := List.getElem?_eq_getElem (by omega)
    refine .inr ⟨⟨xs, ys, ws, _, _, _, qx, qy, qw, hx, hy, hw⟩, Pv (i + 1), fun σ' H' p' => ⟨xs.length - (i + 1), by omega, rfl, hlt, p'⟩, fun v H' y => ?_⟩
    obtain ⟨T, x', y', w', rfl, hT, rfl, f1, f2, f3⟩ := y
    exact hs i x' y' w' T σ H (f1 xs qx) (f2 ys qy) (f3 ws qw) pv hT
  · have e : i = xs.length := by omega
    subst e
    exact .inl ⟨⟨xs, ys, ws, qx, qy, qw, Nat.le_refl _, by omega, by omega, .inl rfl⟩, hd σ H pv⟩
end Vf

set_option maxRecDepth 100000
set_option maxHeartbeats 4000000
/-! a tuple once or more often -/
namespace Vf
open PySem PySem.Spec PyProof.Rows L2
theorem tuple_mul1 (l : Addr) (items : Array Value) (n : Nat) (sl : Array (Option Value)) (dd : Option Addr) (u : Tok) :
    Meets (Builtin.«tuple.__mul__» ⟨[.ref l, .int 1 u], []⟩) (fun _ R s => s.heap.get? l = some { cls := .type "tuple", dict := dd, data := .seq items n, slots := sl } ∧
      R (.ok (.ret (Value.ref l))) s) :=
  .of_wp fun prog w A R s h => by
    obtain ⟨hp, g, d, tk, os⟩ := s
    obtain ⟨hl, h⟩ := h
    have f1 := AutoSeq1.idx_int
    have c1 : (items.isEmpty || (1 : Int) == 1) = true := by
      rw [beq_self_eq_true, Bool.or_true]
    wp_walk using wpAny_loadPart' hl
    repeat (first
      | (refine wpAny_ite_true (decide_eq_true (by rw [c1])) ?_; wp_walk using wpAny_loadPart' hl))
    exact ⟨_, rfl, h⟩
/-- t * k, k from 1 on -/
def rRepA (K : PySem.W.Frag) : R2 := fun x y H Q => ∃ l k xs, x = .ref l ∧ y = .int k ∧ SqT K H l xs ∧ xs ≠ [] ∧ 1 ≤ k ∧ k ≤ 1000 ∧ xs.length ≤ 1000 ∧ ∀ p H', Same H H' → SqT K H' p (List.replicate k.toNat xs).flatten → Q (.ref p) H'
section
variable {X : Cx}
theorem op_repA : OpR X (binaryOp .Mult) (rRepA X.K) := by
  intro pins s σ H x y v u Q I rx ry h
  obtain ⟨l, k, xs, rfl, rfl, hT, hne, h1, h2, hz, q⟩ := h
  by_cases hk : k = 1
  · subst hk
    cases rx
    obtain ⟨t, rfl⟩ := ry
    obtain ⟨its, r, ⟨⟨cls, dd, data, sl⟩, ho, hc, n, hd⟩, hs⟩ := I.tuple hT
    simp only at hc hd
    subst hc hd
    refine wpAny_binaryOp_repeat_ref (T := "tuple") (U := "int") (by decide) ⟨_, ho, rfl⟩ (fun s' => typeIs_int s' 1 t) noFill_tuple_mul F.fills_int_mul F.slot_int_rmul repeat_tuple F.slot_int_index.lookup
      (call_meets F.slot_int_rmul (typeIs_int s 1 t) F.entry_int_rmul (F.args_int_rmul_2 _ _) (int_rmul_tuple 1 t l its.toArray n dd sl)
        ⟨ho, rfl, ⟨_, ho, rfl⟩, call_meets F.slot_tuple_mul ⟨_, ho, rfl⟩ F.entry_tuple_mul (F.args_tuple_mul_2 _ _) (tuple_mul1 l its.toArray n sl dd t) ⟨ho, ?_⟩⟩)
    exact ⟨.ref l, H, I, rfl, q l H (Same.refl _) (by simpa using hT)⟩
  · exact op_repT pins s σ H _ _ v u Q I rx ry ⟨l, k, xs, rfl, rfl, hT, hne, by omega, h2, hz, fun p np => q p _ (fun b u e => by rw [upd_ne (ne_of_none e np)]; exact e) (.inl (.inl upd_same))⟩
end
end Vf

set_option maxRecDepth 100000
set_option maxHeartbeats 4000000
/-! a text of one sign, some times -/
namespace Vf
open PySem PySem.Spec PyProof.Rows L2
def rRepS : R2 := fun x y H Q => ∃ s n, x = .str s ∧ y = .int n ∧ s.length = 1 ∧ 1 ≤ n ∧ n ≤ 1000 ∧ ∀ z, Q (.str z) H
theorem foldl_size {α : Type} (c : Array α) : ∀ (m : Nat) (acc : Array α), (List.foldl (fun x1 x2 => x1 ++ x2) acc (List.replicate m c)).size = acc.size + m * c.size
  | 0, acc => by simp
  | m + 1, acc => by
    rw [List.replicate_succ, List.foldl_cons, foldl_size c m, Array.size_append, Nat.succ_mul]
    omega
theorem op_repS {X : Cx} : OpR X (binaryOp .Mult) rRepS := by
  intro pins s σ H x y v u Q I rx ry h
  obtain ⟨z, n, rfl, rfl, hl, n1, n2, q⟩ := h
  obtain ⟨t, rfl⟩ := rx
  obtain ⟨t2, rfl⟩ := ry
  refine PySem.P.mul_str ?_ (fun _ _ => ?_) (fun _ _ => ?_) ?_
  · rw [decide_eq_false (by omega), decide_eq_false (by omega)]
    rfl
  · rw [hl]
    have : 1 ≤ (2 ^ 63 - 1) / n := Int.le_ediv_of_mul_le (by omega) (by omega)
    omega
  · rw [hl]
    show decide (1 * n.toNat > sizeLine) = false
    rw [sizeLine_eq]
    exact decide_eq_false (by omega)
  · rw [if_neg (by omega)]
    by_cases h1 : (n == 1 || z.length == 0) = true
    · rw [if_pos h1]
      exact ⟨.str z, H, I, ⟨_, rfl⟩, q z⟩
    · rw [if_neg h1]
      refine ⟨?_, .str _, H, I.tok _, ⟨_, rfl⟩, q _⟩
      show (List.foldl (fun x1 x2 => x1 ++ x2) #[] (List.replicate n.toNat z.cps)).size ≤ sizeLine
      rw [foldl_size]
      have hl : z.cps.size = 1 := hl
      rw [hl, sizeLine_eq, Array.size_empty]
      omega
end Vf

set_option maxRecDepth 100000
set_option maxHeartbeats 4000000
/-! texts as rows of code points -/
namespace Vf
open PySem PySem.Spec PyProof.Rows L2
/-- the text of these code points -/
def Tx (l : List Nat) : Str := ⟨l.toArray⟩
theorem tx_cps (l : List Nat) : (Tx l).cps.toList = l := rfl
theorem tx_len (l : List Nat) : (Tx l).length = l.length := by
  show l.toArray.size = l.length
  simp
theorem tx_of (z : Str) : ∃ l, z = Tx l := ⟨z.cps.toList, by cases z; rfl⟩
theorem tx_inj {a b : List Nat} (h : Tx a = Tx b) : a = b := by
  have := congrArg (fun z : Str => z.cps.toList) h
  simpa [tx_cps] using this
theorem tx_at (l : List Nat) (i : Nat) : (Tx l).cps[i]? = l[i]? := by
  show l.toArray[i]? = l[i]?
  simp
theorem sIx_nat (n d a : Nat) : HT.sIx n d (some (a : Int)) = min a n := by
  show (if (a : Int) < 0 then ((a : Int) + (n : Int)).toNat else min (a : Int).toNat n) = _
  rw [if_neg (by omega)]
  rfl
theorem tx_cut (l : List Nat) {a b : Int} {m n : Nat} (ha : a = (m : Int)) (hb : b = (n : Int)) : cutS (Tx l) (some a) (some b) = Tx ((l.drop m).take (n - m)) := by
  subst ha hb
  show Str.mk ((((Tx l).cps.toList.drop (HT.sIx (Tx l).length 0 (some (m : Int)))).take (HT.sIx (Tx l).length (Tx l).length (some (n : Int)) - HT.sIx (Tx l).length 0 (some (m : Int)))).toArray) = Str.mk _
  rw [sIx_nat, sIx_nat, tx_cps, tx_len]
  congr 2
  by_cases hm : m ≤ l.length
  · rw [Nat.min_eq_left hm]
    by_cases hn : n ≤ l.length
    · rw [Nat.min_eq_left hn]
    · rw [Nat.min_eq_right (by omega), List.take_of_length_le (by rw [List.length_drop]; omega), List.take_of_length_le (by rw [List.length_drop]; omega)]
  · rw [Nat.min_eq_right (by omega : l.length ≤ m), List.drop_eq_nil_of_le (Nat.le_refl _), List.drop_eq_nil_of_le (by omega)]
    simp
theorem take_one (l : List Nat) : l.take 1 = l[0]?.toList := by cases l <;> rfl
theorem tx_sign (l : List Nat) {a b : Int} {m : Nat} (ha : a = (m : Int)) (hb : b = a + 1) : cutS (Tx l) (some a) (some b) = Tx (l[m]?.toList) := by
  rw [tx_cut l (n := m + 1) ha (by omega), show m + 1 - m = 1 by omega, take_one, List.getElem?_drop]
  rfl
/-- one sign compared with a written one -/
theorem sign_eq (o : Option Nat) (c : Nat) : decide (V.str (Tx o.toList) = V.str (Tx [c])) = decide (o = some c) := by
  cases o with
  | none =>
    rw [decide_eq_false (fun z => by have := tx_inj (V.str.inj z); cases this), decide_eq_false (fun z => nomatch z)]
  | some d =>
    by_cases h : d = c
    · subst h
      simp
    · rw [decide_eq_false (fun z => h (by have := tx_inj (V.str.inj z); simpa using this)), decide_eq_false (fun z => h (Option.some.inj z))]
theorem tx_eq (a b : List Nat) : decide (V.str (Tx a) = V.str (Tx b)) = decide (a = b) := by
  by_cases h : a = b
  · subst h; simp
  · rw [decide_eq_false (fun z => h (tx_inj (V.str.inj z))), decide_eq_false h]
def isD (c : Nat) : Bool := decide (48 ≤ c ∧ c ≤ 57)
theorem in_digits (c : Nat) : decide (c ∈ [48, 49, 50, 51, 52, 53, 54, 55, 56, 57]) = isD c := by
  unfold isD
  refine decide_eq_decide.mpr ?_
  simp only [List.mem_cons, List.not_mem_nil, or_false]
  omega
theorem lit_digits : ("0123456789" : Str) = Tx [48, 49, 50, 51, 52, 53, 54, 55, 56, 57] := by decide +kernel
theorem lit_sp : (" " : Str) = Tx [32] := by decide +kernel
theorem lit_x : ("x" : Str) = Tx [120] := by decide +kernel
theorem lit_hat : ("^" : Str) = Tx [94] := by decide +kernel
theorem lit_star : ("*" : Str) = Tx [42] := by decide +kernel
theorem lit_slash : ("/" : Str) = Tx [47] := by decide +kernel
theorem lit_plus : ("+" : Str) = Tx [43] := by decide +kernel
theorem lit_minus : ("-" : Str) = Tx [45] := by decide +kernel
theorem lit_zero : ("0" : Str) = Tx [48] := by decide +kernel
theorem lit_one : ("1" : Str) = Tx [49] := by decide +kernel
theorem lit_10 : ("10" : Str) = Tx [49, 48] := by decide +kernel
theorem lit_11 : ("11" : Str) = Tx [49, 49] := by decide +kernel
theorem lit_12 : ("12" : Str) = Tx [49, 50] := by decide +kernel
theorem lit_empty : ("" : Str) = Tx [] := by decide +kernel
/-- the worth of figures -/
theorem int_tx {l : List Nat} (h : ∀ c ∈ l, isD c = true) (h1 : l ≠ []) (h2 : l.length ≤ 640) : PySem.intText? (Tx l) = some ((PySem.NumText.digitsVal l : Nat) : Int) :=
  PySem.intText_digits (x := Tx l) (fun c hc => of_decide_eq_true (h c hc)) h1 (by rw [tx_len]; omega)
theorem dv_go : ∀ (l : List Nat) (a : Nat), (∀ c ∈ l, isD c = true) → l.foldl (fun acc c => acc * 10 + (c - 48)) a < (a + 1) * 10 ^ l.length
  | [], a, _ => by simp
  | c :: l, a, h => by
    have hc : 48 ≤ c ∧ c ≤ 57 := of_decide_eq_true (h c (List.mem_cons_self ..))
    have := dv_go l (a * 10 + (c - 48)) (fun d hd => h d (List.mem_cons_of_mem _ hd))
    rw [List.foldl_cons, List.length_cons, Nat.pow_succ]
    refine Nat.lt_of_lt_of_le this ?_
    rw [Nat.mul_comm (10 ^ l.length) 10, ← Nat.mul_assoc]
    exact Nat.mul_le_mul_right _ (by omega)
theorem dv_lt {l : List Nat} (h : ∀ c ∈ l, isD c = true) : PySem.NumText.digitsVal l < 10 ^ l.length := by
  have := dv_go l 0 h
  simpa [PySem.NumText.digitsVal] using this
theorem dv_ge : ∀ (l : List Nat) (a : Nat), a ≤ l.foldl (fun acc c => acc * 10 + (c - 48)) a
  | [], a => Nat.le_refl _
  | c :: l, a => by
    rw [List.foldl_cons]
    exact Nat.le_trans (by omega) (dv_ge l _)
/-- figures behind one that is not 0 are not 0 -/
theorem dv_pos {c : Nat} {l : List Nat} (h : isD c = true) (h0 : c ≠ 48) : 0 < PySem.NumText.digitsVal (c :: l) := by
  have hc : 48 ≤ c ∧ c ≤ 57 := of_decide_eq_true h
  unfold PySem.NumText.digitsVal
  rw [List.foldl_cons]
  exact Nat.lt_of_lt_of_le (by omega) (dv_ge l _)
end Vf

set_option maxRecDepth 100000
set_option maxHeartbeats 4000000
/-! a reader of polynomials, sign by sign -/
namespace Vf
inductive Md where
  | bg | mi | st | gp | en | sl | xx | ht
  | tp (s : List Nat) | un (s : List Nat) | pw (s : List Nat)
  deriving DecidableEq
def isPm (c : Nat) : Bool := decide (c = 43 ∨ c = 45)
def nxN (f : List Nat → Md) (s : List Nat) (c : Nat) : Option Md := if s ≠ [48] ∧ s.length < 40 then some (f (s ++ [c])) else none
def nx (m : Md) (c : Nat) : Option Md :=
  if c = 32 then
    match m with
    | .bg => some .bg | .mi => some .mi | .st => some .st | .gp => some .gp | .en => some .en
    | .tp _ => some .gp | .un _ => some .gp
    | .xx => some .en | .pw _ => some .en
    | .sl => none | .ht => none
  else match m with
    | .bg => if c = 45 then some .mi else if c = 120 then some .xx else if isD c then some (.tp [c]) else none
    | .mi => if c = 120 then some .xx else if isD c then some (.tp [c]) else none
    | .st => if c = 120 then some .xx else none
    | .tp s => if isD c then nxN .tp s c else if c = 47 then some .sl else if c = 42 then some .st else if isPm c then some .mi else none
    | .un s => if isD c then nxN .un s c else if c = 42 then some .st else if isPm c then some .mi else none
    | .sl => if isD c = true ∧ c ≠ 48 then some (.un [c]) else none
    | .xx => if c = 94 then some .ht else if isPm c then some .mi else none
    | .ht => if isD c then some (.pw [c]) else none
    | .pw s => if s = [49] ∧ 48 ≤ c ∧ c ≤ 50 then some (.pw (s ++ [c])) else if isPm c then some .mi else none
    | .gp => if c = 42 then some .st else if isPm c then some .mi else none
    | .en => if isPm c then some .mi else none
def acc : Md → Bool
  | .tp _ | .un _ | .gp | .xx | .pw _ | .en => true
  | _ => false
def col (m : Md) : List Nat → Nat → Nat
  | [], at_ => if acc m then 0 else at_ + 1
  | c :: cs, at_ => match nx m c with
    | none => at_ + 1
    | some m' => col m' cs (at_ + 1)
def Cl (t : List Nat) (m : Md) (at_ : Nat) : Nat := col m (t.drop at_) at_
section
variable {t : List Nat} {m m' : Md} {e c : Nat}
theorem drop_some (h : t[e]? = some c) : t.drop e = c :: t.drop (e + 1) := by
  obtain ⟨h1, rfl⟩ := List.getElem?_eq_some_iff.mp h
  exact List.drop_eq_getElem_cons h1
theorem drop_none (h : t[e]? = none) : t.drop e = [] := List.drop_eq_nil_of_le (List.getElem?_eq_none_iff.mp h)
theorem cl_step (h : t[e]? = some c) (n : nx m c = some m') : Cl t m e = Cl t m' (e + 1) := by
  unfold Cl
  rw [drop_some h]
  show (match nx m c with | none => e + 1 | some m' => col m' (t.drop (e + 1)) (e + 1)) = _
  rw [n]
theorem cl_fail (h : t[e]? = some c) (n : nx m c = none) : Cl t m e = e + 1 := by
  unfold Cl
  rw [drop_some h]
  show (match nx m c with | none => e + 1 | some m' => col m' (t.drop (e + 1)) (e + 1)) = _
  rw [n]
theorem cl_end (h : t[e]? = none) : Cl t m e = if acc m then 0 else e + 1 := by
  unfold Cl
  rw [drop_none h]
  rfl
def spc : List Nat → Nat
  | [] => 0
  | c :: cs => if c = 32 then spc cs + 1 else 0
/-- behind the spaces -/
def beh (t : List Nat) (e : Nat) : Nat := e + spc (t.drop e)
theorem beh_sp (h : t[e]? = some 32) : beh t e = beh t (e + 1) := by
  unfold beh
  rw [drop_some h]
  show e + (if (32 : Nat) = 32 then spc (t.drop (e + 1)) + 1 else 0) = _
  rw [if_pos rfl]
  omega
theorem beh_no (h : t[e]? ≠ some 32) : beh t e = e := by
  unfold beh
  cases h2 : t[e]? with
  | none => rw [drop_none h2]; rfl
  | some c =>
    rw [drop_some h2]
    show e + (if c = 32 then _ else 0) = _
    rw [if_neg (fun z => h (by rw [h2, z]))]
    rfl
theorem beh_ne (t : List Nat) (e : Nat) : t[beh t e]? ≠ some 32 := by
  have go : ∀ (n e : Nat), t.length - e ≤ n → t[beh t e]? ≠ some 32 := by
    intro n
    induction n with
    | zero =>
      intro e he z
      have h : t[e]? = none := List.getElem?_eq_none (by omega)
      rw [beh_no (by rw [h]; intro z; cases z), h] at z
      cases z
    | succ n ih =>
      intro e he
      by_cases h : t[e]? = some 32
      · rw [beh_sp h]
        have := (List.getElem?_eq_some_iff.mp h).1
        exact ih (e + 1) (by omega)
      · rw [beh_no h]
        exact h
  exact go _ e (Nat.le_refl _)
theorem beh_le (t : List Nat) (e : Nat) : e ≤ beh t e := Nat.le_add_right _ _
theorem beh_len (h : e ≤ t.length) : beh t e ≤ t.length := by
  have go : ∀ l : List Nat, spc l ≤ l.length := by
    intro l
    induction l with
    | nil => exact Nat.le_refl _
    | cons c cs ih =>
      show (if c = 32 then spc cs + 1 else 0) ≤ cs.length + 1
      split <;> omega
  unfold beh
  have := go (t.drop e)
  rw [List.length_drop] at this
  omega
/-- spaces leave a mode as it is -/
theorem cl_beh (hm : nx m 32 = some m) (e : Nat) : Cl t m e = Cl t m (beh t e) := by
  have go : ∀ (n e : Nat), t.length - e ≤ n → Cl t m e = Cl t m (beh t e) := by
    intro n
    induction n with
    | zero =>
      intro e he
      have h : t[e]? = none := List.getElem?_eq_none (by omega)
      rw [beh_no (by rw [h]; intro z; cases z)]
    | succ n ih =>
      intro e he
      by_cases h : t[e]? = some 32
      · rw [beh_sp h, cl_step h hm]
        have := (List.getElem?_eq_some_iff.mp h).1
        exact ih (e + 1) (by omega)
      · rw [beh_no h]
  exact go _ e (Nat.le_refl _)
/-- what is due where a term has ended and no space stands -/
def fin (t : List Nat) (e : Nat) : Nat := match t[e]? with
  | none => 0
  | some c => if isPm c then Cl t .mi (e + 1) else e + 1
def aft (t : List Nat) (e : Nat) : Nat := fin t (beh t e)
/-- what is due behind a number -/
def num (t : List Nat) (e : Nat) : Nat := if t[beh t e]? = some 42 then Cl t .st (beh t e + 1) else aft t e
theorem cl_en (h : t[e]? ≠ some 32) : Cl t .en e = fin t e := by
  unfold fin
  cases h2 : t[e]? with
  | none => rw [cl_end h2]; rfl
  | some c =>
    have hc : c ≠ 32 := fun z => h (by rw [h2, z])
    have n : nx .en c = if isPm c then some .mi else none := by unfold nx; rw [if_neg hc]
    show _ = if isPm c then _ else _
    cases hp : isPm c with
    | true => rw [cl_step h2 (by rw [n, hp]; rfl)]; rfl
    | false => rw [cl_fail h2 (by rw [n, hp]; rfl)]; rfl
theorem cl_gp (h : t[e]? ≠ some 32) : Cl t .gp e = if t[e]? = some 42 then Cl t .st (e + 1) else fin t e := by
  unfold fin
  cases h2 : t[e]? with
  | none => rw [cl_end h2]; rfl
  | some c =>
    have hc : c ≠ 32 := fun z => h (by rw [h2, z])
    have n : nx .gp c = if c = 42 then some .st else if isPm c then some .mi else none := by unfold nx; rw [if_neg hc]
    by_cases h3 : c = 42
    · subst h3
      rw [if_pos rfl, cl_step h2 (by rw [n]; rfl)]
    · rw [if_neg (fun z => h3 (Option.some.inj z))]
      rw [if_neg h3] at n
      show _ = if isPm c then _ else _
      cases hp : isPm c with
      | true => rw [cl_step h2 (by rw [n, hp]; rfl)]; rfl
      | false => rw [cl_fail h2 (by rw [n, hp]; rfl)]; rfl
/-- behind x or a power -/
theorem aft_of (hm : nx m 32 = some .en) (ha : acc m = true) (hn : ∀ c, t[e]? = some c → c ≠ 32 → nx m c = if isPm c then some .mi else none) : Cl t m e = aft t e := by
  unfold aft
  by_cases h : t[e]? = some 32
  · rw [cl_step h hm, cl_beh (m := .en) rfl, ← beh_sp h]
    exact cl_en (beh_ne t e)
  · rw [beh_no h]
    unfold fin
    cases h2 : t[e]? with
    | none => rw [cl_end h2, ha]; rfl
    | some c =>
      have hc : c ≠ 32 := fun z => h (by rw [h2, z])
      have n := hn c h2 hc
      show _ = if isPm c then _ else _
      cases hp : isPm c with
      | true => rw [cl_step h2 (by rw [n, hp]; rfl)]; rfl
      | false => rw [cl_fail h2 (by rw [n, hp]; rfl)]; rfl
/-- behind a number's figures -/
theorem num_of (hm : nx m 32 = some .gp) (ha : acc m = true) (hn : ∀ c, t[e]? = some c → c ≠ 32 → nx m c = if c = 42 then some .st else if isPm c then some .mi else none) : Cl t m e = num t e := by
  unfold num aft
  by_cases h : t[e]? = some 32
  · rw [cl_step h hm, cl_beh (m := .gp) rfl, ← beh_sp h]
    exact cl_gp (beh_ne t e)
  · rw [beh_no h]
    unfold fin
    cases h2 : t[e]? with
    | none => rw [cl_end h2, ha]; rfl
    | some c =>
      have hc : c ≠ 32 := fun z => h (by rw [h2, z])
      have n := hn c h2 hc
      by_cases h3 : c = 42
      · subst h3
        rw [if_pos rfl, cl_step h2 (by rw [n]; rfl)]
      · rw [if_neg (fun z => h3 (Option.some.inj z))]
        rw [if_neg h3] at n
        show _ = if isPm c then _ else _
        cases hp : isPm c with
        | true => rw [cl_step h2 (by rw [n, hp]; rfl)]; rfl
        | false => rw [cl_fail h2 (by rw [n, hp]; rfl)]; rfl
/-! ### figures -/
def seg (t : List Nat) (a j : Nat) : List Nat := (t.drop a).take j
/-- j figures from a on, as many as are read -/
structure Wh (t : List Nat) (a j : Nat) : Prop where
  j1 : 1 ≤ j
  j40 : j ≤ 40
  dg : ∀ i, i < j → ∃ c, t[a + i]? = some c ∧ isD c = true
  z : t[a]? = some 48 → j = 1
  stop : t[a]? = some 48 ∨ j = 40 ∨ ∀ c, t[a + j]? = some c → isD c = false
theorem seg_at (a j i : Nat) (h : i < j) : (seg t a j)[i]? = t[a + i]? := by
  unfold seg
  rw [List.getElem?_take, if_pos h, List.getElem?_drop]
theorem seg_len {a j : Nat} (h : ∀ i, i < j → ∃ c, t[a + i]? = some c ∧ isD c = true) : (seg t a j).length = j := by
  unfold seg
  rw [List.length_take, List.length_drop]
  cases j with
  | zero => omega
  | succ j =>
    obtain ⟨c, h1, _⟩ := h j (by omega)
    have := (List.getElem?_eq_some_iff.mp h1).1
    omega
theorem seg_dig {a j : Nat} (h : ∀ i, i < j → ∃ c, t[a + i]? = some c ∧ isD c = true) : ∀ c ∈ seg t a j, isD c = true := by
  intro c hc
  obtain ⟨i, hi⟩ := List.getElem?_of_mem hc
  have hl : i < j := by
    have := (List.getElem?_eq_some_iff.mp hi).1
    rw [seg_len h] at this
    exact this
  obtain ⟨d, h1, h2⟩ := h i hl
  rw [seg_at a j i hl, h1] at hi
  cases hi
  exact h2
theorem seg_succ {a j c : Nat} (h : t[a + j]? = some c) : seg t a (j + 1) = seg t a j ++ [c] := by
  unfold seg
  rw [List.take_succ, List.getElem?_drop, h]
  rfl
theorem seg_one {a c : Nat} (h : t[a]? = some c) : seg t a 1 = [c] := by
  have := seg_succ (t := t) (a := a) (j := 0) h
  simpa [seg] using this
theorem seg_head {a j c : Nat} (h : t[a]? = some c) (hj : 1 ≤ j) : ∃ l, seg t a j = c :: l := by
  unfold seg
  rw [drop_some h]
  cases j with
  | zero => omega
  | succ j => exact ⟨_, rfl⟩
/-- a mode reads figure by figure -/
theorem run_of {f : List Nat → Md} (hf : ∀ s c, isD c = true → nx (f s) c = nxN f s c) {a j : Nat} (W : Wh t a j) : ∀ k, 1 ≤ k → k ≤ j → Cl t (f (seg t a 1)) (a + 1) = Cl t (f (seg t a k)) (a + k) := by
  intro k
  induction k with
  | zero => intro h; omega
  | succ k ih =>
    intro h1 h2
    by_cases hk : k = 0
    · subst hk
      rfl
    · rw [ih (by omega) (by omega)]
      obtain ⟨c, h3, h4⟩ := W.dg k (by omega)
      obtain ⟨c0, g3, g4⟩ := W.dg 0 (by have := W.j1; omega)
      have l := seg_len (t := t) (a := a) (j := k) fun i hi => W.dg i (by omega)
      have nz : seg t a k ≠ [48] := fun z => by
        obtain ⟨r, e⟩ := seg_head (t := t) (a := a) (j := k) (c := c0) g3 (by omega)
        rw [e] at z
        have : c0 = 48 := (List.cons.inj z).1
        subst this
        have := W.z g3
        omega
      rw [cl_step h3 (m' := f (seg t a k ++ [c])) (by rw [hf _ _ h4]; unfold nxN; rw [if_pos ⟨nz, by have := W.j40; omega⟩]), seg_succ h3]
      rfl
theorem run_stop {f : List Nat → Md} (hf : ∀ s c, isD c = true → nx (f s) c = nxN f s c) {a j c : Nat} (W : Wh t a j) (h : t[a + j]? = some c) (hd : isD c = true) : nx (f (seg t a j)) c = none := by
  rw [hf _ _ hd]
  unfold nxN
  refine if_neg fun z => ?_
  rcases W.stop with h1 | h1 | h1
  · have := W.z h1
    subst this
    exact z.1 (seg_one h1)
  · have := seg_len W.dg
    omega
  · rw [h1 c h] at hd
    cases hd
theorem tp_dig (s : List Nat) (c : Nat) (h : isD c = true) : nx (.tp s) c = nxN .tp s c := by
  have hc : 48 ≤ c ∧ c ≤ 57 := of_decide_eq_true h
  unfold nx
  rw [if_neg (by omega)]
  show (if isD c then nxN .tp s c else _) = _
  rw [if_pos h]
theorem un_dig (s : List Nat) (c : Nat) (h : isD c = true) : nx (.un s) c = nxN .un s c := by
  have hc : 48 ≤ c ∧ c ≤ 57 := of_decide_eq_true h
  unfold nx
  rw [if_neg (by omega)]
  show (if isD c then nxN .un s c else _) = _
  rw [if_pos h]
/-- a whole number and no / behind it -/
theorem num_tp {a j : Nat} (W : Wh t a j) (h : t[a + j]? ≠ some 47) : Cl t .mi a = num t (a + j) := by
  obtain ⟨c, h1, h2⟩ := W.dg 0 (by have := W.j1; omega)
  have hc : 48 ≤ c ∧ c ≤ 57 := of_decide_eq_true h2
  have n : nx .mi c = some (.tp [c]) := by
    unfold nx
    rw [if_neg (by omega)]
    show (if c = 120 then _ else if isD c then _ else _) = _
    rw [if_neg (by omega), if_pos h2]
  rw [cl_step (e := a) h1 n, ← seg_one (t := t) (a := a) h1, run_of tp_dig W j W.j1 (Nat.le_refl _)]
  refine num_of rfl rfl fun d hd ds => ?_
  cases hdd : isD d with
  | true =>
    have hd9 : 48 ≤ d ∧ d ≤ 57 := of_decide_eq_true hdd
    rw [run_stop tp_dig W hd hdd, if_neg (by omega), show isPm d = false from decide_eq_false (by omega)]
    rfl
  | false =>
    unfold nx
    rw [if_neg ds]
    show (if isD d then _ else if d = 47 then _ else _) = _
    rw [hdd, if_neg (by decide), if_neg (fun z => h (by rw [hd, z]))]
/-- a whole number and / behind it -/
theorem sl_tp {a j : Nat} (W : Wh t a j) (h : t[a + j]? = some 47) : Cl t .mi a = Cl t .sl (a + j + 1) := by
  obtain ⟨c, h1, h2⟩ := W.dg 0 (by have := W.j1; omega)
  have hc : 48 ≤ c ∧ c ≤ 57 := of_decide_eq_true h2
  have n : nx .mi c = some (.tp [c]) := by
    unfold nx
    rw [if_neg (by omega)]
    show (if c = 120 then _ else if isD c then _ else _) = _
    rw [if_neg (by omega), if_pos h2]
  rw [cl_step (e := a) h1 n, ← seg_one (t := t) (a := a) h1, run_of tp_dig W j W.j1 (Nat.le_refl _)]
  exact cl_step h rfl
theorem sl_no (h : ∀ c, t[e]? = some c → isD c = false) : Cl t .sl e = e + 1 := by
  cases h2 : t[e]? with
  | none => rw [cl_end h2]; rfl
  | some c =>
    refine cl_fail h2 ?_
    unfold nx
    split
    · rfl
    · show (if isD c = true ∧ c ≠ 48 then _ else _) = _
      rw [if_neg (fun z => by rw [h c h2] at z; cases z.1)]
theorem sl_zero (h : t[e]? = some 48) : Cl t .sl e = e + 1 := cl_fail h rfl
theorem num_un {a j : Nat} (W : Wh t a j) (h : t[a]? ≠ some 48) : Cl t .sl a = num t (a + j) := by
  obtain ⟨c, h1, h2⟩ := W.dg 0 (by have := W.j1; omega)
  have hc : 48 ≤ c ∧ c ≤ 57 := of_decide_eq_true h2
  have n : nx .sl c = some (.un [c]) := by
    unfold nx
    rw [if_neg (by omega)]
    show (if isD c = true ∧ c ≠ 48 then _ else _) = _
    rw [if_pos ⟨h2, fun z => h (by rw [show t[a]? = some c from h1, z])⟩]
  rw [cl_step (e := a) h1 n, ← seg_one (t := t) (a := a) h1, run_of un_dig W j W.j1 (Nat.le_refl _)]
  refine num_of rfl rfl fun d hd ds => ?_
  cases hdd : isD d with
  | true =>
    have hd9 : 48 ≤ d ∧ d ≤ 57 := of_decide_eq_true hdd
    rw [run_stop un_dig W hd hdd, if_neg (by omega), show isPm d = false from decide_eq_false (by omega)]
    rfl
  | false =>
    unfold nx
    rw [if_neg ds]
    show (if isD d then _ else if d = 42 then _ else _) = _
    rw [hdd, if_neg (by decide)]
theorem mi_no (h : t[e]? ≠ some 32) (hx : t[e]? ≠ some 120) (hd : ∀ c, t[e]? = some c → isD c = false) : Cl t .mi e = e + 1 := by
  cases h2 : t[e]? with
  | none => rw [cl_end h2]; rfl
  | some c =>
    refine cl_fail h2 ?_
    unfold nx
    rw [if_neg (fun z => h (by rw [h2, z]))]
    show (if c = 120 then _ else if isD c then _ else _) = _
    rw [if_neg (fun z => hx (by rw [h2, z])), hd c h2]
    rfl
/-! ### x and powers -/
theorem mi_x (h : t[e]? = some 120) : Cl t .mi e = Cl t .xx (e + 1) := cl_step h rfl
theorem st_x (h : t[e]? = some 120) : Cl t .st e = Cl t .xx (e + 1) := cl_step h rfl
theorem st_no (h : t[e]? ≠ some 32) (hx : t[e]? ≠ some 120) : Cl t .st e = e + 1 := by
  cases h2 : t[e]? with
  | none => rw [cl_end h2]; rfl
  | some c =>
    refine cl_fail h2 ?_
    unfold nx
    rw [if_neg (fun z => h (by rw [h2, z]))]
    show (if c = 120 then _ else _) = _
    rw [if_neg (fun z => hx (by rw [h2, z]))]
theorem xx_no (h : t[e]? ≠ some 94) : Cl t .xx e = aft t e := aft_of rfl rfl fun c hc hs => by
  unfold nx
  rw [if_neg hs]
  show (if c = 94 then _ else _) = _
  rw [if_neg (fun z => h (by rw [hc, z]))]
theorem xx_hat (h : t[e]? = some 94) : Cl t .xx e = Cl t .ht (e + 1) := cl_step h rfl
theorem ht_no (h : ∀ c, t[e]? = some c → isD c = false) : Cl t .ht e = e + 1 := by
  cases h2 : t[e]? with
  | none => rw [cl_end h2]; rfl
  | some c =>
    refine cl_fail h2 ?_
    unfold nx
    split
    · rfl
    · show (if isD c then _ else _) = _
      rw [h c h2]
      rfl
theorem ht_dig (h : t[e]? = some c) (hd : isD c = true) : Cl t .ht e = Cl t (.pw [c]) (e + 1) := by
  have hc : 48 ≤ c ∧ c ≤ 57 := of_decide_eq_true hd
  refine cl_step h ?_
  unfold nx
  rw [if_neg (by omega)]
  show (if isD c then _ else _) = _
  rw [if_pos hd]
theorem pw_two {a b : Nat} : Cl t (.pw [a, b]) e = aft t e := aft_of rfl rfl fun c hc hs => by
  unfold nx
  rw [if_neg hs]
  show (if [a, b] = [49] ∧ _ then _ else _) = _
  rw [if_neg (fun z => by cases z.1)]
theorem pw_one (h : c = 49 → ∀ d, t[e]? = some d → ¬ (48 ≤ d ∧ d ≤ 50)) : Cl t (.pw [c]) e = aft t e := aft_of rfl rfl fun d hd hs => by
  unfold nx
  rw [if_neg hs]
  show (if [c] = [49] ∧ 48 ≤ d ∧ d ≤ 50 then _ else _) = _
  rw [if_neg (fun z => h (List.cons.inj z.1).1 d hd z.2)]
/-- ten, eleven, twelve -/
theorem ht_ten {d : Nat} (h : t[e]? = some 49) (h2 : t[e + 1]? = some d) (hd : 48 ≤ d ∧ d ≤ 50) : Cl t .ht e = aft t (e + 2) := by
  rw [ht_dig h rfl, cl_step h2 (m' := .pw [49, d]) ?_]
  · exact pw_two
  · unfold nx
    rw [if_neg (by omega)]
    show (if [49] = [49] ∧ 48 ≤ d ∧ d ≤ 50 then some (Md.pw ([49] ++ [d])) else _) = _
    rw [if_pos ⟨rfl, hd⟩]
    rfl
/-! ### the begin -/
theorem bg_minus (h : t[e]? = some 45) : Cl t .bg e = Cl t .mi (e + 1) := cl_step h rfl
theorem bg_mi (h : t[e]? ≠ some 32) (h2 : t[e]? ≠ some 45) : Cl t .bg e = Cl t .mi e := by
  cases h3 : t[e]? with
  | none => rw [cl_end h3, cl_end h3]; rfl
  | some c =>
    have hs : c ≠ 32 := fun z => h (by rw [h3, z])
    have hm : c ≠ 45 := fun z => h2 (by rw [h3, z])
    have n : nx .bg c = nx .mi c := by
      show (if c = 32 then some Md.bg else if c = 45 then _ else _) = (if c = 32 then some Md.mi else _)
      rw [if_neg hs, if_neg hm]
      exact (if_neg hs).symm
    cases hn : nx .mi c with
    | none => rw [cl_fail h3 hn, cl_fail h3 (n.trans hn)]
    | some m' => rw [cl_step h3 hn, cl_step h3 (n.trans hn)]
end
end Vf

set_option maxRecDepth 100000
set_option maxHeartbeats 4000000
/-! a text of one sign some times, with its length; texts cut at one end; joined texts -/
namespace Vf
open PySem PySem.Spec PyProof.Rows L2
def rRepN : R2 := fun x y H Q => ∃ s n, x = .str s ∧ y = .int n ∧ s.length = 1 ∧ 1 ≤ n ∧ n ≤ 1000 ∧ ∀ z : Str, z.length = n.toNat → Q (.str z) H
theorem op_repN {X : Cx} : OpR X (binaryOp .Mult) rRepN := by
  intro pins s σ H x y v u Q I rx ry h
  obtain ⟨z, n, rfl, rfl, hl, n1, n2, q⟩ := h
  obtain ⟨t, rfl⟩ := rx
  obtain ⟨t2, rfl⟩ := ry
  refine PySem.P.mul_str ?_ (fun _ _ => ?_) (fun _ _ => ?_) ?_
  · rw [decide_eq_false (by omega), decide_eq_false (by omega)]
    rfl
  · rw [hl]
    have : 1 ≤ (2 ^ 63 - 1) / n := Int.le_ediv_of_mul_le (by omega) (by omega)
    omega
  · rw [hl]
    show decide (1 * n.toNat > sizeLine) = false
    rw [sizeLine_eq]
    exact decide_eq_false (by omega)
  · rw [if_neg (by omega)]
    by_cases h1 : (n == 1 || z.length == 0) = true
    · rw [if_pos h1]
      refine ⟨.str z, H, I, ⟨_, rfl⟩, q z ?_⟩
      rw [Bool.or_eq_true, beq_iff_eq, beq_iff_eq] at h1
      omega
    · rw [if_neg h1]
      have hz : (List.foldl (fun x1 x2 => x1 ++ x2) #[] (List.replicate n.toNat z.cps)).size = n.toNat := by
        rw [foldl_size]
        have hl : z.cps.size = 1 := hl
        rw [hl, Array.size_empty]
        omega
      refine ⟨?_, .str _, H, I.tok _, ⟨_, rfl⟩, q _ hz⟩
      show (List.foldl (fun x1 x2 => x1 ++ x2) #[] (List.replicate n.toNat z.cps)).size ≤ sizeLine
      rw [hz, sizeLine_eq]
      omega
theorem tx_upto (l : List Nat) {a : Int} {m : Nat} (ha : a = (m : Int)) : cutS (Tx l) none (some a) = Tx (l.take m) := by
  subst ha
  show Str.mk ((((Tx l).cps.toList.drop (HT.sIx (Tx l).length 0 none)).take (HT.sIx (Tx l).length (Tx l).length (some (m : Int)) - HT.sIx (Tx l).length 0 none)).toArray) = Str.mk _
  rw [sIx_nat, tx_cps, tx_len]
  show Str.mk (((l.drop 0).take (min m l.length - 0)).toArray) = Str.mk _
  congr 2
  rw [List.drop_zero, Nat.sub_zero]
  by_cases h : m ≤ l.length
  · rw [Nat.min_eq_left h]
  · rw [Nat.min_eq_right (by omega), List.take_of_length_le (Nat.le_refl _), List.take_of_length_le (by omega)]
theorem tx_from (l : List Nat) {a : Int} {m : Nat} (ha : a = (m : Int)) : cutS (Tx l) (some a) none = Tx (l.drop m) := by
  subst ha
  show Str.mk ((((Tx l).cps.toList.drop (HT.sIx (Tx l).length 0 (some (m : Int)))).take (HT.sIx (Tx l).length (Tx l).length none - HT.sIx (Tx l).length 0 (some (m : Int)))).toArray) = Str.mk _
  rw [sIx_nat, tx_cps, tx_len]
  show Str.mk (((l.drop (min m l.length)).take (l.length - min m l.length)).toArray) = Str.mk _
  congr 2
  rw [List.take_of_length_le (by rw [List.length_drop]; omega)]
  by_cases h : m ≤ l.length
  · rw [Nat.min_eq_left h]
  · rw [Nat.min_eq_right (by omega), List.drop_eq_nil_of_le (Nat.le_refl _), List.drop_eq_nil_of_le (by omega)]
theorem join_len (a : Str) (ys : List Str) (h : a.length = 0) : (Txt.join a ys).length ≤ (ys.map (·.length)).sum := by
  unfold Txt.join
  rw [StrLaws.glued_eq_join]
  have := StrLaws.join_length_le a ys
  rw [h] at this
  omega
/-- an item of a text within its length -/
theorem at_txt (z : Str) {i : Int} (h0 : 0 ≤ i) (h1 : i < (z.length : Int)) : ∃ c, atI z.cps.toList i = some c := by
  have hl : z.cps.toList.length = z.length := Array.length_toList
  have hn : i.toNat < z.cps.toList.length := by omega
  refine ⟨z.cps.toList[i.toNat], ?_⟩
  unfold atI ixN
  rw [if_pos h0, if_pos (by omega)]
  exact List.getElem?_eq_getElem hn
end Vf

set_option maxRecDepth 100000
set_option maxHeartbeats 4000000
/-! the figures of a whole number; numbers, powers and terms as they are written -/
namespace Vf
open PySem PySem.Spec PyProof.Rows L2
def digs (n : Nat) : List Nat := (Nat.toDigits 10 n).map Char.toNat
theorem digs_tx (n : Nat) : Str.ofString (toString ((n : Nat) : Int)) = Tx (digs n) := by
  have := PySem.W.KIN.signs_num n
  obtain ⟨l, e⟩ := tx_of (Str.ofString (toString ((n : Nat) : Int)))
  rw [e] at this ⊢
  rw [tx_cps] at this
  rw [this]
  rfl
theorem digs_val (n : Nat) : PySem.NumText.digitsVal (digs n) = n := PySem.W.KIN.val_back n
theorem digs_d (n : Nat) : ∀ c ∈ digs n, isD c = true := by
  intro c hc
  obtain ⟨ch, hch, e⟩ := List.mem_map.mp hc
  have r := digit_range (Nat.isDigit_of_mem_toDigits (by decide) (by decide) hch)
  rw [← e]
  exact decide_eq_true r
theorem digs_len {n k : Nat} (hk : 1 ≤ k) (h : n < 10 ^ k) : (digs n).length ≤ k := by
  unfold digs
  rw [List.length_map]
  exact digits10_le hk h
theorem digs_ge (n : Nat) : 1 ≤ (digs n).length := by
  unfold digs
  rw [List.length_map]
  exact tDigits_len_ge 10 n
theorem digs_lt {n : Nat} (h : n < 10) : digs n = [n + 48] := by
  have : n = 0 ∨ n = 1 ∨ n = 2 ∨ n = 3 ∨ n = 4 ∨ n = 5 ∨ n = 6 ∨ n = 7 ∨ n = 8 ∨ n = 9 := by omega
  rcases this with h | h | h | h | h | h | h | h | h | h <;> subst h <;> decide +kernel
/-- a number that is not 0 does not begin with 0 -/
theorem digs_head {n : Nat} (h : n ≠ 0) : (digs n)[0]? ≠ some 48 := by
  induction n using Nat.strongRecOn with
  | _ n ih =>
    by_cases hl : n < 10
    · rw [digs_lt hl]
      intro z
      have : n + 48 = 48 := Option.some.inj z
      omega
    · have hm : n % 10 < 10 := Nat.mod_lt n (by decide)
      have t : Nat.toDigits 10 (n / 10) ++ Nat.toDigits 10 (n % 10) = Nat.toDigits 10 (10 * (n / 10) + n % 10) := Nat.toDigits_append_toDigits (by decide) (by omega) hm
      rw [Nat.div_add_mod] at t
      have e : digs n = digs (n / 10) ++ digs (n % 10) := by
        unfold digs
        rw [← t, List.map_append]
      rw [e, List.getElem?_append_left (digs_ge (n / 10))]
      exact ih (n / 10) (by omega) (by omega)
theorem digs_zero : digs 0 = [48] := by decide +kernel
theorem digs_eq_one {n : Nat} (h : digs n = [49]) : n = 1 := by
  have := digs_val n
  rw [h] at this
  exact this.symm
def sp (g : Nat) : List Nat := List.replicate g 32
theorem beh_of {t : List Nat} {e g : Nat} {r : List Nat} (h : t.drop e = sp g ++ r) (hr : r[0]? ≠ some 32) : beh t e = e + g := by
  unfold beh
  rw [h]
  congr 1
  clear h
  induction g with
  | zero =>
    cases r with
    | nil => rfl
    | cons c r =>
      show (if c = 32 then _ else 0) = 0
      rw [if_neg (fun z => hr (by rw [z]; rfl))]
  | succ g ih =>
    show (if (32 : Nat) = 32 then spc (sp g ++ r) + 1 else 0) = g + 1
    rw [if_pos rfl, ih]
section
variable {t x r : List Nat} {a : Nat}
theorem drop_app (h : t.drop a = x ++ r) : t.drop (a + x.length) = r := by
  rw [← List.drop_drop, h, List.drop_left]
theorem drop_at (h : t.drop a = x ++ r) (i : Nat) (hi : i < x.length) : t[a + i]? = x[i]? := by
  rw [← List.getElem?_drop, h, List.getElem?_append_left hi]
theorem drop_hd (h : t.drop a = r) : t[a]? = r[0]? := by
  rw [← h, List.getElem?_drop]
  rfl
theorem drop_le (h : t.drop a = x ++ r) (hx : x ≠ []) : a + x.length ≤ t.length := by
  have := congrArg List.length h
  rw [List.length_drop, List.length_append] at this
  have : 0 < x.length := List.length_pos_iff.mpr hx
  omega
theorem drop_cons {c : Nat} (h : t.drop a = c :: r) : t[a]? = some c ∧ t.drop (a + 1) = r := ⟨drop_hd h, drop_app (x := [c]) h⟩
end
/-- figures are read as far as they go -/
theorem wh_digs {t : List Nat} {a n : Nat} {r : List Nat} (h : t.drop a = digs n ++ r) (hn : n < 10 ^ 40) (hr : ∀ c, r[0]? = some c → isD c = false) : ∀ j, Wh t a j → j = (digs n).length ∧ seg t a j = digs n := by
  intro j W
  have hl := digs_len (by decide) hn
  have hg := digs_ge n
  have dd : ∀ i, i < (digs n).length → ∃ c, t[a + i]? = some c ∧ isD c = true := fun i hi => by
    rw [drop_at h i hi, List.getElem?_eq_getElem hi]
    exact ⟨_, rfl, digs_d n _ (List.getElem_mem hi)⟩
  have ej : j = (digs n).length := by
    rcases Nat.lt_trichotomy j (digs n).length with hlt | heq | hgt
    · exfalso
      rcases W.stop with h1 | h1 | h1
      · have j1 := W.z h1
        by_cases h0 : n = 0
        · subst h0
          rw [digs_zero] at hlt
          simp at hlt
          have := W.j1
          omega
        · have e0 := drop_at h 0 (by omega)
          rw [Nat.add_zero, h1] at e0
          exact digs_head h0 e0.symm
      · omega
      · obtain ⟨c, h2, h3⟩ := dd j hlt
        rw [h1 c h2] at h3
        cases h3
    · exact heq
    · exfalso
      obtain ⟨c, h2, h3⟩ := W.dg _ hgt
      have e := drop_hd (drop_app h)
      rw [h2] at e
      rw [hr c e.symm] at h3
      cases h3
  refine ⟨ej, ?_⟩
  subst ej
  unfold seg
  rw [h, List.take_left]
theorem dig_first {t : List Nat} {a n : Nat} {r : List Nat} (h : t.drop a = digs n ++ r) : ∃ c, t[a]? = some c ∧ isD c = true := by
  have hi := digs_ge n
  have e := drop_at h 0 (by omega)
  have e2 : (digs n)[0]? = some (digs n)[0] := List.getElem?_eq_getElem (by omega)
  rw [Nat.add_zero, e2] at e
  exact ⟨_, e, digs_d n _ (List.getElem_mem _)⟩
inductive NumB : List Nat → Nat → Nat → Prop
  | one {n : Nat} : n < 10 ^ 40 → NumB (digs n) n 1
  | two {n m : Nat} : n < 10 ^ 40 → m < 10 ^ 40 → 0 < m → NumB (digs n ++ 47 :: digs m) n m
inductive PowB : List Nat → Nat → Prop
  | x : PowB [120] 1
  | pw {k : Nat} : k ≤ 12 → PowB (120 :: 94 :: digs k) k
inductive TermB : List Nat → Nat → Nat → Nat → Prop
  | num {b : List Nat} {x y : Nat} : NumB b x y → TermB b x y 0
  | pow {b : List Nat} {k : Nat} : PowB b k → TermB b 1 1 k
  | both {nb pb : List Nat} {x y k : Nat} (g1 g2 : Nat) : NumB nb x y → PowB pb k → TermB (nb ++ (sp g1 ++ 42 :: (sp g2 ++ pb))) x y k
def NumE (r : List Nat) : Prop := ∀ c, r[0]? = some c → isD c = false ∧ c ≠ 47
def PowE (r : List Nat) : Prop := ∀ c, r[0]? = some c → isD c = false ∧ c ≠ 94
/-- what may stand behind a term -/
def TermE (r : List Nat) : Prop := ∃ g r', r = sp g ++ r' ∧ ∀ c, r'[0]? = some c → c = 43 ∨ c = 45
theorem sp_head {g : Nat} {r : List Nat} {c : Nat} (h : (sp g ++ r)[0]? = some c) : c = 32 ∨ (g = 0 ∧ r[0]? = some c) := by
  cases g with
  | zero => exact .inr ⟨rfl, h⟩
  | succ g => exact .inl (Option.some.inj h).symm
theorem TermE.head {r : List Nat} (h : TermE r) : ∀ c, r[0]? = some c → c = 32 ∨ c = 43 ∨ c = 45 := by
  obtain ⟨g, r', rfl, hr⟩ := h
  intro c hc
  rcases sp_head hc with h | ⟨_, h⟩
  · exact .inl h
  · exact .inr (hr c h)
theorem TermE.num {r : List Nat} (h : TermE r) : NumE r := fun c hc => by
  rcases h.head c hc with rfl | rfl | rfl <;> exact ⟨by decide, by decide⟩
theorem TermE.pow {r : List Nat} (h : TermE r) : PowE r := fun c hc => by
  rcases h.head c hc with rfl | rfl | rfl <;> exact ⟨by decide, by decide⟩
theorem NumB.ne {b : List Nat} {x y : Nat} (h : NumB b x y) : b ≠ [] := by
  cases h with
  | one => exact fun z => by have := digs_ge x; rw [z] at this; simp at this
  | two => exact fun z => by simp at z
theorem NumB.first {b : List Nat} {x y : Nat} (h : NumB b x y) : ∃ c, b[0]? = some c ∧ isD c = true := by
  have go : ∀ n r, ∃ c, (digs n ++ r)[0]? = some c ∧ isD c = true := fun n r => by
    have hi := digs_ge n
    rw [List.getElem?_append_left (by omega), List.getElem?_eq_getElem (by omega)]
    exact ⟨_, rfl, digs_d n _ (List.getElem_mem _)⟩
  cases h with
  | one => have := go x []; rw [List.append_nil] at this; exact this
  | two => exact go x _
theorem NumB.sz {b : List Nat} {x y : Nat} (h : NumB b x y) : x < 10 ^ 40 ∧ y < 10 ^ 40 ∧ 0 < y := by
  cases h with
  | one h => exact ⟨h, by decide, by decide⟩
  | two h1 h2 h3 => exact ⟨h1, h2, h3⟩
theorem TermB.sz {b : List Nat} {x y k : Nat} (h : TermB b x y k) : x < 10 ^ 40 ∧ y < 10 ^ 40 ∧ 0 < y ∧ k ≤ 12 := by
  cases h with
  | num h => exact ⟨h.sz.1, h.sz.2.1, h.sz.2.2, by decide⟩
  | pow h => exact ⟨by decide, by decide, by decide, by cases h <;> omega⟩
  | both _ _ h1 h2 => exact ⟨h1.sz.1, h1.sz.2.1, h1.sz.2.2, by cases h2 <;> omega⟩
/-- a term begins with a figure or with x -/
theorem TermB.first {b : List Nat} {x y k : Nat} (h : TermB b x y k) : ∃ c, b[0]? = some c ∧ (isD c = true ∨ c = 120) := by
  cases h with
  | num h => obtain ⟨c, h1, h2⟩ := h.first; exact ⟨c, h1, .inl h2⟩
  | pow h => cases h <;> exact ⟨120, rfl, .inr rfl⟩
  | both _ _ h1 h2 =>
    obtain ⟨c, h3, h4⟩ := h1.first
    refine ⟨c, ?_, .inl h4⟩
    have := List.length_pos_iff.mpr h1.ne
    rw [List.getElem?_append_left this]
    exact h3
/-- what may stand behind a term, and what it says: each sign, number above, below, power -/
inductive Tail : List Nat → List (Int × Nat × Nat × Nat) → Prop
  | nil : Tail [] []
  | cons {b r : List Nat} {x y k : Nat} {L : List (Int × Nat × Nat × Nat)} (s : Int) (g1 g2 : Nat) : (s = 1 ∨ s = -1) → TermB b x y k → Tail r L → Tail ((if s = 1 then 43 else 45) :: (sp g1 ++ (b ++ (sp g2 ++ r)))) ((s, x, y, k) :: L)
theorem Tail.head {r : List Nat} {L : List (Int × Nat × Nat × Nat)} (h : Tail r L) : ∀ c, r[0]? = some c → c = 43 ∨ c = 45 := by
  intro c hc
  cases h with
  | nil => cases hc
  | cons s g1 g2 hs _ _ =>
    have e : (if s = 1 then 43 else 45) = c := Option.some.inj hc
    split at e <;> omega
theorem Tail.te {r : List Nat} {L : List (Int × Nat × Nat × Nat)} (h : Tail r L) (g : Nat) : TermE (sp g ++ r) := ⟨g, r, rfl, h.head⟩
/-- a whole text of a polynomial -/
inductive TextB : List Nat → List (Int × Nat × Nat × Nat) → Prop
  | mk {b r : List Nat} {x y k : Nat} {L : List (Int × Nat × Nat × Nat)} (s : Int) (g0 g1 g2 : Nat) : (s = 1 ∨ s = -1) → TermB b x y k → Tail r L → TextB (sp g0 ++ ((if s = 1 then [] else [45]) ++ (sp g1 ++ (b ++ (sp g2 ++ r))))) ((s, x, y, k) :: L)
end Vf

set_option maxRecDepth 100000
set_option maxHeartbeats 4000000
/-! texts of polynomials, as they are due -/
namespace Vf
open PySem PySem.Spec PyProof.Rows L2
abbrev Itm := Int × Nat × Nat × Nat
def ival (it : Itm) : Rat := Rat.divInt ((it.2.1 : Int) * it.1) ((it.2.2.1 : Int) * 1)
theorem tx_app (a b : List Nat) : Tx a ++ Tx b = Tx (a ++ b) := by
  show Str.mk (a.toArray ++ b.toArray) = Str.mk _
  simp
def sizeT (a b : Nat) : List Nat := digs a ++ (if b = 1 then [] else 47 :: digs b)
def letT (k : Nat) : List Nat := if k = 1 then [120] else 120 :: 94 :: digs k
def termT (a b k : Nat) : List Nat := if k = 0 then sizeT a b else if a = 1 ∧ b = 1 then letT k else sizeT a b ++ 42 :: letT k
def signT (neg first : Bool) : List Nat := if first then (if neg then [45] else []) else (if neg then [32, 45, 32] else [32, 43, 32])
def stepT (acc : List Nat) (q : Rat) (k : Nat) : List Nat := if q.num = 0 then acc else acc ++ (signT (decide (q.num < 0)) (decide (acc = [])) ++ termT q.num.natAbs q.den k)
def dueN (qs : List Rat) : Nat → List Nat
  | 0 => []
  | i + 1 => stepT (dueN qs i) (cf qs i) i
def finT (t : List Nat) : List Nat := if t = [] then [48] else t
theorem numB_size {a b : Nat} (ha : a < 10 ^ 40) (hb : b < 10 ^ 40) (h0 : 0 < b) : NumB (sizeT a b) a b := by
  unfold sizeT
  by_cases h : b = 1
  · subst h
    rw [if_pos rfl, List.append_nil]
    exact .one ha
  · rw [if_neg h]
    exact .two ha hb h0
theorem powB_let {k : Nat} (hk : k ≤ 12) : PowB (letT k) k := by
  unfold letT
  by_cases h : k = 1
  · subst h
    exact .x
  · rw [if_neg h]
    exact .pw hk
theorem termB_term {a b k : Nat} (ha : a < 10 ^ 40) (hb : b < 10 ^ 40) (h0 : 0 < b) (hk : k ≤ 12) : TermB (termT a b k) a b k := by
  unfold termT
  by_cases h : k = 0
  · subst h
    exact .num (numB_size ha hb h0)
  · rw [if_neg h]
    by_cases h1 : a = 1 ∧ b = 1
    · obtain ⟨rfl, rfl⟩ := h1
      rw [if_pos ⟨rfl, rfl⟩]
      exact .pow (powB_let hk)
    · rw [if_neg h1]
      exact .both 0 0 (numB_size ha hb h0) (powB_let hk)
theorem sp_app (g h : Nat) (r : List Nat) : sp g ++ (sp h ++ r) = sp (g + h) ++ r := by
  rw [← List.append_assoc]
  congr 1
  exact List.replicate_append_replicate
theorem Tail.snoc {b : List Nat} {x y k : Nat} (s : Int) (g g1 g2 : Nat) (hs : s = 1 ∨ s = -1) (hB : TermB b x y k) {r : List Nat} {L : List Itm} (h : Tail r L) :
    ∀ g0, ∃ g' r', sp g0 ++ (r ++ (sp g ++ ((if s = 1 then 43 else 45) :: (sp g1 ++ (b ++ (sp g2 ++ [])))))) = sp g' ++ r' ∧ Tail r' (L ++ [(s, x, y, k)]) := by
  induction h with
  | nil =>
    intro g0
    exact ⟨g0 + g, _, by rw [List.nil_append, sp_app], .cons s g1 g2 hs hB .nil⟩
  | cons s' h1 h2 hs' hB' hT' ih =>
    intro g0
    obtain ⟨g', r', e, t⟩ := ih h2
    refine ⟨g0, _, ?_, .cons s' h1 g' hs' hB' t⟩
    rw [← e]
    simp only [List.cons_append, List.append_assoc]
theorem TextB.snoc {t b : List Nat} {L : List Itm} {x y k : Nat} (h : TextB t L) (s : Int) (g g1 g2 : Nat) (hs : s = 1 ∨ s = -1) (hB : TermB b x y k) :
    TextB (t ++ (sp g ++ ((if s = 1 then 43 else 45) :: (sp g1 ++ (b ++ (sp g2 ++ [])))))) (L ++ [(s, x, y, k)]) := by
  cases h with
  | mk s' h0 h1 h2 hs' hB' hT' =>
    obtain ⟨g', r', e, t⟩ := hT'.snoc s g g1 g2 hs hB h2
    have := TextB.mk s' h0 h1 g' hs' hB' t
    rw [← e] at this
    simp only [List.append_assoc, List.cons_append] at this ⊢
    exact this
theorem TextB.ne {t : List Nat} {L : List Itm} (h : TextB t L) : t ≠ [] := by
  cases h with
  | mk s g0 g1 g2 hs hB hT =>
    obtain ⟨c, hc, _⟩ := hB.first
    intro z
    simp only [List.append_eq_nil_iff] at z
    rw [z.2.2.2.1] at hc
    cases hc
theorem TextB.one {b : List Nat} {x y k : Nat} (s : Int) (hs : s = 1 ∨ s = -1) (hB : TermB b x y k) : TextB ((if s = 1 then [] else [45]) ++ b) [(s, x, y, k)] := by
  have := TextB.mk s 0 0 0 hs hB .nil
  simpa [sp] using this
/-- the sum of the terms of a power -/
def sumAt : List Itm → Nat → Rat
  | [], _ => 0
  | it :: L, k => (if it.2.2.2 = k then ival it else 0) + sumAt L k
theorem sumAt_app (k : Nat) : ∀ A B : List Itm, sumAt (A ++ B) k = sumAt A k + sumAt B k
  | [], B => by rw [List.nil_append]; show _ = 0 + _; rw [Rat.zero_add]
  | it :: A, B => by
    rw [List.cons_append]
    show _ + sumAt (A ++ B) k = (_ + sumAt A k) + sumAt B k
    rw [sumAt_app k A B, Rat.add_assoc]
def cntAt : List Itm → Nat → Nat
  | [], _ => 0
  | it :: L, k => (if it.2.2.2 = k then 1 else 0) + cntAt L k
theorem cntAt_app (k : Nat) : ∀ A B : List Itm, cntAt (A ++ B) k = cntAt A k + cntAt B k
  | [], B => by rw [List.nil_append]; show _ = 0 + _; rw [Nat.zero_add]
  | it :: A, B => by
    rw [List.cons_append]
    show _ + cntAt (A ++ B) k = (_ + cntAt A k) + cntAt B k
    rw [cntAt_app k A B, Nat.add_assoc]
theorem sumAt_one (it : Itm) (k : Nat) : sumAt [it] k = if it.2.2.2 = k then ival it else 0 := by
  show _ + (0 : Rat) = _
  rw [Rat.add_zero]
/-- a ratio from its size and sign -/
def sgn1 (q : Rat) : Int := if q.num < 0 then -1 else 1
theorem sgn1_or (q : Rat) : sgn1 q = 1 ∨ sgn1 q = -1 := by
  unfold sgn1
  split
  · exact .inr rfl
  · exact .inl rfl
theorem ival_q (q : Rat) (k : Nat) : ival (sgn1 q, q.num.natAbs, q.den, k) = q := by
  unfold ival sgn1
  show Rat.divInt ((q.num.natAbs : Int) * (if q.num < 0 then -1 else 1)) ((q.den : Int) * 1) = q
  have e : (q.num.natAbs : Int) * (if q.num < 0 then -1 else 1) = q.num := by split <;> omega
  rw [e, Int.mul_one]
  exact Rat.num_divInt_den q
structure Due (t : List Nat) (L : List Itm) (qs : List Rat) (i : Nat) : Prop where
  text : TextB t L
  sum : ∀ k, sumAt L k = if k < i then cf qs k else 0
  cnt : ∀ k, cntAt L k ≤ if k < i then 1 else 0
  len : L.length ≤ i
theorem num_zero {q : Rat} (h : q.num = 0) : q = 0 := Rat.num_eq_zero.mp h
theorem due_of {qs : List Rat} (hz : ∀ k, (cf qs k).num.natAbs < 10 ^ 40 ∧ (cf qs k).den < 10 ^ 40) : ∀ i, i ≤ 13 → (dueN qs i = [] ∧ ∀ k, k < i → cf qs k = 0) ∨ ∃ L, Due (dueN qs i) L qs i
  | 0, _ => .inl ⟨rfl, fun k h => absurd h (by omega)⟩
  | i + 1, hi => by
    have ih := due_of hz i (by omega)
    show (stepT (dueN qs i) (cf qs i) i = [] ∧ _) ∨ ∃ L, Due (stepT (dueN qs i) (cf qs i) i) L qs (i + 1)
    by_cases h0 : (cf qs i).num = 0
    · have c0 := num_zero h0
      have e : stepT (dueN qs i) (cf qs i) i = dueN qs i := if_pos h0
      rw [e]
      rcases ih with ⟨h1, h2⟩ | ⟨L, h⟩
      · refine .inl ⟨h1, fun k hk => ?_⟩
        by_cases hki : k = i
        · subst hki; exact c0
        · exact h2 k (by omega)
      · refine .inr ⟨L, h.text, fun k => ?_, fun k => ?_, Nat.le_trans h.len (Nat.le_succ _)⟩
        · rw [h.sum k]
          by_cases hki : k = i
          · subst hki
            rw [if_neg (Nat.lt_irrefl _), if_pos (Nat.lt_succ_self _), c0]
          · by_cases hlt : k < i
            · rw [if_pos hlt, if_pos (by omega)]
            · rw [if_neg hlt, if_neg (by omega)]
        · have := h.cnt k
          by_cases hlt : k < i
          · rw [if_pos hlt] at this
            rw [if_pos (by omega)]
            exact this
          · rw [if_neg hlt] at this
            omega
    · have e : stepT (dueN qs i) (cf qs i) i = dueN qs i ++ (signT (decide ((cf qs i).num < 0)) (decide (dueN qs i = [])) ++ termT (cf qs i).num.natAbs (cf qs i).den i) := if_neg h0
      have hB := termB_term (hz i).1 (hz i).2 (cf qs i).den_pos (show i ≤ 12 by omega)
      have hs := sgn1_or (cf qs i)
      have sum1 : ∀ k, sumAt [(sgn1 (cf qs i), (cf qs i).num.natAbs, (cf qs i).den, i)] k = if i = k then cf qs i else 0 := fun k => by
        rw [sumAt_one, ival_q]
      have cnt1 : ∀ k, cntAt [(sgn1 (cf qs i), (cf qs i).num.natAbs, (cf qs i).den, i)] k = if i = k then 1 else 0 := fun k => rfl
      rw [e]
      rcases ih with ⟨h1, h2⟩ | ⟨L, h⟩
      · refine .inr ⟨[(sgn1 (cf qs i), (cf qs i).num.natAbs, (cf qs i).den, i)], ?_, fun k => ?_, fun k => ?_, by show 1 ≤ i + 1; omega⟩
        · have := TextB.one (sgn1 (cf qs i)) hs hB
          rw [h1]
          have e2 : signT (decide ((cf qs i).num < 0)) (decide (([] : List Nat) = [])) = if sgn1 (cf qs i) = 1 then [] else [45] := by
            unfold signT sgn1
            by_cases hn : (cf qs i).num < 0
            · rw [decide_eq_true hn, if_pos hn]; rfl
            · rw [decide_eq_false hn, if_neg hn]; rfl
          rw [e2]
          exact this
        · rw [sum1]
          by_cases hki : i = k
          · subst hki
            rw [if_pos rfl, if_pos (Nat.lt_succ_self _)]
          · rw [if_neg hki]
            split
            · exact (h2 k (by omega)).symm
            · rfl
        · rw [cnt1]
          by_cases hki : i = k
          · subst hki
            rw [if_pos rfl, if_pos (Nat.lt_succ_self _)]
            exact Nat.le_refl _
          · rw [if_neg hki]
            exact Nat.zero_le _
      · refine .inr ⟨L ++ [(sgn1 (cf qs i), (cf qs i).num.natAbs, (cf qs i).den, i)], ?_, fun k => ?_, fun k => ?_, by rw [List.length_append]; have := h.len; show L.length + 1 ≤ i + 1; omega⟩
        · have := h.text.snoc (sgn1 (cf qs i)) 1 1 0 hs hB
          have e2 : signT (decide ((cf qs i).num < 0)) (decide (dueN qs i = [])) = [32, (if sgn1 (cf qs i) = 1 then 43 else 45), 32] := by
            rw [decide_eq_false h.text.ne]
            unfold signT sgn1
            by_cases hn : (cf qs i).num < 0
            · rw [decide_eq_true hn, if_pos hn]; rfl
            · rw [decide_eq_false hn, if_neg hn]; rfl
          rw [e2]
          have e3 : sp 1 ++ ((if sgn1 (cf qs i) = 1 then 43 else 45) :: (sp 1 ++ (termT (cf qs i).num.natAbs (cf qs i).den i ++ (sp 0 ++ [])))) = [32, (if sgn1 (cf qs i) = 1 then 43 else 45), 32] ++ termT (cf qs i).num.natAbs (cf qs i).den i := by
            simp [sp]
          rw [e3] at this
          exact this
        · rw [sumAt_app, h.sum k, sum1]
          by_cases hki : i = k
          · subst hki
            rw [if_neg (Nat.lt_irrefl _), if_pos rfl, if_pos (Nat.lt_succ_self _), Rat.zero_add]
          · rw [if_neg hki, Rat.add_zero]
            by_cases hlt : k < i
            · rw [if_pos hlt, if_pos (by omega)]
            · rw [if_neg hlt, if_neg (by omega)]
        · rw [cntAt_app, cnt1]
          have := h.cnt k
          by_cases hki : i = k
          · subst hki
            rw [if_neg (Nat.lt_irrefl _)] at this
            rw [if_pos rfl, if_pos (Nat.lt_succ_self _)]
            omega
          · rw [if_neg hki]
            by_cases hlt : k < i
            · rw [if_pos hlt] at this
              rw [if_pos (by omega)]
              omega
            · rw [if_neg hlt] at this
              omega
theorem size_len {a b : Nat} (ha : a < 10 ^ 40) (hb : b < 10 ^ 40) : (sizeT a b).length ≤ 81 := by
  unfold sizeT
  have h1 := digs_len (by decide) ha
  have h2 := digs_len (by decide) hb
  rw [List.length_append]
  split
  · simp; omega
  · rw [List.length_cons]; omega
theorem let_len {k : Nat} (hk : k ≤ 12) : (letT k).length ≤ 4 := by
  have := digs_len (n := k) (k := 2) (by decide) (by omega)
  unfold letT
  split
  · decide
  · rw [List.length_cons, List.length_cons]; omega
theorem term_len {a b k : Nat} (ha : a < 10 ^ 40) (hb : b < 10 ^ 40) (hk : k ≤ 12) : (termT a b k).length ≤ 86 := by
  have h1 := size_len ha hb
  have h2 := let_len hk
  unfold termT
  split
  · omega
  · split
    · omega
    · rw [List.length_append, List.length_cons]; omega
theorem sign_len (n f : Bool) : (signT n f).length ≤ 3 := by
  cases n <;> cases f <;> decide
theorem due_len {qs : List Rat} (hz : ∀ k, (cf qs k).num.natAbs < 10 ^ 40 ∧ (cf qs k).den < 10 ^ 40) : ∀ i, i ≤ 13 → (dueN qs i).length ≤ 89 * i
  | 0, _ => Nat.le_refl _
  | i + 1, hi => by
    have ih := due_len hz i (by omega)
    have h1 := term_len (hz i).1 (hz i).2 (show i ≤ 12 by omega)
    have h2 := sign_len (decide ((cf qs i).num < 0)) (decide (dueN qs i = []))
    show (stepT (dueN qs i) (cf qs i) i).length ≤ _
    unfold stepT
    split
    · omega
    · rw [List.length_append, List.length_append]; omega
/-- the size alone is 1 -/
theorem size_one {a b : Nat} : sizeT a b = [49] ↔ a = 1 ∧ b = 1 := by
  constructor
  · intro h
    unfold sizeT at h
    by_cases hb : b = 1
    · rw [if_pos hb, List.append_nil] at h
      exact ⟨digs_eq_one h, hb⟩
    · rw [if_neg hb] at h
      have := congrArg List.length h
      rw [List.length_append, List.length_cons] at this
      have := digs_ge a
      have := digs_ge b
      simp at *
      omega
  · rintro ⟨rfl, rfl⟩
    decide +kernel
end Vf

set_option maxRecDepth 100000
set_option maxHeartbeats 4000000
/-! a space, some times or not at all -/
namespace Vf
open PySem PySem.Spec PyProof.Rows L2
theorem foldl_rep (c : Nat) : ∀ (m : Nat) (acc : Array Nat), List.foldl (fun x1 x2 => x1 ++ x2) acc (List.replicate m #[c]) = acc ++ (List.replicate m c).toArray
  | 0, acc => by simp
  | m + 1, acc => by
    rw [List.replicate_succ, List.foldl_cons, foldl_rep c m, List.replicate_succ]
    refine Array.ext' ?_
    rw [Array.toList_append, Array.toList_append, Array.toList_append, List.append_assoc]
    rfl
def rRepG : R2 := fun x y H Q => ∃ (c : Nat) (n : Int), x = .str (Tx [c]) ∧ y = .int n ∧ 0 ≤ n ∧ n ≤ 1000 ∧ Q (.str (Tx (List.replicate n.toNat c))) H
theorem op_repG {X : Cx} : OpR X (binaryOp .Mult) rRepG := by
  intro pins s σ H x y v u Q I rx ry h
  obtain ⟨c, n, rfl, rfl, n1, n2, q⟩ := h
  obtain ⟨t, rfl⟩ := rx
  obtain ⟨t2, rfl⟩ := ry
  have hl : (Tx [c]).length = 1 := rfl
  refine PySem.P.mul_str ?_ (fun _ _ => ?_) (fun _ _ => ?_) ?_
  · rw [decide_eq_false (by omega), decide_eq_false (by omega)]
    rfl
  · rw [hl]
    have : 1 ≤ (2 ^ 63 - 1) / n := Int.le_ediv_of_mul_le (by omega) (by omega)
    omega
  · rw [hl]
    show decide (1 * n.toNat > sizeLine) = false
    rw [sizeLine_eq]
    exact decide_eq_false (by omega)
  · by_cases h0 : n < 1
    · rw [if_pos h0]
      have e : n = 0 := by omega
      subst e
      exact ⟨by decide, .str _, H, I.tok _, ⟨_, rfl⟩, q⟩
    · rw [if_neg h0]
      by_cases h1 : (n == 1 || (Tx [c]).length == 0) = true
      · rw [if_pos h1]
        rw [Bool.or_eq_true, beq_iff_eq, beq_iff_eq] at h1
        have e : n = 1 := by omega
        subst e
        exact ⟨.str _, H, I, ⟨_, rfl⟩, q⟩
      · rw [if_neg h1]
        have hz : (⟨List.foldl (fun x1 x2 => x1 ++ x2) #[] (List.replicate n.toNat (Tx [c]).cps)⟩ : Str) = Tx (List.replicate n.toNat c) := by
          show Str.mk (List.foldl (fun x1 x2 => x1 ++ x2) #[] (List.replicate n.toNat #[c])) = Str.mk _
          rw [foldl_rep]
          simp
        rw [hz]
        refine ⟨?_, .str _, H, I.tok _, ⟨_, rfl⟩, q⟩
        rw [tx_len, List.length_replicate, sizeLine_eq]
        omega
end Vf

set_option maxRecDepth 100000
set_option maxHeartbeats 8000000
namespace Vf
open PySem PySem.Spec PyProof.Rows L2
def topS (i : Nat) : Stmt := PySem.Challenge.pw_nearcurves_k07_whole_texts_of_polynomial.main.body.getD i (.Pass ⟨0, 0, 0, 0⟩)
/-! ### the pen -/
def penL (l : Addr) (at_ dg ct fo : Int) : List (Key × V) := [(.inr "cells", .ref l), (.inr "at", .int at_), (.inr "digits", .int dg), (.inr "count", .int ct), (.inr "fold", .int fo)]
section
variable {l : Addr} {a d c f x : Int}
theorem pv1 : valV (penL l a d c f) (.inr "cells") = some (.ref l) := by kernel_rfl
theorem pv2 : valV (penL l a d c f) (.inr "at") = some (.int a) := by kernel_rfl
theorem pv3 : valV (penL l a d c f) (.inr "digits") = some (.int d) := by kernel_rfl
theorem pv4 : valV (penL l a d c f) (.inr "count") = some (.int c) := by kernel_rfl
theorem pv5 : valV (penL l a d c f) (.inr "fold") = some (.int f) := by kernel_rfl
theorem pp2 : putK (penL l a d c f) (.inr "at") (.int x) = penL l x d c f := by kernel_rfl
theorem pp3 : putK (penL l a d c f) (.inr "digits") (.int x) = penL l a x c f := by kernel_rfl
theorem pp4 : putK (penL l a d c f) (.inr "count") (.int x) = penL l a d x f := by kernel_rfl
theorem pp5 : putK (penL l a d c f) (.inr "fold") (.int x) = penL l a d c x := by kernel_rfl
theorem pm : mergeK [] [(.inr "cells", .ref l), (.inr "at", .int 0), (.inr "digits", .int 0), (.inr "count", .int 0), (.inr "fold", .int f)] = penL l 0 0 0 f := by kernel_rfl
end
/-- a pen at p that has been asked at most B times -/
structure PenC (at_ dg ct fo B : Int) : Prop where
  a0 : 0 ≤ at_
  d0 : 0 ≤ dg
  c0 : 0 ≤ ct
  cB : ct ≤ B
  f0 : 0 ≤ fo
  f1 : fo < 2147483587
def PenAt (H : Hp) (p l : Addr) (ns : List Int) (at_ dg ct fo : Int) : Prop := H p = some (.dK (penL l at_ dg ct fo)) ∧ H l = some (.lst (ns.map V.int)) ∧ ns.length ≤ 63
def Pen (H : Hp) (p l : Addr) (B : Int) : Prop := ∃ ns at_ dg ct fo, PenAt H p l ns at_ dg ct fo ∧ PenC at_ dg ct fo B
/-- all but p stands as it stood -/
def Kp (p : Addr) (H H' : Hp) : Prop := ∀ b o, b ≠ p → H b = some o → H' b = some o
theorem Kp.refl {p : Addr} {H : Hp} : Kp p H H := fun _ _ _ h => h
theorem Kp.trans {p : Addr} {H H1 H2 : Hp} (a : Kp p H H1) (b : Kp p H1 H2) : Kp p H H2 := fun c o n h => b c o n (a c o n h)
theorem Kp.of {p : Addr} {H H' : Hp} (s : Same H H') : Kp p H H' := fun b o _ h => s b o h
theorem same_upd {H : Hp} {p : Addr} {o : HO} (n : H p = none) : Same H (upd H p o) := fun b u e => by rw [upd_ne (ne_of_none e n)]; exact e
/-- the heap without p -/
def wo (p : Addr) (H : Hp) : Hp := fun b => if b = p then none else H b
theorem Kp.wo {p : Addr} {H H' : Hp} (k : Kp p H H') : Same (wo p H) (wo p H') := fun b o e => by
  unfold Vf.wo at e ⊢
  by_cases h : b = p
  · rw [if_pos h] at e
    cases e
  · rw [if_neg h] at e ⊢
    exact k b o h e
theorem wo_sub {p : Addr} {H : Hp} : Same (wo p H) H := fun b o e => by
  unfold Vf.wo at e
  by_cases h : b = p
  · rw [if_pos h] at e
    cases e
  · rw [if_neg h] at e
    exact e
theorem wo_at {p b : Addr} {H : Hp} {o : HO} (h : b ≠ p) (e : H b = some o) : wo p H b = some o := by
  unfold Vf.wo
  rw [if_neg h]
  exact e
theorem PenAt.ne {H : Hp} {p l : Addr} {ns : List Int} {a d c f : Int} (h : PenAt H p l ns a d c f) : l ≠ p := ne_of h.2.1 h.1 (by intro z; cases z)
theorem PenAt.same {H H' : Hp} {p l : Addr} {ns : List Int} {a d c f : Int} (h : PenAt H p l ns a d c f) (s : Same H H') : PenAt H' p l ns a d c f := ⟨s _ _ h.1, s _ _ h.2.1, h.2.2⟩
theorem Pen.same {H H' : Hp} {p l : Addr} {B : Int} (h : Pen H p l B) (s : Same H H') : Pen H' p l B := by
  obtain ⟨ns, a, d, c, f, h1, h2⟩ := h
  exact ⟨ns, a, d, c, f, h1.same s, h2⟩
theorem Pen.more {H : Hp} {p l : Addr} {B B' : Int} (h : Pen H p l B) (e : B ≤ B') : Pen H p l B' := by
  obtain ⟨ns, a, d, c, f, h1, h2⟩ := h
  exact ⟨ns, a, d, c, f, h1, h2.a0, h2.d0, h2.c0, Int.le_trans h2.cB e, h2.f0, h2.f1⟩
theorem Pen.there {H : Hp} {p l : Addr} {B : Int} (h : Pen H p l B) : ∃ o, H p = some o := by
  obtain ⟨ns, a, d, c, f, h1, h2⟩ := h
  exact ⟨_, h1.1⟩
theorem PenAt.put {H : Hp} {p l : Addr} {ns : List Int} {a d c f a' d' c' f' : Int} (h : PenAt H p l ns a d c f) : PenAt (upd H p (.dK (penL l a' d' c' f'))) p l ns a' d' c' f' :=
  ⟨upd_same, by rw [upd_ne h.ne]; exact h.2.1, h.2.2⟩
theorem kp_upd {H : Hp} {p : Addr} {o : HO} : Kp p H (upd H p o) := fun b u n e => by rw [upd_ne n]; exact e

def spPen (K : PySem.W.Frag) : Sp := fun vs H Q _ => ∃ (a : Addr) (ns : List Int), vs = [.ref a] ∧ SqL K H a (ns.map V.int) ∧ ns.length ≤ 63 ∧ ∀ (p l : Addr) (H' : Hp), Same H H' → H p = none → H l = none → Pen H' p l 0 → Q (.ref p) H'
def spDraw : Sp := fun vs H Q _ => ∃ (p l : Addr) (B many : Int), vs = [.ref p, .int many] ∧ Pen H p l B ∧ B ≤ 1000000000 ∧ 0 < many ∧ many < 1000000 ∧
  ∀ (z : Int) (H' : Hp), 0 ≤ z → z < many → Pen H' p l (B + 1) → Kp p H H' → Q (.int z) H'
def spPick : Sp := fun vs H Q _ => ∃ (p l s : Addr) (B : Int) (xs : List V), vs = [.ref p, .ref s] ∧ Pen H p l B ∧ B ≤ 1000000000 ∧ H s = some (.lst xs) ∧ s ≠ p ∧ 0 < xs.length ∧ xs.length < 1000000 ∧
  ∀ (x : V) (H' : Hp), x ∈ xs → Pen H' p l (B + 1) → Kp p H H' → Q x H'
def spFar : Sp := fun vs H Q _ => ∃ (p l : Addr) (B : Int), vs = [.ref p] ∧ Pen H p l B ∧ B ≤ 100000000 ∧
  ∀ (z : Int) (H' : Hp), -1000000000000000000 < z → z < 1000000000000000000 → Pen H' p l (B + 8) → Kp p H H' → Q (.int z) H'
/-- built-in names that the text leaves alone -/
structure Bi (mg : Str → Option Value) : Prop where
  int : mg "int" = none
  list : mg "list" = none
  len : mg "len" = none
  range : mg "range" = none
/-- a def of the text that raises nothing -/
structure Df (P : Program) (w : World) (K : PySem.W.Frag) (mg : Str → Option Value) (base : Heap) (x : Str) (k : Nat) (ps : List Str) (sp : Sp) where
  f : Addr
  fd : FuncData
  m : mg x = some (.ref f)
  kp : PySem.W.keepIn K (.ref f) = true
  b : Binds K fd ps []
  ok : FnOk P w K mg base CX0 k f fd ps sp

abbrev sPen : Stmt := topS 46
abbrev sDraw : Stmt := topS (46 + 1)
abbrev sPick : Stmt := topS (46 + 2)
section
variable {P : Program} {w : World} {K : PySem.W.Frag} {mg : Str → Option Value} {base : Heap}
theorem scPen : FnScope ["_law_script", "_law_fold", "_law_cell"] ["_law_script"] (defScope sPen) := ⟨rfl, rfl, rfl, by decide +kernel, rfl, by decide +kernel, by decide +kernel⟩
theorem ok_pen {f : Addr} {fd : FuncData} (F : Fun K "_law_pen" "_law_pen" sPen f fd) (T : Bi mg) : FnOk P w K mg base CX0 1 f fd ["_law_script"] (spPen K) := by
  refine F.ok scPen (fun vs H Q E h => ?_) (fun cdv A outer s H vs Q E hr h => ?_)
  · obtain ⟨a, ns, rfl, _⟩ := h
    rfl
  · obtain ⟨a, ns, rfl, hS, hl, k⟩ := h
    refine ⟨_, (pss_cons (ps_set (i := 1) scPen.nd rfl (Or.inl rfl) pe_int)
      (pss_cons (ps_for PassesOwn.never rfl (pi_list (pv 0)) (pg_name (i := 2) scPen.nd rfl (Or.inl rfl))
        (pss_one (ps_set (i := 1) scPen.nd rfl (Or.inl rfl) (pe_op op_mod (pe_callTy call_int1 (by rfl) T.int (by decide +kernel) (pa_cons (pe_op op_add (pe_op op_mul (pv 1) pe_int) (pv 2)) pa_nil)) pe_int))))
      (pss_one (ps_ret (pe_disp (pps_cons pe_str (pe_callTy call_list_of (by rfl) T.list (by decide +kernel) (pa_cons (pv 0) pa_nil)) (pps_cons pe_str pe_int (pps_cons pe_str pe_int (pps_cons pe_str pe_int (pps_cons pe_str (pv 1) pps_nil))))) (by rfl) (by rfl) (fun z => by cases z) (by decide)))))), ?_⟩
    refine ⟨_, rfl, a, rfl, ⟨_, hS⟩, for_list (K := K) (a := a) (xs := ns.map V.int) (fun i σ H2 => H2 = H ∧ ∃ (z : Int) (v : Option V), σ = [some (.ref a), some (.int z), v] ∧ 0 ≤ z ∧ z < 1000000007)
      ⟨rfl, 0, none, rfl, by decide, by decide⟩ (fun i σ H2 _ ⟨e, _⟩ => by rw [e]; exact hS) ?_ ?_⟩
    · rintro i y σ H2 hi ⟨rfl, z, v, rfl, h0, h1⟩
      obtain ⟨n, rfl⟩ : ∃ n, y = V.int n := by
        rw [List.getElem?_map] at hi
        cases e : ns[i]? with
        | none =>
          rw [e] at hi
          cases hi
        | some n =>
          rw [e] at hi
          exact ⟨n, (Option.some.inj hi).symm⟩
      refine ⟨_, rfl, _, _, rfl, rfl, .inl ⟨by omega, by omega⟩, _, rfl, _, _, rfl, rfl, .inl ⟨_, rfl, _, _, rfl, rfl, (by show (0 : Int) < 1000000007; decide), ?_⟩⟩
      exact ⟨rfl, _, _, rfl, Int.emod_nonneg _ (by decide), Int.emod_lt_of_pos _ (by decide)⟩
    · rintro σ H2 ⟨rfl, z, v, rfl, h0, h1⟩
      intro p np
      refine ⟨_, rfl, a, _, rfl, .inl ((same_upd np).seq hS), fun l nl => ?_⟩
      refine ⟨_, rfl, ?_⟩
      have npl : p ≠ l := ne_of_none upd_same nl
      refine ⟨by rw [upd_ne npl]; exact upd_same, [(.inr "cells", .ref l), (.inr "at", .int 0), (.inr "digits", .int 0), (.inr "count", .int 0), (.inr "fold", .int z)], rfl, (by show 5 ≤ 15; decide), ?_⟩
      rw [pm]
      have nl2 : H2 l = none := by
        have q := nl
        rw [upd_ne npl.symm] at q
        exact q
      refine k p l _ (fun b o e => ?_) np nl2 ⟨ns, 0, 0, 0, z, ⟨upd_same, by rw [upd_ne npl.symm]; exact upd_same, hl⟩, by decide, by decide, by decide, by decide, h0, by omega⟩
      rw [upd_ne (ne_of_none e np), upd_ne (ne_of_none e nl2), upd_ne (ne_of_none e np)]
      exact e
theorem scDraw : FnScope ["_law_pen_here", "_law_many", "_law_cell", "_law_digit", "_law_mixed"] ["_law_pen_here", "_law_many"] (defScope sDraw) := ⟨rfl, rfl, rfl, by decide +kernel, rfl, by decide +kernel, by decide +kernel⟩
theorem ok_draw {f : Addr} {fd : FuncData} (F : Fun K "_law_draw" "_law_draw" sDraw f fd) (T : Bi mg) : FnOk P w K mg base CX0 1 f fd ["_law_pen_here", "_law_many"] spDraw := by
  refine F.ok scDraw (fun vs H Q E h => ?_) (fun cdv A outer s H vs Q E hr h => ?_)
  · obtain ⟨p, l, B, m, rfl, _⟩ := h
    rfl
  · obtain ⟨p, l, B, m, rfl, ⟨ns, a0, d0, c0, f0, hP, hC⟩, hB, hm0, hm1, k⟩ := h
    have hu := hu_of hr
    have small : ∀ {l : Addr} {a d c f : Int}, (penL l a d c f).length < sizeLine := by intros; show 5 < sizeLine; decide
    refine ⟨_, (pss_cons (ps_dput hu (pv 0) pe_str (pe_op op_add (pe_dget hu (pv 0) pe_str (fun _ _ => rfl)) pe_int) rfl)
  (C8.pss_cut (ps_if (PW.pt (pw_and (pt_cmpR op_eq (pe_dget hu (pv 0) pe_str (fun _ _ => rfl)) pe_int (nomark _)) (pw_and1 (pt_cmpR op_lt (pe_dget hu (pv 0) pe_str (fun _ _ => rfl)) (pe_callB call_len_seq (by rfl) T.len (by decide +kernel) (pa_cons (pe_dget hu (pv 0) pe_str (fun _ _ => rfl)) pa_nil)) (nomark _)))))
    (pss_cons (ps_set (i := 2) scDraw.nd rfl (Or.inl rfl) (pe_ix ix_list (pe_dget hu (pv 0) pe_str (fun _ _ => rfl)) (pe_dget hu (pv 0) pe_str (fun _ _ => rfl)) (fun _ _ => rfl)))
    (pss_cons (ps_dput hu (pv 0) pe_str (pe_op op_add (pe_dget hu (pv 0) pe_str (fun _ _ => rfl)) pe_int) rfl)
    (pss_one (ps_if (pt_cmpR op_ge (pv 2) (pe_op op_pow pe_int pe_int) (nomark _))
      (pss_one (ps_dput hu (pv 0) pe_str (pe_op op_sub (pv 2) (pe_op op_pow pe_int pe_int)) rfl))
      (pss_one (ps_dput hu (pv 0) pe_str (pe_op op_mod (pe_callTy call_int1 (by rfl) T.int (by decide +kernel) (pa_cons (pe_op op_add (pe_op op_mul (pe_dget hu (pv 0) pe_str (fun _ _ => rfl)) pe_int) (pv 2)) pa_nil)) pe_int) rfl))))))
    pss_nil)
  (pss_cons (ps_if (pt_cmpR op_gt (pe_dget hu (pv 0) pe_str (fun _ _ => rfl)) pe_int (nomark _))
    (pss_cons (ps_set (i := 3) scDraw.nd rfl (Or.inl rfl) (pe_op op_mod (pe_callTy call_int1 (by rfl) T.int (by decide +kernel) (pa_cons (pe_dget hu (pv 0) pe_str (fun _ _ => rfl)) pa_nil)) (pv 1)))
    (pss_cons (ps_dput hu (pv 0) pe_str (pe_op op_fdiv (pe_dget hu (pv 0) pe_str (fun _ _ => rfl)) (pv 1)) rfl)
    (pss_one (ps_ret (pv 3)))))
    pss_nil)
  (pss_cons (ps_set (i := 4) scDraw.nd rfl (Or.inl rfl) (pe_op op_add (pe_op op_add (pe_dget hu (pv 0) pe_str (fun _ _ => rfl)) (pe_op op_mul (pe_dget hu (pv 0) pe_str (fun _ _ => rfl)) pe_int)) pe_int))
  (pss_one (ps_ret (pe_op op_mod (pe_op op_fdiv (pe_callTy call_int1 (by rfl) T.int (by decide +kernel) (pa_cons (pe_op op_mod (pe_op op_pow (pv 4) pe_int) pe_int) pa_nil)) pe_int) (pv 1)))))))), ?_⟩
    -- count
    refine ⟨_, rfl, p, .int c0, rfl, ?_, _, _, rfl, rfl, _, rfl, p, _, rfl, DPut.k (k := Sum.inr "count") hP.1 small, ?_⟩
    · have q := DGet.k (k := (Sum.inr "count" : Key)) hP.1
      rw [pv4] at q
      exact q
    rw [pp4]
    have hP1 := hP.put (a' := a0) (d' := d0) (c' := c0 + 1) (f' := f0)
    generalize hH1 : upd H p (.dK (penL l a0 d0 (c0 + 1) f0)) = H1 at hP1
    have k1 : Kp p H H1 := by rw [← hH1]; exact kp_upd
    clear hH1
    -- the cut: a pen again
    refine ⟨fun σ H2 => ∃ (v2 : Option V) (a d c f : Int), σ = [some (.ref p), some (.int m), v2, none, none] ∧ PenAt H2 p l ns a d c f ∧ PenC a d c f (B + 1) ∧ Kp p H H2, ?_, ?_⟩
    · have g3 : DGet H1 p (kV (Sum.inr "digits")) (some (.int d0)) := by
        have q := DGet.k (k := (Sum.inr "digits" : Key)) hP1.1
        rw [pv3] at q
        exact q
      have g2 : DGet H1 p (kV (Sum.inr "at")) (some (.int a0)) := by
        have q := DGet.k (k := (Sum.inr "at" : Key)) hP1.1
        rw [pv2] at q
        exact q
      have g1 : DGet H1 p (kV (Sum.inr "cells")) (some (.ref l)) := by
        have q := DGet.k (k := (Sum.inr "cells" : Key)) hP1.1
        rw [pv1] at q
        exact q
      refine ⟨_, rfl, p, _, rfl, g3, rfl, _, rfl, ?_⟩
      have stay : ∃ (v2 : Option V) (a d c f : Int), start ["_law_pen_here", "_law_many", "_law_cell", "_law_digit", "_law_mixed"] [V.ref p, V.int m] = [some (.ref p), some (.int m), v2, none, none] ∧ PenAt H1 p l ns a d c f ∧ PenC a d c f (B + 1) ∧ Kp p H H1 :=
        ⟨none, a0, d0, c0 + 1, f0, rfl, hP1, ⟨hC.a0, hC.d0, by have := hC.c0; omega, by have := hC.cB; omega, hC.f0, hC.f1⟩, k1⟩
      by_cases hd : d0 = 0
      · rw [decide_eq_true (by rw [hd])]
        refine iteT ?_
        refine ⟨_, rfl, p, _, rfl, g2, _, rfl, p, _, rfl, g1, l, _, rfl, .inl (SqL.of hP1.2.1), _, _, rfl, rfl, _, rfl, ?_⟩
        rw [List.length_map]
        by_cases ha : a0 < (ns.length : Int)
        · rw [decide_eq_true ha]
          refine iteT ?_
          have han : a0.toNat < ns.length := by have := hC.a0; omega
          have hat : (ns.map V.int)[a0.toNat]? = some (V.int ns[a0.toNat]) := by
            rw [List.getElem?_map, List.getElem?_eq_getElem han]
            rfl
          generalize ns[a0.toNat] = z at hat
          refine ⟨_, rfl, p, _, rfl, g1, _, rfl, p, _, rfl, g2, l, _, a0, .int z, rfl, rfl, SqL.of hP1.2.1, at_of (j := a0.toNat) (by have := hC.a0; omega) hat, ?_⟩
          refine ⟨_, rfl, p, _, rfl, g2, _, _, rfl, rfl, _, rfl, p, _, rfl, DPut.k (k := Sum.inr "at") hP1.1 small, ?_⟩
          rw [pp2]
          have hP2 := hP1.put (a' := a0 + 1) (d' := d0) (c' := c0 + 1) (f' := f0)
          generalize hH2 : upd H1 p (.dK (penL l (a0 + 1) d0 (c0 + 1) f0)) = H2 at hP2
          have k2 : Kp p H H2 := by rw [← hH2]; exact k1.trans kp_upd
          clear hH2
          refine ⟨_, rfl, _, _, rfl, rfl, ⟨by decide, by decide, by decide⟩, _, _, rfl, rfl, _, rfl, ?_⟩
          refine ite2 (fun hz => ?_) (fun hz => ?_)
          · have hz2 : (10 : Int) ^ (18 : Int).toNat ≤ z := of_decide_eq_true hz
            refine ⟨_, rfl, _, _, rfl, rfl, ⟨by decide, by decide, by decide⟩, _, _, rfl, rfl, _, rfl, p, _, rfl, DPut.k (k := Sum.inr "digits") hP2.1 small, ?_⟩
            rw [pp3]
            exact ⟨_, a0 + 1, _, c0 + 1, f0, rfl, hP2.put, ⟨by have := hC.a0; omega, by omega, by have := hC.c0; omega, by have := hC.cB; omega, hC.f0, hC.f1⟩, k2.trans kp_upd⟩
          · refine ⟨_, rfl, p, .int f0, rfl, ?_, _, _, rfl, rfl, .inl ⟨?_, ?_⟩, _, rfl, _, _, rfl, rfl, .inl ⟨_, rfl, _, _, rfl, rfl, (by show (0 : Int) < 2147483587; decide), _, rfl, p, _, rfl, DPut.k (k := Sum.inr "fold") hP2.1 small, ?_⟩⟩
            · have q := DGet.k (k := (Sum.inr "fold" : Key)) hP2.1
              rw [pv5] at q
              exact q
            · have := hC.f0; omega
            · have := hC.f1; omega
            rw [pp5]
            exact ⟨_, a0 + 1, d0, c0 + 1, _, rfl, hP2.put, ⟨by have := hC.a0; omega, hC.d0, by have := hC.c0; omega, by have := hC.cB; omega, Int.emod_nonneg _ (by decide), Int.emod_lt_of_pos _ (by decide)⟩, k2.trans kp_upd⟩
        · rw [decide_eq_false ha]
          refine iteF ?_
          exact stay
      · rw [decide_eq_false (fun z => hd (by have z2 := V.int.inj z; exact z2))]
        refine iteF ?_
        exact stay
    · rintro σ H2 ⟨v2, a, d, c, f, rfl, hP2, hC2, k2⟩
      have g3 : DGet H2 p (kV (Sum.inr "digits")) (some (.int d)) := by
        have q := DGet.k (k := (Sum.inr "digits" : Key)) hP2.1
        rw [pv3] at q
        exact q
      refine ⟨_, rfl, p, _, rfl, g3, _, _, rfl, rfl, _, rfl, ?_⟩
      refine ite2 (fun hz => ?_) (fun hz => ?_)
      · have hz2 : 0 < d := of_decide_eq_true hz
        refine ⟨_, rfl, p, _, rfl, g3, .inl ⟨_, rfl, _, rfl, _, _, rfl, rfl, hm0, ?_⟩⟩
        refine ⟨_, rfl, p, _, rfl, g3, _, rfl, _, _, rfl, rfl, ⟨hm0, by omega⟩, _, rfl, p, _, rfl, DPut.k (k := Sum.inr "digits") hP2.1 small, ?_⟩
        rw [pp3]
        exact ⟨_, rfl, k _ _ (Int.emod_nonneg _ (by omega)) (Int.emod_lt_of_pos _ hm0) ⟨ns, a, _, c, f, hP2.put, hC2.a0, Int.ediv_nonneg hC2.d0 (by omega), hC2.c0, hC2.cB, hC2.f0, hC2.f1⟩ (k2.trans kp_upd)⟩
      · refine ⟨_, rfl, p, .int f, rfl, ?_, _, rfl, p, .int c, rfl, ?_, _, _, rfl, rfl, .inl ⟨?_, ?_⟩, _, _, rfl, rfl, _, _, rfl, rfl, ?_⟩
        · have q := DGet.k (k := (Sum.inr "fold" : Key)) hP2.1
          rw [pv5] at q
          exact q
        · have q := DGet.k (k := (Sum.inr "count" : Key)) hP2.1
          rw [pv4] at q
          exact q
        · have := hC2.c0; omega
        · have := hC2.cB; omega
        have b1 := hC2.c0
        have b2 := hC2.cB
        have b3 := hC2.f0
        have b4 := hC2.f1
        refine ⟨_, rfl, _, _, rfl, rfl, ⟨by decide, by decide, ?_⟩, _, _, rfl, rfl, (by show (0 : Int) < 2305843009213693951; decide), .inl ⟨_, rfl, _, _, rfl, rfl, ⟨by decide, by decide⟩, _, rfl, _, _, rfl, rfl, hm0, ?_⟩⟩
        · show (f + c * 7907 + 43).natAbs < 2 ^ 64
          omega
        exact k _ _ (Int.emod_nonneg _ (by omega)) (Int.emod_lt_of_pos _ hm0) ⟨ns, a, d, c, f, hP2, hC2⟩ k2
theorem scPick : FnScope ["_law_pen_here", "_law_some"] ["_law_pen_here", "_law_some"] (defScope sPick) := ⟨rfl, rfl, rfl, by decide +kernel, rfl, by decide +kernel, by decide +kernel⟩
theorem ok_pick {f : Addr} {fd : FuncData} (F : Fun K "_law_pick" "_law_pick" sPick f fd) (T : Bi mg) (G : Df P w K mg base "_law_draw" 1 ["_law_pen_here", "_law_many"] spDraw) : FnOk P w K mg base CX0 2 f fd ["_law_pen_here", "_law_some"] spPick := by
  refine F.ok scPick (fun vs H Q E h => ?_) (fun cdv A outer s H vs Q E hr h => ?_)
  · obtain ⟨p, l, s, B, xs, rfl, _⟩ := h
    rfl
  · obtain ⟨p, l, s, B, xs, rfl, hP, hB, hs, hne, h0, h1, k⟩ := h
    refine ⟨_, (pss_one (ps_ret (pe_ix ix_list (pv 1) (pe_call G.ok hr rfl G.m G.kp G.b .nil pass0 (pa_cons (pv 0) (pa_cons (pe_callB call_len_seq (by rfl) T.len (by decide +kernel) (pa_cons (pv 1) pa_nil)) pa_nil))) (fun _ _ => rfl)))), ?_⟩
    refine ⟨_, rfl, _, rfl, _, rfl, s, _, rfl, .inl (SqL.of hs), p, l, B, _, rfl, hP, hB, by omega, by omega, fun z H' z0 z1 hP' kp => ?_⟩
    have hzn : z.toNat < xs.length := by omega
    exact ⟨s, xs, z, xs[z.toNat], rfl, rfl, SqL.of (kp _ _ hne hs), at_of (j := z.toNat) (by omega) (List.getElem?_eq_getElem hzn), k _ _ (List.getElem_mem hzn) hP' kp⟩
end

end Vf

set_option maxRecDepth 100000
set_option maxHeartbeats 8000000
namespace Vf
open PySem PySem.Spec PyProof.Rows L2
/-! ### the errors' own __init__ -/
def fl (names : List Str) (xs : List V) : List (Str × V) := (names.zip xs).reverse
/-- self.f = f, for each of the names -/
def spIni (C : Addr) (names : List Str) : Sp := fun vs H Q _ => ∃ (a : Addr) (xs : List V), vs = .ref a :: xs ∧ xs.length = names.length ∧ H a = some (exo a C none) ∧
  ∀ (d : Addr) (H' : Hp), H d = none → d ≠ a → H' a = some (exo a C (some d)) → H' d = some (exd d (fl names xs)) → (∀ b o, b ≠ a → H b = some o → H' b = some o) → Q .non H'
theorem keep2 {H : Hp} {a d : Addr} {o u : HO} (n : H d = none) : ∀ b z, b ≠ a → H b = some z → upd (upd H d o) a u b = some z := fun b z h e => by
  rw [upd_ne h, upd_ne (ne_of_none e n)]
  exact e
theorem keep3 {H1 H : Hp} {a d : Addr} {u : HO} (n : H d = none) (k : ∀ b z, b ≠ a → H b = some z → H1 b = some z) : ∀ b z, b ≠ a → H b = some z → upd H1 d u b = some z := fun b z h e => by
  rw [upd_ne (ne_of_none e n)]
  exact k b z h e
section
variable {P : Program} {w : World} {K : PySem.W.Frag} {mg : Str → Option Value} {base : Heap}
theorem scBadText : FnScope ["self", "column"] ["self", "column"] (defScope (inClass (topS 7) 0)) := ⟨rfl, rfl, rfl, by decide +kernel, rfl, by decide +kernel, by decide +kernel⟩
theorem iniBadText {f C : Addr} {fd : FuncData} (F : Fun K "__init__" "BadText.__init__" (inClass (topS 7) 0) f fd) (T : OexC K C) (n1 : PySem.W.findIn K (.ref C) "column" = some none) :
    FnOk P w K mg base CX0 1 f fd ["self", "column"] (spIni C ["column"]) := by
  refine F.ok scBadText (fun vs H Q E h => ?_) (fun cdv A outer s H vs Q E hr h => ?_)
  · obtain ⟨a, xs, rfl, hl, _⟩ := h
    rw [List.length_cons, hl]
    all_goals rfl
  · obtain ⟨a, xs, rfl, hl, ha, k⟩ := h
    match xs, hl with
    | [v1], _ =>
    refine ⟨_, (pss_one (ps_ost (pv 0) (pv 1))), ?_⟩
    refine ⟨_, rfl, _, rfl, a, C, rfl, T, n1, .inl ⟨ha, fun d nd ne => ?_⟩⟩
    exact k d _ nd ne upd_same (by rw [upd_ne ne]; exact upd_same) (keep2 nd)
theorem scBadNumber : FnScope ["self", "what", "number"] ["self", "what", "number"] (defScope (inClass (topS 8) 0)) := ⟨rfl, rfl, rfl, by decide +kernel, rfl, by decide +kernel, by decide +kernel⟩
theorem iniBadNumber {f C : Addr} {fd : FuncData} (F : Fun K "__init__" "BadNumber.__init__" (inClass (topS 8) 0) f fd) (T : OexC K C) (n1 : PySem.W.findIn K (.ref C) "what" = some none) (n2 : PySem.W.findIn K (.ref C) "number" = some none) :
    FnOk P w K mg base CX0 1 f fd ["self", "what", "number"] (spIni C ["what", "number"]) := by
  refine F.ok scBadNumber (fun vs H Q E h => ?_) (fun cdv A outer s H vs Q E hr h => ?_)
  · obtain ⟨a, xs, rfl, hl, _⟩ := h
    rw [List.length_cons, hl]
    all_goals rfl
  · obtain ⟨a, xs, rfl, hl, ha, k⟩ := h
    match xs, hl with
    | [v1, v2], _ =>
    refine ⟨_, (pss_cons (ps_ost (pv 0) (pv 1)) (pss_one (ps_ost (pv 0) (pv 2)))), ?_⟩
    refine ⟨_, rfl, _, rfl, a, C, rfl, T, n1, .inl ⟨ha, fun d nd ne => ?_⟩⟩
    have e1 : (upd (upd H d (exd d [("what", v1)])) a (exo a C (some d))) a = some (exo a C (some d)) := upd_same
    have e2 : (upd (upd H d (exd d [("what", v1)])) a (exo a C (some d))) d = some (exd d [("what", v1)]) := by rw [upd_ne ne]; exact upd_same
    have e3 := keep2 (H := H) (a := a) (d := d) (o := exd d [("what", v1)]) (u := exo a C (some d)) nd
    generalize upd (upd H d (exd d [("what", v1)])) a (exo a C (some d)) = H1 at e1 e2 e3
    refine ⟨_, rfl, _, rfl, a, C, rfl, T, n2, .inr ⟨d, _, e1, e2, (by show 1 ≤ 900; decide), ?_⟩⟩
    exact k d _ nd ne (by rw [upd_ne ne.symm]; exact e1) upd_same (keep3 nd e3)
theorem scBadRow : FnScope ["self", "row"] ["self", "row"] (defScope (inClass (topS 9) 0)) := ⟨rfl, rfl, rfl, by decide +kernel, rfl, by decide +kernel, by decide +kernel⟩
theorem iniBadRow {f C : Addr} {fd : FuncData} (F : Fun K "__init__" "BadRow.__init__" (inClass (topS 9) 0) f fd) (T : OexC K C) (n1 : PySem.W.findIn K (.ref C) "row" = some none) :
    FnOk P w K mg base CX0 1 f fd ["self", "row"] (spIni C ["row"]) := by
  refine F.ok scBadRow (fun vs H Q E h => ?_) (fun cdv A outer s H vs Q E hr h => ?_)
  · obtain ⟨a, xs, rfl, hl, _⟩ := h
    rw [List.length_cons, hl]
    all_goals rfl
  · obtain ⟨a, xs, rfl, hl, ha, k⟩ := h
    match xs, hl with
    | [v1], _ =>
    refine ⟨_, (pss_one (ps_ost (pv 0) (pv 1))), ?_⟩
    refine ⟨_, rfl, _, rfl, a, C, rfl, T, n1, .inl ⟨ha, fun d nd ne => ?_⟩⟩
    exact k d _ nd ne upd_same (by rw [upd_ne ne]; exact upd_same) (keep2 nd)
end
/-! ### ratios: the program's own defs -/
def tyD : PyData → String
  | .none => "NoneType"
  | .bool _ => "bool"
  | .int _ => "int"
  | .str _ => "str"
  | .list _ => "list"
  | .tuple _ => "tuple"
  | .dict _ => "dict"
theorem Dt.ty {K : PySem.W.Frag} {H : Hp} {v : V} {d : PyData} (h : Dt K H v d) : TyX K H v (.type (tyD d)) := by
  cases h with
  | non => exact .base .non
  | bl b => exact .base (.bl b)
  | int i => exact .base (.int i)
  | str x => exact .base (.str x)
  | lst h1 _ =>
    rcases h1 with (h1 | ⟨o, h1⟩) | ⟨o, _, _, h1, h2, _⟩
    · exact .base (.lst h1)
    · exact .base (.frz h1)
    · exact .kList h1 h2
  | tup h1 _ =>
    rcases h1 with (h1 | ⟨o, h1⟩) | ⟨o, _, _, h1, h2, _⟩
    · exact .base (.tup h1)
    · exact .fTuple h1
    · exact .kTuple h1 h2
  | dct h1 _ => exact .base (.dK h1)
def intD : PyData → Bool
  | .int _ => true
  | .bool _ => true
  | _ => false
def boolD : PyData → Bool
  | .bool _ => true
  | _ => false
def wholeD : PyData → Bool
  | .int _ => true
  | _ => false
theorem kit_int {K : PySem.W.Frag} (d : PyData) : PySem.W.kitOne K (.type (tyD d)) (.type "int") = some (intD d) := by
  cases d with
  | none => exact kit_ty (show kitB "NoneType" "int" = some false by decide +kernel)
  | bool _ => exact kit_ty (show kitB "bool" "int" = some true by decide +kernel)
  | int _ => exact kit_ty (show kitB "int" "int" = some true by decide +kernel)
  | str _ => exact kit_ty (show kitB "str" "int" = some false by decide +kernel)
  | list _ => exact kit_ty (show kitB "list" "int" = some false by decide +kernel)
  | tuple _ => exact kit_ty (show kitB "tuple" "int" = some false by decide +kernel)
  | dict _ => exact kit_ty (show kitB "dict" "int" = some false by decide +kernel)
theorem kit_bool {K : PySem.W.Frag} (d : PyData) : PySem.W.kitOne K (.type (tyD d)) (.type "bool") = some (boolD d) := by
  cases d with
  | none => exact kit_ty (show kitB "NoneType" "bool" = some false by decide +kernel)
  | bool _ => exact kit_ty (show kitB "bool" "bool" = some true by decide +kernel)
  | int _ => exact kit_ty (show kitB "int" "bool" = some false by decide +kernel)
  | str _ => exact kit_ty (show kitB "str" "bool" = some false by decide +kernel)
  | list _ => exact kit_ty (show kitB "list" "bool" = some false by decide +kernel)
  | tuple _ => exact kit_ty (show kitB "tuple" "bool" = some false by decide +kernel)
  | dict _ => exact kit_ty (show kitB "dict" "bool" = some false by decide +kernel)
/-- a ratio's top and bottom, as it is passed -/
def pair? : List PyData → Option (Int × Int)
  | [.int a, .int b] => if 0 < b then some (a, b) else none
  | _ => none
def partsD : PyData → Option (Int × Int)
  | .int i => some (i, 1)
  | .list ds => pair? ds
  | .tuple ds => pair? ds
  | _ => none
def seqD : PyData → Option (List PyData)
  | .list ds => some ds
  | .tuple ds => some ds
  | _ => none
theorem kit_seq {K : PySem.W.Frag} (d : PyData) : PySem.W.kitAny K (.type (tyD d)) [.type "tuple", .type "list"] = some (seqD d).isSome := by
  have two : ∀ {a b : Bool} {t : String}, kitB t "tuple" = some a → kitB t "list" = some b → PySem.W.kitAny K (.type t) [.type "tuple", .type "list"] = some (a || b) := fun {a b t} h1 h2 =>
    kitAny_cons (kit_ty h1) (fun e => by rw [e, Bool.false_or]; exact kitAny_cons (kit_ty h2) (fun e2 => by rw [e2]; exact kitAny_nil) (fun e2 => e2)) (fun e => by rw [e, Bool.true_or])
  cases d with
  | none => exact two (a := false) (b := false) (show kitB "NoneType" "tuple" = some false by decide +kernel) (show kitB "NoneType" "list" = some false by decide +kernel)
  | bool _ => exact two (a := false) (b := false) (show kitB "bool" "tuple" = some false by decide +kernel) (show kitB "bool" "list" = some false by decide +kernel)
  | int _ => exact two (a := false) (b := false) (show kitB "int" "tuple" = some false by decide +kernel) (show kitB "int" "list" = some false by decide +kernel)
  | str _ => exact two (a := false) (b := false) (show kitB "str" "tuple" = some false by decide +kernel) (show kitB "str" "list" = some false by decide +kernel)
  | list _ => exact two (a := false) (b := true) (show kitB "list" "tuple" = some false by decide +kernel) (show kitB "list" "list" = some true by decide +kernel)
  | tuple _ => exact two (a := true) (b := false) (show kitB "tuple" "tuple" = some true by decide +kernel) (show kitB "tuple" "list" = some false by decide +kernel)
  | dict _ => exact two (a := false) (b := false) (show kitB "dict" "tuple" = some false by decide +kernel) (show kitB "dict" "list" = some false by decide +kernel)
/-- built-in names that the text leaves alone, and gcd -/
structure Bk (mg : Str → Option Value) : Prop extends Bi mg where
  isinstance : mg "isinstance" = none
  bool : mg "bool" = none
  tuple : mg "tuple" = none
  abs : mg "abs" = none
  str : mg "str" = none
  gcd : mg "gcd" = some (.builtin "math.gcd")
/-- an error class with one __init__ of its own, as it is raised -/
structure Ex (P : Program) (w : World) (K : PySem.W.Frag) (mg : Str → Option Value) (base : Heap) (x : Str) (C : Addr) (names : List Str) where
  ox : OexC K C
  f : Addr
  fd : FuncData
  m : mg x = some (.ref C)
  iC : PySem.W.findIn K (.ref C) "__init__" = some (some (.ref f))
  tI : PySem.W.typeIn K (.ref f) = some (.type "function")
  b : Binds K fd ("self" :: names) []
  ok : FnOk P w K mg base CX0 1 f fd ("self" :: names) (spIni C names)
/-- a def of the text that may raise -/
structure Dx (P : Program) (w : World) (K : PySem.W.Frag) (mg : Str → Option Value) (base : Heap) (x : Str) (k : Nat) (ps : List Str) (sp : Sp) where
  f : Addr
  fd : FuncData
  m : mg x = some (.ref f)
  kp : PySem.W.keepIn K (.ref f) = true
  b : Binds K fd ps []
  ok : FnOk P w K mg base (L2.CX P w) k f fd ps sp
/-- what raise X(e, ..) leaves -/
theorem raise_end {C : Addr} {names : List Str} {H1 : Hp} {vs : List V} {W : XK} (hl : vs.length = names.length) (h : ∀ d H', Same H1 H' → H1 d = none → H' d = some (.xd (fl names vs)) → W (.ref C) (some d) H') :
    ∀ a, H1 a = none → spIni C names (.ref a :: (vs ++ [])) (upd H1 a (exo a C none)) (fun v H2 => v = .non ∧ ∃ (d : Addr) (fs : List (Str × V)), H2 a = some (exo a C (some d)) ∧ H2 d = some (exd d fs) ∧ H1 d = none ∧ W (.ref C) (some d) (upd (del H2 a) d (.xd fs))) (fun _ _ _ => False) := fun a na => by
  refine ⟨a, vs, by rw [List.append_nil], hl, upd_same, fun d H' nd ne ea ed k => ⟨rfl, d, fl names vs, ea, ed, ?_, ?_⟩⟩
  · rw [upd_ne ne] at nd
    exact nd
  · rw [upd_ne ne] at nd
    refine h d _ (fun b o e => ?_) nd upd_same
    have n1 := ne_of_none e na
    rw [upd_ne (ne_of_none e nd), del_ne n1]
    exact k b o n1 (by rw [upd_ne n1]; exact e)

def spWhole (K : PySem.W.Frag) : Sp := fun vs H Q _ => ∃ (v : V) (d : PyData), vs = [v] ∧ Dt K H v d ∧ Q (.bl (wholeD d)) H
def spIsRatio (K : PySem.W.Frag) : Sp := fun vs H Q _ => ∃ (v : V) (d : PyData), vs = [v] ∧ Dt K H v d ∧ ∀ H', Same H H' → Q (.bl (partsD d).isSome) H'
def big : Nat := 4000
def spLow : Sp := fun vs H Q _ => ∃ t b : Int, vs = [.int t, .int b] ∧ b ≠ 0 ∧ b.natAbs < 2 ^ big ∧ ∀ (p : Addr) (H' : Hp), Same H H' → H p = none → H' p = some (.tup [.int (low t b).1, .int (low t b).2]) → Q (.ref p) H'
/-- an error of BadNumber -/
def RaisesN (CN : Addr) (H : Hp) (wv v : V) (E : XK) : Prop := ∀ (d : Addr) (H' : Hp), Same H H' → H d = none → H' d = some (.xd (fl ["what", "number"] [wv, v])) → E (.ref CN) (some d) H'
theorem RaisesN.same {CN : Addr} {H H1 : Hp} {wv v : V} {E : XK} (s : Same H H1) (h : RaisesN CN H wv v E) : RaisesN CN H1 wv v E := fun d H' s' n e => h d H' (s.trans s') (s.free n) e
def spParts (K : PySem.W.Frag) (CN : Addr) : Sp := fun vs H Q E => ∃ (v wv : V) (d : PyData), vs = [v, wv] ∧ Dt K H v d ∧
  (∀ t b, partsD d = some (t, b) → ∀ (p : Addr) (H' : Hp), Same H H' → H' p = some (.tup [.int t, .int b]) → Q (.ref p) H') ∧ (partsD d = none → RaisesN CN H wv v E)
def spTold (K : PySem.W.Frag) (CN : Addr) : Sp := fun vs H Q E => ∃ (v wv : V) (d : PyData), vs = [v, wv] ∧ Dt K H v d ∧
  (∀ t b, partsD d = some (t, b) → b.natAbs < 2 ^ big ∧ ∀ (p : Addr) (H' : Hp), Same H H' → H' p = some (.tup [.int (low t b).1, .int (low t b).2]) → Q (.ref p) H') ∧ (partsD d = none → RaisesN CN H wv v E)
theorem pair_pos {ds : List PyData} {t b : Int} (h : pair? ds = some (t, b)) : ds = [.int t, .int b] ∧ 0 < b := by
  unfold pair? at h
  split at h
  · split at h
    · rename_i hb
      cases h
      exact ⟨rfl, hb⟩
    · cases h
  · cases h
theorem parts_pos {d : PyData} {t b : Int} (h : partsD d = some (t, b)) : 0 < b := by
  unfold partsD at h
  split at h
  · cases h
    decide
  · exact (pair_pos h).2
  · exact (pair_pos h).2
  · cases h
section
variable {P : Program} {w : World} {K : PySem.W.Frag} {mg : Str → Option Value} {base : Heap} {CN : Addr}
abbrev sIsWhole : Stmt := topS 11
abbrev sIsRatio : Stmt := topS 12
abbrev sLowest : Stmt := topS 14
abbrev sParts : Stmt := topS 15
abbrev sTold : Stmt := topS 16
theorem scIsWhole : FnScope ["value"] ["value"] (defScope sIsWhole) := ⟨rfl, rfl, rfl, by decide +kernel, rfl, by decide +kernel, by decide +kernel⟩
theorem ok_is_whole {f : Addr} {fd : FuncData} (F : Fun K "is_whole" "is_whole" sIsWhole f fd) (T : Bk mg) : FnOk P w K mg base CX0 1 f fd ["value"] (spWhole K) := by
  refine F.ok scIsWhole (fun vs H Q E h => ?_) (fun cdv A outer s H vs Q E hr h => ?_)
  · obtain ⟨v, d, rfl, _⟩ := h
    rfl
  · obtain ⟨v, d, rfl, hd, q⟩ := h
    refine ⟨_, (pss_one (ps_ret (pe_and (pe_callB call_isi (by rfl) T.isinstance (by decide +kernel) (pa_cons (pv 0) (pa_cons (pe_bltn (v := V.ty "int") (by rfl) T.int (by decide +kernel) rfl) pa_nil)))
      (pe_one (pe_not (pe_callB call_isi (by rfl) T.isinstance (by decide +kernel) (pa_cons (pv 0) (pa_cons (pe_bltn (v := V.ty "bool") (by rfl) T.bool (by decide +kernel) rfl) pa_nil)))))))), ?_⟩
    refine ⟨_, rfl, v, .ty "int", _, .type "int", _, rfl, .ty _, hd.ty, kit_int d, _, rfl, ?_⟩
    cases hi : intD d with
    | false =>
      refine iteF ?_
      have e : wholeD d = false := by cases d <;> first | rfl | (exact absurd hi (fun z => by cases z))
      rw [e] at q
      exact q
    | true =>
      refine iteT ?_
      refine ⟨_, rfl, v, .ty "bool", _, .type "bool", _, rfl, .ty _, hd.ty, kit_bool d, _, rfl, ?_⟩
      have e : wholeD d = !boolD d := by cases d <;> first | rfl | (exact absurd hi (fun z => by cases z))
      rw [e] at q
      exact q
theorem dts2 {H : Hp} {vs : List V} {a b : PyData} (h : Dts K H vs [a, b]) : ∃ x y, vs = [x, y] ∧ Dt K H x a ∧ Dt K H y b := by
  cases h with
  | cons h1 h2 =>
    cases h2 with
    | cons h3 h4 =>
      cases h4
      exact ⟨_, _, rfl, h1, h3⟩
/-- an item of a list or tuple -/
theorem seq_at {H : Hp} {a : Addr} {xs : List V} {Q : V → Hp → Prop} {z : Int} {x : V} (h : SqL K H a xs ∨ SqT K H a xs) (e : atI xs z = some x) (q : Q x H) : rIx K (.ref a) (.int z) H Q := by
  rcases h with h | h
  · exact .inl ⟨a, xs, z, x, rfl, rfl, h, e, q⟩
  · exact .inr (.inl ⟨a, xs, z, x, rfl, rfl, h, e, q⟩)
theorem Dt.seq {H : Hp} {v : V} {d : PyData} {ds : List PyData} (h : Dt K H v d) (e : seqD d = some ds) : ∃ a vs, v = .ref a ∧ (SqL K H a vs ∨ SqT K H a vs) ∧ Dts K H vs ds := by
  cases h with
  | lst h1 h2 =>
    cases e
    exact ⟨_, _, rfl, .inl h1, h2⟩
  | tup h1 h2 =>
    cases e
    exact ⟨_, _, rfl, .inr h1, h2⟩
  | _ => cases e
theorem seq_same {H H' : Hp} {a : Addr} {vs : List V} (s : Same H H') (h : SqL K H a vs ∨ SqT K H a vs) : SqL K H' a vs ∨ SqT K H' a vs := h.imp (same_sqL s) (same_sqT s)
theorem scIsRatio : FnScope ["value"] ["value"] (defScope sIsRatio) := ⟨rfl, rfl, rfl, by decide +kernel, rfl, by decide +kernel, by decide +kernel⟩
theorem ok_is_ratio {f : Addr} {fd : FuncData} (F : Fun K "is_ratio" "is_ratio" sIsRatio f fd) (T : Bk mg) (Gw : Df P w K mg base "is_whole" 1 ["value"] (spWhole K)) : FnOk P w K mg base CX0 2 f fd ["value"] (spIsRatio K) := by
  refine F.ok scIsRatio (fun vs H Q E h => ?_) (fun cdv A outer s H vs Q E hr h => ?_)
  · obtain ⟨v, d, rfl, _⟩ := h
    rfl
  · obtain ⟨v, d, rfl, hd, q⟩ := h
    refine ⟨_, (pss_cons (ps_if (pt_val (pe_callB call_isiT (by rfl) T.isinstance (by decide +kernel) (pa_cons (pv 0) (pa_cons (pe_tup (pa_cons (pe_bltn (v := V.ty "tuple") (by rfl) T.tuple (by decide +kernel) rfl) (pa_cons (pe_bltn (v := V.ty "list") (by rfl) T.list (by decide +kernel) rfl) pa_nil))) pa_nil))))
      (pss_one (ps_ret (pe_and (pe_cmpR op_eq (pe_callB call_len_seq (by rfl) T.len (by decide +kernel) (pa_cons (pv 0) pa_nil)) pe_int (nomark _)) (pe_and (pe_call Gw.ok hr rfl Gw.m Gw.kp Gw.b .nil pass0 (pa_cons (pe_ix ix_seq (pv 0) pe_int (fun _ _ => rfl)) pa_nil)) (pe_and (pe_call Gw.ok hr rfl Gw.m Gw.kp Gw.b .nil pass0 (pa_cons (pe_ix ix_seq (pv 0) pe_int (fun _ _ => rfl)) pa_nil)) (pe_one (pe_cmpR op_gt (pe_ix ix_seq (pv 0) pe_int (fun _ _ => rfl)) pe_int (nomark _))))))))
      pss_nil)
      (pss_one (ps_ret (pe_call Gw.ok hr rfl Gw.m Gw.kp Gw.b .nil pass0 (pa_cons (pv 0) pa_nil))))), ?_⟩
    refine ⟨_, rfl, (by show 2 ≤ sizeLine; decide), fun tp ntp => ?_⟩
    have s1 : Same H (upd H tp (HO.tup [V.ty "tuple", V.ty "list"])) := same_upd ntp
    have e1 : upd H tp (HO.tup [V.ty "tuple", V.ty "list"]) tp = some (HO.tup [V.ty "tuple", V.ty "list"]) := upd_same
    generalize upd H tp (HO.tup [V.ty "tuple", V.ty "list"]) = H1 at s1 e1 ⊢
    have hd1 := hd.mono s1
    have q1 := q H1 s1
    refine ⟨v, tp, _, _, [.type "tuple", .type "list"], _, rfl, e1, .cons (.ty _) (.cons (.ty _) .nil), hd1.ty, kit_seq d, _, rfl, ?_⟩
    cases hs : seqD d with
    | none =>
      refine iteF ?_
      refine ⟨_, rfl, v, d, rfl, hd1, ?_⟩
      have e : (partsD d).isSome = wholeD d := by cases d <;> first | rfl | cases hs
      rw [e] at q1
      exact q1
    | some ds =>
      refine iteT ?_
      have ep : partsD d = pair? ds := by cases d <;> first | (cases hs; rfl) | cases hs
      rw [ep] at q1
      obtain ⟨a, vs, rfl, hsq, hds⟩ := hd1.seq hs
      refine ⟨_, rfl, a, vs, rfl, hsq, rfl, _, rfl, ?_⟩
      by_cases hl : vs.length = 2
      · rw [decide_eq_true (by rw [hl]; rfl)]
        refine iteT ?_
        have hl2 : ds.length = 2 := by rw [← hds.len]; exact hl
        match ds, hl2 with
        | [d0, d1], _ =>
        obtain ⟨x, y, rfl, hx, hy⟩ := dts2 hds
        refine ⟨_, rfl, seq_at hsq (at_of (j := 0) rfl rfl) ?_⟩
        refine ⟨x, d0, rfl, hx, _, rfl, ?_⟩
        cases h0 : wholeD d0 with
        | false =>
          refine iteF ?_
          have e : pair? [d0, d1] = none := by cases d0 <;> first | rfl | (cases h0)
          rw [e] at q1
          exact q1
        | true =>
          refine iteT ?_
          refine ⟨_, rfl, seq_at hsq (at_of (j := 1) rfl rfl) ?_⟩
          refine ⟨y, d1, rfl, hy, _, rfl, ?_⟩
          cases h1 : wholeD d1 with
          | false =>
            refine iteF ?_
            have e : pair? [d0, d1] = none := by cases d0 <;> cases d1 <;> first | rfl | (cases h1) | (cases h0)
            rw [e] at q1
            exact q1
          | true =>
            refine iteT ?_
            obtain ⟨i, rfl⟩ : ∃ i, d0 = .int i := by cases d0 <;> first | exact ⟨_, rfl⟩ | cases h0
            obtain ⟨j, rfl⟩ : ∃ j, d1 = .int j := by cases d1 <;> first | exact ⟨_, rfl⟩ | cases h1
            cases hy
            refine ⟨_, rfl, seq_at hsq (at_of (j := 1) rfl rfl) ?_⟩
            refine ⟨_, _, rfl, rfl, ?_⟩
            have e : (pair? [PyData.int i, PyData.int j]).isSome = decide (0 < j) := by
              show (if 0 < j then some (i, j) else none).isSome = decide (0 < j)
              by_cases hj : 0 < j
              · rw [if_pos hj, decide_eq_true hj]; rfl
              · rw [if_neg hj, decide_eq_false hj]; rfl
            rw [e] at q1
            exact q1
      · rw [decide_eq_false (fun z => hl (by have z2 := V.int.inj z; omega))]
        refine iteF ?_
        have e : pair? ds = none := by
          cases hp : pair? ds with
          | none => rfl
          | some tb =>
            obtain ⟨t, b⟩ := tb
            have z := (pair_pos hp).1
            rw [hds.len, z] at hl
            exact absurd rfl hl
        rw [e] at q1
        exact q1
theorem scLowest : FnScope ["top", "bottom", "shared"] ["top", "bottom"] (defScope sLowest) := ⟨rfl, rfl, rfl, by decide +kernel, rfl, by decide +kernel, by decide +kernel⟩
theorem log_of {z : Int} {k : Nat} (hk : 0 < k) (h : z.natAbs < 2 ^ k) : z.natAbs.log2 < k := PySem.Flt.log2_lt_of hk h
theorem sg_cdiv {t b x : Int} (h : b ≠ 0) (hb : b.natAbs < 2 ^ big) : CDivZ x (sg t b) :=
  ⟨sg_ne h, Nat.lt_trans (log_of (k := big) (by decide) (Nat.lt_of_le_of_lt (sg_size h) hb)) (by decide)⟩
theorem ok_lowest {f : Addr} {fd : FuncData} (F : Fun K "lowest" "lowest" sLowest f fd) (T : Bk mg) : FnOk P w K mg base CX0 1 f fd ["top", "bottom"] spLow := by
  refine F.ok scLowest (fun vs H Q E h => ?_) (fun cdv A outer s H vs Q E hr h => ?_)
  · obtain ⟨t, b, rfl, _⟩ := h
    rfl
  · obtain ⟨t, b, rfl, hb, hz, q⟩ := h
    refine ⟨_, (pss_cons (ps_set (i := 2) scLowest.nd rfl (Or.inl rfl) (pe_callBfun cr_gcd (by rfl) T.gcd (pa_cons (pv 0) (pa_cons (pv 1) pa_nil))))
      (C8.pss_cut (ps_if (pt_cmpR op_lt (pv 1) pe_int (nomark _)) (pss_one (ps_set (i := 2) scLowest.nd rfl (Or.inl rfl) (pe_un un_neg (pv 2)))) pss_nil)
      (pss_one (ps_ret (pe_tup (pa_cons (pe_op op_fdivZ (pv 0) (pv 2)) (pa_cons (pe_op op_fdivZ (pv 1) (pv 2)) pa_nil))))))), ?_⟩
    refine ⟨_, rfl, _, rfl, t, b, rfl, fun σ H2 => H2 = H ∧ σ = [some (.int t), some (.int b), some (.int (sg t b))], ?_, ?_⟩
    · refine ⟨_, rfl, _, _, rfl, rfl, _, rfl, ?_⟩
      refine ite2 (fun hlt => ?_) (fun hlt => ?_)
      · have h2 : b < 0 := of_decide_eq_true hlt
        refine ⟨_, rfl, _, rfl, rfl, ?_⟩
        unfold sg
        rw [if_pos h2]
        rfl
      · have h2 : ¬ b < 0 := fun z => hlt (decide_eq_true z)
        refine ⟨rfl, ?_⟩
        unfold sg
        rw [if_neg h2]
        rfl
    · rintro σ H2 ⟨rfl, rfl⟩
      refine ⟨_, rfl, _, rfl, _, _, rfl, rfl, sg_cdiv hb hz, _, rfl, _, rfl, _, _, rfl, rfl, sg_cdiv hb hz, (by show 2 ≤ sizeLine; decide), fun p np => ?_⟩
      exact q p _ (same_upd np) np upd_same
theorem scParts : FnScope ["value", "what"] ["value", "what"] (defScope sParts) := ⟨rfl, rfl, rfl, by decide +kernel, rfl, by decide +kernel, by decide +kernel⟩
theorem ok_parts {f : Addr} {fd : FuncData} (F : Fun K "parts_of" "parts_of" sParts f fd) (T : Bk mg) (Gr : Df P w K mg base "is_ratio" 2 ["value"] (spIsRatio K)) (N : Ex P w K mg base "BadNumber" CN ["what", "number"]) :
    FnOk P w K mg base (L2.CX P w) 3 f fd ["value", "what"] (spParts K CN) := by
  refine F.okX scParts (fun vs H Q E h => ?_) (fun cdv A outer s H vs Q E hr h => ?_)
  · obtain ⟨v, wv, d, rfl, _⟩ := h
    rfl
  · obtain ⟨v, wv, d, rfl, hd, q, e⟩ := h
    refine ⟨_, (pss_cons (ps_if (pt_not (pt_val (pe_call Gr.ok hr rfl Gr.m Gr.kp Gr.b .nil pass0 (pa_cons (pv 0) pa_nil))))
        (pss_one (ps_raise rfl (takes_of rfl rfl rfl rfl) (pmk_oex N.ox N.iC N.tI N.ok hr N.b .nil pass0 (by rfl) N.m (pa_cons (pv 1) (pa_cons (pv 0) pa_nil)))))
        pss_nil)
      (pss_cons (ps_if (pt_val (pe_callB call_isi (by rfl) T.isinstance (by decide +kernel) (pa_cons (pv 0) (pa_cons (pe_bltn (v := V.ty "int") (by rfl) T.int (by decide +kernel) rfl) pa_nil))))
        (pss_one (ps_ret (pe_tup (pa_cons (pv 0) (pa_cons pe_int pa_nil)))))
        pss_nil)
      (pss_one (ps_ret (pe_tup (pa_cons (pe_ix ix_seq (pv 0) pe_int (fun _ _ => rfl)) (pa_cons (pe_ix ix_seq (pv 0) pe_int (fun _ _ => rfl)) pa_nil))))))), ?_⟩
    refine ⟨_, rfl, v, d, rfl, hd, fun H1 s1 => ⟨_, rfl, ?_⟩⟩
    have hd1 := hd.mono s1
    cases hp : partsD d with
    | none =>
      refine iteT ?_
      refine ⟨_, rfl, _, rfl, (by show 2 ≤ 1000; decide), ?_⟩
      exact raise_end rfl fun dd H' s2 n e2 => (e hp).same s1 dd H' s2 n e2
    | some tb =>
      obtain ⟨t, b⟩ := tb
      refine iteF ?_
      refine ⟨_, rfl, v, .ty "int", _, .type "int", _, rfl, .ty _, hd1.ty, kit_int d, _, rfl, ?_⟩
      cases hs : seqD d with
      | none =>
        obtain ⟨i, rfl⟩ : ∃ i, d = .int i := by cases d <;> first | exact ⟨_, rfl⟩ | cases hp | cases hs
        cases hp
        cases hd1
        refine iteT ?_
        refine ⟨_, rfl, (by show 2 ≤ sizeLine; decide), fun p np => ?_⟩
        exact q _ _ rfl p _ (s1.trans (same_upd np)) upd_same
      | some ds =>
        have hi : intD d = false := by cases d <;> first | rfl | cases hs
        rw [hi]
        refine iteF ?_
        have ep : partsD d = pair? ds := by cases d <;> first | (cases hs; rfl) | cases hs
        have hp2 := hp
        rw [ep] at hp2
        obtain ⟨rfl, hb⟩ := pair_pos hp2
        obtain ⟨a, vs, rfl, hsq, hds⟩ := hd1.seq hs
        obtain ⟨x, y, rfl, hx, hy⟩ := dts2 hds
        cases hx
        cases hy
        refine ⟨_, rfl, seq_at hsq (at_of (j := 0) rfl rfl) ?_⟩
        refine ⟨_, rfl, seq_at hsq (at_of (j := 1) rfl rfl) ?_⟩
        refine ⟨(by show 2 ≤ sizeLine; decide), fun p np => ?_⟩
        exact q _ _ hp p _ (s1.trans (same_upd np)) upd_same
theorem scTold : FnScope ["value", "what", "top", "bottom"] ["value", "what"] (defScope sTold) := ⟨rfl, rfl, rfl, by decide +kernel, rfl, by decide +kernel, by decide +kernel⟩
theorem ok_told {f : Addr} {fd : FuncData} (F : Fun K "told" "told" sTold f fd) (Gp : Dx P w K mg base "parts_of" 3 ["value", "what"] (spParts K CN)) (Gl : Df P w K mg base "lowest" 1 ["top", "bottom"] spLow) :
    FnOk P w K mg base (L2.CX P w) 4 f fd ["value", "what"] (spTold K CN) := by
  refine F.okX scTold (fun vs H Q E h => ?_) (fun cdv A outer s H vs Q E hr h => ?_)
  · obtain ⟨v, wv, d, rfl, _⟩ := h
    rfl
  · obtain ⟨v, wv, d, rfl, hd, q, e⟩ := h
    refine ⟨_, (pss_cons (ps_asg (pe_call Gp.ok hr rfl Gp.m Gp.kp Gp.b .nil (E := E) (passes_call (takes_of rfl rfl rfl rfl) (fun _ _ _ _ h => h)) (pa_cons (pv 0) (pa_cons (pv 1) pa_nil))) (pg_tup (by rfl) (pgs_cons (pg_name (i := 2) scTold.nd rfl (Or.inl rfl)) (pgs_cons (pg_name (i := 3) scTold.nd rfl (Or.inl rfl)) pgs_nil))))
      (pss_one (ps_ret (pe_call Gl.ok (hr.mono (by decide)) rfl Gl.m Gl.kp Gl.b .nil pass0 (pa_cons (pv 2) (pa_cons (pv 3) pa_nil)))))), ?_⟩
    refine ⟨_, rfl, _, rfl, v, wv, d, rfl, hd, fun t b hp p H1 s1 e1 => ?_, e⟩
    obtain ⟨hz, q⟩ := q t b hp
    have hb := parts_pos hp
    refine ⟨p, _, rfl, SqT.of e1, rfl, _, _, rfl, _, _, rfl, rfl, ?_⟩
    refine ⟨_, rfl, _, rfl, t, b, rfl, by omega, hz, fun p2 H2 s2 n2 e2 => ?_⟩
    exact q p2 H2 (s1.trans s2) e2
end

end Vf

set_option maxRecDepth 100000
set_option maxHeartbeats 8000000
namespace Vf
open PySem PySem.Spec PyProof.Rows L2
/-! ### two ratios -/
/-- below 2 ^ 1900 in size -/
def Sz (z : Int) : Prop := z.natAbs < 2 ^ 1900
theorem sz_mulW {x y : Int} (h1 : Sz x) (h2 : Sz y) : CMulW x y := wide_mul h1 h2 (by decide) (by decide) (by decide)
theorem sz_mul {x y : Int} (h1 : Sz x) (h2 : Sz y) : (x * y).natAbs < 2 ^ 3800 := wide_lt h1 h2
/-- what a def of two ratios promises: of the right ones ok, of the first wrong one the error -/
def spTwo (K : PySem.W.Frag) (CN : Addr) (ok : V → Int → Int → Int → Int → Hp → VK → XK → Prop) : Sp := fun vs H Q E => ∃ (v u : V) (d e : PyData), vs = [v, u] ∧ Dt K H v d ∧ Dt K H u e ∧
  (∀ t b x c, partsD d = some (t, b) → partsD e = some (x, c) → Sz t ∧ Sz b ∧ Sz x ∧ Sz c ∧ ok u t b x c H Q E) ∧
  (partsD d = none → RaisesN CN H (.str "ratio") v E) ∧ ((partsD d).isSome = true → partsD e = none → RaisesN CN H (.str "ratio") u E)
def okLow (g : Int → Int → Int → Int → Int × Int) : V → Int → Int → Int → Int → Hp → VK → XK → Prop := fun _ t b x c H Q _ =>
  ∀ (p : Addr) (H' : Hp), Same H H' → H' p = some (.tup [.int (low (g t b x c).1 (g t b x c).2).1, .int (low (g t b x c).1 (g t b x c).2).2]) → Q (.ref p) H'
def gPlus (t b x c : Int) : Int × Int := (t * c + x * b, b * c)
def gMinus (t b x c : Int) : Int × Int := (t * c - x * b, b * c)
def gTimes (t b x c : Int) : Int × Int := (t * x, b * c)
def gShare (t b x c : Int) : Int × Int := (t * c, b * x)
def okShare (CN : Addr) : V → Int → Int → Int → Int → Hp → VK → XK → Prop := fun u t b x c H Q E => (x = 0 → RaisesN CN H (.str "divisor") u E) ∧ (x ≠ 0 → okLow gShare u t b x c H Q E)
def okLower : V → Int → Int → Int → Int → Hp → VK → XK → Prop := fun _ t b x c H Q _ => ∀ H', Same H H' → Q (.bl (decide (t * c < x * b))) H'
section
variable {P : Program} {w : World} {K : PySem.W.Frag} {mg : Str → Option Value} {base : Heap} {CN : Addr}
abbrev sPlus : Stmt := topS 17
theorem scPlus : FnScope ["one", "other", "top", "bottom", "other_top", "other_bottom"] ["one", "other"] (defScope sPlus) := ⟨rfl, rfl, rfl, by decide +kernel, rfl, by decide +kernel, by decide +kernel⟩
theorem ok_plus {f : Addr} {fd : FuncData} (F : Fun K "plus" "plus" sPlus f fd) (Gp : Dx P w K mg base "parts_of" 3 ["value", "what"] (spParts K CN)) (Gl : Df P w K mg base "lowest" 1 ["top", "bottom"] spLow) (N : Ex P w K mg base "BadNumber" CN ["what", "number"]) :
    FnOk P w K mg base (L2.CX P w) 4 f fd ["one", "other"] (spTwo K CN (okLow gPlus)) := by
  refine F.okX scPlus (fun vs H Q E h => ?_) (fun cdv A outer s H vs Q E hr h => ?_)
  · obtain ⟨v, u, d, e, rfl, _⟩ := h
    rfl
  · obtain ⟨v, u, d, e, rfl, hd, he', q, r1, r2⟩ := h
    refine ⟨_, (pss_cons (ps_asg (pe_call Gp.ok hr rfl Gp.m Gp.kp Gp.b .nil (E := E) (passes_call (takes_of rfl rfl rfl rfl) (fun _ _ _ _ h => h)) (pa_cons (pv 0) (pa_cons pe_str pa_nil))) (pg_tup (by rfl) (pgs_cons (pg_name (i := 2) scPlus.nd rfl (Or.inl rfl)) (pgs_cons (pg_name (i := 3) scPlus.nd rfl (Or.inl rfl)) pgs_nil))))
      (pss_cons (ps_asg (pe_call Gp.ok hr rfl Gp.m Gp.kp Gp.b .nil (E := E) (passes_call (takes_of rfl rfl rfl rfl) (fun _ _ _ _ h => h)) (pa_cons (pv 1) (pa_cons pe_str pa_nil))) (pg_tup (by rfl) (pgs_cons (pg_name (i := 4) scPlus.nd rfl (Or.inl rfl)) (pgs_cons (pg_name (i := 5) scPlus.nd rfl (Or.inl rfl)) pgs_nil))))
      (pss_one (ps_ret (pe_call Gl.ok (hr.mono (by decide)) rfl Gl.m Gl.kp Gl.b .nil pass0 (pa_cons (pe_op op_add (pe_op op_mulW (pv 2) (pv 5)) (pe_op op_mulW (pv 4) (pv 3))) (pa_cons (pe_op op_mulW (pv 3) (pv 5)) pa_nil))))))), ?_⟩
    refine ⟨_, rfl, v, .str "ratio", d, rfl, hd, fun t b hp p H1 s1 e1 => ?_, r1⟩
    have r2 := r2 (by rw [hp]; rfl)
    have q := fun x c he => q t b x c hp he
    refine ⟨p, _, rfl, SqT.of e1, rfl, _, _, rfl, _, _, rfl, rfl, ?_⟩
    refine ⟨_, rfl, u, .str "ratio", e, rfl, he'.mono s1, fun x c he p2 H2 s2 e2 => ?_, fun z => (r2 z).same s1⟩
    refine ⟨p2, _, rfl, SqT.of e2, rfl, _, _, rfl, _, _, rfl, rfl, ?_⟩
    obtain ⟨ht, hb, hx, hc, q⟩ := q x c he
    have s12 := s1.trans s2
    refine ⟨_, rfl, _, rfl, _, _, rfl, rfl, sz_mulW ht hc, _, rfl, _, rfl, _, _, rfl, rfl, sz_mulW hx hb, _, _, rfl, rfl, _, rfl, _, rfl, _, _, rfl, rfl, sz_mulW hb hc, _, _, rfl, by have := parts_pos hp; have := parts_pos he; exact Int.ne_of_gt (Int.mul_pos ‹_› ‹_›), Nat.lt_trans (sz_mul hb hc) (by decide +kernel), fun p H4 s4 n4 e4 => ?_⟩
    exact q p H4 (s12.trans s4) e4
abbrev sTimes : Stmt := topS 18
theorem scTimes : FnScope ["one", "other", "top", "bottom", "other_top", "other_bottom"] ["one", "other"] (defScope sTimes) := ⟨rfl, rfl, rfl, by decide +kernel, rfl, by decide +kernel, by decide +kernel⟩
theorem ok_times {f : Addr} {fd : FuncData} (F : Fun K "times" "times" sTimes f fd) (Gp : Dx P w K mg base "parts_of" 3 ["value", "what"] (spParts K CN)) (Gl : Df P w K mg base "lowest" 1 ["top", "bottom"] spLow) (N : Ex P w K mg base "BadNumber" CN ["what", "number"]) :
    FnOk P w K mg base (L2.CX P w) 4 f fd ["one", "other"] (spTwo K CN (okLow gTimes)) := by
  refine F.okX scTimes (fun vs H Q E h => ?_) (fun cdv A outer s H vs Q E hr h => ?_)
  · obtain ⟨v, u, d, e, rfl, _⟩ := h
    rfl
  · obtain ⟨v, u, d, e, rfl, hd, he', q, r1, r2⟩ := h
    refine ⟨_, (pss_cons (ps_asg (pe_call Gp.ok hr rfl Gp.m Gp.kp Gp.b .nil (E := E) (passes_call (takes_of rfl rfl rfl rfl) (fun _ _ _ _ h => h)) (pa_cons (pv 0) (pa_cons pe_str pa_nil))) (pg_tup (by rfl) (pgs_cons (pg_name (i := 2) scTimes.nd rfl (Or.inl rfl)) (pgs_cons (pg_name (i := 3) scTimes.nd rfl (Or.inl rfl)) pgs_nil))))
      (pss_cons (ps_asg (pe_call Gp.ok hr rfl Gp.m Gp.kp Gp.b .nil (E := E) (passes_call (takes_of rfl rfl rfl rfl) (fun _ _ _ _ h => h)) (pa_cons (pv 1) (pa_cons pe_str pa_nil))) (pg_tup (by rfl) (pgs_cons (pg_name (i := 4) scTimes.nd rfl (Or.inl rfl)) (pgs_cons (pg_name (i := 5) scTimes.nd rfl (Or.inl rfl)) pgs_nil))))
      (pss_one (ps_ret (pe_call Gl.ok (hr.mono (by decide)) rfl Gl.m Gl.kp Gl.b .nil pass0 (pa_cons (pe_op op_mulW (pv 2) (pv 4)) (pa_cons (pe_op op_mulW (pv 3) (pv 5)) pa_nil))))))), ?_⟩
    refine ⟨_, rfl, v, .str "ratio", d, rfl, hd, fun t b hp p H1 s1 e1 => ?_, r1⟩
    have r2 := r2 (by rw [hp]; rfl)
    have q := fun x c he => q t b x c hp he
    refine ⟨p, _, rfl, SqT.of e1, rfl, _, _, rfl, _, _, rfl, rfl, ?_⟩
    refine ⟨_, rfl, u, .str "ratio", e, rfl, he'.mono s1, fun x c he p2 H2 s2 e2 => ?_, fun z => (r2 z).same s1⟩
    refine ⟨p2, _, rfl, SqT.of e2, rfl, _, _, rfl, _, _, rfl, rfl, ?_⟩
    obtain ⟨ht, hb, hx, hc, q⟩ := q x c he
    have s12 := s1.trans s2
    refine ⟨_, rfl, _, rfl, _, _, rfl, rfl, sz_mulW ht hx, _, rfl, _, rfl, _, _, rfl, rfl, sz_mulW hb hc, _, _, rfl, by have := parts_pos hp; have := parts_pos he; exact Int.ne_of_gt (Int.mul_pos ‹_› ‹_›), Nat.lt_trans (sz_mul hb hc) (by decide +kernel), fun p H4 s4 n4 e4 => ?_⟩
    exact q p H4 (s12.trans s4) e4
end
/-! ### the law's own ratios -/
def spGcd : Sp := fun vs H Q _ => ∃ a b : Int, vs = [.int a, .int b] ∧ a.natAbs < 2 ^ big ∧ b.natAbs < 2 ^ big ∧ Q (.int ((Nat.gcd a.natAbs b.natAbs : Nat) : Int)) H
def spQ : Sp := fun vs H Q _ => ∃ t b : Int, vs = [.int t, .int b] ∧ b ≠ 0 ∧ t.natAbs < 2 ^ big ∧ b.natAbs < 2 ^ big ∧ ∀ (p : Addr) (H' : Hp), Same H H' → H p = none → H' p = some (.tup [.int (low t b).1, .int (low t b).2]) → Q (.ref p) H'
section
variable {P : Program} {w : World} {K : PySem.W.Frag} {mg : Str → Option Value} {base : Heap} {CN : Addr}
abbrev sLGcd : Stmt := topS 49
abbrev sLQ : Stmt := topS 50
theorem scLGcd : FnScope ["_law_one", "_law_two", "_law_lap"] ["_law_one", "_law_two"] (defScope sLGcd) := ⟨rfl, rfl, rfl, by decide +kernel, rfl, by decide +kernel, by decide +kernel⟩
theorem ok_lgcd {f : Addr} {fd : FuncData} (F : Fun K "_law_gcd" "_law_gcd" sLGcd f fd) (T : Bk mg) : FnOk P w K mg base CX0 1 f fd ["_law_one", "_law_two"] spGcd := by
  refine F.ok scLGcd (fun vs H Q E h => ?_) (fun cdv A outer s H vs Q E hr h => ?_)
  · obtain ⟨a, b, rfl, _⟩ := h
    rfl
  · obtain ⟨a, b, rfl, ha, hb, q⟩ := h
    refine ⟨_, (pss_cons (ps_par (i := 0) (j := 1) (by rfl) scLGcd.nd rfl rfl (by decide) rfl rfl (pa_cons (pe_callB call_abs (by rfl) T.abs (by decide +kernel) (pa_cons (pv 0) pa_nil)) (pa_cons (pe_callB call_abs (by rfl) T.abs (by decide +kernel) (pa_cons (pv 1) pa_nil)) pa_nil)) (by rfl))
      (pss_cons (ps_for PassesOwn.never rfl (pi_range1 (by rfl) T.range (pa_cons pe_int pa_nil)) (pg_name (i := 2) scLGcd.nd rfl (Or.inl rfl))
        (pss_cons (ps_if (pt_cmpR op_eq (pv 1) pe_int (nomark _)) (pss_one ps_break) pss_nil)
        (pss_one (ps_par (i := 0) (j := 1) (by rfl) scLGcd.nd rfl rfl (by decide) rfl rfl (pa_cons (pv 1) (pa_cons (pe_op op_mod (pe_callTy call_int1 (by rfl) T.int (by decide +kernel) (pa_cons (pv 0) pa_nil)) (pv 1)) pa_nil)) (by rfl)))))
      (pss_one (ps_ret (pv 0))))), ?_⟩
    refine ⟨_, rfl, _, rfl, _, rfl, _, rfl, _, _, rfl, ?_⟩
    refine ⟨50000, rfl, by decide, by decide, for_range (lo := 0) (n := 50000) (fun i σ H2 => H2 = H ∧ ∃ (x y : Int) (v : Option V), σ = [some (.int x), some (.int y), v] ∧ Lap (Nat.gcd a.natAbs b.natAbs) (a.natAbs * b.natAbs) i x y) ⟨rfl, _, _, none, rfl, lap0 a b⟩ ?_ ?_⟩
    · rintro i σ H2 hi ⟨rfl, x, y, v, rfl, h⟩
      refine ⟨_, rfl, rfl, _, rfl, ?_⟩
      by_cases hy : y = 0
      · rw [decide_eq_true (by rw [hy])]
        refine iteT ?_
        refine ⟨_, rfl, ?_⟩
        have e := lap_end h hy
        rw [e]
        exact q
      · rw [decide_eq_false (fun z => hy (by have z2 := V.int.inj z; exact z2))]
        refine iteF ?_
        have y0 := h.b0
        refine ⟨_, rfl, _, rfl, .inl ⟨_, rfl, _, rfl, _, _, rfl, rfl, (by show 0 < y; omega), _, _, rfl, ?_⟩⟩
        exact ⟨rfl, _, _, _, rfl, lap_next h hy⟩
    · rintro σ H2 ⟨rfl, x, y, v, rfl, h⟩
      have hP : a.natAbs * b.natAbs < 2 ^ (50000 - 1) := by
        have z : a.natAbs * b.natAbs < 2 ^ (big + big) := by
          rw [Nat.pow_add]
          exact Nat.mul_lt_mul'' ha hb
        exact Nat.lt_trans z (Nat.pow_lt_pow_right (by decide) (by decide))
      have e := lap_end h (lap_over h (by decide) hP)
      refine ⟨_, rfl, ?_⟩
      rw [e]
      exact q
theorem scLQ : FnScope ["_law_top", "_law_bottom", "_law_by"] ["_law_top", "_law_bottom"] (defScope sLQ) := ⟨rfl, rfl, rfl, by decide +kernel, rfl, by decide +kernel, by decide +kernel⟩
theorem ok_lq {f : Addr} {fd : FuncData} (F : Fun K "_law_q" "_law_q" sLQ f fd) (G : Df P w K mg base "_law_gcd" 1 ["_law_one", "_law_two"] spGcd) : FnOk P w K mg base CX0 2 f fd ["_law_top", "_law_bottom"] spQ := by
  refine F.ok scLQ (fun vs H Q E h => ?_) (fun cdv A outer s H vs Q E hr h => ?_)
  · obtain ⟨t, b, rfl, _⟩ := h
    rfl
  · obtain ⟨t, b, rfl, hb, ht, hz, q⟩ := h
    refine ⟨_, (pss_cons (ps_set (i := 2) scLQ.nd rfl (Or.inl rfl) (pe_call G.ok hr rfl G.m G.kp G.b .nil pass0 (pa_cons (pv 0) (pa_cons (pv 1) pa_nil))))
      (pss_cons (ps_set (i := 2) scLQ.nd rfl (Or.inl rfl) (pe_ifExp (pt_cmpR op_lt (pv 1) pe_int (nomark _)) (pe_un un_neg (pv 2)) (pv 2)))
      (pss_one (ps_ret (pe_tup (pa_cons (pe_op op_fdivZ (pv 0) (pv 2)) (pa_cons (pe_op op_fdivZ (pv 1) (pv 2)) pa_nil))))))), ?_⟩
    have tail : ∀ s : Int, s = sg t b → (∀ p, H p = none → Q (.ref p) (upd H p (.tup [.int (t.fdiv s), .int (b.fdiv s)]))) := fun s e p np => by
      rw [e]
      exact q p _ (same_upd np) np upd_same
    refine ⟨_, rfl, _, rfl, t, b, rfl, ht, hz, _, rfl, _, _, rfl, rfl, _, rfl, ?_⟩
    refine ite2 (fun hlt => ?_) (fun hlt => ?_)
    · have h2 : b < 0 := of_decide_eq_true hlt
      have e : -((Nat.gcd t.natAbs b.natAbs : Nat) : Int) = sg t b := by unfold sg; rw [if_pos h2]
      have c : ∀ x : Int, CDivZ x (-((Nat.gcd t.natAbs b.natAbs : Nat) : Int)) := fun x => by rw [e]; exact sg_cdiv hb hz
      exact ⟨_, rfl, _, rfl, _, rfl, _, rfl, _, _, rfl, rfl, c _, _, rfl, _, rfl, _, _, rfl, rfl, c _, (by show 2 ≤ sizeLine; decide), tail _ e⟩
    · have h2 : ¬ b < 0 := fun z => hlt (decide_eq_true z)
      have e : ((Nat.gcd t.natAbs b.natAbs : Nat) : Int) = sg t b := by unfold sg; rw [if_neg h2]
      have c : ∀ x : Int, CDivZ x ((Nat.gcd t.natAbs b.natAbs : Nat) : Int) := fun x => by rw [e]; exact sg_cdiv hb hz
      exact ⟨_, rfl, _, rfl, _, rfl, _, _, rfl, rfl, c _, _, rfl, _, rfl, _, _, rfl, rfl, c _, (by show 2 ≤ sizeLine; decide), tail _ e⟩
end

end Vf

set_option maxRecDepth 100000
set_option maxHeartbeats 8000000
namespace Vf
open PySem PySem.Spec PyProof.Rows L2
/-! ### the law's odd values -/
def spAny (K : PySem.W.Frag) : Sp := fun vs H Q _ => ∃ (p lc : Addr) (B : Int), vs = [.ref p] ∧ Pen H p lc B ∧ B ≤ 100000000 ∧
  ∀ (v : V) (d : PyData) (H' : Hp), Pen H' p lc (B + 1) → Kp p H H' → Dt K (nw H H') v d → partsD d = none → Gd d → (PyData.str d.shown).canLay0 = true → Q v H'
section
variable {P : Program} {w : World} {K : PySem.W.Frag} {mg : Str → Option Value} {base : Heap}
end

end Vf

set_option maxRecDepth 100000
set_option maxHeartbeats 8000000
namespace Vf
open PySem PySem.Spec PyProof.Rows L2
/-! ### the law's passed ratios, some ratios -/
/-- below 2 ^ 80 in size -/
def S80 (z : Int) : Prop := z.natAbs < 2 ^ 80
theorem s80_k {t k : Int} (h : S80 t) (h0 : 0 < k) (h3 : k ≤ 3) : (t * k).natAbs < 2 ^ 90 := by
  unfold S80 at h
  rw [Int.natAbs_mul]
  have hk : k.natAbs ≤ 3 := by omega
  have : t.natAbs * k.natAbs ≤ t.natAbs * 3 := Nat.mul_le_mul_left _ hk
  have e : (2 : Nat) ^ 90 = 2 ^ 80 * 1024 := by decide +kernel
  rw [e]
  omega
theorem gd_z {z : Int} (h : z.natAbs < 2 ^ 90) : Gd (.int z) := gd_int (Nat.lt_trans h (Nat.pow_lt_pow_right (by decide) (by decide)))
theorem gd_pair {a b : Int} (ha : a.natAbs < 2 ^ 90) (hb : b.natAbs < 2 ^ 90) : Gd (.list [.int a, .int b]) ∧ Gd (.tuple [.int a, .int b]) := by
  have ga := gd_z ha
  have gb := gd_z hb
  have all : ∀ d ∈ [PyData.int a, PyData.int b], d = .int a ∨ d = .int b := fun d hd => by simpa using hd
  have big : ∀ {z : Int}, z.natAbs < 2 ^ 90 → (PyData.int z).shown.length ≤ 2000 := fun {z} h => by
    simp only [PyData.shown]
    exact Nat.le_trans (int_text_len_1921 (log_small (Nat.lt_trans h (Nat.pow_lt_pow_right (by decide) (by decide))))) (by decide)
  refine gd_seq (ds := [.int a, .int b]) (n := 2) (m := 2000) (Nat.le_refl 2) (fun d hd => ?_) (fun d hd => ?_) (fun d hd => ?_) (by decide)
  · rcases all d hd with h | h <;> rw [h]
    · exact ga.sh
    · exact gb.sh
  · rcases all d hd with h | h <;> rw [h] <;> simp [PyData.depth]
  · rcases all d hd with h | h <;> rw [h]
    · exact big ha
    · exact big hb
def spPassed (K : PySem.W.Frag) : Sp := fun vs H Q _ => ∃ (p lc r : Addr) (B t b : Int), vs = [.ref p, .ref r] ∧ Pen H p lc B ∧ B ≤ 100000000 ∧ H r = some (.tup [.int t, .int b]) ∧ 0 < b ∧ S80 t ∧ S80 b ∧
  ∀ (v : V) (d : PyData) (k : Int) (H' : Hp), Pen H' p lc (B + 3) → Kp p H H' → Dt K (nw H H') v d → partsD d = some (t * k, b * k) → 0 < k → k ≤ 3 → Gd d → Q v H'
section
variable {P : Program} {w : World} {K : PySem.W.Frag} {mg : Str → Option Value} {base : Heap}
abbrev sPassed : Stmt := topS 53
theorem scPassed : FnScope ["_law_pen_here", "_law_ratio_here", "_law_by"] ["_law_pen_here", "_law_ratio_here"] (defScope sPassed) := ⟨rfl, rfl, rfl, by decide +kernel, rfl, by decide +kernel, by decide +kernel⟩
theorem ok_passed {f : Addr} {fd : FuncData} (F : Fun K "_law_passed" "_law_passed" sPassed f fd) (Gd_ : Df P w K mg base "_law_draw" 1 ["_law_pen_here", "_law_many"] spDraw) (Gp : Df P w K mg base "_law_pick" 2 ["_law_pen_here", "_law_some"] spPick) : FnOk P w K mg base CX0 3 f fd ["_law_pen_here", "_law_ratio_here"] (spPassed K) := by
  refine F.ok scPassed (fun vs H Q E h => ?_) (fun cdv A outer s H vs Q E hr h => ?_)
  · obtain ⟨p, lc, r, B, t, b, rfl, _⟩ := h
    rfl
  · obtain ⟨p, lc, r, B, t, b, rfl, hP, hB, hr0, hb, ht, hbz, q⟩ := h
    have rp : r ≠ p := by
      obtain ⟨_, _, _, _, _, g1, _⟩ := hP
      exact ne_of hr0 g1.1 (by intro z; cases z)
    refine ⟨_, (C8.pss_cut (ps_if (PW.pt (pw_and (pt_cmpR op_eq (pe_ix ix_tup (pv 1) pe_int (fun _ _ => rfl)) pe_int (nomark _)) (pw_and1 (pt_cmpR op_eq (pe_call Gd_.ok (hr.mono (by decide)) rfl Gd_.m Gd_.kp Gd_.b .nil pass0 (pa_cons (pv 0) (pa_cons pe_int pa_nil))) pe_int (nomark _)))))
        (pss_one (ps_ret (pe_ix ix_tup (pv 1) pe_int (fun _ _ => rfl))))
        pss_nil)
      (pss_cons (ps_set (i := 2) scPassed.nd rfl (Or.inl rfl) (pe_call Gp.ok hr rfl Gp.m Gp.kp Gp.b .nil pass0 (pa_cons (pv 0) (pa_cons (pe_lst (pa_cons pe_int (pa_cons pe_int (pa_cons pe_int (pa_cons pe_int pa_nil))))) pa_nil))))
      (pss_one (ps_ret (pe_call Gp.ok hr rfl Gp.m Gp.kp Gp.b .nil pass0 (pa_cons (pv 0) (pa_cons (pe_lst (pa_cons (pe_tup (pa_cons (pe_op op_mul (pe_ix ix_tup (pv 1) pe_int (fun _ _ => rfl)) (pv 2)) (pa_cons (pe_op op_mul (pe_ix ix_tup (pv 1) pe_int (fun _ _ => rfl)) (pv 2)) pa_nil))) (pa_cons (pe_lst (pa_cons (pe_op op_mul (pe_ix ix_tup (pv 1) pe_int (fun _ _ => rfl)) (pv 2)) (pa_cons (pe_op op_mul (pe_ix ix_tup (pv 1) pe_int (fun _ _ => rfl)) (pv 2)) pa_nil))) pa_nil))) pa_nil))))))), ?_⟩
    refine ⟨fun σ H2 => ∃ B1, σ = [some (.ref p), some (.ref r), none] ∧ Pen H2 p lc B1 ∧ B1 ≤ B + 1 ∧ Kp p H H2, ?_, ?_⟩
    · refine ⟨_, rfl, r, _, _, .int b, rfl, rfl, SqT.of hr0, at_of (j := 1) rfl rfl, rfl, _, rfl, ?_⟩
      by_cases hb1 : b = 1
      · rw [decide_eq_true (by rw [hb1])]
        refine iteT ?_
        refine ⟨_, rfl, p, lc, B, _, rfl, hP, by omega, by decide, by decide, fun z H1 z0 z1 hP1 k1 => ⟨rfl, _, rfl, ?_⟩⟩
        have hr1 := k1 _ _ rp hr0
        by_cases hz : z = 0
        · rw [decide_eq_true (by rw [hz])]
          refine iteT ?_
          refine ⟨_, rfl, r, _, _, .int t, rfl, rfl, SqT.of hr1, at_of (j := 0) rfl rfl, ?_⟩
          exact q (.int t) (.int t) 1 H1 (hP1.more (by omega)) k1 (.int t) (by show some (t, 1) = some (t * 1, b * 1); rw [hb1, Int.mul_one, Int.mul_one]) (by decide) (by decide) (gd_z (Nat.lt_trans ht (by decide +kernel)))
        · rw [decide_eq_false (fun h => hz (by have h2 := V.int.inj h; exact h2))]
          refine iteF ?_
          exact ⟨B + 1, rfl, hP1, Int.le_refl _, k1⟩
      · rw [decide_eq_false (fun h => hb1 (by have h2 := V.int.inj h; exact h2))]
        refine iteF ?_
        exact ⟨B, rfl, hP, by omega, Kp.refl⟩
    · rintro σ H1 ⟨B1, rfl, hP1, hB1, k1⟩
      have hr1 := k1 _ _ rp hr0
      refine ⟨_, rfl, (by show 4 ≤ sizeLine; decide), fun l nl => ?_⟩
      have el : upd H1 l (HO.lst [V.int 1, V.int 1, V.int 2, V.int 3]) l = some (HO.lst [V.int 1, V.int 1, V.int 2, V.int 3]) := upd_same
      have s1 : Same H1 (upd H1 l (HO.lst [V.int 1, V.int 1, V.int 2, V.int 3])) := same_upd nl
      have lp : l ≠ p := by
        obtain ⟨o, e⟩ := hP1.there
        exact (ne_of_none e nl).symm
      generalize upd H1 l (HO.lst [V.int 1, V.int 1, V.int 2, V.int 3]) = H2 at el s1 ⊢
      refine ⟨p, lc, l, B1, _, rfl, hP1.same s1, by omega, el, lp, (by show 0 < 4; decide), (by show 4 < 1000000; decide), fun x H3 hx hP3 k3 => ?_⟩
      obtain ⟨k, rfl, hk0, hk3⟩ : ∃ k : Int, x = .int k ∧ 0 < k ∧ k ≤ 3 := by
        simp only [List.mem_cons, List.not_mem_nil, or_false] at hx
        rcases hx with h | h | h | h
        · exact ⟨1, h, by decide, by decide⟩
        · exact ⟨1, h, by decide, by decide⟩
        · exact ⟨2, h, by decide, by decide⟩
        · exact ⟨3, h, by decide, by decide⟩
      have k13 : Kp p H H3 := (k1.trans (Kp.of s1)).trans k3
      have hr3 := k13 _ _ rp hr0
      have mk : ∀ z : Int, CMul z k := fun z => .inr ⟨by omega, by omega⟩
      refine ⟨_, rfl, _, rfl, r, _, _, .int t, rfl, rfl, SqT.of hr3, at_of (j := 0) rfl rfl, _, rfl, _, _, rfl, rfl, mk _, _, rfl, r, _, _, .int b, rfl, rfl, SqT.of hr3, at_of (j := 1) rfl rfl, _, rfl, _, _, rfl, rfl, mk _, (by show 2 ≤ sizeLine; decide), fun t1 n1 => ?_⟩
      have e1 : upd H3 t1 (HO.tup [V.int (t * k), V.int (b * k)]) t1 = some (HO.tup [V.int (t * k), V.int (b * k)]) := upd_same
      have s4 : Same H3 (upd H3 t1 (HO.tup [V.int (t * k), V.int (b * k)])) := same_upd n1
      have tp : t1 ≠ p := by
        obtain ⟨o, e⟩ := hP3.there
        exact (ne_of_none e n1).symm
      generalize upd H3 t1 (HO.tup [V.int (t * k), V.int (b * k)]) = H4 at e1 s4 ⊢
      have hP4 := hP3.same s4
      have hr4 := s4 _ _ hr3
      refine ⟨_, rfl, r, _, _, .int t, rfl, rfl, SqT.of hr4, at_of (j := 0) rfl rfl, _, rfl, _, _, rfl, rfl, mk _, _, rfl, r, _, _, .int b, rfl, rfl, SqT.of hr4, at_of (j := 1) rfl rfl, _, rfl, _, _, rfl, rfl, mk _, (by show 2 ≤ sizeLine; decide), fun l2 n2 => ?_⟩
      have e2 : upd H4 l2 (HO.lst [V.int (t * k), V.int (b * k)]) l2 = some (HO.lst [V.int (t * k), V.int (b * k)]) := upd_same
      have s5 : Same H4 (upd H4 l2 (HO.lst [V.int (t * k), V.int (b * k)])) := same_upd n2
      have l2p : l2 ≠ p := by
        obtain ⟨o, e⟩ := hP4.there
        exact (ne_of_none e n2).symm
      generalize upd H4 l2 (HO.lst [V.int (t * k), V.int (b * k)]) = H5 at e2 s5 ⊢
      have hP5 := hP4.same s5
      refine ⟨(by show 2 ≤ sizeLine; decide), fun l3 n3 => ?_⟩
      have e3 : upd H5 l3 (HO.lst [V.ref t1, V.ref l2]) l3 = some (HO.lst [V.ref t1, V.ref l2]) := upd_same
      have s6 : Same H5 (upd H5 l3 (HO.lst [V.ref t1, V.ref l2])) := same_upd n3
      have l3p : l3 ≠ p := by
        obtain ⟨o, e⟩ := hP5.there
        exact (ne_of_none e n3).symm
      generalize upd H5 l3 (HO.lst [V.ref t1, V.ref l2]) = H6 at e3 s6 ⊢
      have hP6 := hP5.same s6
      refine ⟨p, lc, l3, _, _, rfl, hP6, by omega, e3, l3p, (by show 0 < 2; decide), (by show 2 < 1000000; decide), fun x H7 hx hP7 k7 => ?_⟩
      have k17 : Kp p H H7 := ((k13.trans (Kp.of s4)).trans (Kp.of (s5.trans s6))).trans k7
      have hbk : 0 < b * k := Int.mul_pos hb hk0
      have pr : pair? [.int (t * k), .int (b * k)] = some (t * k, b * k) := by
        show (if 0 < b * k then some (t * k, b * k) else none) = some (t * k, b * k)
        rw [if_pos hbk]
      have gp := gd_pair (s80_k ht hk0 hk3) (s80_k hbz hk0 hk3)
      simp only [List.mem_cons, List.not_mem_nil, or_false] at hx
      rcases hx with h | h
      · rw [h]
        exact q _ (.tuple [.int (t * k), .int (b * k)]) k H7 (hP7.more (by omega)) k17 (.tup (SqT.of (nw_at (some_free k13 hP3.there.choose_spec n1) (k7 _ _ tp (s6 _ _ (s5 _ _ e1))))) (.cons (.int _) (.cons (.int _) .nil))) pr hk0 hk3 gp.2
      · rw [h]
        exact q _ (.list [.int (t * k), .int (b * k)]) k H7 (hP7.more (by omega)) k17 (.lst (SqL.of (nw_at (some_free k13 hP3.there.choose_spec (s4.free n2)) (k7 _ _ l2p (s6 _ _ e2)))) (.cons (.int _) (.cons (.int _) .nil))) pr hk0 hk3 gp.1
end

end Vf

set_option maxRecDepth 100000
set_option maxHeartbeats 8000000
namespace Vf
open PySem PySem.Spec PyProof.Rows L2
abbrev sFar : Stmt := topS 57
section
variable {P : Program} {w : World} {K : PySem.W.Frag} {mg : Str → Option Value} {base : Heap}
theorem scFar : FnScope ["_law_pen_here", "_law_found", "_law_k"] ["_law_pen_here"] (defScope sFar) := ⟨rfl, rfl, rfl, by decide +kernel, rfl, by decide +kernel, by decide +kernel⟩
theorem pow1000 {z d : Int} {j : Nat} (h0 : 0 ≤ z) (h1 : z < 1000 ^ j) (d0 : 0 ≤ d) (d1 : d < 1000) : 0 ≤ z * 1000 + d ∧ z * 1000 + d < 1000 ^ (j + 1) := by
  refine ⟨by omega, ?_⟩
  rw [Int.pow_succ]
  omega
theorem pow_le18 {z : Int} {j : Nat} (hj : j ≤ 6) (h1 : z < 1000 ^ j) : z < 1000000000000000000 := by
  have hk : j = 0 ∨ j = 1 ∨ j = 2 ∨ j = 3 ∨ j = 4 ∨ j = 5 ∨ j = 6 := by omega
  rcases hk with h | h | h | h | h | h | h <;> rw [h] at h1 <;> omega
theorem ok_far {f : Addr} {fd : FuncData} (F : Fun K "_law_far" "_law_far" sFar f fd) (T : Bi mg) (G_law_draw : Df P w K mg base "_law_draw" 1 ["_law_pen_here", "_law_many"] spDraw) (G_law_pick : Df P w K mg base "_law_pick" 2 ["_law_pen_here", "_law_some"] spPick) :
    FnOk P w K mg base CX0 3 f fd ["_law_pen_here"] spFar := by
  refine F.ok scFar (fun vs H Q E h => ?_) (fun cdv A outer s H vs Q E hr h => ?_)
  · obtain ⟨p, l, B, rfl, _⟩ := h
    rfl
  · obtain ⟨p, l, B, rfl, hP, hB, k⟩ := h
    have hr1 := hr.mono (by decide : 1 ≤ 2)
    refine ⟨_, (pss_cons (ps_set (i := 1) scFar.nd rfl (Or.inl rfl) pe_int)
      (pss_cons (ps_for PassesOwn.never rfl (pi_range1 (by rfl) T.range (pa_cons (pe_call G_law_pick.ok hr rfl G_law_pick.m G_law_pick.kp G_law_pick.b .nil pass0 (pa_cons (pv 0) (pa_cons (pe_lst (pa_cons pe_int (pa_cons pe_int (pa_cons pe_int (pa_cons pe_int (pa_cons pe_int pa_nil)))))) pa_nil))) pa_nil)) (pg_name (i := 2) scFar.nd rfl (Or.inl rfl))
        (pss_one (ps_set (i := 1) scFar.nd rfl (Or.inl rfl) (pe_op op_add (pe_op op_mul (pv 1) pe_int) (pe_call G_law_draw.ok hr1 rfl G_law_draw.m G_law_draw.kp G_law_draw.b .nil pass0 (pa_cons (pv 0) (pa_cons pe_int pa_nil)))))))
      (pss_one (ps_ret (pe_ifExp (pt_cmpR op_gt (pe_call G_law_draw.ok hr1 rfl G_law_draw.m G_law_draw.kp G_law_draw.b .nil pass0 (pa_cons (pv 0) (pa_cons pe_int pa_nil))) pe_int (nomark _)) (pv 1) (pe_un un_neg (pv 1))))))), ?_⟩
    refine ⟨_, rfl, (by decide), fun q nq => ?_⟩
    have hpq : q ≠ p := by
      obtain ⟨o, e⟩ := hP.there
      exact (ne_of_none e nq).symm
    refine ⟨p, l, q, B, _, rfl, hP.same (same_upd nq), by omega, upd_same, hpq, by decide, by decide, fun x H1 hx hP1 k1 => ?_⟩
    have kk1 : Kp p H H1 := (Kp.of (same_upd nq)).trans k1
    obtain ⟨j, rfl, hj⟩ : ∃ j : Nat, x = V.int j ∧ j ≤ 6 := by
      simp only [List.mem_cons, List.not_mem_nil, or_false] at hx
      rcases hx with h | h | h | h | h
      · exact ⟨0, h, by decide⟩
      · exact ⟨1, h, by decide⟩
      · exact ⟨1, h, by decide⟩
      · exact ⟨2, h, by decide⟩
      · exact ⟨6, h, by decide⟩
    refine ⟨_, rfl, by omega, by omega, for_range (lo := 0) (n := (j : Int).toNat) (fun i σ H2 => ∃ (z : Int) (v : Option V), σ = [some (.ref p), some (.int z), v] ∧ 0 ≤ z ∧ z < 1000 ^ i ∧ Pen H2 p l (B + 1 + i) ∧ Kp p H H2)
      ⟨0, none, rfl, by decide, by decide, hP1.more (by omega), kk1⟩ ?_ ?_⟩
    · rintro i σ H2 hi ⟨z, v, rfl, h0, h1, hP2, k2⟩
      have hi6 : i < 6 := by omega
      have hz := pow_le18 (by omega) h1
      refine ⟨_, rfl, _, _, rfl, rfl, .inl ⟨by omega, by omega⟩, _, rfl, p, l, _, _, rfl, hP2, by omega, by decide, by decide, fun d H3 d0 d1 hP3 k3 => ?_⟩
      obtain ⟨g1, g2⟩ := pow1000 h0 h1 d0 d1
      exact ⟨_, _, rfl, rfl, _, _, rfl, g1, g2, hP3.more (by omega), k2.trans k3⟩
    · rintro σ H2 ⟨z, v, rfl, h0, h1, hP2, k2⟩
      have hz := pow_le18 (by omega) h1
      refine ⟨_, rfl, p, l, _, _, rfl, hP2, by omega, by decide, by decide, fun d H3 d0 d1 hP3 k3 => ⟨_, _, rfl, rfl, _, rfl, ?_⟩⟩
      refine ite2 (fun _ => ?_) (fun _ => ?_)
      · exact ⟨_, rfl, k _ _ (by omega) hz (hP3.more (by omega)) (k2.trans k3)⟩
      · exact ⟨_, rfl, _, rfl, k _ _ (by omega) (by omega) (hP3.more (by omega)) (k2.trans k3)⟩
end

end Vf

set_option maxRecDepth 100000
set_option maxHeartbeats 8000000
namespace Vf
open PySem PySem.Spec PyProof.Rows L2
def spSome : Sp := fun vs H Q _ => ∃ (p lc : Addr) (B : Int), vs = [.ref p] ∧ Pen H p lc B ∧ B ≤ 10000000 ∧
  ∀ (r : Addr) (t b : Int) (H' : Hp), Pen H' p lc (B + 16) → Kp p H H' → H r = none → H' r = some (.tup [.int t, .int b]) → Low t b → S80 t → S80 b → Q (.ref r) H'
section
variable {P : Program} {w : World} {K : PySem.W.Frag} {mg : Str → Option Value} {base : Heap}
abbrev sSome : Stmt := topS 58
theorem scSome : FnScope ["_law_pen_here"] ["_law_pen_here"] (defScope sSome) := ⟨rfl, rfl, rfl, by decide +kernel, rfl, by decide +kernel, by decide +kernel⟩
theorem ok_some {f : Addr} {fd : FuncData} (F : Fun K "_law_some_ratio" "_law_some_ratio" sSome f fd) (T : Bk mg) (Gf : Df P w K mg base "_law_far" 3 ["_law_pen_here"] spFar) (Gq : Df P w K mg base "_law_q" 2 ["_law_top", "_law_bottom"] spQ) : FnOk P w K mg base CX0 4 f fd ["_law_pen_here"] spSome := by
  refine F.ok scSome (fun vs H Q E h => ?_) (fun cdv A outer s H vs Q E hr h => ?_)
  · obtain ⟨p, lc, B, rfl, _⟩ := h
    rfl
  · obtain ⟨p, lc, B, rfl, hP, hB, q⟩ := h
    refine ⟨_, (pss_one (ps_ret (pe_call Gq.ok (hr.mono (by decide)) rfl Gq.m Gq.kp Gq.b .nil pass0 (pa_cons (pe_call Gf.ok hr rfl Gf.m Gf.kp Gf.b .nil pass0 (pa_cons (pv 0) pa_nil)) (pa_cons (pe_op op_add pe_int (pe_callB call_abs (by rfl) T.abs (by decide +kernel) (pa_cons (pe_call Gf.ok hr rfl Gf.m Gf.kp Gf.b .nil pass0 (pa_cons (pv 0) pa_nil)) pa_nil))) pa_nil))))), ?_⟩
    refine ⟨_, rfl, p, lc, B, rfl, hP, by omega, fun x H1 x0 x1 hP1 k1 => ?_⟩
    refine ⟨_, rfl, p, lc, _, rfl, hP1, by omega, fun y H2 y0 y1 hP2 k2 => ?_⟩
    refine ⟨_, rfl, _, _, rfl, rfl, ?_⟩
    have hy : (1 + (if y < 0 then -y else y) : Int) ≠ 0 := by split <;> omega
    have hz : (1 + (if y < 0 then -y else y) : Int).natAbs < 2 ^ 80 := by split <;> omega
    have hx : x.natAbs < 2 ^ 80 := by omega
    have lt : (2 : Nat) ^ 80 < 2 ^ big := Nat.pow_lt_pow_right (by decide) (by decide)
    refine ⟨_, _, rfl, hy, Nat.lt_trans hx lt, Nat.lt_trans hz lt, fun r H3 s3 n3 e3 => ?_⟩
    obtain ⟨z1, z2⟩ := low_size (t := x) hy
    have nr : H r = none := by
      have kp : Kp p H H2 := k1.trans k2
      cases e : H r with
      | none => rfl
      | some o =>
        exfalso
        by_cases rp : r = p
        · obtain ⟨o2, e2⟩ := hP2.there
          rw [← rp, n3] at e2
          cases e2
        · have z := kp _ _ rp e
          rw [n3] at z
          cases z
    exact q r _ _ H3 ((hP2.more (by omega)).same s3) ((k1.trans k2).trans (Kp.of s3)) nr e3 (low_is hy) (Nat.lt_of_le_of_lt z1 hx) (Nat.lt_of_le_of_lt z2 hz)
end

end Vf

set_option maxRecDepth 100000
set_option maxHeartbeats 8000000
namespace Vf
open PySem PySem.Spec PyProof.Rows L2
section
variable {P : Program} {w : World} {K : PySem.W.Frag} {mg : Str → Option Value} {base : Heap} {CN : Addr}
abbrev sLPoly : Stmt := topS 55
/-- the law's own row without zeros behind -/
def spLPoly (K : PySem.W.Frag) : Sp := fun vs H Q _ => ∃ (a : Addr) (as : List Addr) (ps : List (Int × Int)), vs = [.ref a] ∧ SqL K H a (as.map V.ref) ∧ Tups H as ps ∧ as.length ≤ 1000 ∧
  ∀ (l : Addr) (as' : List Addr) (H' : Hp), Same H H' → H l = none → H' l = some (.lst (as'.map V.ref)) → Tups H' as' (strip ps) → Q (.ref l) H'
theorem scLPoly : FnScope ["_law_numbers", "_law_found", "_law_lap"] ["_law_numbers"] (defScope sLPoly) := ⟨rfl, rfl, rfl, by decide +kernel, rfl, by decide +kernel, by decide +kernel⟩
theorem ok_lpoly {f : Addr} {fd : FuncData} (F : Fun K "_law_poly" "_law_poly" sLPoly f fd) (T : Bk mg) (hm1 : M1 base) : FnOk P w K mg base CX0 1 f fd ["_law_numbers"] (spLPoly K) := by
  refine F.ok scLPoly (fun vs H Q E h => ?_) (fun cdv A outer s H vs Q E hr h => ?_)
  · obtain ⟨a, as, ps, rfl, _⟩ := h
    rfl
  · obtain ⟨a, as, ps, rfl, hS, hT, hz, q⟩ := h
    refine ⟨_, (pss_cons (ps_set (i := 1) scLPoly.nd rfl (Or.inl rfl) (pe_callTy call_list_of (by rfl) T.list (by decide +kernel) (pa_cons (pv 0) pa_nil)))
  (pss_cons (ps_for PassesOwn.never rfl (pi_range1 (by rfl) T.range (pa_cons (pe_callB call_len_seq (by rfl) T.len (by decide +kernel) (pa_cons (pv 0) pa_nil)) pa_nil)) (pg_name (i := 2) scLPoly.nd rfl (Or.inl rfl))
    (pss_cons (ps_if (PW.pt (pw_or (pt_cmpR (op_eqT hr.units hm1) (pv 1) (pe_lst pa_nil) (nomark _)) (pw_or1 (pt_cmpR op_ne (pe_ix ix_tup (pe_ix ix_list (pv 1) (pe_un un_neg pe_int) (fun _ _ => rfl)) pe_int (fun _ _ => rfl)) pe_int (nomark _)))))
      (pss_one ps_break)
      pss_nil)
    (pss_one (ps_expr (pe_bm0 PySem.F.plainAttrs_list PySem.F.slot_list_pop PySem.F.type_list_pop mt_pop (pv 1))))))
  (pss_one (ps_ret (pv 1))))), ?_⟩
    refine ⟨_, rfl, a, _, rfl, .inl hS, fun l nl => ?_⟩
    have el : upd H l (HO.lst (as.map V.ref)) l = some (HO.lst (as.map V.ref)) := upd_same
    have sl : Same H (upd H l (HO.lst (as.map V.ref))) := same_upd nl
    generalize upd H l (HO.lst (as.map V.ref)) = H1 at el sl ⊢
    have lm : (as.map V.ref).length = as.length := List.length_map ..
    refine ⟨_, rfl, a, _, rfl, .inl (same_sqL sl hS), _, rfl, by omega, by omega, for_range (lo := 0) (n := (((as.map V.ref).length : Nat) : Int).toNat) (fun i σ H2 => ∃ as' qs v, σ = [some (.ref a), some (.ref l), v] ∧ Same H H2 ∧ H2 l = some (.lst (as'.map V.ref)) ∧ Tups H2 as' qs ∧ strip qs = strip ps ∧ as'.length + i = as.length)
      ⟨as, ps, none, rfl, sl, el, hT.same sl, rfl, rfl⟩ ?_ ?_⟩
    · rintro i σ H2 hi ⟨as', qs, v, rfl, s2, e2, t2, hst, hn⟩
      refine ⟨_, rfl, (by show 0 ≤ sizeLine; decide), fun l0 n0 => ?_⟩
      have l0l : l0 ≠ l := (ne_of_none e2 n0).symm
      have s3 : Same H2 (upd H2 l0 (HO.lst [])) := same_upd n0
      have e0 : upd H2 l0 (HO.lst []) l0 = some (HO.lst []) := upd_same
      generalize upd H2 l0 (HO.lst []) = H3 at s3 e0 ⊢
      have e3 := s3 _ _ e2
      have t3 := t2.same s3
      refine ⟨.list (qs.map pairD), .list (([] : List (Int × Int)).map pairD), .lst (SqL.of e3) t3.dts, .lst (SqL.of e0) .nil, (plain_row _).2, (plain_row _).2, (depth_row _).2, _, rfl, ?_⟩
      rw [eqv_rowL]
      rcases snoc_cases qs with rfl | ⟨qs, y, rfl⟩
      · rw [decide_eq_true rfl]
        refine iteT ?_
        cases t3
        refine iteT ?_
        exact ⟨_, rfl, q l [] H3 (s2.trans s3) nl e3 (by rw [← hst]; exact .nil)⟩
      · rw [decide_eq_false (by simp)]
        refine iteF ?_
        obtain ⟨as2, r, rfl, t4, er⟩ := t3.unsnoc
        refine ⟨_, rfl, _, rfl, l, _, _, .ref r, rfl, rfl, SqL.of e3, (by rw [List.map_append]; exact atI_last _ _), r, _, _, .int y.1, rfl, rfl, SqT.of er, at_of (j := 0) rfl rfl, rfl, _, rfl, ?_⟩
        by_cases y0 : y.1 = 0
        · rw [decide_eq_true (by rw [y0])]
          refine iteF ?_
          refine ⟨_, rfl, .inl ⟨rfl, _, SqL.of e3⟩, l, _, .ref r, rfl, rfl, e3, (by simp), ?_⟩
          refine ⟨as2, qs, _, rfl, fun b o eb => ?_, ?_, ?_, ?_, ?_⟩
          · rw [upd_ne (ne_of_none eb nl)]
            exact s3 _ _ (s2 _ _ eb)
          · rw [upd_same, List.map_append]
            simp
          · refine t4.imp fun c p z => ?_
            rw [upd_ne (ne_of z e3 (by intro z; cases z))]
            exact z
          · rw [strip_snoc, if_pos y0] at hst
            exact hst
          · rw [List.length_append] at hn
            simp at hn
            omega
        · rw [decide_eq_false (fun z => y0 (by have z2 := V.int.inj z; exact z2))]
          refine iteT ?_
          refine ⟨_, rfl, q l (as2 ++ [r]) H3 (s2.trans s3) nl e3 ?_⟩
          rw [← hst, strip_snoc, if_neg y0]
          exact t3
    · rintro σ H2 ⟨as', qs, v, rfl, s2, e2, t2, hst, hn⟩
      have h0 : as'.length = 0 := by omega
      have h1 := t2.len
      have h2 : as' = [] := List.length_eq_zero_iff.mp h0
      have h3 : qs = [] := List.length_eq_zero_iff.mp (by omega)
      subst h2 h3
      exact ⟨_, rfl, q l [] H2 s2 nl e2 (by rw [← hst]; exact .nil)⟩
end

/-! ### the law's own polynomials -/
def spL2 (g : Rat → Rat → Rat) : Sp := fun vs H Q _ => ∃ (r1 r2 : Addr) (a b : Rat), vs = [.ref r1, .ref r2] ∧ TR H r1 a ∧ TR H r2 b ∧ Sr a ∧ Sr b ∧ ∀ (r : Addr) (H' : Hp), Same H H' → H r = none → TR H' r (g a b) → Q (.ref r) H'
def rAdd (a b : Rat) : Rat := a + b
def rMul (a b : Rat) : Rat := a * b
/-- every number is small -/
def SrL (a : List Rat) : Prop := ∀ i, Sr (cf a i)
theorem sr_zero : Sr 0 := ⟨by show (0 : Nat) < 2 ^ 1900; exact Nat.pow_pos (by decide), by show 1 < 2 ^ 1900; exact Nat.one_lt_pow (by decide) (by decide)⟩
def spLPP : Sp := fun vs H Q _ => ∃ (l1 l2 : Addr) (a b : List Rat), vs = [.ref l1, .ref l2] ∧ RL H l1 a ∧ RL H l2 b ∧ a.length ≤ 500 ∧ b.length ≤ 500 ∧ SrL a ∧ SrL b ∧ ∀ (l : Addr) (H' : Hp), Same H H' → RL H' l (stripQ (padd a b)) → Q (.ref l) H'
def spLPS : Sp := fun vs H Q _ => ∃ (l1 r : Addr) (a : List Rat) (c : Rat), vs = [.ref l1, .ref r] ∧ RL H l1 a ∧ TR H r c ∧ a.length ≤ 500 ∧ SrL a ∧ Sr c ∧ ∀ (l : Addr) (H' : Hp), Same H H' → RL H' l (stripQ (pscale a c)) → Q (.ref l) H'
def spLPM : Sp := fun vs H Q _ => ∃ (l1 l2 : Addr) (a b : List Rat), vs = [.ref l1, .ref l2] ∧ RL H l1 a ∧ RL H l2 b ∧ a.length ≤ 500 ∧ b.length ≤ 500 ∧ SrL a ∧ SrL b ∧ ∀ (l : Addr) (H' : Hp), Same H H' → RL H' l (stripQ (padd a (stripQ (pscale b (-1))))) → Q (.ref l) H'
theorem stripQ_len (l : List Rat) : (stripQ l).length ≤ l.length := stp_len (stripQ_stp l) (cf_stripQ l)
section
variable {P : Program} {w : World} {K : PySem.W.Frag} {mg : Str → Option Value} {base : Heap} {CN : Addr}
theorem den_ne (a b : Rat) : ((a.den : Int) * (b.den : Int)) ≠ 0 := by
  have h1 := a.den_nz
  have h2 := b.den_nz
  exact Int.mul_ne_zero (by omega) (by omega)
/-- the law's stripping, on numbers -/
theorem lpoly_q {K : PySem.W.Frag} {H : Hp} {l : Addr} {qs : List Rat} {Q : VK} (h : RL H l qs) (hl : qs.length ≤ 1000) (k : ∀ (l' : Addr) (H' : Hp), Same H H' → RL H' l' (stripQ qs) → Q (.ref l') H') {E : XK} : spLPoly K [.ref l] H Q E := by
  obtain ⟨as, e, t⟩ := h
  have := t.lenQ
  refine ⟨l, as, qs.map pq, rfl, SqL.of e, t, by omega, fun l' as' H' s n e' t' => k l' H' s ⟨as', e', ?_⟩⟩
  rw [strip_map] at t'
  exact t'
theorem cf_pscale (a : List Rat) (c : Rat) (i : Nat) : cf (pscale a c) i = cf a i * c := by
  unfold pscale
  exact cf_map (f := fun x => x * c) (Rat.zero_mul c) a i
theorem sr_neg {q : Rat} (h : Sr q) : Sr (q * -1) := by
  have e : q * -1 = -q := by grind
  rw [e]
  exact ⟨by rw [Rat.neg_num, Int.natAbs_neg]; exact h.1, by rw [Rat.neg_den]; exact h.2⟩
end

end Vf

set_option maxRecDepth 100000
set_option maxHeartbeats 8000000
namespace Vf
open PySem PySem.Spec PyProof.Rows L2
/-! ### the class of polynomials -/
/-- the class, as the written part tells it -/
structure PoC (K : PySem.W.Frag) (mg : Str → Option Value) (CP : Addr) : Prop where
  m : mg "Poly" = some (.ref CP)
  cl : Cls K CP
  nf : NoAttr K CP "numbers"
  ca : PySem.W.findIn K (.ref CP) "__class__" = some (some (.builtin "object.__class__"))
  cn : PySem.W.specialIn K (.builtin "object.__class__") "__get__" = some (some (.builtin "getset_descriptor.__get__"))
  ct : PySem.W.takesIn K (.builtin "object.__class__") = some true
  cm : PySem.W.mroIn K CP (.type "object") = some true
  no : ∀ d : PyData, PySem.W.kitOne K (.type (tyD d)) (.ref CP) = some false
  fs : PySem.W.notFirst K CP (.ref CP) = true
  fd : ∀ d : PyData, PySem.W.notFirst K CP (.type (tyD d)) = true
theorem PoC.io {K : PySem.W.Frag} {mg : Str → Option Value} {CP : Addr} (_ : PoC K mg CP) : PySem.W.kitOne K (.ref CP) (.ref CP) = some true := by
  unfold PySem.W.kitOne
  rw [if_pos (by simp)]
/-- a polynomial with these numbers stands at a -/
def PolyAt (K : PySem.W.Frag) (CP : Addr) (H : Hp) (a : Addr) (rs : List (Int × Int)) : Prop := ∃ dx q as, H a = some (.ins CP dx [("numbers", .ref q)]) ∧ H q = some (.tup (as.map V.ref)) ∧ Tups H as rs
theorem PolyAt.imp {K : PySem.W.Frag} {CP : Addr} {H H' : Hp} {a : Addr} {rs : List (Int × Int)} (h : PolyAt K CP H a rs) (e : ∀ b o, H b = some o → ((∃ fs dx, o = .ins CP dx fs) ∨ ∃ xs, o = .tup xs) → H' b = some o) : PolyAt K CP H' a rs := by
  obtain ⟨dx, q, as, h1, h2, h3⟩ := h
  exact ⟨dx, q, as, e _ _ h1 (.inl ⟨_, _, rfl⟩), e _ _ h2 (.inr ⟨_, rfl⟩), h3.imp fun a p z => e _ _ z (.inr ⟨_, rfl⟩)⟩
theorem PolyAt.same {K : PySem.W.Frag} {CP : Addr} {H H' : Hp} {a : Addr} {rs : List (Int × Int)} (h : PolyAt K CP H a rs) (s : Same H H') : PolyAt K CP H' a rs := h.imp fun b o e _ => s b o e
theorem PolyAt.n {K : PySem.W.Frag} {CP : Addr} {H H' : Hp} {a : Addr} {rs : List (Int × Int)} (h : PolyAt K CP H a rs) (s : LamX.ExtN H H') : PolyAt K CP H' a rs := h.imp fun b o e t => s b o e (fun ps z => by
  rcases t with ⟨_, _, t⟩ | ⟨_, t⟩ <;> rw [t] at z <;> cases z)
theorem PolyAt.kp {K : PySem.W.Frag} {CP : Addr} {H H' : Hp} {a p l : Addr} {B : Int} {rs : List (Int × Int)} (h : PolyAt K CP H a rs) (hP : Pen H p l B) (s : Kp p H H') : PolyAt K CP H' a rs := by
  obtain ⟨ns, a0, d0, c0, f0, g1, _⟩ := hP
  refine h.imp fun b o e t => s b o (fun z => ?_) e
  rw [z, g1.1] at e
  cases e
  rcases t with ⟨_, _, t⟩ | ⟨_, t⟩ <;> cases t
theorem PolyAt.ty {K : PySem.W.Frag} {mg : Str → Option Value} {CP : Addr} {H : Hp} {a : Addr} {rs : List (Int × Int)} (C : PoC K mg CP) (h : PolyAt K CP H a rs) : TyX K H (.ref a) (.ref CP) := by
  obtain ⟨dx, q, as, h1, _⟩ := h
  exact .base (.ins h1 C.cl C.ca C.cn C.ct C.cm)
/-- a row of ratios, as data -/
def rowD : PyData → Option (List (Int × Int))
  | .list ds => ds.mapM partsD
  | .tuple ds => ds.mapM partsD
  | _ => none
theorem rowD_seq {d : PyData} {ds : List PyData} (h : seqD d = some ds) : rowD d = ds.mapM partsD := by
  cases d <;> first | (cases h; rfl) | cases h
theorem rowD_none {d : PyData} (h : seqD d = none) : rowD d = none := by
  cases d <;> first | rfl | cases h
theorem mapM_some : ∀ {ds : List PyData} {ps : List (Int × Int)}, ds.mapM partsD = some ps → ds.length = ps.length ∧ ∀ (i : Nat) (d : PyData), ds[i]? = some d → ∃ p, ps[i]? = some p ∧ partsD d = some p
  | [], ps, h => by
    rw [List.mapM_nil] at h
    cases h
    exact ⟨rfl, fun i d e => by simp at e⟩
  | d0 :: ds, ps, h => by
    rw [List.mapM_cons] at h
    cases e0 : partsD d0 with
    | none => rw [e0] at h; cases h
    | some p0 =>
      rw [e0] at h
      cases e1 : ds.mapM partsD with
      | none => rw [e1] at h; cases h
      | some ps1 =>
        rw [e1] at h
        cases h
        obtain ⟨h1, h2⟩ := mapM_some e1
        refine ⟨by simp [h1], fun i d e => ?_⟩
        cases i with
        | zero =>
          simp at e
          subst e
          exact ⟨p0, rfl, e0⟩
        | succ i => simpa using h2 i d (by simpa using e)
theorem mapM_all : ∀ ds : List PyData, (ds.map fun d => (partsD d).isSome).all id = (ds.mapM partsD).isSome
  | [] => by rw [List.mapM_nil]; rfl
  | d :: ds => by
    rw [List.mapM_cons, List.map_cons, List.all_cons, mapM_all ds]
    cases partsD d with
    | none => rfl
    | some p =>
      cases ds.mapM partsD <;> rfl
def spIsRow (K : PySem.W.Frag) : Sp := fun vs H Q _ => ∃ (v : V) (d : PyData), vs = [v] ∧ Dt K H v d ∧ (∀ ds, seqD d = some ds → ds.length ≤ 1000) ∧ ∀ H', Same H H' → Q (.bl (rowD d).isSome) H'
/-- an error of BadRow -/
def RaisesR (CR : Addr) (H : Hp) (v : V) (E : XK) : Prop := ∀ (d : Addr) (H' : Hp), Same H H' → H d = none → H' d = some (.xd (fl ["row"] [v])) → E (.ref CR) (some d) H'
theorem RaisesR.same {CR : Addr} {H H1 : Hp} {v : V} {E : XK} (s : Same H H1) (h : RaisesR CR H v E) : RaisesR CR H1 v E := fun d H' s' n e => h d H' (s.trans s') (s.free n) e
/-- the numbers of a row, in lowest terms -/
def lowP (p : Int × Int) : Int × Int := low p.1 p.2
/-- a Poly is made of a value -/
def spPolyI (K : PySem.W.Frag) (CP CR : Addr) : Sp := fun vs H Q E => ∃ (x dx : Addr) (v : V) (d : PyData), vs = [.ref x, v] ∧ H x = some (.ins CP dx []) ∧ Dt K H v d ∧ (∀ ds, seqD d = some ds → ds.length ≤ 1000) ∧
  (∀ ps, rowD d = some ps → (∀ p ∈ ps, p.2.natAbs < 2 ^ big) ∧ ∀ H', Kp x H H' → PolyAt K CP H' x (strip (ps.map lowP)) → Q .non H') ∧ (rowD d = none → RaisesR CR H v E)
/-- what the call Poly(v) comes to -/
theorem poly_made {K : PySem.W.Frag} {CP CR : Addr} {H : Hp} {v : V} {d : PyData} {Qd : Addr → Hp → Prop} {E : XK} (hd : Dt K H v d) (hl : ∀ ds, seqD d = some ds → ds.length ≤ 1000)
    (k : ∀ ps, rowD d = some ps → (∀ p ∈ ps, p.2.natAbs < 2 ^ big) ∧ ∀ (x : Addr) (H' : Hp), Same H H' → H x = none → PolyAt K CP H' x (strip (ps.map lowP)) → Qd x H') (r : rowD d = none → RaisesR CR H v E) :
    ∀ x dx, H x = none → H dx = none → dx ≠ x → spPolyI K CP CR (.ref x :: ([v] ++ [])) (upd (upd H dx (.own x)) x (.ins CP dx [])) (fun w H2 => w = .non ∧ Qd x H2) E := by
  intro x dx nx nd ne
  have s1 : Same H (upd (upd H dx (.own x)) x (.ins CP dx [])) := (same_upd nd).trans (same_upd (by rw [upd_ne (Ne.symm ne)]; exact nx))
  refine ⟨x, dx, v, d, rfl, upd_same, hd.mono s1, hl, fun ps hp => ?_, fun hn => (r hn).same s1⟩
  obtain ⟨k1, k2⟩ := k ps hp
  refine ⟨k1, fun H' kp hP => ⟨rfl, k2 x H' (fun b o e => kp b o (ne_of_none e nx) (s1 _ _ e)) nx hP⟩⟩
section
variable {P : Program} {w : World} {K : PySem.W.Frag} {mg : Str → Option Value} {base : Heap} {CP CR CN : Addr}
abbrev sIsRow : Stmt := topS 13
abbrev sPolyI : Stmt := inClass (topS 33) 0
abbrev sPolyE : Stmt := inClass (topS 33) 1
abbrev sPolyD : Stmt := inClass (topS 33) 9
theorem scIsRow : FnScope ["value", "item"] ["value"] (defScope sIsRow) := ⟨rfl, rfl, rfl, by decide +kernel, rfl, by decide +kernel, by decide +kernel⟩
theorem map_take_snoc {α β : Type} {l : List α} {f : α → β} {i : Nat} {x : α} (h : l[i]? = some x) : (l.take i).map f ++ [f x] = (l.take (i + 1)).map f := by
  rw [List.take_succ, h, List.map_append]
  rfl
theorem ok_is_row {f : Addr} {fd : FuncData} (F : Fun K "is_ratio_row" "is_ratio_row" sIsRow f fd) (T : Bk mg) (hall : mg "all" = none) (Gr : Df P w K mg base "is_ratio" 2 ["value"] (spIsRatio K)) : FnOk P w K mg base CX0 3 f fd ["value"] (spIsRow K) := by
  refine F.ok scIsRow (fun vs H Q E h => ?_) (fun cdv A outer s H vs Q E hr h => ?_)
  · obtain ⟨v, d, rfl, _⟩ := h
    rfl
  · obtain ⟨v, d, rfl, hd, hlen, q⟩ := h
    refine ⟨_, (pss_one (ps_ret (pe_and (pe_callB call_isiT (by rfl) T.isinstance (by decide +kernel) (pa_cons (pv 0) (pa_cons (pe_tup (pa_cons (pe_bltn (v := V.ty "tuple") (by rfl) T.tuple (by decide +kernel) rfl) (pa_cons (pe_bltn (v := V.ty "list") (by rfl) T.list (by decide +kernel) rfl) pa_nil))) pa_nil)))
      (pe_one (pe_callB (cr_all rfl) (by rfl) hall (by decide +kernel) (pa_cons (pe_lc (own := [("item", 1)]) (g := gName 1) (tt := tYes) rfl scIsRow.nd (pi_seq (pv 0)) (blkOk_by (N := ["value", "item"]) (sc := defScope sIsRow) (by decide +kernel)) (fun _ _ _ _ _ => pg_name (i := 1) scIsRow.nd rfl (Or.inl rfl)) (fun _ _ _ _ _ => pts_nil)
        (fun _ _ _ _ _ => pe_call Gr.ok hr rfl Gr.m Gr.kp Gr.b .nil pass0 (pa_cons (pv 1) pa_nil))) pa_nil)))))), ?_⟩
    refine ⟨_, rfl, (by show 2 ≤ sizeLine; decide), fun tp ntp => ?_⟩
    have s1 : Same H (upd H tp (HO.tup [V.ty "tuple", V.ty "list"])) := same_upd ntp
    have e1 : upd H tp (HO.tup [V.ty "tuple", V.ty "list"]) tp = some (HO.tup [V.ty "tuple", V.ty "list"]) := upd_same
    generalize upd H tp (HO.tup [V.ty "tuple", V.ty "list"]) = H1 at s1 e1 ⊢
    have hd1 := hd.mono s1
    refine ⟨v, tp, _, _, [.type "tuple", .type "list"], _, rfl, e1, .cons (.ty _) (.cons (.ty _) .nil), hd1.ty, kit_seq d, _, rfl, ?_⟩
    cases hs : seqD d with
    | none =>
      refine iteF ?_
      have z := q H1 s1
      rw [rowD_none hs] at z
      exact z
    | some ds =>
      refine iteT ?_
      obtain ⟨a, xs, rfl, hsq, hds⟩ := hd1.seq hs
      have hl := hds.len
      have hl2 := hlen ds hs
      refine ⟨_, rfl, a, rfl, lc_seq (xs := xs) hsq (fun D i H2 => Same H1 H2 ∧ H2 D = some (.lst ((ds.take i).map fun d => V.bl (partsD d).isSome))) ?_ ?_ ?_ ?_⟩
      · intro D hD
        exact ⟨same_upd hD, upd_same⟩
      · intro D i H2 hD ⟨s2, _⟩
        exact ⟨same_sqL s2, same_sqT s2⟩
      · intro D i x H2 hD hi ⟨s2, e2⟩
        obtain ⟨di, h1, h2⟩ := hds.at hi
        refine ⟨rfl, ?_⟩
        refine ⟨_, rfl, x, di, rfl, h2.mono s2, fun H3 s3 => ?_⟩
        refine ⟨_, s3 _ _ e2, ?_, (fun b o e => ?_), ?_⟩
        · rw [List.length_map, List.length_take, sizeLine_eq]
          omega
        · rw [upd_ne (ne_of_none e hD)]
          exact s3 _ _ (s2 _ _ e)
        · rw [upd_same, map_take_snoc h1]
      · intro D H2 hD ⟨s2, e2⟩
        refine ⟨D, ds.map fun d => (partsD d).isSome, rfl, ?_, ?_⟩
        · rw [List.map_map]
          refine SqL.of ?_
          rw [e2, hl, List.take_length]
          rfl
        · rw [mapM_all]
          have z := q H2 (s1.trans s2)
          rw [rowD_seq hs] at z
          exact z
theorem scPolyI : FnScope ["self", "numbers", "row", "number"] ["self", "numbers"] (defScope sPolyI) := ⟨rfl, rfl, rfl, by decide +kernel, rfl, by decide +kernel, by decide +kernel⟩
theorem ok_poly_init {f : Addr} {fd : FuncData} (F : Fun K "__init__" "Poly.__init__" sPolyI f fd) (T : Bk mg) (C : PoC K mg CP) (N : Ex P w K mg base "BadRow" CR ["row"]) (Gi : Df P w K mg base "is_ratio_row" 3 ["value"] (spIsRow K)) (Gt : Dx P w K mg base "told" 4 ["value", "what"] (spTold K CN)) :
    FnOk P w K mg base (L2.CX P w) 5 f fd ["self", "numbers"] (spPolyI K CP CR) := by
  refine F.okX scPolyI (fun vs H Q E h => ?_) (fun cdv A outer s H vs Q E hr h => ?_)
  · obtain ⟨x, dx, v, d, rfl, _⟩ := h
    rfl
  · obtain ⟨x, dx, v, d, rfl, hx, hd, hlen, q, e⟩ := h
    refine ⟨_, (pss_cons (ps_if (pt_not (pt_val (pe_call Gi.ok (hr.mono (by decide)) rfl Gi.m Gi.kp Gi.b .nil pass0 (pa_cons (pv 1) pa_nil))))
        (pss_one (ps_raise rfl (takes_of rfl rfl rfl rfl) (pmk_oex N.ox N.iC N.tI N.ok (hr.mono (by decide)) N.b .nil pass0 (by rfl) N.m (pa_cons (pv 1) pa_nil))))
        pss_nil)
      (PSs.nox (pss_cons (ps_setLc (i := 2) (own := [("number", 3)]) (g := gName 3) (tt := tYes) rfl scPolyI.nd rfl rfl (sw_true rfl rfl rfl (by decide +kernel)) (pi_seq (pv 1)) (blkOk_by (N := ["self", "numbers", "row", "number"]) (sc := defScope sPolyI) (by decide +kernel)) (fun _ _ _ _ _ => pg_name (i := 3) scPolyI.nd rfl (Or.inl rfl)) (fun _ _ _ _ _ => pts_nil)
          (fun _ _ _ _ _ => pe_call Gt.ok hr rfl Gt.m Gt.kp Gt.b .nil passL (pa_cons (pv 3) (pa_cons pe_str pa_nil))))
      (pss_cons (ps_while PassesOwn.never (PW.pt (pw_and (pt_truth (pv 2) (by intro _; rfl)) (pw_and1 (pt_cmpR op_eq (pe_ix ix_tup (pe_ix ix_list (pv 2) (pe_un un_neg pe_int) (fun _ _ => rfl)) pe_int (fun _ _ => rfl)) pe_int (nomark _)))))
        (pss_one (ps_expr (pe_bm0 PySem.F.plainAttrs_list PySem.F.slot_list_pop PySem.F.type_list_pop mt_pop (pv 2)))))
      (pss_one (ps_fld (pv 0) (pe_callTy call_tuple_of (by rfl) T.tuple (by decide +kernel) (pa_cons (pv 2) pa_nil)) rfl)))))), ?_⟩
    refine ⟨_, rfl, v, d, rfl, hd, hlen, fun H1 s1 => ⟨_, rfl, ?_⟩⟩
    have hd1 := hd.mono s1
    cases hp : rowD d with
    | none =>
      refine iteT ?_
      refine ⟨_, rfl, (by show 1 ≤ 1000; decide), ?_⟩
      exact raise_end rfl fun dd H' s2 n e2 => (e hp).same s1 dd H' s2 n e2
    | some ps =>
      refine iteF ?_
      obtain ⟨hbig, q⟩ := q ps hp
      obtain ⟨ds, hs⟩ : ∃ ds, seqD d = some ds := by
        cases hs : seqD d with
        | none => rw [rowD_none hs] at hp; cases hp
        | some ds => exact ⟨ds, rfl⟩
      have hm := hp
      rw [rowD_seq hs] at hm
      obtain ⟨ml, mi⟩ := mapM_some hm
      obtain ⟨a, xs, rfl, hsq, hds⟩ := hd1.seq hs
      have hl := hds.len
      have hl2 := hlen ds hs
      refine ⟨_, rfl, a, rfl, lc_seq (xs := xs) hsq (fun D i H2 => Same H1 H2 ∧ ∃ as, H2 D = some (.lst (as.map V.ref)) ∧ Tups H2 as ((ps.map lowP).take i)) ?_ ?_ ?_ ?_⟩
      · intro D hD
        exact ⟨same_upd hD, [], upd_same, .nil⟩
      · intro D i H2 hD ⟨s2, _⟩
        exact ⟨same_sqL s2, same_sqT s2⟩
      · intro D i y H2 hD hi ⟨s2, as, e2, t2⟩
        obtain ⟨di, h1, h2⟩ := hds.at hi
        obtain ⟨p, h3, h4⟩ := mi i di h1
        obtain ⟨t, b⟩ := p
        refine ⟨rfl, ?_⟩
        refine ⟨_, rfl, y, .str "number", di, rfl, h2.mono s2, fun t' b' hp' => ?_, fun z => by rw [h4] at z; cases z⟩
        rw [h4] at hp'
        cases hp'
        refine ⟨hbig (t, b) (List.mem_of_getElem? h3), fun r H3 s3 e3 => ?_⟩
        have rD : r ≠ D := ne_of e3 (s3 _ _ e2) (by intro z; cases z)
        have up : ∀ (a : Addr) (p : Int × Int), H3 a = some (.tup [.int p.1, .int p.2]) → upd H3 D (.lst (as.map V.ref ++ [V.ref r])) a = some (.tup [.int p.1, .int p.2]) := fun a p z => by
          rw [upd_ne (ne_of z (s3 _ _ e2) (by intro z; cases z))]
          exact z
        refine ⟨_, s3 _ _ e2, ?_, (fun b o e => ?_), as ++ [r], ?_, ?_⟩
        · have := t2.len
          rw [List.length_take, List.length_map] at this
          rw [List.length_map, sizeLine_eq]
          omega
        · rw [upd_ne (ne_of_none e hD)]
          exact s3 _ _ (s2 _ _ e)
        · rw [upd_same, List.map_append]
          rfl
        · rw [List.take_succ, List.getElem?_map, h3]
          exact ((t2.same s3).imp up).snoc (up _ _ e3)
      · intro lr H2 nlr ⟨s2, as, e2, t2⟩
        have tk : (ps.map lowP).take xs.length = ps.map lowP := by
          rw [hl, ml]
          exact List.take_of_length_le (by rw [List.length_map]; exact Nat.le_refl _)
        rw [tk] at t2
        refine ⟨fun m σ H3 => ∃ as qs, m = List.length as ∧ (∃ v3, σ = [some (.ref x), some (.ref a), some (.ref lr), v3]) ∧ Same H1 H3 ∧ H3 lr = some (.lst (as.map V.ref)) ∧ Tups H3 as qs ∧ strip qs = strip (ps.map lowP) ∧ as.length ≤ 1000, ⟨_, as, _, rfl, ⟨_, rfl⟩, s2, e2, t2, rfl, ?_⟩, ?_⟩
        · have := t2.len
          rw [List.length_map] at this
          omega
        · rintro m σ H3 ⟨as, qs, rfl, ⟨v3, rfl⟩, s3, e3, t3, hst, hz⟩
          have fin : strip qs = qs → sFld K (tVar 0) (tCB (fun xs H Q => ∃ p ys, xs = [.ref p] ∧ ((SqL K H p ys ∧ ∀ l, H l = none → Q (.ref l) (upd H l (.tup ys))) ∨ (SqT K H p ys ∧ Q (.ref p) H))) (tCons (tVar 2) tNil)) "numbers" { nx := fun _ H' => Q .non H', rt := Q } [some (.ref x), some (.ref a), some (.ref lr), v3] H3 := fun hqs => by
            refine ⟨_, rfl, lr, _, rfl, .inl ⟨SqL.of e3, fun tq ntq => ?_⟩⟩
            have hx3 := s3 _ _ (s1 _ _ hx)
            have hxq : x ≠ tq := ne_of_none hx3 ntq
            refine ⟨_, rfl, x, CP, dx, [], rfl, (by rw [upd_ne hxq]; exact hx3), C.cl, C.nf, (by decide), ?_⟩
            refine q _ (fun b o nb eb => ?_) ⟨dx, tq, as, upd_same, (by rw [upd_ne hxq.symm]; exact upd_same), ?_⟩
            · have eb3 := s3 _ _ (s1 _ _ eb)
              rw [upd_ne nb, upd_ne (ne_of_none eb3 ntq)]
              exact eb3
            · rw [← hst, hqs]
              refine t3.imp fun c p z => ?_
              rw [upd_ne (ne_of z hx3 (by intro z; cases z)), upd_ne (ne_of_none z ntq)]
              exact z
          rcases snoc_cases qs with rfl | ⟨qs, y, rfl⟩
          · cases t3
            refine ⟨_, rfl, false, .inl ⟨[], SqL.of e3, rfl⟩, ?_⟩
            refine iteF ?_
            refine iteF ?_
            exact fin strip_nil
          · obtain ⟨as', r, rfl, t4, er⟩ := t3.unsnoc
            refine ⟨_, rfl, true, .inl ⟨_, SqL.of e3, by simp⟩, ?_⟩
            refine iteT ?_
            refine ⟨_, rfl, _, rfl, lr, _, _, .ref r, rfl, rfl, SqL.of e3, (by rw [List.map_append]; exact atI_last _ _), r, _, _, .int y.1, rfl, rfl, SqT.of er, at_of (j := 0) rfl rfl, rfl, _, rfl, ?_⟩
            by_cases y0 : y.1 = 0
            · rw [decide_eq_true (by rw [y0])]
              refine iteT ?_
              refine ⟨fun σ' H' => ∃ qs', (∃ v3, σ' = [some (.ref x), some (.ref a), some (.ref lr), v3]) ∧ Same H1 H' ∧ H' lr = some (.lst (as'.map V.ref)) ∧ Tups H' as' qs' ∧ strip qs' = strip (ps.map lowP) ∧ as'.length ≤ 1000, fun σ' H' ⟨qs', h1, h2, h3, h4, h5, h6⟩ => ⟨as'.length, by rw [List.length_append]; simp, as', qs', rfl, h1, h2, h3, h4, h5, h6⟩, ?_⟩
              refine ⟨_, rfl, .inl ⟨rfl, _, SqL.of e3⟩, lr, _, .ref r, rfl, rfl, e3, ?_, ?_⟩
              · simp
              · refine ⟨qs, ⟨_, rfl⟩, fun b o eb => ?_, ?_, ?_, ?_, ?_⟩
                · rw [upd_ne (ne_of_none eb nlr)]
                  exact s3 _ _ eb
                · rw [upd_same, List.map_append]
                  simp
                · refine t4.imp fun c p z => ?_
                  rw [upd_ne (ne_of z e3 (by intro z; cases z))]
                  exact z
                · rw [strip_snoc, if_pos y0] at hst
                  exact hst
                · rw [List.length_append] at hz
                  omega
            · rw [decide_eq_false (fun z => y0 (by have z2 := V.int.inj z; exact z2))]
              refine iteF ?_
              exact fin (by rw [strip_snoc, if_neg y0])
def spPolyE (K : PySem.W.Frag) (CP : Addr) : Sp := fun vs H Q _ => ∃ (a : Addr) (rs : List (Int × Int)) (v : V), vs = [.ref a, v] ∧ PolyAt K CP H a rs ∧
  ((∃ (b : Addr) (rs2 : List (Int × Int)), v = .ref b ∧ PolyAt K CP H b rs2 ∧ Q (.bl (decide (rs = rs2))) H) ∨ (∃ d, Dt K H v d ∧ Q (.bl false) H))
def spPolyD (K : PySem.W.Frag) (CP : Addr) : Sp := fun vs H Q _ => ∃ (a : Addr) (rs : List (Int × Int)), vs = [.ref a] ∧ PolyAt K CP H a rs ∧ Q (.int ((rs.length : Int) - 1)) H
def leadP (rs : List (Int × Int)) : Int × Int := rs.getLast?.getD (0, 1)
theorem scPolyE : FnScope ["self", "other"] ["self", "other"] (defScope sPolyE) := ⟨rfl, rfl, rfl, by decide +kernel, rfl, by decide +kernel, by decide +kernel⟩
theorem ok_poly_eq {f : Addr} {fd : FuncData} (F : Fun K "__eq__" "Poly.__eq__" sPolyE f fd) (T : Bk mg) (hm1 : M1 base) (C : PoC K mg CP) : FnOk P w K mg base CX0 1 f fd ["self", "other"] (spPolyE K CP) := by
  refine F.ok scPolyE (fun vs H Q E h => ?_) (fun cdv A outer s H vs Q E hr h => ?_)
  · obtain ⟨a, rs, v, rfl, _⟩ := h
    rfl
  · obtain ⟨a, rs, v, rfl, ha, q⟩ := h
    refine ⟨_, (pss_one (ps_ret (pe_and (pe_callB call_isi (by rfl) T.isinstance (by decide +kernel) (pa_cons (pv 1) (pa_cons (pe_glob (v := V.ref CP) rfl C.m rfl) pa_nil))) (pe_one (pe_cmpR (op_eqT hr.units hm1) (pe_fld (pv 0) rfl) (pe_fld (pv 1) rfl) (nomark _)))))), ?_⟩
    rcases q with ⟨b, rs2, rfl, hb, q⟩ | ⟨d, hd, q⟩
    · refine ⟨_, rfl, .ref b, .ref CP, _, .ref CP, _, rfl, .own _, hb.ty C, C.io, _, rfl, ?_⟩
      refine iteT ?_
      obtain ⟨dx, t, as, h1, h2, h3⟩ := ha
      obtain ⟨dx2, t2, as2, g1, g2, g3⟩ := hb
      refine ⟨_, rfl, a, CP, dx, _, .ref t, rfl, h1, C.cl, C.nf, (by kernel_rfl), _, rfl, b, CP, dx2, _, .ref t2, rfl, g1, C.cl, C.nf, (by kernel_rfl), ?_⟩
      refine ⟨.tuple (rs.map pairD), .tuple (rs2.map pairD), .tup (SqT.of h2) h3.dts, .tup (SqT.of g2) g3.dts, (plain_row _).1, (plain_row _).1, (depth_row _).1, ?_⟩
      rw [eqv_row]
      exact q
    · refine ⟨_, rfl, v, .ref CP, _, .ref CP, _, rfl, .own _, hd.ty, C.no d, _, rfl, ?_⟩
      refine iteF ?_
      exact q
theorem scPolyD : FnScope ["self"] ["self"] (defScope sPolyD) := ⟨rfl, rfl, rfl, by decide +kernel, rfl, by decide +kernel, by decide +kernel⟩
theorem ok_poly_degree {f : Addr} {fd : FuncData} (F : Fun K "degree" "Poly.degree" sPolyD f fd) (T : Bk mg) (C : PoC K mg CP) : FnOk P w K mg base CX0 1 f fd ["self"] (spPolyD K CP) := by
  refine F.ok scPolyD (fun vs H Q E h => ?_) (fun cdv A outer s H vs Q E hr h => ?_)
  · obtain ⟨a, rs, rfl, _⟩ := h
    rfl
  · obtain ⟨a, rs, rfl, ⟨dx, t, as, h1, h2, h3⟩, q⟩ := h
    refine ⟨_, (pss_one (ps_ret (pe_op op_sub (pe_callB call_len_seq (by rfl) T.len (by decide +kernel) (pa_cons (pe_fld (pv 0) rfl) pa_nil)) pe_int))), ?_⟩
    refine ⟨_, rfl, a, CP, dx, _, .ref t, rfl, h1, C.cl, C.nf, (by kernel_rfl), t, _, rfl, .inr (SqT.of h2), _, _, rfl, rfl, ?_⟩
    rw [List.length_map, h3.len]
    exact q
end

end Vf

set_option maxRecDepth 100000
set_option maxHeartbeats 8000000
namespace Vf
open PySem PySem.Spec PyProof.Rows L2
/-! ### the program's rows -/
/-- a row, a list or a tuple, of the pairs of these numbers -/
def RS (K : PySem.W.Frag) (H : Hp) (l : Addr) (qs : List Rat) : Prop := ∃ as, (SqL K H l (as.map V.ref) ∨ SqT K H l (as.map V.ref)) ∧ Tups H as (qs.map pq)
theorem RS.same {K : PySem.W.Frag} {H H' : Hp} {l : Addr} {qs : List Rat} (h : RS K H l qs) (s : Same H H') : RS K H' l qs := by
  obtain ⟨as, e, t⟩ := h
  exact ⟨as, e.imp (same_sqL s) (same_sqT s), t.same s⟩
theorem RS.of {K : PySem.W.Frag} {H : Hp} {l : Addr} {qs : List Rat} (h : RL H l qs) : RS K H l qs := by
  obtain ⟨as, e, t⟩ := h
  exact ⟨as, .inl (SqL.of e), t⟩
theorem low_Z {q : Rat} : low q.num q.den = pq q := low_id (pq_low q)
theorem parts_q (q : Rat) : partsD (pairD (pq q)) = some (q.num, (q.den : Int)) := by
  show (if 0 < (q.den : Int) then some (q.num, (q.den : Int)) else none) = _
  rw [if_pos (by have := q.den_pos; omega)]
/-- below 2 ^ 1900 above and below -/
def Z2 (q : Rat) : Prop := Sz q.num ∧ Sz (q.den : Int)
theorem z2_zero : Z2 0 := ⟨by show (0 : Nat) < 2 ^ 1900; decide +kernel, by show (1 : Nat) < 2 ^ 1900; decide +kernel⟩
theorem z2_neg {q : Rat} (h : Z2 q) : Z2 (-q) := by
  refine ⟨?_, ?_⟩
  · show (-q).num.natAbs < _
    rw [Rat.neg_num, Int.natAbs_neg]
    exact h.1
  · show ((-q).den : Int).natAbs < _
    rw [Rat.neg_den]
    exact h.2
def rIxS (K : PySem.W.Frag) : R2 := fun x y H Q => ∃ p xs i v, x = .ref p ∧ y = .int i ∧ (SqL K H p xs ∨ SqT K H p xs) ∧ atI xs i = some v ∧ Q v H
theorem ix_seq {X : Cx} : IxR X (rIxS X.K) := by
  intro value slice pins s σ H x y v u Q I rx ry h hs
  obtain ⟨p, xs, i, z, e1, e2, hq, he, q⟩ := h
  rcases hq with hq | hq
  · exact ix_list value slice pins s σ H x y v u Q I rx ry ⟨p, xs, i, z, e1, e2, hq, he, q⟩ hs
  · exact ix_tup value slice pins s σ H x y v u Q I rx ry ⟨p, xs, i, z, e1, e2, hq, he, q⟩ hs
theorem RS.getQ {K : PySem.W.Frag} {H : Hp} {l : Addr} {qs : List Rat} (h : RS K H l qs) : ∃ xs : List V, (SqL K H l xs ∨ SqT K H l xs) ∧ xs.length = qs.length ∧ ∀ i, i < qs.length → ∃ a, xs[i]? = some (.ref a) ∧ TR H a (cf qs i) := by
  obtain ⟨as, e, t⟩ := h
  refine ⟨_, e, by rw [List.length_map, t.lenQ], fun i hi => ?_⟩
  obtain ⟨a, h1, h2⟩ := t.getQ hi
  exact ⟨a, by rw [List.getElem?_map, h1]; rfl, h2⟩
def spNumOf (K : PySem.W.Frag) : Sp := fun vs H Q _ => ∃ (l : Addr) (a : List Rat) (i : Nat), vs = [.ref l, .int i] ∧ RS K H l a ∧ ∀ (r : Addr) (H' : Hp), Same H H' → TR H' r (cf a i) → Q (.ref r) H'
def spSums (K : PySem.W.Frag) : Sp := fun vs H Q _ => ∃ (l1 l2 : Addr) (a b : List Rat), vs = [.ref l1, .ref l2] ∧ RS K H l1 a ∧ RS K H l2 b ∧ a.length ≤ 500 ∧ b.length ≤ 500 ∧ (∀ i, Z2 (cf a i)) ∧ (∀ i, Z2 (cf b i)) ∧ ∀ (l : Addr) (H' : Hp), Same H H' → RL H' l (padd a b) → Q (.ref l) H'
def spOpp (K : PySem.W.Frag) : Sp := fun vs H Q _ => ∃ (l1 : Addr) (a : List Rat), vs = [.ref l1] ∧ RS K H l1 a ∧ a.length ≤ 500 ∧ ∀ (l : Addr) (H' : Hp), Same H H' → RL H' l (a.map (- ·)) → Q (.ref l) H'
section
variable {P : Program} {w : World} {K : PySem.W.Frag} {mg : Str → Option Value} {base : Heap} {CP CR CN : Addr}
abbrev sNumOf : Stmt := topS 35
abbrev sSums : Stmt := topS 36
abbrev sOpp : Stmt := topS 37
theorem scNumOf : FnScope ["numbers", "power"] ["numbers", "power"] (defScope sNumOf) := ⟨rfl, rfl, rfl, by decide +kernel, rfl, by decide +kernel, by decide +kernel⟩
theorem ok_num_of {f : Addr} {fd : FuncData} (F : Fun K "number_of" "number_of" sNumOf f fd) (T : Bk mg) : FnOk P w K mg base CX0 1 f fd ["numbers", "power"] (spNumOf K) := by
  refine F.ok scNumOf (fun vs H Q E h => ?_) (fun cdv A outer s H vs Q E hr h => ?_)
  · obtain ⟨l, a, i, rfl, _⟩ := h
    rfl
  · obtain ⟨l, a, i, rfl, hl, q⟩ := h
    refine ⟨_, (pss_one (ps_ret (pe_ifExp (pt_cmpR op_lt (pv 1) (pe_callB call_len_seq (by rfl) T.len (by decide +kernel) (pa_cons (pv 0) pa_nil)) (nomark _)) (pe_ix ix_seq (pv 0) (pv 1) (fun _ _ => rfl)) (pe_tup (pa_cons pe_int (pa_cons pe_int pa_nil)))))), ?_⟩
    obtain ⟨xs, hx, hn, get⟩ := hl.getQ
    refine ⟨_, rfl, _, rfl, l, xs, rfl, hx, _, _, rfl, rfl, _, rfl, ?_⟩
    rw [hn]
    by_cases hi : i < a.length
    · rw [decide_eq_true (show (i : Int) < (a.length : Nat) by omega)]
      refine iteT ?_
      obtain ⟨r, h1, h2⟩ := get i hi
      exact ⟨_, rfl, _, rfl, l, xs, _, _, rfl, rfl, hx, at_of (j := i) rfl h1, q r H (Same.refl _) h2⟩
    · rw [decide_eq_false (show ¬(i : Int) < (a.length : Nat) by omega)]
      refine iteF ?_
      refine ⟨(by show 2 ≤ sizeLine; decide), fun t nt => q t _ (same_upd nt) ?_⟩
      rw [cf_ge (by omega)]
      exact tr_zero upd_same
theorem scSums : FnScope ["one", "other", "powers", "power"] ["one", "other"] (defScope sSums) := ⟨rfl, rfl, rfl, by decide +kernel, rfl, by decide +kernel, by decide +kernel⟩
theorem ok_sums {f : Addr} {fd : FuncData} (F : Fun K "sums_of" "sums_of" sSums f fd) (T : Bk mg) (hmax : mg "max" = none) (Gn : Df P w K mg base "number_of" 1 ["numbers", "power"] (spNumOf K)) (Gp : Dx P w K mg base "plus" 4 ["one", "other"] (spTwo K CN (okLow gPlus))) : FnOk P w K mg base (L2.CX P w) 5 f fd ["one", "other"] (spSums K) := by
  refine F.okX scSums (fun vs H Q E h => ?_) (fun cdv A outer s H vs Q E hr h => ?_)
  · obtain ⟨l1, l2, a, b, rfl, _⟩ := h
    rfl
  · obtain ⟨l1, l2, a, b, rfl, h1, h2, la, lb, za, zb, q⟩ := h
    refine ⟨_, (pss_cons (ps_set (i := 2) scSums.nd rfl (Or.inl rfl) (pe_callTy cr_range1 (by rfl) T.range (by decide +kernel) (pa_cons (pe_callB (call_max2 rfl) (by rfl) hmax (by decide +kernel) (pa_cons (pe_callB call_len_seq (by rfl) T.len (by decide +kernel) (pa_cons (pv 0) pa_nil)) (pa_cons (pe_callB call_len_seq (by rfl) T.len (by decide +kernel) (pa_cons (pv 1) pa_nil)) pa_nil))) pa_nil)))
      (pss_one (ps_ret (pe_lc (own := [("power", 3)]) (g := gName 3) (tt := tYes) rfl scSums.nd (pi_rng (pv 2)) (blkOk_by (N := ["one", "other", "powers", "power"]) (sc := defScope sSums) (by decide +kernel)) (fun _ _ _ _ _ => pg_name (i := 3) scSums.nd rfl (Or.inl rfl)) (fun _ _ _ _ _ => pts_nil)
        (fun _ _ _ _ _ => (pe_call Gp.ok (hr.mono (by decide)) rfl Gp.m Gp.kp Gp.b .nil passL (pa_cons (pe_call Gn.ok (hr.mono (by decide)) rfl Gn.m Gn.kp Gn.b .nil pass0 (pa_cons (pv 0) (pa_cons (pv 3) pa_nil))) (pa_cons (pe_call Gn.ok (hr.mono (by decide)) rfl Gn.m Gn.kp Gn.b .nil pass0 (pa_cons (pv 1) (pa_cons (pv 3) pa_nil))) pa_nil)))))))), ?_⟩
    obtain ⟨xs, hx, hn, _⟩ := h1.getQ
    obtain ⟨ys, hy, hm, _⟩ := h2.getQ
    refine ⟨_, rfl, l1, xs, rfl, hx, _, rfl, l2, ys, rfl, hy, _, _, rfl, ?_⟩
    rw [hn, hm]
    have em : (if ((b.length : Nat) : Int) > ((a.length : Nat) : Int) then ((b.length : Nat) : Int) else ((a.length : Nat) : Int)) = ((max a.length b.length : Nat) : Int) := by split <;> omega
    rw [em]
    generalize hmx : max a.length b.length = n
    refine ⟨_, rfl, fun p np => ?_⟩
    have ep : upd H p (HO.rng 0 (n : Int)) p = some (HO.rng 0 (n : Int)) := upd_same
    have s1 : Same H (upd H p (HO.rng 0 (n : Int))) := same_upd np
    generalize upd H p (HO.rng 0 (n : Int)) = H1 at ep s1 ⊢
    refine ⟨_, rfl, p, 0, n, rfl, ep, by omega, fun D hD => ?_⟩
    rw [show ((n : Int) - 0).toNat = n by omega]
    refine lc_range (lo := 0) (n := n) (fun i H' => Same H1 H' ∧ ∃ zs, H' D = some (.lst (zs.map V.ref)) ∧ Tups H' zs ((tab i fun j => cf a j + cf b j).map pq)) ⟨same_upd hD, [], upd_same, .nil⟩ ?_ ?_
    · rintro i H' hi ⟨ss, zs, eD, tz⟩
      have e0 : (0 + (i : Int)) = (i : Int) := by omega
      refine ⟨rfl, ?_⟩
      rw [e0]
      refine ⟨_, rfl, _, rfl, l1, a, i, rfl, (h1.same s1).same ss, fun ra H2 s2 tra => ?_⟩
      refine ⟨_, rfl, _, rfl, l2, b, i, rfl, ((h2.same s1).same ss).same s2, fun rb H3 s3 trb => ?_⟩
      refine ⟨_, _, pairD (pq (cf a i)), pairD (pq (cf b i)), rfl, .tup (SqT.of (s3 _ _ tra)) (.cons (.int _) (.cons (.int _) .nil)), .tup (SqT.of trb) (.cons (.int _) (.cons (.int _) .nil)), fun t b' x c h3 h4 => ?_, (fun z => by rw [parts_q] at z; cases z), (fun _ z => by rw [parts_q] at z; cases z)⟩
      rw [parts_q] at h3 h4
      cases h3
      cases h4
      refine ⟨(za i).1, (za i).2, (zb i).1, (zb i).2, fun r' H'' s' er => ?_⟩
      have er : TR H'' r' (cf a i + cf b i) := by
        have z := low_add (cf a i) (cf b i)
        unfold gPlus at er
        rw [z] at er
        exact er
      have eD' := s' _ _ (s3 _ _ (s2 _ _ eD))
      refine ⟨_, eD', ?_, (fun b' o' e' => ?_), zs ++ [r'], ?_, ?_⟩
      · have := tz.lenQ
        rw [tab_len] at this
        rw [List.length_map, sizeLine_eq]
        omega
      · rw [upd_ne (ne_of_none e' hD)]
        exact s' _ _ (s3 _ _ (s2 _ _ (ss _ _ e')))
      · rw [upd_same, List.map_append]
        rfl
      · rw [tab_snoc]
        have up : ∀ (c : Addr) (p : Int × Int), H'' c = some (.tup [.int p.1, .int p.2]) → upd H'' D (.lst (zs.map V.ref ++ [V.ref r'])) c = some (.tup [.int p.1, .int p.2]) := fun c p z => by
          rw [upd_ne (ne_of z eD' (by intro z; cases z))]
          exact z
        exact Tups.snocQ ((((tz.same s2).same s3).same s').imp up) (up _ (pq _) er)
    · rintro H' ⟨ss, zs, eD, tz⟩
      refine q D H' (s1.trans ss) ⟨zs, eD, ?_⟩
      unfold padd
      rw [hmx]
      exact tz
theorem scOpp : FnScope ["numbers", "top", "bottom"] ["numbers"] (defScope sOpp) := ⟨rfl, rfl, rfl, by decide +kernel, rfl, by decide +kernel, by decide +kernel⟩
theorem ok_opp {f : Addr} {fd : FuncData} (F : Fun K "opposites_of" "opposites_of" sOpp f fd) : FnOk P w K mg base CX0 1 f fd ["numbers"] (spOpp K) := by
  refine F.ok scOpp (fun vs H Q E h => ?_) (fun cdv A outer s H vs Q E hr h => ?_)
  · obtain ⟨l1, a, rfl, _⟩ := h
    rfl
  · obtain ⟨l1, a, rfl, ⟨as, e1, t1⟩, la, q⟩ := h
    refine ⟨_, (pss_one (ps_ret (pe_lc (own := [("top", 1), ("bottom", 2)]) (g := gTup K 2 (gCons (gName 1) (gCons (gName 2) gNil))) (tt := tYes) rfl scOpp.nd (pi_seq (pv 0)) (blkOk_by (N := ["numbers", "top", "bottom"]) (sc := defScope sOpp) (by decide +kernel)) (fun _ _ _ _ _ => pg_tup rfl (pgs_cons (pg_name (i := 1) scOpp.nd rfl (Or.inl rfl)) (pgs_cons (pg_name (i := 2) scOpp.nd rfl (Or.inl rfl)) pgs_nil))) (fun _ _ _ _ _ => pts_nil)
      (fun _ _ _ _ _ => (pe_tup (pa_cons (pe_un un_neg (pv 1)) (pa_cons (pv 2) pa_nil))))))), ?_⟩
    have n1 := t1.lenQ
    refine ⟨_, rfl, l1, rfl, lc_seq (xs := as.map V.ref) e1 (fun D i H' => Same H H' ∧ ∃ zs, H' D = some (.lst (zs.map V.ref)) ∧ Tups H' zs ((tab i fun j => -cf a j).map pq)) ?_ ?_ ?_ ?_⟩
    · intro D hD
      exact ⟨same_upd hD, [], upd_same, .nil⟩
    · intro D i H2 hD ⟨s2, _⟩
      exact ⟨same_sqL s2, same_sqT s2⟩
    · intro D i x H' hD hi ⟨ss, zs, eD, tz⟩
      rw [List.getElem?_map] at hi
      cases hr0 : as[i]? with
      | none => rw [hr0] at hi; cases hi
      | some r =>
        rw [hr0] at hi
        cases hi
        obtain ⟨qq, hq1, hq2⟩ := t1.atQ hr0
        have hc := cf_get hq1
        refine ⟨r, _, rfl, SqT.of (ss _ _ hq2), rfl, _, _, rfl, _, _, rfl, rfl, rfl, ?_⟩
        refine ⟨_, rfl, _, rfl, _, rfl, (by show 2 ≤ sizeLine; decide), fun t nt => ?_⟩
        have et : TR (upd H' t (HO.tup [V.int (-qq.num), V.int (qq.den : Int)])) t (-cf a i) := by
          rw [hc]
          unfold TR
          rw [upd_same, Rat.neg_num, Rat.neg_den]
        have st : Same H' (upd H' t (HO.tup [V.int (-qq.num), V.int (qq.den : Int)])) := same_upd nt
        generalize upd H' t (HO.tup [V.int (-qq.num), V.int (qq.den : Int)]) = H2 at et st ⊢
        have eD' := st _ _ eD
        refine ⟨_, eD', ?_, (fun b' o' e' => ?_), zs ++ [t], ?_, ?_⟩
        · have := tz.lenQ
          have := (List.getElem?_eq_some_iff.mp hr0).1
          rw [tab_len] at *
          rw [List.length_map, sizeLine_eq]
          omega
        · rw [upd_ne (ne_of_none e' hD)]
          exact st _ _ (ss _ _ e')
        · rw [upd_same, List.map_append]
          rfl
        · rw [tab_snoc]
          have up : ∀ (c : Addr) (p : Int × Int), H2 c = some (.tup [.int p.1, .int p.2]) → upd H2 D (.lst (zs.map V.ref ++ [V.ref t])) c = some (.tup [.int p.1, .int p.2]) := fun c p z => by
            rw [upd_ne (ne_of z eD' (by intro z; cases z))]
            exact z
          exact Tups.snocQ ((tz.same st).imp up) (up t (pq (-cf a i)) et)
    · intro D H' hD ⟨ss, zs, eD, tz⟩
      rw [List.length_map, n1] at tz
      have e : (tab a.length fun j => -cf a j) = a.map (- ·) := by
        refine List.ext_getElem? fun i => ?_
        unfold tab
        rw [List.getElem?_map, List.getElem?_map]
        by_cases h : i < a.length
        · rw [List.getElem?_range h, List.getElem?_eq_getElem h]
          show some (-cf a i) = some (-a[i])
          rw [cf_lt h]
        · rw [List.getElem?_eq_none_iff.mpr (by rw [List.length_range]; omega), List.getElem?_eq_none_iff.mpr (by omega)]
          rfl
      rw [e] at tz
      exact q D H' ss ⟨zs, eD, tz⟩
end

end Vf

set_option maxRecDepth 100000
set_option maxHeartbeats 8000000
namespace Vf
open PySem PySem.Spec PyProof.Rows L2
/-! ### rows over one bottom -/
/-- the numbers of a Poly of the law -/
def Sm (q : Rat) : Prop := q.num.natAbs ≤ 2 ^ 13 ∧ q.den ≤ 2 ^ 12
theorem sm_zero' : Sm 0 := ⟨Nat.zero_le _, by show 1 ≤ 2 ^ 12; decide⟩
theorem num_den (q : Rat) : q * ((q.den : Nat) : Rat) = ((q.num : Int) : Rat) := by
  obtain ⟨n, e, h⟩ := Fr.self q
  have h0 : (q.den : Rat) ≠ 0 := by
    have := q.den_nz
    exact_mod_cast this
  have z : (q.num : Rat) / (q.den : Rat) = q := by
    have := Rat.num_divInt_den q
    rw [Rat.divInt_eq_div] at this
    exact_mod_cast this
  have := Rat.div_mul_cancel (a := (q.num : Rat)) h0
  rw [z] at this
  exact this
theorem over_one {q : Rat} {b : Nat} (h : q.den ∣ b) : q * (b : Rat) = ((q.num * ((b : Int) / (q.den : Int)) : Int) : Rat) := by
  obtain ⟨k, rfl⟩ := h
  have e : ((q.den * k : Nat) : Int) / (q.den : Int) = (k : Int) := by
    have := q.den_nz
    rw [Int.natCast_mul, Int.mul_ediv_cancel_left _ (by omega)]
  rw [e]
  have e2 : ((q.den * k : Nat) : Rat) = (q.den : Rat) * (k : Rat) := by exact_mod_cast rfl
  have e3 : ((q.num * (k : Int) : Int) : Rat) = (q.num : Rat) * (k : Rat) := by exact_mod_cast rfl
  rw [e2, e3, ← Rat.mul_assoc, num_den]
def spOver (K : PySem.W.Frag) : Sp := fun vs H Q _ => ∃ (l : Addr) (as : List Addr) (a : List Rat), vs = [.ref l] ∧ SqT K H l (as.map V.ref) ∧ Tups H as (a.map pq) ∧ a.length ≤ 13 ∧ (∀ i, Sm (cf a i)) ∧
  ∀ (r l' : Addr) (ns : List Int) (b : Nat) (H' : Hp), Same H H' → H' r = some (.tup [.ref l', .int (b : Int)]) → H' l' = some (.lst (ns.map V.int)) → 0 < b → b ≤ 2 ^ 156 → ns.length = a.length → (∀ i, cf a i * (b : Rat) = ((ci ns i : Int) : Rat)) → (∀ i, (ci ns i).natAbs ≤ 2 ^ 169) → Q (.ref r) H'
section
variable {P : Program} {w : World} {K : PySem.W.Frag} {mg : Str → Option Value} {base : Heap} {CP CR CN : Addr}
abbrev sOver : Stmt := topS 39
theorem scOver : FnScope ["numbers", "below", "number", "top", "bottom"] ["numbers"] (defScope sOver) := ⟨rfl, rfl, rfl, by decide +kernel, rfl, by decide +kernel, by decide +kernel⟩
theorem lt_4000 {b : Nat} {k : Nat} (h : b ≤ 2 ^ k) (hk : k < 3900) : b < 2 ^ 3900 := Nat.lt_of_le_of_lt h (Nat.pow_lt_pow_right (by decide) hk)
theorem ok_over {f : Addr} {fd : FuncData} (F : Fun K "over_one_bottom" "over_one_bottom" sOver f fd) (hlcm : mg "lcm" = some (.builtin "math.lcm")) : FnOk P w K mg base CX0 1 f fd ["numbers"] (spOver K) := by
  refine F.ok scOver (fun vs H Q E h => ?_) (fun cdv A outer s H vs Q E hr h => ?_)
  · obtain ⟨l, as, a, rfl, _⟩ := h
    rfl
  · obtain ⟨l, as, a, rfl, hS, t1, la, sa, q⟩ := h
    refine ⟨_, (pss_cons (ps_set (i := 1) scOver.nd rfl (Or.inr rfl) pe_int)
  (pss_cons (ps_for PassesOwn.never rfl (pi_tup (pv 0)) (pg_name (i := 2) scOver.nd rfl (Or.inl rfl))
    (pss_one (ps_set (i := 1) scOver.nd rfl (Or.inr rfl) (pe_callBfun cr_lcm (by rfl) hlcm (pa_cons (pv 1) (pa_cons (pe_ix ix_tup (pv 2) pe_int (fun _ _ => rfl)) pa_nil))))))
  (pss_one (ps_ret (pe_tup (pa_cons (pe_lc (own := [("top", 3), ("bottom", 4)]) (g := gTup K 2 (gCons (gName 3) (gCons (gName 4) gNil))) (tt := tYes) rfl scOver.nd (pi_seq (pv 0)) (blkOk_by (N := ["numbers", "below", "number", "top", "bottom"]) (sc := defScope sOver) (by decide +kernel)) (fun _ _ _ _ _ => pg_tup rfl (pgs_cons (pg_name (i := 3) scOver.nd rfl (Or.inl rfl)) (pgs_cons (pg_name (i := 4) scOver.nd rfl (Or.inl rfl)) pgs_nil))) (fun _ _ _ _ _ => pts_nil) (fun _ _ _ _ _ => (pe_op op_mulW (pv 3) (pe_op op_fdivW (pv 1) (pv 4))))) (pa_cons (pv 1) pa_nil))))))), ?_⟩
    have n1 := t1.lenQ
    refine ⟨_, rfl, l, rfl, ⟨_, hS⟩, for_tup (K := K) (a := l) (xs := as.map V.ref) (fun i σ H' => ∃ (b : Nat) (v : Option V), σ = [some (.ref l), some (.int (b : Int)), v, none, none] ∧ Same H H' ∧ 0 < b ∧ b ≤ (2 ^ 12) ^ i ∧ ∀ j, j < i → (cf a j).den ∣ b)
      ⟨1, none, rfl, Same.refl _, by decide, by decide, fun j hj => by omega⟩ (fun i σ H' _ ⟨_, _, _, ss, _⟩ => same_sqT ss hS) ?_ ?_⟩
    · rintro i x σ H' hi ⟨b, v, rfl, ss, b0, bi, dv⟩
      rw [List.getElem?_map] at hi
      cases hr0 : as[i]? with
      | none => rw [hr0] at hi; cases hi
      | some r =>
        rw [hr0] at hi
        cases hi
        obtain ⟨qq, hq1, hq2⟩ := t1.atQ hr0
        have hc := cf_get hq1
        have hi13 : i < 13 := by
          have := (List.getElem?_eq_some_iff.mp hr0).1
          omega
        have hb : b < 2 ^ 4000 := by
          have e : ((2 : Nat) ^ 12) ^ i = 2 ^ (12 * i) := (Nat.pow_mul _ _ _).symm
          rw [e] at bi
          exact Nat.lt_of_le_of_lt bi (Nat.pow_lt_pow_right (by decide) (by omega))
        have hd : qq.den ≤ 2 ^ 12 := by rw [← hc]; exact (sa i).2
        have hd0 := qq.den_pos
        refine ⟨_, rfl, _, rfl, r, _, _, .int (qq.den : Int), rfl, rfl, SqT.of (ss _ _ hq2), at_of (j := 1) rfl rfl, _, _, rfl, by rw [Int.natAbs_natCast]; exact hb, by rw [Int.natAbs_natCast]; exact Nat.lt_of_le_of_lt hd (Nat.pow_lt_pow_right (by decide) (by decide)), ?_⟩
        rw [Int.natAbs_natCast, Int.natAbs_natCast]
        refine ⟨b.lcm qq.den, _, rfl, ss, Nat.lcm_pos b0 hd0, ?_, fun j hj => ?_⟩
        · have le : b.lcm qq.den ≤ b * qq.den := Nat.le_of_dvd (Nat.mul_pos b0 hd0) (Nat.lcm_dvd_mul b qq.den)
          rw [Nat.pow_succ]
          exact Nat.le_trans le (Nat.mul_le_mul bi hd)
        · by_cases e : j = i
          · rw [e, hc]
            exact Nat.dvd_lcm_right _ _
          · exact Nat.dvd_trans (dv j (by omega)) (Nat.dvd_lcm_left _ _)
    · rintro σ H' ⟨b, v, rfl, ss, b0, bi, dv⟩
      rw [List.length_map, n1] at bi dv
      have b156 : b ≤ 2 ^ 156 := by
        have e : ((2 : Nat) ^ 12) ^ a.length = 2 ^ (12 * a.length) := (Nat.pow_mul _ _ _).symm
        rw [e] at bi
        exact Nat.le_trans bi (Nat.pow_le_pow_right (by decide) (by omega))
      have hS' := same_sqT ss hS
      have t1' := t1.same ss
      let g : Nat → Int := fun i => (cf a i).num * ((b : Int) / ((cf a i).den : Int))
      have hg : ∀ i, i < a.length → (g i).natAbs ≤ 2 ^ 169 := fun i hi => by
        show ((cf a i).num * ((b : Int) / ((cf a i).den : Int))).natAbs ≤ _
        rw [Int.natAbs_mul, show (2 : Nat) ^ 169 = 2 ^ 13 * 2 ^ 156 from by decide +kernel]
        refine Nat.mul_le_mul (sa i).1 (Nat.le_trans ?_ b156)
        rw [← Int.natCast_ediv, Int.natAbs_natCast]
        exact Nat.div_le_self _ _
      refine ⟨_, rfl, l, rfl, lc_seq (xs := as.map V.ref) (.inr hS') (fun D i H2 => Same H' H2 ∧ H2 D = some (.lst ((tabI i g).map V.int))) ?_ ?_ ?_ ?_⟩
      · intro D hD
        exact ⟨same_upd hD, upd_same⟩
      · intro D i H2 hD ⟨s2, _⟩
        exact ⟨same_sqL s2, same_sqT s2⟩
      · intro D i x H2 hD hi ⟨s2, eD⟩
        rw [List.getElem?_map] at hi
        cases hr0 : as[i]? with
        | none => rw [hr0] at hi; cases hi
        | some r =>
          rw [hr0] at hi
          cases hi
          obtain ⟨qq, hq1, hq2⟩ := t1'.atQ hr0
          have hc := cf_get hq1
          have hi13 := (List.getElem?_eq_some_iff.mp hr0).1
          have h1 : (qq.num).natAbs < 2 ^ 3900 := lt_4000 (by rw [← hc]; exact (sa i).1) (by decide)
          have h2 : ((b : Int) / (qq.den : Int)).natAbs < 2 ^ 3900 := by
            rw [← Int.natCast_ediv, Int.natAbs_natCast]
            exact lt_4000 (Nat.le_trans (Nat.div_le_self _ _) b156) (by decide)
          refine ⟨r, _, rfl, SqT.of (s2 _ _ hq2), rfl, _, _, rfl, _, _, rfl, rfl, rfl, ?_⟩
          refine ⟨_, rfl, _, rfl, _, rfl, _, _, rfl, rfl, ?_, _, _, rfl, rfl, big_mulW h1 h2, ?_⟩
          · have := qq.den_pos
            refine ⟨by omega, ?_⟩
            rw [Int.natAbs_natCast]
            have h3 : qq.den < 2 ^ 4000 := Nat.lt_of_le_of_lt (show qq.den ≤ 2 ^ 12 by rw [← hc]; exact (sa i).2) (Nat.pow_lt_pow_right (by decide) (by decide))
            exact Nat.lt_trans (log_4000 h3) (by decide)
          · refine ⟨_, eD, ?_, (fun b' o' e' => ?_), ?_⟩
            · rw [List.length_map, tabI_len, sizeLine_eq]
              omega
            · rw [upd_ne (ne_of_none e' hD)]
              exact s2 _ _ e'
            · rw [upd_same, tabI_snoc, List.map_append]
              show _ = some (HO.lst (_ ++ [V.int (g i)]))
              simp only [g, hc]
      · intro D H2 hD ⟨s2, eD⟩
        rw [List.length_map, n1] at eD
        refine ⟨_, rfl, (by show 2 ≤ sizeLine; decide), fun r nr => ?_⟩
        have s3 : Same H2 (upd H2 r (HO.tup [V.ref D, V.int (b : Int)])) := same_upd nr
        refine q r D _ b _ ((ss.trans s2).trans s3) upd_same (s3 _ _ eD) b0 b156 (tabI_len _ _) (fun i => ?_) (fun i => ?_)
        · rw [ci_tab]
          by_cases hi : i < a.length
          · rw [if_pos hi]
            exact over_one (dv i hi)
          · rw [if_neg hi, cf_ge (by omega), Rat.zero_mul]
            rfl
        · rw [ci_tab]
          by_cases hi : i < a.length
          · rw [if_pos hi]
            exact hg i hi
          · rw [if_neg hi]
            exact Nat.zero_le _
end

end Vf

set_option maxRecDepth 100000
set_option maxHeartbeats 8000000
namespace Vf
open PySem PySem.Spec PyProof.Rows L2
open LamX (ExtN Tabs TabS)
/-- a law's body, nothing leaves it, its own code object known -/
theorem fnG_of1 {P : Program} {w : World} {K : PySem.W.Frag} {mg : Str → Option Value} {base : Heap} {x qual : Str} {st : Stmt} {f : Addr} {fd : FuncData} {N ps : List Str} {k : Nat} {sp : Sp} (F : Fun K x qual st f fd) (S : FnScope N ps (defScope st))
    (ar : ∀ vs H Q E, sp vs H Q E → vs.length = ps.length)
    (body : ∀ (cdv : Value) (A : Around) (out : List Env) (s : Shared) (H : Hp) (vs : List V) (Q : VK) (E : XK), A.guards = some [] → Room k (A.deeper (envOfC qual (defScope st) s.heap.objs.size f cdv)) → fd.code = cdv → sp vs H Q E →
      ∃ t, PSs (cxOf CX0 P w K mg base N qual (defScope st) f cdv A out s H E).nox (defBody st) t ∧ t { nx := fun _ H' => Q .non H', rt := Q } (start N vs) H) : FnG P w K mg base CX0 (k + 1) f fd ps sp := by
  obtain ⟨oc, od, kV, doc, pm, an, cdv, ct, osl, e, lk, hcd⟩ := F.ex
  subst e
  refine ⟨ar, fun {A out s H args us vs Q E} hgu hr e0 hb r h => LamX.run_ofS lk hcd S hr e0 hb r (ar _ _ _ _ h) fun hr' => ?_⟩
  obtain ⟨t, z, q⟩ := body cdv A out s H vs Q E hgu hr' rfl h
  exact ⟨t, z.nox, q⟩
/-- the class of polynomials with its defs -/
structure PoM (P : Program) (w : World) (K : PySem.W.Frag) (mg : Str → Option Value) (base : Heap) (CP CR : Addr) where
  C : PoC K mg CP
  fI : Addr
  dI : FuncData
  mkI : Mk K CP fI
  bI : Binds K dI ["self", "numbers"] []
  okI : FnOk P w K mg base (L2.CX P w) 5 fI dI ["self", "numbers"] (spPolyI K CP CR)
  fE : Addr
  dE : FuncData
  aE : PySem.W.findIn K (.ref CP) "__eq__" = some (some (.ref fE))
  nE : PySem.W.isFn K (.ref fE) = true
  bE : Binds K dE ["self", "other"] []
  okE : FnOk P w K mg base CX0 1 fE dE ["self", "other"] (spPolyE K CP)
theorem rNe_no {x y : Str} {H : Hp} {B : Bool → Hp → Prop} (h : x = y) (g : B false H) : rNe (.str x) (.str y) H (fun v H' => ∃ k, v = V.bl k ∧ B k H') := by
  subst h
  exact ⟨rfl, false, by rw [decide_eq_true rfl]; rfl, g⟩
theorem rNe_int {x y : Int} {H : Hp} {B : Bool → Hp → Prop} (g : x = y → B false H) (h : x ≠ y → B true H) : rNe (.int x) (.int y) H (fun v H' => ∃ k, v = V.bl k ∧ B k H') := by
  by_cases e : x = y
  · exact ⟨rfl, false, by rw [decide_eq_true (by rw [e])]; rfl, g e⟩
  · exact ⟨rfl, true, by rw [decide_eq_false (fun z => e (V.int.inj z))]; rfl, h e⟩
theorem rNe_bl {x y : Bool} {H : Hp} {B : Bool → Hp → Prop} (e : x = y) (g : B false H) : rNe (.bl x) (.bl y) H (fun v H' => ∃ k, v = V.bl k ∧ B k H') := by
  subst e
  exact ⟨rfl, false, by rw [decide_eq_true rfl]; rfl, g⟩
theorem qual_eq {P : Program} {w : World} {K : PySem.W.Frag} {mg : Str → Option Value} {base : Heap} {N : List Str} {qual : Str} {sc : Scope} {f : Addr} {cd : Value} {A : Around} {o : List Env} {s : Shared} {H : Hp} {E : XK} {CT : CXT} : (cxOf CT P w K mg base N qual sc f cd A o s H E).nox.env.qual = qual ++ ".<locals>." := rfl
/-- the table of the law's own code objects -/
def Ts (Pt : Addr) : List (Addr × Str) := [(Pt, (Str.ofString "law" ++ Str.ofString ".<locals>.") ++ Str.ofString "<lambda>")]
theorem ts_mem (Pt : Addr) : (Pt, (Str.ofString "law" ++ Str.ofString ".<locals>.") ++ Str.ofString "<lambda>") ∈ Ts Pt := List.mem_singleton.mpr rfl
theorem ts_only (Pt : Addr) : ∀ p ∈ Ts Pt, p.1 = Pt → p.2 = (Str.ofString "law" ++ Str.ofString ".<locals>.") ++ Str.ofString "<lambda>" := fun p hp _ => by rw [List.mem_singleton.mp hp]
theorem seq_kp {K : PySem.W.Frag} {p a : Addr} {H H' : Hp} {xs : List V} (n : a ≠ p) (k : Kp p H H') : (SqL K H a xs → SqL K H' a xs) ∧ (SqT K H a xs → SqT K H' a xs) := by
  refine ⟨fun h => ?_, fun h => ?_⟩
  · rcases h with (h | ⟨o, h⟩) | h
    · exact Or.inl (Or.inl (k a _ n h))
    · exact Or.inl (Or.inr ⟨o, k a _ n h⟩)
    · exact Or.inr h
  · rcases h with (h | ⟨o, h⟩) | h
    · exact Or.inl (Or.inl (k a _ n h))
    · exact Or.inl (Or.inr ⟨o, k a _ n h⟩)
    · exact Or.inr h
/-- the law's promise -/
def spLaw (K : PySem.W.Frag) (Pt : Addr) : Sp := fun vs H Q _ => ∃ (a : Addr) (ns : List Int), vs = [.ref a] ∧ SqL K H a (ns.map V.int) ∧ ns.length ≤ 63 ∧ H Pt = some (.tbl #[]) ∧ ∀ H', Q (.bl true) H'
/-- a method of the class that raises nothing -/
structure Me (P : Program) (w : World) (K : PySem.W.Frag) (mg : Str → Option Value) (base : Heap) (CP : Addr) (x : Str) (k : Nat) (ps : List Str) (sp : Sp) where
  f : Addr
  fd : FuncData
  m : Meth K CP x f
  b : Binds K fd ps []
  ok : FnOk P w K mg base CX0 k f fd ps sp
/-- changes at lists and at the pen alone -/
theorem Pen.put {H H' : Hp} {p l b : Addr} {B : Int} (h : Pen H p l B) (k : ∀ c u, c ≠ b → H c = some u → H' c = some u) (h1 : b ≠ p) (h2 : b ≠ l) : Pen H' p l B := by
  obtain ⟨ns, a, d, c, f, ⟨g1, g2, g3⟩, hc⟩ := h
  exact ⟨ns, a, d, c, f, ⟨k _ _ h1.symm g1, k _ _ h2.symm g2, g3⟩, hc⟩
theorem Pen.lc {H : Hp} {p l : Addr} {B : Int} (h : Pen H p l B) : ∃ xs, H l = some (.lst xs) := by
  obtain ⟨ns, a, d, c, f, ⟨g1, g2, g3⟩, hc⟩ := h
  exact ⟨_, g2⟩
theorem Pen.ne_new {H : Hp} {p l b : Addr} {B : Int} (h : Pen H p l B) (n : H b = none) : b ≠ p ∧ b ≠ l := by
  obtain ⟨o, e⟩ := h.there
  obtain ⟨xs, e2⟩ := h.lc
  exact ⟨(ne_of_none e n).symm, (ne_of_none e2 n).symm⟩
theorem tabs_lst {T : List (Addr × Str)} {H H' : Hp} {b : Addr} {xs : List V} (hb : H b = some (.lst xs)) (k : ∀ c u, c ≠ b → H c = some u → H' c = some u) (t : Tabs T H) : Tabs T H' := fun y hy => by
  obtain ⟨ps, h1, h2, h3⟩ := t y hy
  refine ⟨ps, k _ _ (ne_of h1 hb (by intro z; cases z)) h1, h2, fun pos cv hc => ?_⟩
  obtain ⟨c', e1, e2⟩ := h3 pos cv hc
  exact ⟨c', e1, k _ _ (ne_of e2 hb (by intro z; unfold LamX.CodeO at z; cases z)) e2⟩
theorem upd_away {H : Hp} {b : Addr} {o : HO} : ∀ c u, c ≠ b → H c = some u → upd H b o c = some u := fun c u h e => by rw [upd_ne h]; exact e
theorem Tups.lst {H H' : Hp} {b : Addr} {xs : List V} (hb : H b = some (.lst xs)) (k : ∀ c u, c ≠ b → H c = some u → H' c = some u) {as : List Addr} {ps : List (Int × Int)} (h : Tups H as ps) : Tups H' as ps :=
  h.imp fun a p z => k _ _ (ne_of z hb (by intro z; cases z)) z
theorem Tups.kp {H H' : Hp} {p l : Addr} {B : Int} (hP : Pen H p l B) (k : Kp p H H') {as : List Addr} {ps : List (Int × Int)} (h : Tups H as ps) : Tups H' as ps := by
  obtain ⟨ns, a, d, c, f, ⟨g1, g2, g3⟩, hc⟩ := hP
  exact h.imp fun a p z => k _ _ (ne_of z g1 (by intro z; cases z)) z
theorem Tups.rep {H : Hp} {a : Addr} {p : Int × Int} (h : H a = some (.tup [.int p.1, .int p.2])) : ∀ n : Nat, Tups H (List.replicate n a) (List.replicate n p)
  | 0 => .nil
  | n + 1 => .cons h (Tups.rep h n)
theorem flat_rep (n : Nat) (a : Addr) : (List.replicate n [V.ref a]).flatten = (List.replicate n a).map V.ref := by
  rw [List.flatten_replicate_singleton, List.map_replicate]
theorem cut_to (xs : List V) (k : Nat) : cutV xs none (some (k : Int)) = xs.take k := by
  unfold cutV
  rw [HT.sIx_none, HT.sIx_nat, Nat.sub_zero, List.drop_zero]
  by_cases h : k ≤ xs.length
  · rw [Nat.min_eq_left h]
  · rw [Nat.min_eq_right (by omega), List.take_of_length_le (by omega), List.take_of_length_le (by omega)]
/-- what ratios have that are drawn -/
structure RatOk (p : Int × Int) : Prop where
  lw : Low p.1 p.2
  zt : S80 p.1
  zb : S80 p.2
theorem lowP_id {p : Int × Int} (h : RatOk p) : lowP p = p := low_id h.lw
theorem lowP_ids : ∀ {ps : List (Int × Int)}, (∀ p ∈ ps, RatOk p) → ps.map lowP = ps
  | [], _ => rfl
  | p :: ps, h => by
    rw [List.map_cons, lowP_id (h p (List.mem_cons_self ..)), lowP_ids fun x hx => h x (List.mem_cons_of_mem _ hx)]
theorem ratOk_big {p : Int × Int} (h : RatOk p) : p.2.natAbs < 2 ^ big := Nat.lt_trans h.zb (Nat.pow_lt_pow_right (by decide) (by decide))
theorem parts_pairD {p : Int × Int} (h : 0 < p.2) : partsD (pairD p) = some p := by
  obtain ⟨t, b⟩ := p
  show (if 0 < b then some (t, b) else none) = some (t, b)
  rw [if_pos h]
def pairL (p : Int × Int) : PyData := .list [.int p.1, .int p.2]
theorem parts_pairL {p : Int × Int} (h : 0 < p.2) : partsD (pairL p) = some p := by
  obtain ⟨t, b⟩ := p
  show (if 0 < b then some (t, b) else none) = some (t, b)
  rw [if_pos h]
theorem mapM_of {f : Int × Int → PyData} : ∀ {ps : List (Int × Int)}, (∀ p ∈ ps, partsD (f p) = some p) → (ps.map f).mapM partsD = some ps
  | [], _ => by rw [List.map_nil, List.mapM_nil]; rfl
  | p :: ps, h => by
    rw [List.map_cons, List.mapM_cons, h p (List.mem_cons_self ..), mapM_of fun x hx => h x (List.mem_cons_of_mem _ hx)]
    rfl
theorem mapM_snoc : ∀ {ds : List PyData} {ps : List (Int × Int)} {d : PyData} {p : Int × Int}, ds.mapM partsD = some ps → partsD d = some p → (ds ++ [d]).mapM partsD = some (ps ++ [p])
  | [], ps, d, p, h, e => by
    rw [List.mapM_nil] at h
    cases h
    rw [List.nil_append, List.mapM_cons, e, List.mapM_nil]
    rfl
  | d0 :: ds, ps, d, p, h, e => by
    rw [List.mapM_cons] at h
    cases e0 : partsD d0 with
    | none => rw [e0] at h; cases h
    | some p0 =>
      rw [e0] at h
      cases e1 : ds.mapM partsD with
      | none => rw [e1] at h; cases h
      | some ps1 =>
        rw [e1] at h
        cases h
        rw [List.cons_append, List.mapM_cons, e0, mapM_snoc e1 e]
        rfl
theorem mapM_odd {ds : List PyData} {d : PyData} (h : d ∈ ds) (e : partsD d = none) : ds.mapM partsD = none := by
  have z := mapM_all ds
  have a : (ds.map fun d => (partsD d).isSome).all id = false := by
    rw [List.all_eq_false]
    exact ⟨_, List.mem_map.mpr ⟨d, h, rfl⟩, by rw [e]; decide⟩
  rw [a] at z
  cases hm : ds.mapM partsD with
  | none => rfl
  | some ps => rw [hm] at z; cases z
theorem gd_pairD {p : Int × Int} (h : RatOk p) : Gd (pairD p) :=
  (gd_pair (Nat.lt_trans h.zt (Nat.pow_lt_pow_right (by decide) (by decide))) (Nat.lt_trans h.zb (Nat.pow_lt_pow_right (by decide) (by decide)))).2
theorem small_row {rs : List (Int × Int)} (hl : rs.length ≤ 100) (h : ∀ p ∈ rs, RatOk p) : small (.tuple (rs.map pairD)) :=
  (small_of_gd (by rw [List.length_map]; exact hl) fun d hd => by
    obtain ⟨p, hp, e⟩ := List.mem_map.mp hd
    rw [← e]
    exact gd_pairD (h p hp)).2
/-- ratios as they are passed -/
inductive Giv : List PyData → List (Int × Int) → Prop
  | nil : Giv [] []
  | cons {d : PyData} {p : Int × Int} {k : Int} {ds : List PyData} {ps : List (Int × Int)} : partsD d = some (p.1 * k, p.2 * k) → 0 < k → k ≤ 3 → Gd d → Giv ds ps → Giv (d :: ds) (p :: ps)
theorem Giv.len : ∀ {ds : List PyData} {ps : List (Int × Int)}, Giv ds ps → ds.length = ps.length
  | _, _, .nil => rfl
  | _, _, .cons _ _ _ _ t => congrArg (· + 1) t.len
theorem Giv.snoc : ∀ {ds : List PyData} {ps : List (Int × Int)} {d : PyData} {p : Int × Int} {k : Int}, Giv ds ps → partsD d = some (p.1 * k, p.2 * k) → 0 < k → k ≤ 3 → Gd d → Giv (ds ++ [d]) (ps ++ [p])
  | _, _, _, _, _, .nil, h1, h2, h3, h4 => .cons h1 h2 h3 h4 .nil
  | _, _, _, _, _, .cons g1 g2 g3 g4 t, h1, h2, h3, h4 => .cons g1 g2 g3 g4 (t.snoc h1 h2 h3 h4)
theorem Giv.row : ∀ {ds : List PyData} {ps : List (Int × Int)}, Giv ds ps → (∀ p ∈ ps, RatOk p) → ∃ qs, ds.mapM partsD = some qs ∧ qs.map lowP = ps ∧ ∀ q ∈ qs, q.2.natAbs < 2 ^ big
  | _, _, .nil, _ => ⟨[], by rw [List.mapM_nil]; rfl, rfl, fun q h => by cases h⟩
  | _, _, .cons (p := p) (k := k) h1 h2 h3 h4 t, h => by
    obtain ⟨qs, e1, e2, e3⟩ := t.row fun x hx => h x (List.mem_cons_of_mem _ hx)
    have ok := h p (List.mem_cons_self ..)
    refine ⟨(p.1 * k, p.2 * k) :: qs, ?_, ?_, ?_⟩
    · rw [List.mapM_cons, h1, e1]
      rfl
    · rw [List.map_cons, e2]
      congr 1
      exact low_back ok.lw h2
    · intro q hq
      rcases List.mem_cons.mp hq with z | z
      · rw [z]
        exact Nat.lt_trans (s80_k ok.zb h2 h3) (Nat.pow_lt_pow_right (by decide) (by decide))
      · exact e3 q z
theorem parts_plain {d : PyData} {p : Int × Int} (h : partsD d = some p) : d.plain = true ∧ d.depth ≤ 1 := by
  cases d with
  | int i => exact ⟨rfl, by simp [PyData.depth]⟩
  | list ds =>
    have z := (pair_pos (ds := ds) (t := p.1) (b := p.2) h).1
    rw [z]
    exact ⟨by simp [PyData.plain, PyData.plainAll], by simp [PyData.depth, PyData.depthAll]⟩
  | tuple ds =>
    have z := (pair_pos (ds := ds) (t := p.1) (b := p.2) h).1
    rw [z]
    exact ⟨by simp [PyData.plain, PyData.plainAll], by simp [PyData.depth, PyData.depthAll]⟩
  | _ => cases h
theorem Giv.plain : ∀ {ds : List PyData} {ps : List (Int × Int)}, Giv ds ps → PyData.plainAll ds = true ∧ PyData.depthAll ds ≤ 1
  | _, _, .nil => ⟨by simp only [PyData.plainAll], by simp only [PyData.depthAll]; omega⟩
  | _, _, .cons h1 _ _ _ t => by
    obtain ⟨a, b⟩ := parts_plain h1
    obtain ⟨c, d⟩ := t.plain
    simp only [PyData.plainAll, PyData.depthAll]
    exact ⟨by rw [a, c]; rfl, Nat.max_le.mpr ⟨b, d⟩⟩
theorem Giv.gd : ∀ {ds : List PyData} {ps : List (Int × Int)}, Giv ds ps → ∀ d ∈ ds, Gd d
  | _, _, .nil, d, h => by cases h
  | _, _, .cons _ _ _ h4 t, d, h => by
    rcases List.mem_cons.mp h with z | z
    · rw [z]; exact h4
    · exact t.gd d z
theorem eqv_nilL : ∀ ds : List PyData, PyData.eqv (.list ds) (.list []) = decide (ds = [])
  | [] => by simp [PyData.eqv, PyData.eqvAll]
  | d :: ds => by simp [PyData.eqv, PyData.eqvAll]
theorem Dts.setAt {K : PySem.W.Frag} {H : Hp} : ∀ {vs : List V} {ds : List PyData} (i : Nat) {v : V} {d : PyData}, Dts K H vs ds → Dt K H v d → Dts K H (vs.set i v) (ds.set i d)
  | _, _, _, _, _, .nil, _ => .nil
  | _, _, 0, _, _, .cons _ t, h => .cons h t
  | _, _, i + 1, _, _, .cons a t, h => .cons a (t.setAt i h)
/-- lists of two whole numbers each -/
inductive Lsts (H : Hp) : List Addr → List (Int × Int) → Prop
  | nil : Lsts H [] []
  | cons {a : Addr} {as : List Addr} {p : Int × Int} {ps : List (Int × Int)} : H a = some (.lst [.int p.1, .int p.2]) → Lsts H as ps → Lsts H (a :: as) (p :: ps)
theorem Lsts.len {H : Hp} : ∀ {as : List Addr} {ps : List (Int × Int)}, Lsts H as ps → as.length = ps.length
  | _, _, .nil => rfl
  | _, _, .cons _ t => congrArg (· + 1) t.len
theorem Lsts.imp {H H' : Hp} : ∀ {as : List Addr} {ps : List (Int × Int)}, (∀ a ∈ as, ∀ (p : Int × Int), H a = some (.lst [.int p.1, .int p.2]) → H' a = some (.lst [.int p.1, .int p.2])) → Lsts H as ps → Lsts H' as ps
  | _, _, _, .nil => .nil
  | _, _, e, .cons h t => .cons (e _ (List.mem_cons_self ..) _ h) (t.imp fun a ha => e a (List.mem_cons_of_mem _ ha))
theorem Lsts.snoc {H : Hp} : ∀ {as : List Addr} {ps : List (Int × Int)} {a : Addr} {p : Int × Int}, Lsts H as ps → H a = some (.lst [.int p.1, .int p.2]) → Lsts H (as ++ [a]) (ps ++ [p])
  | _, _, _, _, .nil, h => .cons h .nil
  | _, _, _, _, .cons h t, h2 => .cons h (t.snoc h2)
theorem Lsts.dts {K : PySem.W.Frag} {H : Hp} : ∀ {as : List Addr} {ps : List (Int × Int)}, Lsts H as ps → Dts K H (as.map V.ref) (ps.map pairL)
  | _, _, .nil => .nil
  | _, _, .cons h t => .cons (.lst (SqL.of h) (.cons (.int _) (.cons (.int _) .nil))) t.dts
theorem Lsts.mem {H : Hp} : ∀ {as : List Addr} {ps : List (Int × Int)}, Lsts H as ps → ∀ a ∈ as, ∃ x y : Int, H a = some (.lst [.int x, .int y])
  | _, _, .nil, a, h => by cases h
  | _, _, .cons h t, a, hm => by
    rcases List.mem_cons.mp hm with z | z
    · rw [z]; exact ⟨_, _, h⟩
    · exact t.mem a z

end Vf

set_option maxRecDepth 100000
set_option maxHeartbeats 8000000
namespace Vf
open PySem PySem.Spec PyProof.Rows L2
/-! ### Polys out of rows -/
def RW (H : Hp) (l : Addr) (ps : List (Int × Int)) : Prop := ∃ as, H l = some (.lst (as.map V.ref)) ∧ Tups H as ps
def PolyQ (K : PySem.W.Frag) (CP : Addr) (H : Hp) (a : Addr) (qs : List Rat) : Prop := PolyAt K CP H a (qs.map pq)
theorem PolyQ.same {K : PySem.W.Frag} {CP : Addr} {H H' : Hp} {a : Addr} {qs : List Rat} (h : PolyQ K CP H a qs) (s : Same H H') : PolyQ K CP H' a qs := PolyAt.same h s
/-- what Poly(row) comes to -/
theorem poly_row {K : PySem.W.Frag} {CP CR : Addr} {H : Hp} {l : Addr} {ps : List (Int × Int)} {qs : List Rat} {Qd : Addr → Hp → Prop} {E : XK} (h : RW H l ps) (hl : ps.length ≤ 1000) (hp : ∀ p ∈ ps, 0 < p.2 ∧ p.2.natAbs < 2 ^ big) (hq : ps.map lowP = qs.map pq)
    (k : ∀ (x : Addr) (H' : Hp), Same H H' → H x = none → PolyQ K CP H' x (stripQ qs) → Qd x H') :
    ∀ x dx, H x = none → H dx = none → dx ≠ x → spPolyI K CP CR (.ref x :: ([V.ref l] ++ [])) (upd (upd H dx (.own x)) x (.ins CP dx [])) (fun w H2 => w = .non ∧ Qd x H2) E := by
  obtain ⟨as, e, t⟩ := h
  have rd : rowD (.list (ps.map pairD)) = some ps := mapM_of fun p h => parts_pairD (hp p h).1
  refine poly_made (d := .list (ps.map pairD)) (.lst (SqL.of e) t.dts) (fun ds' h => ?_) (fun ps' h => ?_) (fun z => by rw [rd] at z; cases z)
  · cases h
    rw [List.length_map]
    exact hl
  rw [rd] at h
  cases h
  refine ⟨fun p h => (hp p h).2, fun x H' s nx made => k x H' s nx ?_⟩
  rw [hq, strip_map] at made
  exact made
theorem poly_rl {K : PySem.W.Frag} {CP CR : Addr} {H : Hp} {l : Addr} {qs : List Rat} {Qd : Addr → Hp → Prop} {E : XK} (h : RL H l qs) (hl : qs.length ≤ 1000) (hz : ∀ q ∈ qs, q.den < 2 ^ big)
    (k : ∀ (x : Addr) (H' : Hp), Same H H' → H x = none → PolyQ K CP H' x (stripQ qs) → Qd x H') :
    ∀ x dx, H x = none → H dx = none → dx ≠ x → spPolyI K CP CR (.ref x :: ([V.ref l] ++ [])) (upd (upd H dx (.own x)) x (.ins CP dx [])) (fun w H2 => w = .non ∧ Qd x H2) E := by
  refine poly_row (ps := qs.map pq) h (by rw [List.length_map]; exact hl) (fun p hp => ?_) ?_ k
  · obtain ⟨q, hq, rfl⟩ := List.mem_map.mp hp
    have := q.den_pos
    refine ⟨by show (0 : Int) < (q.den : Int); omega, ?_⟩
    show (q.den : Int).natAbs < _
    rw [Int.natAbs_natCast]
    exact hz q hq
  · rw [List.map_map]
    refine List.map_congr_left fun q _ => ?_
    exact low_id (pq_low q)
def pmQ (a b : List Rat) : List Rat := if a = [] ∨ b = [] then [] else tab (a.length + b.length - 1) (pc a b)
theorem pmQ_strip (a b : List Rat) : stripQ (pmQ a b) = stripQ (pmul a b) := by
  refine stripQ_ext fun i => ?_
  rw [cf_pmul]
  unfold pmQ
  split
  · rename_i h
    rw [cf_nil]
    symm
    unfold pc
    refine sm_zero fun j _ => ?_
    rcases h with h | h <;> rw [h, cf_nil]
    · exact Rat.zero_mul _
    · exact Rat.mul_zero _
  · rw [cf_tab]
    split
    · rfl
    · rw [pc_zero (by omega)]
def spProds (K : PySem.W.Frag) : Sp := fun vs H Q _ => ∃ (l1 l2 : Addr) (as bs : List Addr) (a b : List Rat), vs = [.ref l1, .ref l2] ∧ SqT K H l1 (as.map V.ref) ∧ Tups H as (a.map pq) ∧ SqT K H l2 (bs.map V.ref) ∧ Tups H bs (b.map pq) ∧ a.length ≤ 13 ∧ b.length ≤ 13 ∧ (∀ i, Sm (cf a i)) ∧ (∀ i, Sm (cf b i)) ∧
  ∀ (l : Addr) (ps : List (Int × Int)) (H' : Hp), Same H H' → RW H' l ps → ps.length ≤ 1000 → (∀ p ∈ ps, 0 < p.2 ∧ p.2.natAbs < 2 ^ big) → ps.map lowP = (pmQ a b).map pq → Q (.ref l) H'
section
variable {P : Program} {w : World} {K : PySem.W.Frag} {mg : Str → Option Value} {base : Heap} {CP CR CN : Addr}
abbrev sProds : Stmt := topS 38
theorem scProds : FnScope ["one", "other", "row", "bottom", "other_row", "other_bottom", "below", "top"] ["one", "other"] (defScope sProds) := ⟨rfl, rfl, rfl, by decide +kernel, rfl, by decide +kernel, by decide +kernel⟩
end

end Vf

set_option maxRecDepth 100000
set_option maxHeartbeats 8000000
namespace Vf
open PySem PySem.Spec PyProof.Rows L2
/-- a small drawn ratio -/
def spRatio : Sp := fun vs H Q _ => ∃ (p lc : Addr) (B m : Int), vs = [.ref p, .int m] ∧ 1 ≤ m ∧ m ≤ 1000 ∧ Pen H p lc B ∧ B ≤ 10000000 ∧
  ∀ (r : Addr) (t b : Int) (H' : Hp), Pen H' p lc (B + 3) → Kp p H H' → H' r = some (.tup [.int t, .int b]) → Low t b → (t.natAbs : Int) ≤ m * 99 → b.natAbs ≤ 99 → Q (.ref r) H'
section
variable {P : Program} {w : World} {K : PySem.W.Frag} {mg : Str → Option Value} {base : Heap} {CN : Addr}
abbrev sLRatio : Stmt := topS 54
theorem scLRatio : FnScope ["_law_pen_here", "_law_most", "_law_bottom"] ["_law_pen_here", "_law_most"] (defScope sLRatio) := ⟨rfl, rfl, rfl, by decide +kernel, rfl, by decide +kernel, by decide +kernel⟩
theorem small_mulW {x y : Int} (h1 : x.natAbs < 2 ^ 200) (h2 : y.natAbs < 2 ^ 200) : CMulW x y := wide_mul h1 h2 (by decide) (by decide) (by decide)
theorem ok_lratio {f : Addr} {fd : FuncData} (F : Fun K "_law_ratio" "_law_ratio" sLRatio f fd) (Gd_ : Df P w K mg base "_law_draw" 1 ["_law_pen_here", "_law_many"] spDraw) (Gp : Df P w K mg base "_law_pick" 2 ["_law_pen_here", "_law_some"] spPick) (Gq : Df P w K mg base "_law_q" 2 ["_law_top", "_law_bottom"] spQ) :
    FnOk P w K mg base CX0 3 f fd ["_law_pen_here", "_law_most"] spRatio := by
  refine F.ok scLRatio (fun vs H Q E h => ?_) (fun cdv A outer s H vs Q E hr h => ?_)
  · obtain ⟨p, lc, B, m, rfl, _⟩ := h
    rfl
  · obtain ⟨p, lc, B, m, rfl, hm1, hm9, hP, hB, q⟩ := h
    refine ⟨_, (pss_cons (ps_set (i := 2) scLRatio.nd rfl (Or.inl rfl) (pe_call Gp.ok (hr.mono (by decide)) rfl Gp.m Gp.kp Gp.b .nil pass0 (pa_cons (pv 0) (pa_cons (pe_lst (pa_cons pe_int (pa_cons pe_int (pa_cons pe_int (pa_cons pe_int (pa_cons pe_int (pa_cons pe_int (pa_cons (pe_op op_add pe_int (pe_call Gd_.ok (hr.mono (by decide)) rfl Gd_.m Gd_.kp Gd_.b .nil pass0 (pa_cons (pv 0) (pa_cons pe_int pa_nil)))) pa_nil)))))))) pa_nil))))
      (pss_one (ps_ret (pe_call Gq.ok (hr.mono (by decide)) rfl Gq.m Gq.kp Gq.b .nil pass0 (pa_cons (pe_op op_sub (pe_call Gd_.ok (hr.mono (by decide)) rfl Gd_.m Gd_.kp Gd_.b .nil pass0 (pa_cons (pv 0) (pa_cons (pe_op op_add (pe_op op_mulW (pe_op op_mulW pe_int (pv 1)) (pv 2)) pe_int) pa_nil))) (pe_op op_mulW (pv 1) (pv 2))) (pa_cons (pv 2) pa_nil)))))), ?_⟩
    refine ⟨_, rfl, _, rfl, p, lc, B, 99, rfl, hP, by omega, by decide, by decide, fun z H1 z0 z1 hP1 k1 => ⟨_, _, rfl, rfl, ?_⟩⟩
    refine ⟨(by show 7 ≤ sizeLine; decide), fun l nl => ?_⟩
    have el : upd H1 l (HO.lst [V.int 1, V.int 1, V.int 2, V.int 3, V.int 7, V.int 10, V.int (1 + z)]) l = some (HO.lst [V.int 1, V.int 1, V.int 2, V.int 3, V.int 7, V.int 10, V.int (1 + z)]) := upd_same
    have sl : Same H1 (upd H1 l (HO.lst [V.int 1, V.int 1, V.int 2, V.int 3, V.int 7, V.int 10, V.int (1 + z)])) := same_upd nl
    have lp : l ≠ p := by
      obtain ⟨o, e⟩ := hP1.there
      exact (ne_of_none e nl).symm
    generalize upd H1 l (HO.lst [V.int 1, V.int 1, V.int 2, V.int 3, V.int 7, V.int 10, V.int (1 + z)]) = H2 at el sl ⊢
    have hP2 := hP1.same sl
    refine ⟨p, lc, l, _, _, rfl, hP2, by omega, el, lp, (by show 0 < 7; decide), (by show 7 < 1000000; decide), fun x H3 hx hP3 k3 => ?_⟩
    obtain ⟨b, rfl, b0, b1⟩ : ∃ b : Int, x = .int b ∧ 1 ≤ b ∧ b ≤ 99 := by
      simp only [List.mem_cons, List.not_mem_nil, or_false] at hx
      rcases hx with h | h | h | h | h | h | h <;> exact ⟨_, h, by omega, by omega⟩
    have sz : ∀ {i : Int}, 0 ≤ i → i ≤ 1000000 → i.natAbs < 2 ^ 200 := fun {i} h0 h1 => Nat.lt_trans (show i.natAbs < 2 ^ 20 by omega) (by decide +kernel)
    have k13 : Kp p H H3 := (k1.trans (Kp.of sl)).trans k3
    have hmb : m * b ≤ 1000 * 99 := Int.mul_le_mul hm9 b1 (by omega) (by decide)
    have hmb0 : 0 < m * b := Int.mul_pos (by omega) (by omega)
    have e2 : 2 * m * b = 2 * (m * b) := Int.mul_assoc _ _ _
    refine ⟨_, rfl, _, rfl, _, _, rfl, rfl, small_mulW (sz (by decide) (by decide)) (sz (by omega) (by omega)), _, rfl, _, _, rfl, rfl, small_mulW (sz (by omega) (by omega)) (sz (by omega) (by omega)), _, _, rfl, rfl, p, lc, _, _, rfl, hP3, by omega, by omega, by omega, fun y H4 y0 y1 hP4 k4 => ?_⟩
    refine ⟨_, rfl, _, rfl, _, _, rfl, rfl, small_mulW (sz (by omega) (by omega)) (sz (by omega) (by omega)), _, _, rfl, rfl, _, rfl, ?_⟩
    have hb : b ≠ 0 := by omega
    have lt : (2 : Nat) ^ 20 < 2 ^ big := Nat.pow_lt_pow_right (by decide) (by decide)
    refine ⟨_, _, rfl, hb, Nat.lt_trans (show (y - m * b).natAbs < 2 ^ 20 by omega) lt, Nat.lt_trans (show b.natAbs < 2 ^ 20 by omega) lt, fun r H5 s5 n5 e5 => ?_⟩
    obtain ⟨z1, z2⟩ := low_size (t := y - m * b) hb
    have mb : m * b ≤ m * 99 := Int.mul_le_mul_of_nonneg_left b1 (by omega)
    exact q r _ _ H5 ((hP4.more (by omega)).same s5) ((k13.trans k4).trans (Kp.of s5)) e5 (low_is hb) (by omega) (by omega)
end

/-! ### drawn polynomials -/
def SmD (m : Int) (q : Rat) : Prop := (q.num.natAbs : Int) ≤ m * 99 ∧ q.den ≤ 99
theorem RL.kp {H H' : Hp} {p lc l : Addr} {B : Int} {qs : List Rat} (h : RL H l qs) (hP : Pen H p lc B) (k : Kp p H H') : RL H' l qs := by
  obtain ⟨as, e, t⟩ := h
  refine ⟨as, k _ _ ?_ e, t.kp hP k⟩
  obtain ⟨_, _, _, _, _, g1, _⟩ := hP
  exact ne_of e g1.1 (by intro z; cases z)
theorem RL.ne {H : Hp} {p lc l : Addr} {B : Int} {qs : List Rat} (h : RL H l qs) (hP : Pen H p lc B) : l ≠ p := by
  obtain ⟨as, e, t⟩ := h
  obtain ⟨_, _, _, _, _, g1, _⟩ := hP
  exact ne_of e g1.1 (by intro z; cases z)
theorem TR.kp {H H' : Hp} {p lc r : Addr} {B : Int} {q : Rat} (h : TR H r q) (hP : Pen H p lc B) (k : Kp p H H') : TR H' r q := by
  obtain ⟨_, _, _, _, _, g1, _⟩ := hP
  exact k _ _ (ne_of h g1.1 (by intro z; cases z)) h
theorem PolyQ.kp {K : PySem.W.Frag} {CP : Addr} {H H' : Hp} {a p l : Addr} {B : Int} {qs : List Rat} (h : PolyQ K CP H a qs) (hP : Pen H p l B) (k : Kp p H H') : PolyQ K CP H' a qs := PolyAt.kp h hP k
def spDrawn : Sp := fun vs H Q _ => ∃ (p lc : Addr) (B g m : Int), vs = [.ref p, .int g, .int m] ∧ Pen H p lc B ∧ B ≤ 1000000 ∧ 0 ≤ g ∧ g ≤ 12 ∧ 1 ≤ m ∧ m ≤ 5 ∧
  ∀ (l : Addr) (qs : List Rat) (H' : Hp), Pen H' p lc (B + 100) → Kp p H H' → RL H' l qs → qs.length ≤ 13 → stripQ qs = qs → (∀ i, SmD m (cf qs i)) → Q (.ref l) H'
def spMade (K : PySem.W.Frag) (CP : Addr) : Sp := fun vs H Q _ => ∃ (p lc l : Addr) (B : Int) (a : List Rat), vs = [.ref p, .ref l] ∧ Pen H p lc B ∧ B ≤ 1000000 ∧ RL H l a ∧ a.length ≤ 13 ∧ stripQ a = a ∧ (∀ i, RatOk (pq (cf a i))) ∧
  ∀ (x : Addr) (H' : Hp), Pen H' p lc (B + 100) → Kp p H H' → PolyQ K CP H' x a → Q (.ref x) H'
theorem sm_s80 {q : Rat} (h : Sm q) : RatOk (pq q) := by
  refine ⟨pq_low q, Nat.lt_of_le_of_lt h.1 (Nat.pow_lt_pow_right (by decide) (by decide)), ?_⟩
  show (q.den : Int).natAbs < 2 ^ 80
  rw [Int.natAbs_natCast]
  exact Nat.lt_of_le_of_lt h.2 (Nat.pow_lt_pow_right (by decide) (by decide))
theorem mem_cf {qs : List Rat} {q : Rat} (h : q ∈ qs) : ∃ i, q = cf qs i := by
  obtain ⟨i, hi, e⟩ := List.mem_iff_getElem.mp h
  exact ⟨i, by rw [cf_lt hi, e]⟩
theorem Dts.rep0 {K : PySem.W.Frag} {H : Hp} : ∀ n : Nat, Dts K H (List.replicate n (V.int 0)) (List.replicate n (PyData.int 0))
  | 0 => .nil
  | n + 1 => .cons (.int 0) (Dts.rep0 n)
theorem giv_rep0 {ds : List PyData} {ps : List (Int × Int)} (h : Giv ds ps) : ∀ n : Nat, Giv (ds ++ List.replicate n (PyData.int 0)) (ps ++ List.replicate n (0, 1))
  | 0 => by rw [List.replicate_zero, List.replicate_zero, List.append_nil, List.append_nil]; exact h
  | n + 1 => by
    rw [List.replicate_succ', List.replicate_succ', ← List.append_assoc, ← List.append_assoc]
    exact (giv_rep0 h n).snoc (k := 1) (p := (0, 1)) rfl (by decide) (by decide) (gd_int (by show (0 : Int).natAbs < _; exact Nat.pow_pos (by decide)))
section
variable {P : Program} {w : World} {K : PySem.W.Frag} {mg : Str → Option Value} {base : Heap} {CP CR CN : Addr}
abbrev sMade : Stmt := topS 56
theorem scMade : FnScope ["_law_pen_here", "_law_one", "_law_numbers", "_law_number"] ["_law_pen_here", "_law_one"] (defScope sMade) := ⟨rfl, rfl, rfl, by decide +kernel, rfl, by decide +kernel, by decide +kernel⟩
theorem ok_made {f : Addr} {fd : FuncData} (F : Fun K "_law_made_poly" "_law_made_poly" sMade f fd) (T : Bk mg) (PM : PoM P w K mg base CP CR) (Gd_ : Df P w K mg base "_law_draw" 1 ["_law_pen_here", "_law_many"] spDraw) (Gp : Df P w K mg base "_law_pick" 2 ["_law_pen_here", "_law_some"] spPick) (Gs : Df P w K mg base "_law_passed" 3 ["_law_pen_here", "_law_ratio_here"] (spPassed K)) : FnOk P w K mg base CX0 7 f fd ["_law_pen_here", "_law_one"] (spMade K CP) := by
  refine F.ok scMade (fun vs H Q E h => ?_) (fun cdv A outer s H vs Q E hr h => ?_)
  · obtain ⟨p, lc, l, B, a, rfl, _⟩ := h
    rfl
  · obtain ⟨p, lc, l, B, a, rfl, hP, hB, ⟨as, el, ta⟩, la, st, sa, q⟩ := h
    refine ⟨_, (pss_cons (ps_set (i := 2) scMade.nd rfl (Or.inl rfl) (pe_op op_cat (pe_lc (own := [("_law_number", 3)]) (g := gName 3) (tt := tYes) rfl scMade.nd (pi_seq (pv 1)) (blkOk_by (N := ["_law_pen_here", "_law_one", "_law_numbers", "_law_number"]) (sc := defScope sMade) (by decide +kernel)) (fun _ _ _ _ _ => pg_name (i := 3) scMade.nd rfl (Or.inl rfl)) (fun _ _ _ _ _ => pts_nil) (fun _ _ _ _ _ => (pe_call Gs.ok (hr.mono (by decide)) rfl Gs.m Gs.kp Gs.b .nil pass0 (pa_cons (pv 0) (pa_cons (pv 3) pa_nil))))) (pe_op op_rep (pe_lst (pa_cons pe_int pa_nil)) (pe_call Gd_.ok (hr.mono (by decide)) rfl Gd_.m Gd_.kp Gd_.b .nil pass0 (pa_cons (pv 0) (pa_cons pe_int pa_nil))))))
  (pss_one (ps_ret (pe_make PM.mkI PM.okI (hr.mono (by decide)) rfl PM.C.m PM.bI .nil passL (pa_cons (pe_call Gp.ok (hr.mono (by decide)) rfl Gp.m Gp.kp Gp.b .nil pass0 (pa_cons (pv 0) (pa_cons (pe_lst (pa_cons (pe_callTy call_tuple_of (by rfl) T.tuple (by decide +kernel) (pa_cons (pv 2) pa_nil)) (pa_cons (pv 2) pa_nil))) pa_nil))) pa_nil))))), ?_⟩
    have lp : l ≠ p := RL.ne ⟨as, el, ta⟩ hP
    have leq := ta.lenQ
    refine ⟨_, rfl, l, rfl, lc_seq (xs := as.map V.ref) (.inl (SqL.of el)) (fun D k H' => Kp p H H' ∧ Pen H' p lc (B + 3 * k) ∧ ∃ vs ds, H' D = some (.lst vs) ∧ Dts K (fz D p H') vs ds ∧ Giv ds ((a.map pq).take k)) ?_ ?_ ?_ ?_⟩
    · intro D hD
      exact ⟨Kp.of (same_upd hD), (hP.same (same_upd hD)).more (by omega), [], [], upd_same, .nil, .nil⟩
    · intro D k H' hD ⟨kk, _⟩
      exact seq_kp lp kk
    · intro D k x H' hD hk ⟨kk, hP', vs, ds, eD, dts, giv⟩
      obtain ⟨d1, d2⟩ := hP.ne_new hD
      rw [List.getElem?_map] at hk
      cases hr0 : as[k]? with
      | none => rw [hr0] at hk; cases hk
      | some r =>
        rw [hr0] at hk
        cases hk
        obtain ⟨qq, hq, er⟩ := ta.atQ hr0
        have rp : r ≠ p := by
          obtain ⟨_, _, _, _, _, g1, _⟩ := hP
          exact ne_of er g1.1 (by intro z; cases z)
        have okq : RatOk (pq qq) := by have := sa k; rw [cf_get hq] at this; exact this
        have hk13 : k < 13 := by
          have := (List.getElem?_eq_some_iff.mp hr0).1
          omega
        refine ⟨rfl, ?_⟩
        refine ⟨_, rfl, _, rfl, p, lc, r, _, (pq qq).1, (pq qq).2, rfl, hP', by omega, kk _ _ rp er, okq.lw.pos, okq.zt, okq.zb, fun v d kz H2 hP2 kp' hd pa k0 k3 gd => ?_⟩
        have eD' := kp' _ _ d1 eD
        have hDl : vs.length < sizeLine := by
          have := dts.len
          have := giv.len
          rw [List.length_take] at this
          rw [sizeLine_eq]
          omega
        have hp := hP'.there.choose_spec
        refine ⟨_, eD', hDl, ?_, (hP2.put upd_away d1 d2).more (by omega), vs ++ [v], ds ++ [d], upd_same, ?_, ?_⟩
        · exact fun b o nb eb => by
            rw [upd_ne (ne_of_none eb hD)]
            exact kp' b o nb (kk b o nb eb)
        · have up : Same (fz D p H2) (fz D p (upd H2 D (.lst (vs ++ [v])))) := fz_mono fun b o h1 h2 e => by rw [upd_ne h1]; exact e
          exact (dts.mono ((fz_mono fun b o h1 h2 e => kp' b o h2 e).trans up)).app (.cons (hd.mono ((nw_fz eD hp).trans up)) .nil)
        · have z := giv.snoc (p := pq qq) pa k0 k3 gd
          have e : (a.map pq).take (k + 1) = (a.map pq).take k ++ [pq qq] := by rw [List.take_succ, List.getElem?_map, hq]; rfl
          rw [e]
          exact z
    · intro lg H11 nlg ⟨k11, hP11, vs, ds, elg, dts, giv⟩
      obtain ⟨lgp, lgc⟩ := hP.ne_new nlg
      have etk : (a.map pq).take (as.map V.ref).length = a.map pq := by rw [List.length_map, leq]; exact List.take_of_length_le (by rw [List.length_map]; exact Nat.le_refl _)
      rw [etk] at giv
      have hP11 := hP11.more (show _ ≤ B + 60 by rw [List.length_map]; omega)
      have lenv : vs.length ≤ 13 := by
        have h1 := dts.len
        have h2 := giv.len
        rw [List.length_map] at h2
        omega
      refine ⟨(by show 1 ≤ sizeLine; decide), fun l1 nl1 => ?_⟩
      have el1 : upd H11 l1 (HO.lst [V.int 0]) l1 = some (HO.lst [V.int 0]) := upd_same
      have s12 : Same H11 (upd H11 l1 (HO.lst [V.int 0])) := same_upd nl1
      have l1p := (hP11.ne_new nl1).1
      generalize upd H11 l1 (HO.lst [V.int 0]) = H12 at el1 s12 ⊢
      have hP12 := hP11.same s12
      refine ⟨_, rfl, p, lc, _, 2, rfl, hP12, by omega, by decide, by decide, fun m H13 m0 m1 hP13 k13 => ?_⟩
      refine ⟨l1, m, _, rfl, rfl, k13 _ _ l1p el1, by omega, by omega, (by rw [sizeLine_eq]; show 1 * m.toNat ≤ _; omega), fun l2 nl2 => ?_⟩
      have el2 : upd H13 l2 (HO.lst (List.replicate m.toNat [V.int 0]).flatten) l2 = some (HO.lst (List.replicate m.toNat (V.int 0))) := by rw [upd_same, List.flatten_replicate_singleton]
      have s14 : Same H13 (upd H13 l2 (HO.lst (List.replicate m.toNat [V.int 0]).flatten)) := same_upd nl2
      generalize upd H13 l2 (HO.lst (List.replicate m.toNat [V.int 0]).flatten) = H14 at el2 s14 ⊢
      have elg14 := s14 _ _ (k13 _ _ lgp (s12 _ _ elg))
      refine ⟨lg, l2, _, _, rfl, rfl, elg14, el2, (by rw [List.length_replicate, sizeLine_eq]; omega), fun nb nnb => ?_⟩
      have enb : upd H14 nb (HO.lst (vs ++ List.replicate m.toNat (V.int 0))) nb = some (HO.lst (vs ++ List.replicate m.toNat (V.int 0))) := upd_same
      have s15 : Same H14 (upd H14 nb (HO.lst (vs ++ List.replicate m.toNat (V.int 0)))) := same_upd nnb
      have hP14 := hP13.same s14
      have nbp := (hP14.ne_new nnb).1
      generalize upd H14 nb (HO.lst (vs ++ List.replicate m.toNat (V.int 0))) = H15 at enb s15 ⊢
      have hP15 := hP14.same s15
      refine ⟨_, rfl, _, rfl, nb, _, rfl, .inl ⟨SqL.of enb, fun tg ntg => ?_⟩⟩
      have etg : upd H15 tg (HO.tup (vs ++ List.replicate m.toNat (V.int 0))) tg = some (HO.tup (vs ++ List.replicate m.toNat (V.int 0))) := upd_same
      have s16 : Same H15 (upd H15 tg (HO.tup (vs ++ List.replicate m.toNat (V.int 0)))) := same_upd ntg
      have tgp := (hP15.ne_new ntg).1
      generalize upd H15 tg (HO.tup (vs ++ List.replicate m.toNat (V.int 0))) = H16 at etg s16 ⊢
      have hP16 := hP15.same s16
      refine ⟨_, rfl, (by show 2 ≤ sizeLine; decide), fun l4 nl4 => ?_⟩
      have el4 : upd H16 l4 (HO.lst [V.ref tg, V.ref nb]) l4 = some (HO.lst [V.ref tg, V.ref nb]) := upd_same
      have s17 : Same H16 (upd H16 l4 (HO.lst [V.ref tg, V.ref nb])) := same_upd nl4
      have l4p := (hP16.ne_new nl4).1
      generalize upd H16 l4 (HO.lst [V.ref tg, V.ref nb]) = H17 at el4 s17 ⊢
      have hP17 := hP16.same s17
      refine ⟨p, lc, l4, _, _, rfl, hP17, by omega, el4, l4p, (by show 0 < 2; decide), (by show 2 < 1000000; decide), fun x H18 hx hP18 k18 => ?_⟩
      have k1118 : Kp p H11 H18 := ((Kp.of s12).trans k13).trans ((Kp.of (s14.trans (s15.trans (s16.trans s17)))).trans k18)
      have dts18 : Dts K H18 (vs ++ List.replicate m.toNat (V.int 0)) (ds ++ List.replicate m.toNat (PyData.int 0)) := (dts.mono ((fz_mono fun b o _ h e => k1118 b o h e).trans fz_sub)).app (Dts.rep0 _)
      have giv2 := giv_rep0 giv m.toNat
      have ok2 : ∀ y ∈ a.map pq ++ List.replicate m.toNat (0, 1), RatOk y := fun y hy => by
        rcases List.mem_append.mp hy with h | h
        · obtain ⟨q0, hq0, rfl⟩ := List.mem_map.mp h
          obtain ⟨i, rfl⟩ := mem_cf hq0
          exact sa i
        · rw [List.eq_of_mem_replicate h]
          exact sm_s80 sm_zero'
      obtain ⟨dg, hdg, sdg⟩ : ∃ dg, Dt K H18 x dg ∧ seqD dg = some (ds ++ List.replicate m.toNat (PyData.int 0)) := by
        simp only [List.mem_cons, List.not_mem_nil, or_false] at hx
        rcases hx with h | h
        · rw [h]
          exact ⟨.tuple _, .tup (SqT.of (k18 _ _ tgp (s17 _ _ etg))) dts18, rfl⟩
        · rw [h]
          exact ⟨.list _, .lst (SqL.of (k18 _ _ nbp (s17 _ _ (s16 _ _ enb)))) dts18, rfl⟩
      obtain ⟨qs, hqs, eqs, bqs⟩ := giv2.row ok2
      have rdg : rowD dg = some qs := by rw [rowD_seq sdg]; exact hqs
      refine poly_made hdg (fun ds' h => ?_) (fun ps' h => ?_) (fun z => by rw [rdg] at z; cases z)
      · rw [sdg] at h
        cases h
        have := dts18.len
        rw [List.length_append, List.length_replicate] at this
        omega
      rw [rdg] at h
      cases h
      refine ⟨bqs, fun md H19 s19 nmd made => q md H19 ((hP18.more (by omega)).same s19) (k11.trans (k1118.trans (Kp.of s19))) ?_⟩
      have e : a.map pq ++ List.replicate m.toNat (0, 1) = (a ++ List.replicate m.toNat 0).map pq := by
        rw [List.map_append, List.map_replicate]
        rfl
      have e2 : stripQ (a ++ List.replicate m.toNat 0) = a := by
        rw [← st]
        refine (stripQ_ext fun i => ?_).trans (by rw [st])
        rw [st, cf_app]
        split
        · rfl
        · rw [cf_rep0, cf_ge (by omega)]
      rw [eqs, e, strip_map, e2] at made
      exact made
end

end Vf

set_option maxRecDepth 100000
set_option maxHeartbeats 8000000
namespace Vf
open PySem PySem.Spec PyProof.Rows L2
/-! ### the program's reader -/
/-- an error of BadText -/
def RaisesT (CT : Addr) (H : Hp) (c : Int) (E : XK) : Prop := ∀ (d : Addr) (H' : Hp), Same H H' → H d = none → H' d = some (.xd (fl ["column"] [.int c])) → E (.ref CT) (some d) H'
theorem RaisesT.same {CT : Addr} {H H1 : Hp} {c : Int} {E : XK} (s : Same H H1) (h : RaisesT CT H c E) : RaisesT CT H1 c E := fun d H' s' n e => h d H' (s.trans s') (s.free n) e
/-- the error that is due, if one is -/
def Rn (CT : Addr) (H : Hp) (n : Nat) (E : XK) : Prop := n ≠ 0 → RaisesT CT H (n : Int) E
theorem Rn.same {CT : Addr} {H H1 : Hp} {n : Nat} {E : XK} (s : Same H H1) (h : Rn CT H n E) : Rn CT H1 n E := fun z => (h z).same s
theorem Rn.at {CT : Addr} {H : Hp} {n k : Nat} {c : Int} {E : XK} (h : Rn CT H n E) (e : n = k + 1) (hc : c = ((k + 1 : Nat) : Int)) : RaisesT CT H c E := by
  subst e hc
  exact h (Nat.succ_ne_zero _)
theorem Rn.to {CT : Addr} {H : Hp} {n m : Nat} {E : XK} (h : Rn CT H n E) (e : n = m) : Rn CT H m E := e ▸ h
def dgA (t : List Nat) (a : Nat) : Bool := match t[a]? with
  | some c => isD c
  | none => false
theorem dgA_some {t : List Nat} {a : Nat} (h : dgA t a = true) : ∃ c, t[a]? = some c ∧ isD c = true := by
  unfold dgA at h
  cases h2 : t[a]? with
  | none => rw [h2] at h; cases h
  | some c => rw [h2] at h; exact ⟨c, rfl, h⟩
theorem dgA_no {t : List Nat} {a : Nat} (h : dgA t a = false) : ∀ c, t[a]? = some c → isD c = false := by
  intro c hc
  unfold dgA at h
  rw [hc] at h
  exact h
theorem dgA_of {t : List Nat} {a c : Nat} (h : t[a]? = some c) : dgA t a = isD c := by
  unfold dgA
  rw [h]
theorem ix_tx {t : List Nat} {a c : Nat} {i : Int} (h : t[a]? = some c) (e : i = (a : Int)) : atI (Tx t).cps.toList i = some c := by
  rw [tx_cps]
  have hl := (List.getElem?_eq_some_iff.mp h).1
  unfold atI ixN
  rw [if_pos (by omega), if_pos (by omega)]
  show t[i.toNat]? = some c
  rw [show i.toNat = a by omega]
  exact h
def spBeh : Sp := fun vs H Q _ => ∃ (t : List Nat) (z : Int) (a : Nat), vs = [.str (Tx t), .int z] ∧ z = (a : Int) ∧ t.length ≤ 100000 ∧ Q (.int ((beh t a : Nat) : Int)) H
def spIsD : Sp := fun vs H Q _ => ∃ (t : List Nat) (z : Int) (a : Nat), vs = [.str (Tx t), .int z] ∧ z = (a : Int) ∧ t.length ≤ 100000 ∧ Q (.bl (dgA t a)) H
def spRW (CT : Addr) : Sp := fun vs H Q E => ∃ (t : List Nat) (z : Int) (a : Nat), vs = [.str (Tx t), .int z] ∧ z = (a : Int) ∧ t.length ≤ 100000 ∧ (dgA t a = false → RaisesT CT H ((a + 1 : Nat) : Int) E) ∧
  ∀ j, Wh t a j → ∀ (p : Addr) (H' : Hp), Same H H' → H' p = some (.tup [.int ((PySem.NumText.digitsVal (seg t a j) : Nat) : Int), .int ((a + j : Nat) : Int)]) → Q (.ref p) H'
def sgn (t : List Nat) (a : Nat) : Int := if t[a]? = some 43 then 1 else if t[a]? = some 45 then -1 else 0
def spSg : Sp := fun vs H Q _ => ∃ (t : List Nat) (z : Int) (a : Nat), vs = [.str (Tx t), .int z] ∧ z = (a : Int) ∧ t.length ≤ 100000 ∧ Q (.int (sgn t a)) H
section
variable {P : Program} {w : World} {K : PySem.W.Frag} {mg : Str → Option Value} {base : Heap} {CT CP CR CN : Addr}
abbrev sBeh : Stmt := topS 24
theorem scBeh : FnScope ["text", "at"] ["text", "at"] (defScope sBeh) := ⟨rfl, rfl, rfl, by decide +kernel, rfl, by decide +kernel, by decide +kernel⟩
theorem ok_beh {f : Addr} {fd : FuncData} (F : Fun K "behind_spaces" "behind_spaces" sBeh f fd) : FnOk P w K mg base CX0 1 f fd ["text", "at"] spBeh := by
  refine F.ok scBeh (fun vs H Q E h => ?_) (fun cdv A outer s H vs Q E hr h => ?_)
  · obtain ⟨t, z, a, rfl, _⟩ := h
    rfl
  · obtain ⟨t, z, a, rfl, rfl, hl, q⟩ := h
    refine ⟨_, (pss_cons (ps_while PassesOwn.never (pt_cmpR op_eq (pe_slice sl_str (pv 0) (po_some (pv 1)) (po_some (pe_op op_add (pv 1) pe_int))) pe_str (nomark _))
    (pss_one (ps_set (i := 1) scBeh.nd rfl (Or.inl rfl) (pe_op op_add (pv 1) pe_int))))
  (pss_one (ps_ret (pv 1)))), ?_⟩
    refine ⟨fun m σ H1 => H1 = H ∧ ∃ b : Nat, m = t.length - b ∧ σ = [some (.str (Tx t)), some (.int (b : Int))] ∧ beh t b = beh t a, ⟨_, rfl, a, rfl, rfl, rfl⟩, ?_⟩
    rintro m σ H1 ⟨rfl, b, rfl, rfl, hb⟩
    refine ⟨_, rfl, _, rfl, _, rfl, _, rfl, _, _, rfl, rfl, _, rfl, ⟨Tx t, rfl, by rw [tx_len, sizeLine_eq]; omega, rfl, ?_⟩⟩
    refine ⟨_, rfl, ?_⟩
    rw [tx_sign t (m := b) rfl rfl, lit_sp, sign_eq]
    by_cases h : t[b]? = some 32
    · rw [decide_eq_true h]
      refine iteT ?_
      have := (List.getElem?_eq_some_iff.mp h).1
      refine ⟨fun σ' H' => H' = H1 ∧ σ' = [some (.str (Tx t)), some (.int ((b + 1 : Nat) : Int))], fun σ' H' ⟨h1, h2⟩ => ⟨t.length - (b + 1), by omega, h1, b + 1, rfl, h2, by rw [← beh_sp h]; exact hb⟩, ?_⟩
      refine ⟨_, rfl, _, _, rfl, rfl, ?_⟩
      exact ⟨rfl, rfl⟩
    · rw [decide_eq_false h]
      refine iteF ?_
      refine ⟨_, rfl, ?_⟩
      rw [beh_no h] at hb
      rw [hb]
      exact q
abbrev sIsD : Stmt := topS 25
theorem scIsD : FnScope ["text", "at"] ["text", "at"] (defScope sIsD) := ⟨rfl, rfl, rfl, by decide +kernel, rfl, by decide +kernel, by decide +kernel⟩
theorem ok_isd {f : Addr} {fd : FuncData} (F : Fun K "is_digit" "is_digit" sIsD f fd) (T : Bk mg) {u : Tok} (m_DIGITS : mg "DIGITS" = some (.str "0123456789" u)) : FnOk P w K mg base CX0 1 f fd ["text", "at"] spIsD := by
  refine F.ok scIsD (fun vs H Q E h => ?_) (fun cdv A outer s H vs Q E hr h => ?_)
  · obtain ⟨t, z, a, rfl, _⟩ := h
    rfl
  · obtain ⟨t, z, a, rfl, rfl, hl, q⟩ := h
    refine ⟨_, (pss_one (ps_ret (pe_and (pe_cmpR op_lt (pv 1) (pe_callB call_len_str (by rfl) T.len (by decide +kernel) (pa_cons (pv 0) pa_nil)) (nomark _)) (pe_one (pe_cmpR op_in_sign (pe_ix ix_str (pv 0) (pv 1) (fun _ _ => rfl)) (pe_glob (v := V.str "0123456789") rfl m_DIGITS ⟨_, rfl⟩) (by rfl)))))), ?_⟩
    have big : (Tx t).length ≤ sizeLine := by rw [tx_len, sizeLine_eq]; omega
    refine ⟨_, rfl, _, rfl, Tx t, rfl, big, ?_⟩
    refine ⟨_, _, rfl, rfl, _, rfl, ?_⟩
    rw [tx_len]
    by_cases h : a < t.length
    · rw [decide_eq_true (by omega)]
      refine iteT ?_
      have e : t[a]? = some t[a] := List.getElem?_eq_getElem h
      refine ⟨_, rfl, _, rfl, Tx t, _, t[a], rfl, rfl, big, ix_tx e rfl, _, _, rfl, rfl, ?_⟩
      rw [lit_digits, tx_cps, in_digits, ← dgA_of e]
      exact q
    · rw [decide_eq_false (by omega)]
      refine iteF ?_
      have e : dgA t a = false := by
        unfold dgA
        rw [List.getElem?_eq_none (by omega)]
      rw [e] at q
      exact q
abbrev sRW : Stmt := topS 26
theorem scRW : FnScope ["text", "at", "end"] ["text", "at"] (defScope sRW) := ⟨rfl, rfl, rfl, by decide +kernel, rfl, by decide +kernel, by decide +kernel⟩
theorem ok_rw {f : Addr} {fd : FuncData} (F : Fun K "read_whole" "read_whole" sRW f fd) (T : Bk mg) (N_BadText : Ex P w K mg base "BadText" CT ["column"]) {u : Tok} (m_MOST_DIGITS : mg "MOST_DIGITS" = some (.int 40 u)) (G_is_digit : Df P w K mg base "is_digit" 1 ["text", "at"] spIsD) : FnOk P w K mg base (L2.CX P w) 3 f fd ["text", "at"] (spRW CT) := by
  refine F.okX scRW (fun vs H Q E h => ?_) (fun cdv A outer s H vs Q E hr h => ?_)
  · obtain ⟨t, z, a, rfl, _⟩ := h
    rfl
  · obtain ⟨t, z, a, rfl, rfl, hl, r, q⟩ := h
    refine ⟨_, (pss_cons (ps_if (pt_not (pt_val (pe_call G_is_digit.ok (hr.mono (by decide)) rfl G_is_digit.m G_is_digit.kp G_is_digit.b .nil pass0 (pa_cons (pv 0) (pa_cons (pv 1) pa_nil)))))
    (pss_one (ps_raise rfl (takes_of rfl rfl rfl rfl) (pmk_oex N_BadText.ox N_BadText.iC N_BadText.tI N_BadText.ok (hr.mono (by decide)) N_BadText.b .nil pass0 (by rfl) N_BadText.m (pa_cons (pe_op op_add (pv 1) pe_int) pa_nil))))
    pss_nil)
  (pss_cons (ps_set (i := 2) scRW.nd rfl (Or.inl rfl) (pe_op op_add (pv 1) pe_int))
  (C8.pss_cut (ps_while (passes_of rfl) (PW.pt (pw_and (pt_cmpR op_ne (pe_ix ix_str (pv 0) (pv 1) (fun _ _ => rfl)) pe_str (nomark _)) (pw_and (pt_val (pe_call G_is_digit.ok (hr.mono (by decide)) rfl G_is_digit.m G_is_digit.kp G_is_digit.b .nil pass0 (pa_cons (pv 0) (pa_cons (pv 2) pa_nil)))) (pw_and1 (pt_cmpR op_lt (pe_op op_sub (pv 2) (pv 1)) (pe_glob (v := V.int 40) rfl m_MOST_DIGITS ⟨_, rfl⟩) (nomark _))))))
    (pss_one (ps_set (i := 2) scRW.nd rfl (Or.inl rfl) (pe_op op_add (pv 2) pe_int))))
  (pss_one (ps_ret (pe_tup (pa_cons (pe_callTy call_int_str (by rfl) T.int (by decide +kernel) (pa_cons (pe_slice sl_str (pv 0) (po_some (pv 1)) (po_some (pv 2))) pa_nil)) (pa_cons (pv 2) pa_nil)))))))), ?_⟩
    have big : (Tx t).length ≤ sizeLine := by rw [tx_len, sizeLine_eq]; omega
    refine ⟨_, rfl, _, rfl, t, _, a, rfl, rfl, hl, _, rfl, ?_⟩
    cases hd : dgA t a with
    | false =>
      refine iteT ?_
      refine ⟨_, rfl, _, _, rfl, rfl, (by show 1 ≤ 1000; decide), ?_⟩
      exact raise_end rfl fun dd H' s2 n e2 => r hd dd H' s2 n e2
    | true =>
      refine iteF ?_
      obtain ⟨c0, h0, d0⟩ := dgA_some hd
      refine ⟨_, rfl, _, _, rfl, rfl, ?_⟩
      refine ⟨fun σ1 H1 => H1 = H ∧ ∃ j : Nat, σ1 = [some (.str (Tx t)), some (.int (a : Int)), some (.int ((a + j : Nat) : Int))] ∧ Wh t a j, ?_, ?_⟩
      · refine ⟨fun m σ H1 => H1 = H ∧ ∃ j : Nat, m = 41 - j ∧ σ = [some (.str (Tx t)), some (.int (a : Int)), some (.int ((a + j : Nat) : Int))] ∧ 1 ≤ j ∧ j ≤ 40 ∧ (∀ i, i < j → ∃ c, t[a + i]? = some c ∧ isD c = true) ∧ (t[a]? = some 48 → j = 1),
          ⟨_, rfl, 1, rfl, rfl, by decide, by decide, fun i hi => ⟨c0, by rw [show i = 0 by omega]; exact h0, d0⟩, fun _ => rfl⟩, ?_⟩
        rintro m σ H1 ⟨rfl, j, rfl, rfl, j1, j40, dg, zz⟩
        have stop : (t[a]? = some 48 ∨ j = 40 ∨ ∀ c, t[a + j]? = some c → isD c = false) → Wh t a j := fun st => ⟨j1, j40, dg, zz, st⟩
        refine ⟨_, rfl, _, rfl, ⟨Tx t, _, c0, rfl, rfl, big, ix_tx h0 rfl, rfl, _, rfl, ?_⟩⟩
        rw [lit_zero, show (⟨#[c0]⟩ : Str) = Tx [c0] from rfl, tx_eq]
        by_cases hz : c0 = 48
        · subst hz
          rw [decide_eq_true rfl]
          refine iteF ?_
          refine iteF ?_
          exact ⟨rfl, j, rfl, stop (.inl h0)⟩
        · rw [decide_eq_false (fun z => hz (List.cons.inj z).1)]
          refine iteT ?_
          refine ⟨_, rfl, _, rfl, t, _, a + j, rfl, rfl, hl, _, rfl, ?_⟩
          cases hdj : dgA t (a + j) with
          | false =>
            refine iteF ?_
            refine iteF ?_
            exact ⟨rfl, j, rfl, stop (.inr (.inr (dgA_no hdj)))⟩
          | true =>
            refine iteT ?_
            refine ⟨_, rfl, _, rfl, _, _, rfl, rfl, _, _, rfl, rfl, _, rfl, ?_⟩
            by_cases h40 : j = 40
            · rw [decide_eq_false (by omega)]
              refine iteF ?_
              exact ⟨rfl, j, rfl, stop (.inr (.inl h40))⟩
            · rw [decide_eq_true (by omega)]
              refine iteT ?_
              obtain ⟨c1, h1, d1⟩ := dgA_some hdj
              refine ⟨fun σ' H' => H' = H1 ∧ σ' = [some (.str (Tx t)), some (.int (a : Int)), some (.int ((a + (j + 1) : Nat) : Int))], fun σ' H' ⟨z1, z2⟩ => ⟨41 - (j + 1), by omega, z1, j + 1, rfl, z2, by omega, by omega, fun i hi => ?_, fun z => ?_⟩, ?_⟩
              · by_cases hij : i = j
                · subst hij
                  exact ⟨c1, h1, d1⟩
                · exact dg i (by omega)
              · rw [h0] at z
                exact absurd (Option.some.inj z) hz
              · exact ⟨_, rfl, _, _, rfl, rfl, rfl, rfl⟩
      · rintro σ1 H1 ⟨rfl, j, rfl, W⟩
        have sl := seg_len W.dg
        refine ⟨_, rfl, _, rfl, _, rfl, _, rfl, _, rfl, ⟨Tx t, rfl, big, ?_⟩⟩
        rw [tx_cut t (m := a) (n := a + j) rfl rfl, show a + j - a = j by omega]
        refine ⟨Tx (seg t a j), _, rfl, int_tx (seg_dig W.dg) (fun z => by rw [z] at sl; have := W.j1; simp at sl; omega) (by have := W.j40; omega), by rw [tx_len]; have := W.j40; omega, ?_⟩
        refine ⟨_, rfl, (by show 2 ≤ sizeLine; decide), fun p np => ?_⟩
        exact q j W p _ (same_upd np) upd_same
abbrev sSg : Stmt := topS 30
theorem scSg : FnScope ["text", "at", "sign"] ["text", "at"] (defScope sSg) := ⟨rfl, rfl, rfl, by decide +kernel, rfl, by decide +kernel, by decide +kernel⟩
theorem ok_sg {f : Addr} {fd : FuncData} (F : Fun K "sign_at" "sign_at" sSg f fd) : FnOk P w K mg base CX0 1 f fd ["text", "at"] spSg := by
  refine F.ok scSg (fun vs H Q E h => ?_) (fun cdv A outer s H vs Q E hr h => ?_)
  · obtain ⟨t, z, a, rfl, _⟩ := h
    rfl
  · obtain ⟨t, z, a, rfl, rfl, hl, q⟩ := h
    have big : (Tx t).length ≤ sizeLine := by rw [tx_len, sizeLine_eq]; omega
    refine ⟨_, (pss_cons (ps_set (i := 2) scSg.nd rfl (Or.inl rfl) (pe_slice sl_str (pv 0) (po_some (pv 1)) (po_some (pe_op op_add (pv 1) pe_int))))
  (pss_cons (ps_if (pt_cmpR op_eq (pv 2) pe_str (nomark _))
    (pss_one (ps_ret pe_int))
    pss_nil)
  (pss_one (ps_ret (pe_ifExp (pt_cmpR op_eq (pv 2) pe_str (nomark _)) (pe_un un_neg pe_int) pe_int))))), ?_⟩
    refine ⟨_, rfl, _, rfl, _, rfl, _, rfl, _, _, rfl, rfl, _, rfl, ⟨Tx t, rfl, big, ?_⟩⟩
    rw [tx_sign t (m := a) rfl rfl]
    refine ⟨_, rfl, rfl, _, rfl, ?_⟩
    rw [lit_plus, sign_eq]
    unfold sgn at q
    by_cases h1 : t[a]? = some 43
    · rw [decide_eq_true h1]
      rw [if_pos h1] at q
      refine iteT ?_
      exact q
    · rw [decide_eq_false h1]
      rw [if_neg h1] at q
      refine iteF ?_
      refine ⟨_, rfl, rfl, _, rfl, ?_⟩
      rw [lit_minus, sign_eq]
      by_cases h2 : t[a]? = some 45
      · rw [decide_eq_true h2]
        rw [if_pos h2] at q
        refine iteT ?_
        exact ⟨_, rfl, q⟩
      · rw [decide_eq_false h2]
        rw [if_neg h2] at q
        refine iteF ?_
        exact q
abbrev sRP : Stmt := topS 28
theorem scRP : FnScope ["text", "at", "start"] ["text", "at"] (defScope sRP) := ⟨rfl, rfl, rfl, by decide +kernel, rfl, by decide +kernel, by decide +kernel⟩
def isTw (l : List Nat) : Bool := decide (l = [49, 48]) || (decide (l = [49, 49]) || decide (l = [49, 50]))
theorem isTw_t {l : List Nat} (h : isTw l = true) : ∃ d, l = [49, d] ∧ 48 ≤ d ∧ d ≤ 50 := by
  unfold isTw at h
  rw [Bool.or_eq_true, Bool.or_eq_true, decide_eq_true_eq, decide_eq_true_eq, decide_eq_true_eq] at h
  rcases h with rfl | rfl | rfl
  · exact ⟨_, rfl, by decide, by decide⟩
  · exact ⟨_, rfl, by decide, by decide⟩
  · exact ⟨_, rfl, by decide, by decide⟩
theorem isTw_of {d : Nat} (h : 48 ≤ d ∧ d ≤ 50) : isTw [49, d] = true := by
  have : d = 48 ∨ d = 49 ∨ d = 50 := by omega
  rcases this with rfl | rfl | rfl <;> decide
theorem eqV_tx (a l : List Nat) : eqV (V.str (Tx a)) (V.str (Tx l)) = decide (l = a) := by
  show (Tx a == Tx l) = _
  by_cases h : l = a
  · subst h; simp
  · rw [decide_eq_false h]
    exact beq_eq_false_iff_ne.mpr (fun z => h (tx_inj z).symm)
theorem in_twelve (l : List Nat) : inV (V.str (Tx l)) [V.str "10", V.str "11", V.str "12"] = isTw l := by
  unfold inV isTw
  rw [lit_10, lit_11, lit_12, List.any_cons, List.any_cons, List.any_cons, List.any_nil, eqV_tx, eqV_tx, eqV_tx, Bool.or_false]
def spRN7 : Sp := fun vs H Q _ => ∃ (t : List Nat) (z : Int) (a x y : Nat) (b r : List Nat), vs = [.str (Tx t), .int z] ∧ z = (a : Int) ∧ t.length ≤ 100000 ∧ t.drop a = b ++ r ∧ NumB b x y ∧ NumE r ∧
  ∀ (p q : Addr) (H' : Hp), Same H H' → H' p = some (.tup [.ref q, .int ((a + b.length : Nat) : Int)]) → H' q = some (.tup [.int (x : Int), .int (y : Int)]) → Q (.ref p) H'
def spRP7 : Sp := fun vs H Q _ => ∃ (t : List Nat) (z : Int) (a k : Nat) (b r : List Nat), vs = [.str (Tx t), .int z] ∧ z = (a : Int) ∧ t.length ≤ 100000 ∧ t.drop a = b ++ r ∧ PowB b k ∧ PowE r ∧
  ∀ (p : Addr) (H' : Hp), Same H H' → H' p = some (.tup [.int (k : Int), .int ((a + b.length : Nat) : Int)]) → Q (.ref p) H'
def spRT7 : Sp := fun vs H Q _ => ∃ (t : List Nat) (z : Int) (a x y k : Nat) (b r : List Nat), vs = [.str (Tx t), .int z] ∧ z = (a : Int) ∧ t.length ≤ 100000 ∧ t.drop a = b ++ r ∧ TermB b x y k ∧ TermE r ∧
  ∀ (p q : Addr) (H' : Hp), Same H H' → H' p = some (.tup [.ref q, .int (k : Int), .int ((a + b.length : Nat) : Int)]) → H' q = some (.tup [.int (x : Int), .int (y : Int)]) → Q (.ref p) H'
abbrev sRN : Stmt := topS 27
theorem scRN : FnScope ["text", "at", "top", "end", "bottom", "behind"] ["text", "at"] (defScope sRN) := ⟨rfl, rfl, rfl, by decide +kernel, rfl, by decide +kernel, by decide +kernel⟩
theorem ok_rn {f : Addr} {fd : FuncData} (F : Fun K "read_number" "read_number" sRN f fd) (T : Bk mg) (N_BadText : Ex P w K mg base "BadText" CT ["column"]) (G_read_whole : Dx P w K mg base "read_whole" 3 ["text", "at"] (spRW CT)) : FnOk P w K mg base (L2.CX P w) 4 f fd ["text", "at"] spRN7 := by
  refine F.okX scRN (fun vs H Q E h => ?_) (fun cdv A outer s H vs Q E hr h => ?_)
  · obtain ⟨t, z, a, x, y, b, r, rfl, _⟩ := h
    rfl
  · obtain ⟨t, z, a, x, y, b, r, rfl, rfl, hl, hd, hB, hE, q⟩ := h
    have big : (Tx t).length ≤ sizeLine := by rw [tx_len, sizeLine_eq]; omega
    refine ⟨_, (pss_cons (ps_asg (pe_call G_read_whole.ok (hr.mono (by decide)) rfl G_read_whole.m G_read_whole.kp G_read_whole.b .nil (E := E) (passes_call (takes_of rfl rfl rfl rfl) (fun _ _ _ _ h => h)) (pa_cons (pv 0) (pa_cons (pv 1) pa_nil))) (pg_tup (by rfl) (pgs_cons (pg_name (i := 2) scRN.nd rfl (Or.inl rfl)) (pgs_cons (pg_name (i := 3) scRN.nd rfl (Or.inl rfl)) pgs_nil))))
  (pss_cons (ps_if (pt_cmpR op_ne (pe_slice sl_str (pv 0) (po_some (pv 3)) (po_some (pe_op op_add (pv 3) pe_int))) pe_str (nomark _))
    (pss_one (ps_ret (pe_tup (pa_cons (pe_tup (pa_cons (pv 2) (pa_cons pe_int pa_nil))) (pa_cons (pv 3) pa_nil)))))
    pss_nil)
  (pss_cons (ps_asg (pe_call G_read_whole.ok (hr.mono (by decide)) rfl G_read_whole.m G_read_whole.kp G_read_whole.b .nil (E := E) (passes_call (takes_of rfl rfl rfl rfl) (fun _ _ _ _ h => h)) (pa_cons (pv 0) (pa_cons (pe_op op_add (pv 3) pe_int) pa_nil))) (pg_tup (by rfl) (pgs_cons (pg_name (i := 4) scRN.nd rfl (Or.inl rfl)) (pgs_cons (pg_name (i := 5) scRN.nd rfl (Or.inl rfl)) pgs_nil))))
  (pss_cons (ps_if (pt_cmpR op_eq (pv 4) pe_int (nomark _))
    (pss_one (ps_raise rfl (takes_of rfl rfl rfl rfl) (pmk_oex N_BadText.ox N_BadText.iC N_BadText.tI N_BadText.ok (hr.mono (by decide)) N_BadText.b .nil pass0 (by rfl) N_BadText.m (pa_cons (pe_op op_add (pv 3) pe_int) pa_nil))))
    pss_nil)
  (pss_one (ps_ret (pe_tup (pa_cons (pe_tup (pa_cons (pv 2) (pa_cons (pv 4) pa_nil))) (pa_cons (pv 5) pa_nil))))))))), ?_⟩
    have dg : dgA t a = true := by
      obtain ⟨c, h1, h2⟩ := hB.first
      have := List.length_pos_iff.mpr hB.ne
      rw [dgA_of (c := c) (by rw [drop_hd hd, List.getElem?_append_left this]; exact h1)]
      exact h2
    refine ⟨_, rfl, _, rfl, t, _, a, rfl, rfl, hl, fun z => (by rw [dg] at z; cases z), fun j W p H1 s1 e1 => ?_⟩
    have ev : PySem.NumText.digitsVal (seg t a j) = x := by
      cases hB with
      | one hn => rw [(wh_digs hd hn (fun c hc => (hE c hc).1) j W).2, digs_val]
      | two hn hm m0 =>
        rw [List.append_assoc] at hd
        rw [(wh_digs hd hn (fun c hc => by cases hc; decide) j W).2, digs_val]
    rw [ev] at e1
    refine ⟨p, _, rfl, SqT.of e1, rfl, _, _, rfl, _, _, rfl, rfl, ?_⟩
    refine ⟨_, rfl, _, rfl, _, rfl, _, rfl, _, _, rfl, rfl, _, rfl, ⟨Tx t, rfl, big, rfl, _, rfl, ?_⟩⟩
    rw [tx_sign t (m := a + j) rfl rfl, lit_slash, sign_eq]
    cases hB with
    | one hn =>
      obtain ⟨ej, es⟩ := wh_digs hd hn (fun c hc => (hE c hc).1) j W
      have hs : ¬ t[a + j]? = some 47 := fun z => by
        rw [ej, drop_hd (drop_app hd)] at z
        exact (hE _ z).2 rfl
      rw [decide_eq_false hs]
      refine iteT ?_
      refine ⟨_, rfl, (by show 2 ≤ sizeLine; decide), fun q1 nq1 => ⟨_, rfl, (by show 2 ≤ sizeLine; decide), fun p1 np1 => ?_⟩⟩
      rw [ej]
      exact q p1 q1 _ (s1.trans ((same_upd nq1).trans (same_upd np1))) upd_same (same_upd np1 _ _ upd_same)
    | two hn hm m0 =>
      rw [List.append_assoc] at hd
      obtain ⟨ej, es⟩ := wh_digs hd hn (fun c hc => by cases hc; decide) j W
      obtain ⟨e47, hd2⟩ := drop_cons (drop_app hd)
      rw [← ej] at e47 hd2
      rw [decide_eq_true e47]
      refine iteF ?_
      have dg2 : dgA t (a + j + 1) = true := by
        obtain ⟨c, h1, h2⟩ := dig_first hd2
        rw [dgA_of h1]
        exact h2
      refine ⟨_, rfl, _, rfl, _, _, rfl, rfl, t, _, a + j + 1, rfl, rfl, hl, fun z => (by rw [dg2] at z; cases z), fun j2 W2 p2 H2 s2 e2 => ?_⟩
      obtain ⟨ej2, es2⟩ := wh_digs hd2 hm (fun c hc => (hE c hc).1) j2 W2
      rw [es2, digs_val] at e2
      refine ⟨p2, _, rfl, SqT.of e2, rfl, _, _, rfl, _, _, rfl, rfl, ?_⟩
      refine ⟨_, rfl, rfl, _, rfl, ?_⟩
      rw [decide_eq_false (fun z => by have := V.int.inj z; omega)]
      refine iteF ?_
      refine ⟨_, rfl, _, rfl, (by show 2 ≤ sizeLine; decide), fun q1 nq1 => ⟨_, rfl, (by show 2 ≤ sizeLine; decide), fun p1 np1 => ?_⟩⟩
      have el : a + j + 1 + j2 = a + (digs x ++ 47 :: digs y).length := by
        rw [List.length_append, List.length_cons, ej, ej2]
        omega
      rw [el]
      exact q p1 q1 _ ((s1.trans s2).trans ((same_upd nq1).trans (same_upd np1))) upd_same (same_upd np1 _ _ upd_same)
theorem ok_rp {f : Addr} {fd : FuncData} (F : Fun K "read_power" "read_power" sRP f fd) (T : Bk mg) (N_BadText : Ex P w K mg base "BadText" CT ["column"]) (G_is_digit : Df P w K mg base "is_digit" 1 ["text", "at"] spIsD) : FnOk P w K mg base (L2.CX P w) 3 f fd ["text", "at"] spRP7 := by
  refine F.okX scRP (fun vs H Q E h => ?_) (fun cdv A outer s H vs Q E hr h => ?_)
  · obtain ⟨t, z, a, k, b, r, rfl, _⟩ := h
    rfl
  · obtain ⟨t, z, a, k, b, r, rfl, rfl, hl, hd, hB, hE, q⟩ := h
    have big : (Tx t).length ≤ sizeLine := by rw [tx_len, sizeLine_eq]; omega
    refine ⟨_, (pss_cons (ps_if (pt_cmpR op_ne (pe_slice sl_str (pv 0) (po_some (pv 1)) (po_some (pe_op op_add (pv 1) pe_int))) pe_str (nomark _))
    (pss_one (ps_raise rfl (takes_of rfl rfl rfl rfl) (pmk_oex N_BadText.ox N_BadText.iC N_BadText.tI N_BadText.ok (hr.mono (by decide)) N_BadText.b .nil pass0 (by rfl) N_BadText.m (pa_cons (pe_op op_add (pv 1) pe_int) pa_nil))))
    pss_nil)
  (pss_cons (ps_if (pt_cmpR op_ne (pe_slice sl_str (pv 0) (po_some (pe_op op_add (pv 1) pe_int)) (po_some (pe_op op_add (pv 1) pe_int))) pe_str (nomark _))
    (pss_one (ps_ret (pe_tup (pa_cons pe_int (pa_cons (pe_op op_add (pv 1) pe_int) pa_nil)))))
    pss_nil)
  (pss_cons (ps_set (i := 2) scRP.nd rfl (Or.inl rfl) (pe_op op_add (pv 1) pe_int))
  (pss_cons (ps_if (pt_cmpR op_in_seq (pe_slice sl_str (pv 0) (po_some (pv 2)) (po_some (pe_op op_add (pv 2) pe_int))) (pe_tup (pa_cons pe_str (pa_cons pe_str (pa_cons pe_str pa_nil)))) (by rfl))
    (pss_one (ps_ret (pe_tup (pa_cons (pe_callTy call_int_str (by rfl) T.int (by decide +kernel) (pa_cons (pe_slice sl_str (pv 0) (po_some (pv 2)) (po_some (pe_op op_add (pv 2) pe_int))) pa_nil)) (pa_cons (pe_op op_add (pv 2) pe_int) pa_nil)))))
    pss_nil)
  (pss_cons (ps_if (pt_not (pt_val (pe_call G_is_digit.ok (hr.mono (by decide)) rfl G_is_digit.m G_is_digit.kp G_is_digit.b .nil pass0 (pa_cons (pv 0) (pa_cons (pv 2) pa_nil)))))
    (pss_one (ps_raise rfl (takes_of rfl rfl rfl rfl) (pmk_oex N_BadText.ox N_BadText.iC N_BadText.tI N_BadText.ok (hr.mono (by decide)) N_BadText.b .nil pass0 (by rfl) N_BadText.m (pa_cons (pe_op op_add (pv 2) pe_int) pa_nil))))
    pss_nil)
  (pss_one (ps_ret (pe_tup (pa_cons (pe_callTy call_int_str (by rfl) T.int (by decide +kernel) (pa_cons (pe_ix ix_str (pv 0) (pv 2) (fun _ _ => rfl)) pa_nil)) (pa_cons (pe_op op_add (pv 2) pe_int) pa_nil)))))))))), ?_⟩
    refine ⟨_, rfl, _, rfl, _, rfl, _, rfl, _, _, rfl, rfl, _, rfl, ⟨Tx t, rfl, big, rfl, _, rfl, ?_⟩⟩
    rw [tx_sign t (m := a) rfl rfl, lit_x, sign_eq]
    have hx : t[a]? = some 120 := by
      rw [drop_hd hd]
      cases hB <;> rfl
    rw [decide_eq_true hx]
    refine iteF ?_
    refine ⟨_, rfl, _, rfl, _, _, rfl, rfl, _, rfl, _, rfl, _, _, rfl, rfl, _, rfl, ⟨Tx t, rfl, big, rfl, _, rfl, ?_⟩⟩
    rw [tx_sign t (m := a + 1) (show (a : Int) + 1 = ((a + 1 : Nat) : Int) from rfl) (show (a : Int) + 2 = (a : Int) + 1 + 1 by omega), lit_hat, sign_eq]
    cases hB with
    | x =>
      obtain ⟨_, hd1⟩ := drop_cons hd
      have hh : ¬ t[a + 1]? = some 94 := fun z => by
        rw [drop_hd hd1] at z
        exact (hE _ z).2 rfl
      rw [decide_eq_false hh]
      refine iteT ?_
      refine ⟨_, rfl, _, _, rfl, rfl, (by show 2 ≤ sizeLine; decide), fun p np => ?_⟩
      exact q p _ (same_upd np) upd_same
    | pw hk =>
      obtain ⟨_, hd1⟩ := drop_cons hd
      obtain ⟨hh, hd2⟩ := drop_cons hd1
      rw [decide_eq_true hh]
      refine iteF ?_
      refine ⟨_, rfl, _, _, rfl, rfl, ?_⟩
      refine ⟨_, rfl, _, rfl, _, rfl, _, rfl, _, _, rfl, rfl, _, rfl, ⟨Tx t, rfl, big, ?_⟩⟩
      have hd2 : t.drop (a + 2) = digs k ++ r := hd2
      rw [tx_cut t (m := a + 2) (n := a + 2 + 2) (show (a : Int) + 2 = ((a + 2 : Nat) : Int) from rfl) (show (a : Int) + 2 + 2 = ((a + 2 + 2 : Nat) : Int) from rfl), show a + 2 + 2 - (a + 2) = 2 by omega, hd2]
      refine ⟨(by show 3 ≤ sizeLine; decide), fun tp ntp => ?_⟩
      have s1 : Same H (upd H tp (HO.tup [V.str "10", V.str "11", V.str "12"])) := same_upd ntp
      have e1 : upd H tp (HO.tup [V.str "10", V.str "11", V.str "12"]) tp = some (HO.tup [V.str "10", V.str "11", V.str "12"]) := upd_same
      generalize upd H tp (HO.tup [V.str "10", V.str "11", V.str "12"]) = H1 at s1 e1 ⊢
      refine ⟨tp, _, rfl, .inr (SqT.of e1), rfl, rfl, _, rfl, ?_⟩
      rw [if_neg (by decide), in_twelve]
      by_cases h10 : 10 ≤ k
      · have ek : digs k = [49, 48 + (k - 10)] := by
          have : k = 10 ∨ k = 11 ∨ k = 12 := by omega
          rcases this with rfl | rfl | rfl <;> decide +kernel
        have et : (digs k ++ r).take 2 = [49, 48 + (k - 10)] := by rw [ek]; rfl
        rw [et, isTw_of (by omega)]
        refine iteT ?_
        refine ⟨_, rfl, _, rfl, _, rfl, _, rfl, _, _, rfl, rfl, _, rfl, ⟨Tx t, rfl, big, ?_⟩⟩
        rw [tx_cut t (m := a + 2) (n := a + 2 + 2) (show (a : Int) + 2 = ((a + 2 : Nat) : Int) from rfl) (show (a : Int) + 2 + 2 = ((a + 2 + 2 : Nat) : Int) from rfl), show a + 2 + 2 - (a + 2) = 2 by omega, hd2, et]
        have dd : isD (48 + (k - 10)) = true := decide_eq_true (by omega)
        refine ⟨Tx [49, 48 + (k - 10)], _, rfl, int_tx (fun c hc => ?_) (by intro z; cases z) (by show 2 ≤ 640; decide), (by rw [tx_len]; show 2 ≤ 640; decide), ?_⟩
        · simp only [List.mem_cons, List.not_mem_nil, or_false] at hc
          rcases hc with rfl | rfl
          · rfl
          · exact dd
        refine ⟨_, rfl, _, _, rfl, rfl, (by show 2 ≤ sizeLine; decide), fun p np => ?_⟩
        rw [← ek, digs_val]
        have el : (a : Int) + 2 + 2 = ((a + (120 :: 94 :: digs k).length : Nat) : Int) := by
          rw [ek]
          show _ = ((a + 4 : Nat) : Int)
          omega
        show Q (.ref p) (upd H1 p (.tup [V.int (k : Int), V.int ((a : Int) + 2 + 2)]))
        rw [el]
        exact q p _ (s1.trans (same_upd np)) upd_same
      · have ek : digs k = [k + 48] := digs_lt (by omega)
        have et : isTw ((digs k ++ r).take 2) = false := by
          cases hi : isTw ((digs k ++ r).take 2) with
          | false => rfl
          | true =>
            exfalso
            obtain ⟨d, ed, d0, d1⟩ := isTw_t hi
            rw [ek] at ed
            cases r with
            | nil => cases ed
            | cons c r =>
              have : c = d := by
                have := (List.cons.inj ed).2
                exact (List.cons.inj this).1
              have := (hE c rfl).1
              rw [show isD c = true from decide_eq_true (by omega)] at this
              cases this
        rw [et]
        refine iteF ?_
        refine ⟨_, rfl, _, rfl, t, _, a + 2, rfl, rfl, hl, _, rfl, ?_⟩
        have hc : t[a + 2]? = some (k + 48) := by rw [drop_hd hd2, ek]; rfl
        have dc : isD (k + 48) = true := decide_eq_true (by omega)
        rw [dgA_of hc, dc]
        refine iteF ?_
        refine ⟨_, rfl, _, rfl, Tx t, _, k + 48, rfl, rfl, big, ix_tx hc rfl, ?_⟩
        refine ⟨Tx [k + 48], _, rfl, int_tx (fun d hd => ?_) (by intro z; cases z) (by show 1 ≤ 640; decide), (by rw [tx_len]; show 1 ≤ 640; decide), ?_⟩
        · simp only [List.mem_cons, List.not_mem_nil, or_false] at hd
          rw [hd]
          exact dc
        refine ⟨_, rfl, _, _, rfl, rfl, (by show 2 ≤ sizeLine; decide), fun p np => ?_⟩
        rw [← ek, digs_val]
        have el : (a : Int) + 2 + 1 = ((a + (120 :: 94 :: digs k).length : Nat) : Int) := by
          rw [ek]
          show _ = ((a + 3 : Nat) : Int)
          omega
        show Q (.ref p) (upd H1 p (.tup [V.int (k : Int), V.int ((a : Int) + 2 + 1)]))
        rw [el]
        exact q p _ (s1.trans (same_upd np)) upd_same
abbrev sRT : Stmt := topS 29
theorem scRT : FnScope ["text", "at", "power", "end", "number", "star"] ["text", "at"] (defScope sRT) := ⟨rfl, rfl, rfl, by decide +kernel, rfl, by decide +kernel, by decide +kernel⟩
theorem PowB.first {b : List Nat} {k : Nat} (h : PowB b k) : ∃ r, b = 120 :: r := by
  cases h <;> exact ⟨_, rfl⟩
theorem ok_rt {f : Addr} {fd : FuncData} (F : Fun K "read_term" "read_term" sRT f fd) (T : Bk mg) (G_behind_spaces : Df P w K mg base "behind_spaces" 1 ["text", "at"] spBeh) (G_read_number : Dx P w K mg base "read_number" 4 ["text", "at"] spRN7) (G_read_power : Dx P w K mg base "read_power" 3 ["text", "at"] spRP7) : FnOk P w K mg base (L2.CX P w) 5 f fd ["text", "at"] spRT7 := by
  refine F.okX scRT (fun vs H Q E h => ?_) (fun cdv A outer s H vs Q E hr h => ?_)
  · obtain ⟨t, z, a, x, y, k, b, r, rfl, _⟩ := h
    rfl
  · obtain ⟨t, z, a, x, y, k, b, r, rfl, rfl, hl, hd, hB, hE, q⟩ := h
    have big : (Tx t).length ≤ sizeLine := by rw [tx_len, sizeLine_eq]; omega
    refine ⟨_, (pss_cons (ps_if (pt_cmpR op_eq (pe_slice sl_str (pv 0) (po_some (pv 1)) (po_some (pe_op op_add (pv 1) pe_int))) pe_str (nomark _))
    (pss_cons (ps_asg (pe_call G_read_power.ok (hr.mono (by decide)) rfl G_read_power.m G_read_power.kp G_read_power.b .nil (E := E) (passes_call (takes_of rfl rfl rfl rfl) (fun _ _ _ _ h => h)) (pa_cons (pv 0) (pa_cons (pv 1) pa_nil))) (pg_tup (by rfl) (pgs_cons (pg_name (i := 2) scRT.nd rfl (Or.inl rfl)) (pgs_cons (pg_name (i := 3) scRT.nd rfl (Or.inl rfl)) pgs_nil))))
    (pss_one (ps_ret (pe_tup (pa_cons (pe_tup (pa_cons pe_int (pa_cons pe_int pa_nil))) (pa_cons (pv 2) (pa_cons (pv 3) pa_nil)))))))
    pss_nil)
  (pss_cons (ps_asg (pe_call G_read_number.ok (hr.mono (by decide)) rfl G_read_number.m G_read_number.kp G_read_number.b .nil (E := E) (passes_call (takes_of rfl rfl rfl rfl) (fun _ _ _ _ h => h)) (pa_cons (pv 0) (pa_cons (pv 1) pa_nil))) (pg_tup (by rfl) (pgs_cons (pg_name (i := 4) scRT.nd rfl (Or.inl rfl)) (pgs_cons (pg_name (i := 3) scRT.nd rfl (Or.inl rfl)) pgs_nil))))
  (pss_cons (ps_set (i := 5) scRT.nd rfl (Or.inl rfl) (pe_call G_behind_spaces.ok (hr.mono (by decide)) rfl G_behind_spaces.m G_behind_spaces.kp G_behind_spaces.b .nil pass0 (pa_cons (pv 0) (pa_cons (pv 3) pa_nil))))
  (pss_cons (ps_if (pt_cmpR op_ne (pe_slice sl_str (pv 0) (po_some (pv 5)) (po_some (pe_op op_add (pv 5) pe_int))) pe_str (nomark _))
    (pss_one (ps_ret (pe_tup (pa_cons (pv 4) (pa_cons pe_int (pa_cons (pv 3) pa_nil))))))
    pss_nil)
  (pss_cons (ps_asg (pe_call G_read_power.ok (hr.mono (by decide)) rfl G_read_power.m G_read_power.kp G_read_power.b .nil (E := E) (passes_call (takes_of rfl rfl rfl rfl) (fun _ _ _ _ h => h)) (pa_cons (pv 0) (pa_cons (pe_call G_behind_spaces.ok (hr.mono (by decide)) rfl G_behind_spaces.m G_behind_spaces.kp G_behind_spaces.b .nil pass0 (pa_cons (pv 0) (pa_cons (pe_op op_add (pv 5) pe_int) pa_nil))) pa_nil))) (pg_tup (by rfl) (pgs_cons (pg_name (i := 2) scRT.nd rfl (Or.inl rfl)) (pgs_cons (pg_name (i := 3) scRT.nd rfl (Or.inl rfl)) pgs_nil))))
  (pss_one (ps_ret (pe_tup (pa_cons (pv 4) (pa_cons (pv 2) (pa_cons (pv 3) pa_nil))))))))))), ?_⟩
    refine ⟨_, rfl, _, rfl, _, rfl, _, rfl, _, _, rfl, rfl, _, rfl, ⟨Tx t, rfl, big, rfl, _, rfl, ?_⟩⟩
    rw [tx_sign t (m := a) rfl rfl, lit_x, sign_eq]
    have nox : ∀ {nb r : List Nat} {x y : Nat}, NumB nb x y → t.drop a = nb ++ r → ¬ t[a]? = some 120 := fun h1 h2 z => by
      obtain ⟨c, h3, h4⟩ := h1.first
      have := List.length_pos_iff.mpr h1.ne
      rw [drop_hd h2, List.getElem?_append_left this, h3] at z
      cases z
      cases h4
    cases hB with
    | pow hP =>
      obtain ⟨pr, ep⟩ := hP.first
      have hx : t[a]? = some 120 := by rw [drop_hd hd, ep]; rfl
      rw [decide_eq_true hx]
      refine iteT ?_
      refine ⟨_, rfl, _, rfl, t, _, a, k, b, r, rfl, rfl, hl, hd, hP, hE.pow, fun p H1 s1 e1 => ?_⟩
      refine ⟨p, _, rfl, SqT.of e1, rfl, _, _, rfl, _, _, rfl, rfl, ?_⟩
      refine ⟨(by show 2 ≤ sizeLine; decide), fun q1 nq1 => ⟨_, rfl, _, rfl, (by show 3 ≤ sizeLine; decide), fun p1 np1 => ?_⟩⟩
      exact q p1 q1 _ (s1.trans ((same_upd nq1).trans (same_upd np1))) upd_same (same_upd np1 _ _ upd_same)
    | num hN =>
      rw [decide_eq_false (nox hN hd)]
      refine iteF ?_
      refine ⟨_, rfl, _, rfl, t, _, a, x, y, b, r, rfl, rfl, hl, hd, hN, hE.num, fun p qa H1 s1 e1 e2 => ?_⟩
      refine ⟨p, _, rfl, SqT.of e1, rfl, _, _, rfl, _, _, rfl, rfl, ?_⟩
      refine ⟨_, rfl, _, rfl, t, _, a + b.length, rfl, rfl, hl, ?_⟩
      obtain ⟨g, r', er, hr'⟩ := hE
      have hd2 := drop_app hd
      rw [er] at hd2
      rw [beh_of hd2 (fun z => by have := hr' _ z; omega)]
      refine ⟨_, rfl, _, rfl, _, rfl, _, rfl, _, _, rfl, rfl, _, rfl, ⟨Tx t, rfl, big, rfl, _, rfl, ?_⟩⟩
      rw [tx_sign t (m := a + b.length + g) rfl rfl, lit_star, sign_eq]
      have hd3 := drop_app hd2
      rw [show (sp g).length = g from List.length_replicate] at hd3
      rw [decide_eq_false (fun z => by rw [drop_hd hd3] at z; have := hr' _ z; omega)]
      refine iteT ?_
      refine ⟨_, rfl, _, rfl, (by show 3 ≤ sizeLine; decide), fun p1 np1 => ?_⟩
      exact q p1 qa _ (s1.trans (same_upd np1)) upd_same (same_upd np1 _ _ e2)
    | both g1 g2 hN hP =>
      rename_i nb pb
      have hd1 : t.drop a = nb ++ (sp g1 ++ (42 :: (sp g2 ++ (pb ++ r)))) := by rw [hd]; simp
      rw [decide_eq_false (nox hN hd1)]
      refine iteF ?_
      refine ⟨_, rfl, _, rfl, t, _, a, x, y, nb, _, rfl, rfl, hl, hd1, hN, (fun c hc => ?_), fun p qa H1 s1 e1 e2 => ?_⟩
      · rcases sp_head hc with rfl | ⟨_, h⟩
        · exact ⟨by decide, by decide⟩
        · cases h
          exact ⟨by decide, by decide⟩
      refine ⟨p, _, rfl, SqT.of e1, rfl, _, _, rfl, _, _, rfl, rfl, ?_⟩
      refine ⟨_, rfl, _, rfl, t, _, a + nb.length, rfl, rfl, hl, ?_⟩
      have hd2 := drop_app hd1
      rw [beh_of hd2 (by intro z; cases z)]
      have hd3 := drop_app hd2
      rw [show (sp g1).length = g1 from List.length_replicate] at hd3
      obtain ⟨e42, hd4⟩ := drop_cons hd3
      refine ⟨_, rfl, _, rfl, _, rfl, _, rfl, _, _, rfl, rfl, _, rfl, ⟨Tx t, rfl, big, rfl, _, rfl, ?_⟩⟩
      rw [tx_sign t (m := a + nb.length + g1) rfl rfl, lit_star, sign_eq, decide_eq_true e42]
      refine iteF ?_
      obtain ⟨pr, ep⟩ := hP.first
      refine ⟨_, rfl, _, rfl, _, rfl, _, _, rfl, rfl, t, _, a + nb.length + g1 + 1, rfl, rfl, hl, ?_⟩
      rw [beh_of hd4 (by rw [ep]; intro z; cases z)]
      have hd5 := drop_app hd4
      rw [show (sp g2).length = g2 from List.length_replicate] at hd5
      refine ⟨t, _, a + nb.length + g1 + 1 + g2, k, pb, r, rfl, rfl, hl, hd5, hP, hE.pow, fun p2 H2 s2 e3 => ?_⟩
      refine ⟨p2, _, rfl, SqT.of e3, rfl, _, _, rfl, _, _, rfl, rfl, ?_⟩
      refine ⟨_, rfl, _, rfl, _, rfl, (by show 3 ≤ sizeLine; decide), fun p1 np1 => ?_⟩
      have el : a + nb.length + g1 + 1 + g2 + pb.length = a + (nb ++ (sp g1 ++ 42 :: (sp g2 ++ pb))).length := by
        simp only [List.length_append, List.length_cons, sp, List.length_replicate]
        omega
      rw [el]
      exact q p1 qa _ (s1.trans (s2.trans (same_upd np1))) upd_same (same_upd np1 _ _ (s2 _ _ e2))
end

end Vf

set_option maxRecDepth 100000
set_option maxHeartbeats 8000000
namespace Vf
open PySem PySem.Spec PyProof.Rows L2
/-! ### texts of polynomials read -/
def Tm7 (H : Hp) (r : Addr) (it : Itm) : Prop := ∃ n : Addr, H r = some (.tup [.ref n, .int (it.2.2.2 : Int)]) ∧ H n = some (.tup [.int (pq (ival it)).1, .int (pq (ival it)).2])
inductive Tms7 (H : Hp) : List Addr → List Itm → Prop
  | nil : Tms7 H [] []
  | cons {r : Addr} {rs : List Addr} {it : Itm} {L : List Itm} : Tm7 H r it → Tms7 H rs L → Tms7 H (r :: rs) (it :: L)
theorem Tm7.up {H H' : Hp} {r : Addr} {it : Itm} (h : Tm7 H r it) (u : ∀ b xs, H b = some (.tup xs) → H' b = some (.tup xs)) : Tm7 H' r it := by
  obtain ⟨n, h1, h2⟩ := h
  exact ⟨n, u _ _ h1, u _ _ h2⟩
theorem Tms7.up {H H' : Hp} (u : ∀ b xs, H b = some (.tup xs) → H' b = some (.tup xs)) : ∀ {rs : List Addr} {L : List Itm}, Tms7 H rs L → Tms7 H' rs L
  | _, _, .nil => .nil
  | _, _, .cons h t => .cons (h.up u) (t.up u)
theorem Tms7.snoc {H : Hp} {r : Addr} {it : Itm} (z : Tm7 H r it) : ∀ {rs : List Addr} {L : List Itm}, Tms7 H rs L → Tms7 H (rs ++ [r]) (L ++ [it])
  | _, _, .nil => .cons z .nil
  | _, _, .cons h t => .cons h (t.snoc z)
theorem Tms7.len {H : Hp} : ∀ {rs : List Addr} {L : List Itm}, Tms7 H rs L → rs.length = L.length
  | _, _, .nil => rfl
  | _, _, .cons _ t => by rw [List.length_cons, List.length_cons, t.len]
theorem Tms7.at {H : Hp} : ∀ {rs : List Addr} {L : List Itm} {i : Nat} {r : Addr}, Tms7 H rs L → rs[i]? = some r → ∃ it, L[i]? = some it ∧ Tm7 H r it
  | _, _, 0, _, .cons h _, e => by cases e; exact ⟨_, rfl, h⟩
  | _, _, i + 1, _, .cons _ t, e => t.at (i := i) e
  | _, _, i, _, .nil, e => by cases e
def OkI (it : Itm) : Prop := (it.1 = 1 ∨ it.1 = -1) ∧ it.2.1 < 10 ^ 40 ∧ it.2.2.1 < 10 ^ 40 ∧ 0 < it.2.2.1 ∧ it.2.2.2 ≤ 12
theorem Tail.ok {r : List Nat} {L : List Itm} (h : Tail r L) : ∀ it ∈ L, OkI it := by
  induction h with
  | nil => intro it h; cases h
  | cons s g1 g2 hs hB _ ih =>
    intro it h
    rcases List.mem_cons.mp h with rfl | h
    · exact ⟨hs, hB.sz⟩
    · exact ih it h
theorem TextB.ok {t : List Nat} {L : List Itm} (h : TextB t L) : ∀ it ∈ L, OkI it := by
  cases h with
  | mk s g0 g1 g2 hs hB hT =>
    intro it h
    rcases List.mem_cons.mp h with rfl | h
    · exact ⟨hs, hB.sz⟩
    · exact hT.ok it h
/-- where the next term begins -/
def Nxt (t : List Nat) (b : Nat) (s : Int) (L : List Itm) : Prop :=
  (s = 0 ∧ L = [] ∧ b = t.length) ∨ ∃ (body r : List Nat) (x y k g1 g2 : Nat) (L' : List Itm), L = (s, x, y, k) :: L' ∧ (s = 1 ∨ s = -1) ∧ TermB body x y k ∧ Tail r L' ∧ t.drop b = sp g1 ++ (body ++ (sp g2 ++ r))
def spRTs7 : Sp := fun vs H Q _ => ∃ (t : List Nat) (L : List Itm), vs = [.str (Tx t), .int 0] ∧ t.length ≤ 100000 ∧ TextB t L ∧ L.length ≤ 1000 ∧
  ∀ (p l : Addr) (H' : Hp) (rs : List Addr), Same H H' → H' p = some (.tup [.ref l, .int ((t.length : Nat) : Int)]) → H' l = some (.lst (rs.map V.ref)) → Tms7 H' rs L → Q (.ref p) H'
/-- a ratio with both numbers at most N -/
def Hb (N : Nat) (r : Rat) : Prop := r.num.natAbs ≤ N ∧ r.den ≤ N
theorem Hb.add {N M : Nat} {a b : Rat} (h : Hb N a) (h' : Hb M b) : Hb (2 * (N * M)) (a + b) := by
  have e := low_add a b
  have b0 : (a.den : Int) * b.den ≠ 0 := by
    have := a.den_pos
    have := b.den_pos
    exact Int.mul_ne_zero (by omega) (by omega)
  have z := low_size (t := a.num * b.den + b.num * a.den) b0
  rw [e] at z
  have m1 : a.num.natAbs * b.den ≤ N * M := Nat.mul_le_mul h.1 h'.2
  have m2 : b.num.natAbs * a.den ≤ M * N := Nat.mul_le_mul h'.1 h.2
  have m3 : a.den * b.den ≤ N * M := Nat.mul_le_mul h.2 h'.2
  rw [Nat.mul_comm M N] at m2
  have z1 : (a + b).num.natAbs ≤ _ := z.1
  have z2 : ((a + b).den : Int).natAbs ≤ _ := z.2
  refine ⟨?_, ?_⟩
  · refine Nat.le_trans z1 (Nat.le_trans (Int.natAbs_add_le _ _) ?_)
    rw [Int.natAbs_mul, Int.natAbs_mul, Int.natAbs_natCast, Int.natAbs_natCast]
    omega
  · rw [Int.natAbs_natCast, Int.natAbs_mul, Int.natAbs_natCast, Int.natAbs_natCast] at z2
    omega
theorem hb_ival {it : Itm} (h : OkI it) : Hb (10 ^ 40) (ival it) := by
  obtain ⟨hs, hx, hy, y0, _⟩ := h
  have b0 : ((it.2.2.1 : Int) * 1) ≠ 0 := by omega
  have e := low_pq (t := (it.2.1 : Int) * it.1) b0
  have z := low_size (t := (it.2.1 : Int) * it.1) b0
  rw [e] at z
  have z1 : (ival it).num.natAbs ≤ _ := z.1
  have z2 : ((ival it).den : Int).natAbs ≤ _ := z.2
  rw [Int.natAbs_natCast] at z2
  have nx : ((it.2.1 : Int) * it.1).natAbs = it.2.1 := by
    rw [Int.natAbs_mul, Int.natAbs_natCast]
    rcases hs with h | h <;> rw [h] <;> exact Nat.mul_one _
  have ny : ((it.2.2.1 : Int) * 1).natAbs = it.2.2.1 := by rw [Int.mul_one, Int.natAbs_natCast]
  exact ⟨by omega, by omega⟩
theorem Hb.le {N M : Nat} {r : Rat} (h : Hb N r) (e : N ≤ M) : Hb M r := ⟨Nat.le_trans h.1 e, Nat.le_trans h.2 e⟩
theorem Tups.set {H : Hp} : ∀ {as : List Addr} {ps : List (Int × Int)} (i : Nat) {a : Addr} {p : Int × Int}, Tups H as ps → H a = some (.tup [.int p.1, .int p.2]) → Tups H (as.set i a) (ps.set i p)
  | _, _, _, _, _, .nil, _ => .nil
  | _, _, 0, _, _, .cons _ t, e => .cons e t
  | _, _, i + 1, _, _, .cons h t, e => .cons h (Tups.set i t e)
theorem rowD_pq {qs : List Rat} : rowD (.list ((qs.map pq).map pairD)) = some (qs.map pq) := by
  have go : ∀ qs : List Rat, ((qs.map pq).map pairD).mapM partsD = some (qs.map pq) := by
    intro qs
    induction qs with
    | nil => rw [List.map_nil, List.map_nil, List.mapM_nil]; rfl
    | cons q qs ih =>
      rw [List.map_cons, List.map_cons, List.mapM_cons, parts_pairD (pq_low q).pos, ih]
      rfl
  exact go qs
theorem low_pqs : ∀ qs : List Rat, (qs.map pq).map lowP = qs.map pq
  | [] => rfl
  | q :: qs => by
    rw [List.map_cons, List.map_cons, low_pqs qs]
    exact congrArg (· :: _) (low_id (pq_low q))
def spRPl7 (K : PySem.W.Frag) (CP : Addr) : Sp := fun vs H Q _ => ∃ (t : List Nat) (L : List Itm), vs = [.str (Tx t), .int 0] ∧ t.length ≤ 100000 ∧ TextB t L ∧ L.length ≤ 1000 ∧ (∀ k, cntAt L k ≤ 10) ∧
  ∀ (p x : Addr) (H' : Hp) (qs : List Rat), Same H H' → H' p = some (.tup [.ref x, .int ((t.length : Nat) : Int)]) → PolyQ K CP H' x (stripQ qs) → qs.length = 13 → (∀ k, k < 13 → cf qs k = sumAt L k) → Q (.ref p) H'
def spPO7 (K : PySem.W.Frag) (CP : Addr) : Sp := fun vs H Q _ => ∃ (t : List Nat) (L : List Itm), vs = [.str (Tx t)] ∧ t.length ≤ 100000 ∧ TextB t L ∧ L.length ≤ 1000 ∧ (∀ k, cntAt L k ≤ 10) ∧
  ∀ (x : Addr) (H' : Hp) (qs : List Rat), Same H H' → PolyQ K CP H' x (stripQ qs) → qs.length = 13 → (∀ k, k < 13 → cf qs k = sumAt L k) → Q (.ref x) H'
section
variable {P : Program} {w : World} {K : PySem.W.Frag} {mg : Str → Option Value} {base : Heap} {CT CP CR CN : Addr}
abbrev sRTs : Stmt := topS 31
theorem scRTs : FnScope ["text", "at", "terms", "sign", "number", "power", "end"] ["text", "at"] (defScope sRTs) := ⟨rfl, rfl, rfl, by decide +kernel, rfl, by decide +kernel, by decide +kernel⟩
theorem tail_sgn {t r : List Nat} {e : Nat} {L : List Itm} (h : t.drop e = r) (hT : Tail r L) (he : e ≤ t.length) : (sgn t e = 0 ∧ L = [] ∧ e = t.length) ∨ ∃ (body r' : List Nat) (x y k g1 g2 : Nat) (L' : List Itm), L = (sgn t e, x, y, k) :: L' ∧ (sgn t e = 1 ∨ sgn t e = -1) ∧ TermB body x y k ∧ Tail r' L' ∧ t.drop (e + 1) = sp g1 ++ (body ++ (sp g2 ++ r')) := by
  cases hT with
  | nil =>
    have hl : t.length ≤ e := by
      have := congrArg List.length h
      rw [List.length_drop, List.length_nil] at this
      omega
    have e0 : t[e]? = none := List.getElem?_eq_none hl
    refine .inl ⟨?_, rfl, by omega⟩
    unfold sgn
    rw [e0, if_neg (by intro z; cases z), if_neg (by intro z; cases z)]
  | cons s g1 g2 hs hB hT =>
    obtain ⟨e1, e2⟩ := drop_cons h
    refine .inr ⟨_, _, _, _, _, g1, g2, _, ?_, ?_, hB, hT, e2⟩
    · unfold sgn
      rw [e1]
      rcases hs with rfl | rfl <;> rfl
    · unfold sgn
      rw [e1]
      rcases hs with rfl | rfl
      · exact .inl rfl
      · exact .inr rfl
theorem ok_rts {f : Addr} {fd : FuncData} (F : Fun K "read_terms" "read_terms" sRTs f fd) (T : Bk mg) (G_behind_spaces : Df P w K mg base "behind_spaces" 1 ["text", "at"] spBeh) (G_read_term : Dx P w K mg base "read_term" 5 ["text", "at"] spRT7) (G_sign_at : Df P w K mg base "sign_at" 1 ["text", "at"] spSg) (G_times : Dx P w K mg base "times" 4 ["one", "other"] (spTwo K CN (okLow gTimes))) :
    FnOk P w K mg base (L2.CX P w) 6 f fd ["text", "at"] spRTs7 := by
  refine F.okX scRTs (fun vs H Q E h => ?_) (fun cdv A outer s H vs Q E hr h => ?_)
  · obtain ⟨t, L, rfl, _⟩ := h
    rfl
  · obtain ⟨t, L, rfl, hl', hT, hL, q⟩ := h
    have big : (Tx t).length ≤ sizeLine := by rw [tx_len, sizeLine_eq]; omega
    refine ⟨_, (pss_cons (ps_set (i := 2) scRTs.nd rfl (Or.inl rfl) (pe_lst pa_nil))
  (pss_cons (ps_set (i := 1) scRTs.nd rfl (Or.inl rfl) (pe_call G_behind_spaces.ok (hr.mono (by decide)) rfl G_behind_spaces.m G_behind_spaces.kp G_behind_spaces.b .nil pass0 (pa_cons (pv 0) (pa_cons (pv 1) pa_nil))))
  (pss_cons (ps_set (i := 3) scRTs.nd rfl (Or.inl rfl) pe_int)
  (C8.pss_cut (ps_if (pt_cmpR op_eq (pe_slice sl_str (pv 0) (po_some (pv 1)) (po_some (pe_op op_add (pv 1) pe_int))) pe_str (nomark _))
    (pss_cons (ps_set (i := 3) scRTs.nd rfl (Or.inl rfl) (pe_un un_neg pe_int))
    (pss_one (ps_set (i := 1) scRTs.nd rfl (Or.inl rfl) (pe_op op_add (pv 1) pe_int))))
    pss_nil)
  (C8.pss_cut (ps_while (passes_of rfl) (pt_cmpR op_ne (pv 3) pe_int (nomark _))
    (pss_cons (ps_asg (pe_call G_read_term.ok (hr.mono (by decide)) rfl G_read_term.m G_read_term.kp G_read_term.b .nil (E := E) (passes_call (takes_of rfl rfl rfl rfl) (fun _ _ _ _ h => h)) (pa_cons (pv 0) (pa_cons (pe_call G_behind_spaces.ok (hr.mono (by decide)) rfl G_behind_spaces.m G_behind_spaces.kp G_behind_spaces.b .nil pass0 (pa_cons (pv 0) (pa_cons (pv 1) pa_nil))) pa_nil))) (pg_tup (by rfl) (pgs_cons (pg_name (i := 4) scRTs.nd rfl (Or.inl rfl)) (pgs_cons (pg_name (i := 5) scRTs.nd rfl (Or.inl rfl)) (pgs_cons (pg_name (i := 6) scRTs.nd rfl (Or.inl rfl)) pgs_nil)))))
    (pss_cons (ps_expr (pe_bm PySem.F.plainAttrs_list PySem.F.slot_list_append PySem.F.type_list_append mt_append (pv 2) (pa_cons (pe_tup (pa_cons (pe_call G_times.ok (hr.mono (by decide)) rfl G_times.m G_times.kp G_times.b .nil (E := E) (passes_call (takes_of rfl rfl rfl rfl) (fun _ _ _ _ h => h)) (pa_cons (pv 4) (pa_cons (pv 3) pa_nil))) (pa_cons (pv 5) pa_nil))) pa_nil)))
    (pss_cons (ps_set (i := 6) scRTs.nd rfl (Or.inl rfl) (pe_call G_behind_spaces.ok (hr.mono (by decide)) rfl G_behind_spaces.m G_behind_spaces.kp G_behind_spaces.b .nil pass0 (pa_cons (pv 0) (pa_cons (pv 6) pa_nil))))
    (pss_cons (ps_set (i := 3) scRTs.nd rfl (Or.inl rfl) (pe_call G_sign_at.ok (hr.mono (by decide)) rfl G_sign_at.m G_sign_at.kp G_sign_at.b .nil pass0 (pa_cons (pv 0) (pa_cons (pv 6) pa_nil))))
    (pss_one (ps_set (i := 1) scRTs.nd rfl (Or.inl rfl) (pe_ifExp (pt_cmpR op_eq (pv 3) pe_int (nomark _)) (pv 6) (pe_op op_add (pv 6) pe_int)))))))))
  (pss_one (ps_ret (pe_tup (pa_cons (pv 2) (pa_cons (pv 1) pa_nil)))))))))), ?_⟩
    refine ⟨(by show 0 ≤ sizeLine; decide), fun l nl => ?_⟩
    have el : upd H l (HO.lst []) l = some (HO.lst []) := upd_same
    have s1 : Same H (upd H l (HO.lst [])) := same_upd nl
    generalize upd H l (HO.lst []) = H1 at el s1 ⊢
    refine ⟨_, rfl, _, rfl, t, _, 0, rfl, rfl, hl', ?_⟩
    have okL := hT.ok
    have key : ∃ g0 : Nat, beh t 0 = g0 ∧ ((t[g0]? = some 45 ∧ Nxt t (g0 + 1) (-1) L) ∨ (t[g0]? ≠ some 45 ∧ Nxt t g0 1 L)) := by
      cases hT with
      | mk s g0 g1 g2 hs hB hT =>
        rename_i b r x y k L
        obtain ⟨c, hc1, hc2⟩ := hB.first
        have bl : 0 < b.length := by
          cases b with
          | nil => cases hc1
          | cons => exact Nat.succ_pos _
        have bh : ∀ r', (b ++ r')[0]? = some c := fun r' => by rw [List.getElem?_append_left bl]; exact hc1
        have nosp : ∀ r', (b ++ r')[0]? ≠ some 32 ∧ (b ++ r')[0]? ≠ some 45 := fun r' => by
          rw [bh r']
          rcases hc2 with h | h
          · have : 48 ≤ c ∧ c ≤ 57 := of_decide_eq_true h
            exact ⟨fun z => by have := Option.some.inj z; omega, fun z => by have := Option.some.inj z; omega⟩
          · exact ⟨fun z => by have := Option.some.inj z; omega, fun z => by have := Option.some.inj z; omega⟩
        rcases hs with rfl | rfl
        · -- no sign: the spaces are one row
          have hd : (sp g0 ++ ((if (1 : Int) = 1 then [] else [45]) ++ (sp g1 ++ (b ++ (sp g2 ++ r))))).drop 0 = sp (g0 + g1) ++ (b ++ (sp g2 ++ r)) := by
            rw [if_pos rfl, List.nil_append, List.drop_zero, ← List.append_assoc]
            congr 1
            exact List.replicate_append_replicate
          refine ⟨g0 + g1, by rw [beh_of hd (nosp _).1, Nat.zero_add], .inr ⟨?_, .inr ⟨b, r, x, y, k, 0, g2, L, rfl, .inl rfl, hB, hT, ?_⟩⟩⟩
          · have := drop_hd (drop_app hd)
            rw [show (sp (g0 + g1)).length = g0 + g1 from List.length_replicate, Nat.zero_add] at this
            rw [this]
            exact (nosp _).2
          · have := drop_app hd
            rw [show (sp (g0 + g1)).length = g0 + g1 from List.length_replicate, Nat.zero_add] at this
            exact this
        · have hd : (sp g0 ++ ((if (-1 : Int) = 1 then [] else [45]) ++ (sp g1 ++ (b ++ (sp g2 ++ r))))).drop 0 = sp g0 ++ (45 :: (sp g1 ++ (b ++ (sp g2 ++ r)))) := by
            rw [if_neg (by decide), List.drop_zero]
            rfl
          have h2 := drop_app hd
          rw [show (sp g0).length = g0 from List.length_replicate, Nat.zero_add] at h2
          obtain ⟨e1, e2⟩ := drop_cons h2
          exact ⟨g0, by rw [beh_of hd (by intro z; cases z), Nat.zero_add], .inl ⟨e1, .inr ⟨b, r, x, y, k, g1, g2, L, rfl, .inr rfl, hB, hT, e2⟩⟩⟩
    obtain ⟨g0, eg0, key⟩ := key
    rw [eg0]
    refine ⟨fun σ H2 => H2 = H1 ∧ ∃ (sg : Int) (b : Nat), σ = [some (.str (Tx t)), some (.int (b : Int)), some (.ref l), some (.int sg), none, none, none] ∧ Nxt t b sg L, ?_, ?_⟩
    · refine ⟨_, rfl, _, rfl, _, rfl, _, rfl, _, _, rfl, rfl, _, rfl, ⟨Tx t, rfl, big, rfl, _, rfl, ?_⟩⟩
      rw [tx_sign t (m := g0) rfl rfl, lit_minus, sign_eq]
      rcases key with ⟨hm, hn⟩ | ⟨hm, hn⟩
      · rw [decide_eq_true hm]
        refine iteT ?_
        refine ⟨_, rfl, _, rfl, _, _, rfl, rfl, ?_⟩
        exact ⟨rfl, -1, g0 + 1, rfl, hn⟩
      · rw [decide_eq_false hm]
        refine iteF ?_
        exact ⟨rfl, 1, g0, rfl, hn⟩
    · rintro σ H2 ⟨rfl, sg, b, rfl, hn⟩
      refine ⟨fun σ H3 => ∃ (v4 v5 v6 : Option V) (rs : List Addr), σ = [some (.str (Tx t)), some (.int ((t.length : Nat) : Int)), some (.ref l), some (.int 0), v4, v5, v6] ∧ Same H H3 ∧ H3 l = some (.lst (rs.map V.ref)) ∧ Tms7 H3 rs L, ?_, ?_⟩
      · refine ⟨fun m σ H3 => ∃ (b : Nat) (sg : Int) (v4 v5 v6 : Option V) (rs : List Addr) (L1 L2 : List Itm), σ = [some (.str (Tx t)), some (.int (b : Int)), some (.ref l), some (.int sg), v4, v5, v6] ∧ Same H H3 ∧ H3 l = some (.lst (rs.map V.ref)) ∧ Tms7 H3 rs L1 ∧ L1 ++ L2 = L ∧ Nxt t b sg L2 ∧ m = L2.length,
          ⟨_, b, sg, none, none, none, [], [], L, rfl, s1, el, .nil, rfl, hn, rfl⟩, ?_⟩
        rintro m σ H3 ⟨b, sg, v4, v5, v6, rs, L1, L2, rfl, s3, e3, tm, eL, hn, rfl⟩
        rcases hn with ⟨rfl, rfl, rfl⟩ | ⟨body, r, x, y, k, g1, g2, L', rfl, hsg, hB, hT', hd⟩
        · refine ⟨_, rfl, rfl, _, rfl, ?_⟩
          refine iteF ?_
          rw [List.append_nil] at eL
          rw [← eL]
          exact ⟨v4, v5, v6, rs, rfl, s3, e3, tm⟩
        · refine ⟨_, rfl, (by rcases hsg with rfl | rfl <;> rfl), true, (by rcases hsg with rfl | rfl <;> rfl), ?_⟩
          refine iteT ?_
          refine ⟨fun σ H3 => ∃ (b : Nat) (sg' : Int) (v4 v5 v6 : Option V) (rs : List Addr), σ = [some (.str (Tx t)), some (.int (b : Int)), some (.ref l), some (.int sg'), v4, v5, v6] ∧ Same H H3 ∧ H3 l = some (.lst (rs.map V.ref)) ∧ Tms7 H3 rs (L1 ++ [(sg, x, y, k)]) ∧ Nxt t b sg' L', ?_, ?_⟩
          · rintro σ' H' ⟨b', sg', w4, w5, w6, rs', h1, h2, h3, h4, h5⟩
            exact ⟨L'.length, Nat.lt_succ_self _, b', sg', w4, w5, w6, rs', L1 ++ [(sg, x, y, k)], L', h1, h2, h3, h4, by rw [List.append_assoc]; exact eL, h5, rfl⟩
          · have ok : OkI (sg, x, y, k) := okL _ (by rw [← eL]; exact List.mem_append_right _ (List.mem_cons_self ..))
            have hl1 : L1.length ≤ 1000 := by
              have := congrArg List.length eL
              rw [List.length_append] at this
              omega
            obtain ⟨c, hc1, hc2⟩ := hB.first
            have bl : 0 < body.length := by
              cases body with
              | nil => cases hc1
              | cons => exact Nat.succ_pos _
            have nosp : (body ++ (sp g2 ++ r))[0]? ≠ some 32 := fun z => by
              rw [List.getElem?_append_left bl, hc1] at z
              cases z
              rcases hc2 with h | h
              · cases h
              · cases h
            refine ⟨_, rfl, _, rfl, _, rfl, t, _, b, rfl, rfl, hl', ?_⟩
            rw [beh_of hd nosp]
            have hd2 := drop_app hd
            rw [show (sp g1).length = g1 from List.length_replicate] at hd2
            refine ⟨t, _, b + g1, x, y, k, body, sp g2 ++ r, rfl, rfl, hl', hd2, hB, hT'.te g2, fun p q1 H4 s4 e4 e5 => ?_⟩
            refine ⟨p, _, rfl, SqT.of e4, rfl, _, _, rfl, _, _, rfl, _, _, rfl, rfl, ?_⟩
            have e3' := s4 _ _ e3
            have y0 : (0 : Int) < (y : Int) := by have := hB.sz.2.2.1; omega
            have dq : Dt K H4 (.ref q1) (.tuple [.int (x : Int), .int (y : Int)]) := .tup (SqT.of e5) (.cons (.int _) (.cons (.int _) .nil))
            have pq1 : partsD (.tuple [.int (x : Int), .int (y : Int)]) = some ((x : Int), (y : Int)) := parts_pairD (p := ((x : Int), (y : Int))) y0
            refine ⟨_, rfl, .inl ⟨rfl, _, SqL.of e3'⟩, _, rfl, _, rfl, .ref q1, .int sg, _, .int sg, rfl, dq, .int _, fun t1 b1 x1 c1 p1 p2 => ?_, (fun z => by rw [pq1] at z; cases z), (fun _ z => by cases z)⟩
            rw [pq1] at p1
            cases p1
            cases p2
            have s40 : ∀ n : Nat, n < 10 ^ 40 → Sz (n : Int) := fun n h => by
              show (n : Int).natAbs < _
              rw [Int.natAbs_natCast]
              exact Nat.lt_trans h (by decide +kernel)
            have ssg : Sz sg := by rcases hsg with rfl | rfl <;> (show _ < _; decide +kernel)
            refine ⟨s40 x hB.sz.1, s40 y hB.sz.2.1, ssg, (by show _ < _; decide +kernel), fun q2 H5 s5 e6 => ?_⟩
            have e6 : H5 q2 = some (.tup [.int (low ((x : Int) * sg) ((y : Int) * 1)).1, .int (low ((x : Int) * sg) ((y : Int) * 1)).2]) := e6
            rw [low_pq (by omega)] at e6
            have e6 : H5 q2 = some (.tup [.int (pq (ival (sg, x, y, k))).1, .int (pq (ival (sg, x, y, k))).2]) := e6
            refine ⟨_, rfl, (by show 2 ≤ sizeLine; decide), fun tt ntt => ?_⟩
            have et : upd H5 tt (HO.tup [V.ref q2, V.int (k : Int)]) tt = some (HO.tup [V.ref q2, V.int (k : Int)]) := upd_same
            have s6 : Same H5 (upd H5 tt (HO.tup [V.ref q2, V.int (k : Int)])) := same_upd ntt
            generalize upd H5 tt (HO.tup [V.ref q2, V.int (k : Int)]) = H6 at et s6 ⊢
            have s46 : Same H3 H6 := s4.trans (s5.trans s6)
            have e7 := s46 _ _ e3
            refine ⟨l, _, _, rfl, rfl, e7, (by rw [List.length_map, tm.len, sizeLine_eq]; omega), ?_⟩
            have up : ∀ b xs, H6 b = some (.tup xs) → upd H6 l (HO.lst (rs.map V.ref ++ [V.ref tt])) b = some (.tup xs) := fun b xs z => by
              rw [upd_ne (ne_of z e7 (by intro z; cases z))]
              exact z
            have e8 : upd H6 l (HO.lst (rs.map V.ref ++ [V.ref tt])) l = some (HO.lst ((rs ++ [tt]).map V.ref)) := by
              rw [upd_same, List.map_append]
              rfl
            have s8 : Same H (upd H6 l (HO.lst (rs.map V.ref ++ [V.ref tt]))) := fun b' o eb' => by
              rw [upd_ne (ne_of_none eb' nl)]
              exact s46 _ _ (s3 _ _ eb')
            have tm8 : Tms7 (upd H6 l (HO.lst (rs.map V.ref ++ [V.ref tt]))) (rs ++ [tt]) (L1 ++ [(sg, x, y, k)]) :=
              (tm.up fun b xs z => up _ _ (s46 _ _ z)).snoc ⟨q2, up _ _ et, up _ _ (s6 _ _ e6)⟩
            generalize upd H6 l (HO.lst (rs.map V.ref ++ [V.ref tt])) = H8 at e8 s8 tm8 ⊢
            have hd3 := drop_app hd2
            refine ⟨_, rfl, _, rfl, t, _, b + g1 + body.length, rfl, rfl, hl', ?_⟩
            rw [beh_of hd3 (fun z => by have := hT'.head _ z; omega)]
            refine ⟨_, rfl, _, rfl, t, _, b + g1 + body.length + g2, rfl, rfl, hl', ?_⟩
            have hd4 := drop_app hd3
            rw [show (sp g2).length = g2 from List.length_replicate] at hd4
            have le : b + g1 + body.length + g2 ≤ t.length := by
              have h1 := congrArg List.length hd2
              simp only [List.length_drop, List.length_append, sp, List.length_replicate] at h1
              omega
            rcases tail_sgn hd4 hT' le with ⟨h1, h2, h3⟩ | ⟨body', r', x', y', k', g1', g2', L'', h1, h2, h3, h4, h5⟩
            · refine ⟨_, rfl, rfl, _, rfl, ?_⟩
              rw [h1, decide_eq_true rfl]
              refine iteT ?_
              exact ⟨_, rfl, _, _, _, _, _, rs ++ [tt], rfl, s8, e8, tm8, .inl ⟨rfl, h2, h3⟩⟩
            · refine ⟨_, rfl, rfl, false, (by rcases h2 with h2 | h2 <;> rw [h2] <;> rfl), ?_⟩
              refine iteF ?_
              exact ⟨_, rfl, _, _, rfl, rfl, b + g1 + body.length + g2 + 1, _, _, _, _, rs ++ [tt], rfl, s8, e8, tm8, .inr ⟨body', r', x', y', k', g1', g2', L'', h1, h2, h3, h4, h5⟩⟩
      · rintro σ H3 ⟨v4, v5, v6, rs, rfl, s3, e3, tm⟩
        refine ⟨_, rfl, _, rfl, (by show 2 ≤ sizeLine; decide), fun p np => ?_⟩
        have s4 : Same H3 (upd H3 p (HO.tup [V.ref l, V.int ((t.length : Nat) : Int)])) := same_upd np
        exact q p l _ rs (s3.trans s4) upd_same (s4 _ _ e3) (tm.up fun b xs z => s4 _ _ z)
end

end Vf

set_option maxRecDepth 100000
set_option maxHeartbeats 8000000
namespace Vf
open PySem PySem.Spec PyProof.Rows L2
section
variable {P : Program} {w : World} {K : PySem.W.Frag} {mg : Str → Option Value} {base : Heap} {CT CP CR CN : Addr}
/-- 2 ^ 135 for each term -/
theorem hb_sr {r : Rat} {n : Nat} (h : Hb (2 ^ (135 * n)) r) (hn : n ≤ 11) : Sz r.num ∧ Sz (r.den : Int) := by
  have m : (2 : Nat) ^ (135 * n) < 2 ^ 1900 := Nat.pow_lt_pow_right (by decide) (by omega)
  exact ⟨Nat.lt_of_le_of_lt h.1 m, by show (r.den : Int).natAbs < _; rw [Int.natAbs_natCast]; exact Nat.lt_of_le_of_lt h.2 m⟩
theorem hb_more {a b : Rat} {n : Nat} (h : Hb (2 ^ (135 * n)) a) (h' : Hb (10 ^ 40) b) : Hb (2 ^ (135 * (n + 1))) (a + b) := by
  refine (h.add h').le ?_
  have e : (2 : Nat) ^ (135 * (n + 1)) = 2 ^ (135 * n) * 2 ^ 135 := by rw [Nat.mul_succ, Nat.pow_add]
  have k : 2 * 10 ^ 40 ≤ 2 ^ 135 := by decide +kernel
  rw [e, Nat.mul_left_comm]
  exact Nat.mul_le_mul_left _ k
theorem cf_set_eq {qs : List Rat} {i : Nat} {x : Rat} (h : i < qs.length) : cf (qs.set i x) i = x := by
  rw [cf_lt (by rw [List.length_set]; exact h), List.getElem_set_self]
theorem cf_set_ne {qs : List Rat} {i j : Nat} {x : Rat} (h : i ≠ j) : cf (qs.set i x) j = cf qs j := by
  unfold cf
  rw [List.getD_eq_getElem?_getD, List.getD_eq_getElem?_getD, List.getElem?_set_ne h]
abbrev sRPl : Stmt := topS 41
theorem scRPl : FnScope ["text", "at", "terms", "end", "numbers", "number", "power"] ["text", "at"] (defScope sRPl) := ⟨rfl, rfl, rfl, by decide +kernel, rfl, by decide +kernel, by decide +kernel⟩
theorem ok_rpl {f : Addr} {fd : FuncData} (F : Fun K "read_poly" "read_poly" sRPl f fd) (T : Bk mg) (PM : PoM P w K mg base CP CR) (G_read_terms : Dx P w K mg base "read_terms" 6 ["text", "at"] spRTs7) (G_plus : Dx P w K mg base "plus" 4 ["one", "other"] (spTwo K CN (okLow gPlus))) :
    FnOk P w K mg base (L2.CX P w) 7 f fd ["text", "at"] (spRPl7 K CP) := by
  refine F.okX scRPl (fun vs H Q E h => ?_) (fun cdv A outer s H vs Q E hr h => ?_)
  · obtain ⟨t, L, rfl, _⟩ := h
    rfl
  · obtain ⟨t, L, rfl, hl, hT, hL, hc, q⟩ := h
    have okL := hT.ok
    refine ⟨_, (pss_cons (ps_asg (pe_call G_read_terms.ok (hr.mono (by decide)) rfl G_read_terms.m G_read_terms.kp G_read_terms.b .nil (E := E) (passes_call (takes_of rfl rfl rfl rfl) (fun _ _ _ _ h => h)) (pa_cons (pv 0) (pa_cons (pv 1) pa_nil))) (pg_tup (by rfl) (pgs_cons (pg_name (i := 2) scRPl.nd rfl (Or.inl rfl)) (pgs_cons (pg_name (i := 3) scRPl.nd rfl (Or.inl rfl)) pgs_nil))))
  (pss_cons (ps_set (i := 4) scRPl.nd rfl (Or.inl rfl) (pe_op op_rep (pe_lst (pa_cons (pe_tup (pa_cons pe_int (pa_cons pe_int pa_nil))) pa_nil)) pe_int))
  (C8.pss_cut (ps_for (passes_of rfl) rfl (pi_list (pv 2)) (pg_tup rfl (pgs_cons (pg_name (i := 5) scRPl.nd rfl (Or.inl rfl)) (pgs_cons (pg_name (i := 6) scRPl.nd rfl (Or.inl rfl)) pgs_nil)))
    (pss_one (ps_asg (pe_call G_plus.ok (hr.mono (by decide)) rfl G_plus.m G_plus.kp G_plus.b .nil (E := E) (passes_call (takes_of rfl rfl rfl rfl) (fun _ _ _ _ h => h)) (pa_cons (pe_ix ix_list (pv 4) (pv 6) (fun _ _ => rfl)) (pa_cons (pv 5) pa_nil))) (pg_sub (pv 4) (pv 6) set_list))))
  (pss_one (ps_ret (pe_tup (pa_cons (pe_make PM.mkI PM.okI (hr.mono (by decide)) rfl PM.C.m PM.bI .nil (E := E) (passes_call (takes_of rfl rfl rfl rfl) (fun _ _ _ _ h => h)) (pa_cons (pv 4) pa_nil)) (pa_cons (pv 3) pa_nil)))))))), ?_⟩
    refine ⟨_, rfl, _, rfl, t, L, rfl, hl, hT, hL, fun p l H1 rs s1 e1 el tm => ?_⟩
    refine ⟨p, _, rfl, SqT.of e1, rfl, _, _, rfl, _, _, rfl, rfl, ?_⟩
    refine ⟨(by show 2 ≤ sizeLine; decide), fun t0 nt0 => ?_⟩
    have et0 : upd H1 t0 (HO.tup [V.int 0, V.int 1]) t0 = some (HO.tup [V.int 0, V.int 1]) := upd_same
    have s2 : Same H1 (upd H1 t0 (HO.tup [V.int 0, V.int 1])) := same_upd nt0
    generalize upd H1 t0 (HO.tup [V.int 0, V.int 1]) = H2 at et0 s2 ⊢
    refine ⟨(by show 1 ≤ sizeLine; decide), fun l1 nl1 => ?_⟩
    have el1 : upd H2 l1 (HO.lst [V.ref t0]) l1 = some (HO.lst [V.ref t0]) := upd_same
    have s3 : Same H2 (upd H2 l1 (HO.lst [V.ref t0])) := same_upd nl1
    generalize upd H2 l1 (HO.lst [V.ref t0]) = H3 at el1 s3 ⊢
    refine ⟨l1, 13, _, rfl, rfl, el1, by decide, by decide, (by rw [sizeLine_eq]; show 1 * 13 ≤ 16777216; decide), fun nb nnb => ?_⟩
    have enb : upd H3 nb (HO.lst (List.replicate (13 : Int).toNat [V.ref t0]).flatten) nb = some (HO.lst ((List.replicate 13 t0).map V.ref)) := by rw [upd_same, flat_rep]; rfl
    have s4 : Same H3 (upd H3 nb (HO.lst (List.replicate (13 : Int).toNat [V.ref t0]).flatten)) := same_upd nnb
    generalize upd H3 nb (HO.lst (List.replicate (13 : Int).toNat [V.ref t0]).flatten) = H4 at enb s4 ⊢
    have s14 : Same H1 H4 := s2.trans (s3.trans s4)
    have nbH1 : H1 nb = none := s2.free (s3.free nnb)
    have tp4 : Tups H4 (List.replicate 13 t0) ((List.replicate 13 (0 : Rat)).map pq) := by
      rw [List.map_replicate]
      exact Tups.rep (p := pq 0) (s4 _ _ (s3 _ _ et0)) 13
    have cf0 : ∀ k, cf (List.replicate 13 (0 : Rat)) k = 0 := fun k => by
      unfold cf
      rw [List.getD_eq_getElem?_getD, List.getElem?_replicate]
      split <;> rfl
    refine ⟨fun σ H5 => ∃ (v5 v6 : Option V) (as : List Addr) (qs : List Rat), σ = [some (.str (Tx t)), some (.int 0), some (.ref l), some (.int ((t.length : Nat) : Int)), some (.ref nb), v5, v6] ∧ Same H1 H5 ∧ H5 nb = some (.lst (as.map V.ref)) ∧ Tups H5 as (qs.map pq) ∧ qs.length = 13 ∧ ∀ k, k < 13 → cf qs k = sumAt L k ∧ Hb (2 ^ (135 * cntAt L k)) (cf qs k), ?_, ?_⟩
    · refine ⟨_, rfl, l, rfl, ⟨_, SqL.of (s14 _ _ el)⟩, for_list (K := K) (a := l) (xs := rs.map V.ref) (fun i σ H5 => ∃ (v5 v6 : Option V) (as : List Addr) (qs : List Rat), σ = [some (.str (Tx t)), some (.int 0), some (.ref l), some (.int ((t.length : Nat) : Int)), some (.ref nb), v5, v6] ∧ Same H1 H5 ∧ H5 nb = some (.lst (as.map V.ref)) ∧ Tups H5 as (qs.map pq) ∧ qs.length = 13 ∧ ∀ k, k < 13 → cf qs k = sumAt (L.take i) k ∧ Hb (2 ^ (135 * cntAt (L.take i) k)) (cf qs k))
        ⟨none, none, _, _, rfl, s14, enb, tp4, List.length_replicate, fun k hk => ⟨cf0 k, by rw [cf0 k]; exact ⟨Nat.zero_le _, Nat.le_refl _⟩⟩⟩ (fun i σ H5 _ ⟨v5, v6, as, qs, e0, s5, _⟩ => SqL.of (s5 _ _ el)) ?_ ?_⟩
      · rintro i y σ H5 hi ⟨v5, v6, as, qs, rfl, s5, e5, tp5, l13, sz⟩
        rw [List.getElem?_map] at hi
        cases hri : rs[i]? with
        | none => rw [hri] at hi; cases hi
        | some ri =>
          rw [hri] at hi
          cases hi
          obtain ⟨it, hit, n, h1, h2⟩ := tm.at hri
          have h1 := s5 _ _ h1
          have h2 := s5 _ _ h2
          have okI := okL it (List.mem_of_getElem? hit)
          have k12 := okI.2.2.2.2
          refine ⟨ri, _, rfl, SqT.of h1, rfl, _, _, rfl, _, _, rfl, rfl, ?_⟩
          have las : as.length = 13 := by rw [tp5.len, List.length_map]; exact l13
          have hk : it.2.2.2 < as.length := by omega
          have hak : as[it.2.2.2]? = some as[it.2.2.2] := List.getElem?_eq_getElem hk
          obtain ⟨pk, hpk, hgk⟩ := tp5.at hak
          have epk : pk = pq (cf qs it.2.2.2) := by
            rw [List.getElem?_map, List.getElem?_eq_getElem (by omega)] at hpk
            rw [cf_lt (by omega)]
            exact (Option.some.inj hpk).symm
          subst epk
          generalize as[it.2.2.2] = ak at hak hgk
          have tk : ∀ k, sumAt (L.take (i + 1)) k = sumAt (L.take i) k + (if it.2.2.2 = k then ival it else 0) := fun k => by
            rw [List.take_succ, hit]
            show sumAt (L.take i ++ [it]) k = _
            rw [sumAt_app, sumAt_one]
          have ck : ∀ k, cntAt (L.take (i + 1)) k = cntAt (L.take i) k + (if it.2.2.2 = k then 1 else 0) := fun k => by
            rw [List.take_succ, hit]
            show cntAt (L.take i ++ [it]) k = _
            rw [cntAt_app]
            rfl
          have cle : ∀ k, cntAt (L.take i) k ≤ 10 := fun k => by
            have := cntAt_app k (L.take i) (L.drop i)
            rw [List.take_append_drop] at this
            have := hc k
            omega
          refine ⟨_, rfl, _, rfl, nb, _, _, .ref ak, rfl, rfl, SqL.of e5, at_of (j := it.2.2.2) rfl (by rw [List.getElem?_map, hak]; rfl), ?_⟩
          have d1 : Dt K H5 (.ref ak) (pairD (pq (cf qs it.2.2.2))) := .tup (SqT.of hgk) (.cons (.int _) (.cons (.int _) .nil))
          have d2 : Dt K H5 (.ref n) (pairD (pq (ival it))) := .tup (SqT.of h2) (.cons (.int _) (.cons (.int _) .nil))
          have p1 := parts_pairD (p := pq (cf qs it.2.2.2)) (pq_low _).pos
          have p2 := parts_pairD (p := pq (ival it)) (pq_low _).pos
          obtain ⟨ev, hv⟩ := sz it.2.2.2 (by omega)
          refine ⟨_, rfl, .ref ak, .ref n, _, _, rfl, d1, d2, fun t1 b1 x1 c1 g1 g2 => ?_, (fun z => by rw [p1] at z; cases z), (fun _ z => by rw [p2] at z; cases z)⟩
          rw [p1] at g1
          rw [p2] at g2
          cases g1
          cases g2
          have z1 := hb_sr hv (by have := cle it.2.2.2; omega)
          have z2 := hb_sr (r := ival it) (n := 1) ((hb_ival okI).le (by decide +kernel)) (by decide)
          refine ⟨z1.1, z1.2, z2.1, z2.2, fun r6 H6 s6 e6 => ?_⟩
          have e6 : H6 r6 = some (.tup [.int (low ((cf qs it.2.2.2).num * ((ival it).den : Int) + (ival it).num * ((cf qs it.2.2.2).den : Int)) (((cf qs it.2.2.2).den : Int) * ((ival it).den : Int))).1, .int (low ((cf qs it.2.2.2).num * ((ival it).den : Int) + (ival it).num * ((cf qs it.2.2.2).den : Int)) (((cf qs it.2.2.2).den : Int) * ((ival it).den : Int))).2]) := e6
          rw [low_add] at e6
          have hix : ixN (as.map V.ref).length ((it.2.2.2 : Nat) : Int) = some it.2.2.2 := by
            unfold ixN
            rw [if_pos (by omega), List.length_map, if_pos (by omega)]
            rfl
          refine ⟨_, rfl, _, rfl, nb, _, _, it.2.2.2, rfl, rfl, s6 _ _ e5, hix, ?_⟩
          have up : ∀ (b : Addr) (p : Int × Int), H6 b = some (.tup [.int p.1, .int p.2]) → upd H6 nb (.lst ((as.map V.ref).set it.2.2.2 (V.ref r6))) b = some (.tup [.int p.1, .int p.2]) := fun b p z => by
            rw [upd_ne (ne_of z (s6 _ _ e5) (by intro z; cases z))]
            exact z
          refine ⟨_, _, as.set it.2.2.2 r6, qs.set it.2.2.2 (cf qs it.2.2.2 + ival it), rfl, fun b o eb => ?_, ?_, ?_, by rw [List.length_set]; exact l13, fun k hk13 => ?_⟩
          · rw [upd_ne (ne_of_none eb nbH1)]
            exact s6 _ _ (s5 _ _ eb)
          · rw [upd_same, List.map_set]
          · have z := ((tp5.same s6).set it.2.2.2 (p := pq (cf qs it.2.2.2 + ival it)) e6).imp up
            rw [List.map_set]
            exact z
          · rw [tk, ck]
            by_cases hkk : it.2.2.2 = k
            · subst hkk
              rw [cf_set_eq (by omega), if_pos rfl, if_pos rfl, ev]
              refine ⟨rfl, ?_⟩
              rw [← ev]
              exact hb_more hv (hb_ival okI)
            · rw [cf_set_ne hkk, if_neg hkk, if_neg hkk, Rat.add_zero, Nat.add_zero]
              exact sz k hk13
      · rintro σ H5 ⟨v5, v6, as, qs, rfl, s5, e5, tp5, l13, sz⟩
        refine ⟨v5, v6, as, qs, rfl, s5, e5, tp5, l13, fun k hk => ?_⟩
        have z := sz k hk
        rw [List.length_map, tm.len, List.take_length] at z
        exact z
    · rintro σ H5 ⟨v5, v6, as, qs, rfl, s5, e5, tp5, l13, sz⟩
      refine ⟨_, rfl, ?_⟩
      refine poly_made (d := .list ((qs.map pq).map pairD)) (.lst (SqL.of e5) tp5.dts) (fun ds h => by cases h; rw [List.length_map, List.length_map]; omega) (fun ps h => ?_) (fun z => by rw [rowD_pq] at z; cases z)
      rw [rowD_pq] at h
      cases h
      refine ⟨fun p hp => ?_, fun x H6 s6 nx hp => ?_⟩
      · obtain ⟨q0, hq0, rfl⟩ := List.mem_map.mp hp
        obtain ⟨i, hi, e⟩ := List.mem_iff_getElem.mp hq0
        have z := sz i (by omega)
        rw [cf_lt hi, e] at z
        have := hb_sr z.2 (by have := hc i; omega)
        exact Nat.lt_trans this.2 (Nat.pow_lt_pow_right (by decide) (by decide))
      refine ⟨_, rfl, (by show 2 ≤ sizeLine; decide), fun pp npp => ?_⟩
      have hp : PolyAt K CP H6 x ((stripQ qs).map pq) := by
        rw [← strip_map]
        rw [low_pqs] at hp
        exact hp
      exact q pp x _ qs (s1.trans (s5.trans (s6.trans (same_upd npp)))) upd_same (PolyAt.same hp (same_upd npp)) l13 (fun k hk => (sz k hk).1)
abbrev sPolyOf : Stmt := topS 40
theorem scPolyOf : FnScope ["text", "poly", "end"] ["text"] (defScope sPolyOf) := ⟨rfl, rfl, rfl, by decide +kernel, rfl, by decide +kernel, by decide +kernel⟩
theorem ok_polyof {f : Addr} {fd : FuncData} (F : Fun K "poly_of" "poly_of" sPolyOf f fd) (T : Bk mg) (N_BadText : Ex P w K mg base "BadText" CT ["column"]) (G_read_poly : Dx P w K mg base "read_poly" 7 ["text", "at"] (spRPl7 K CP)) : FnOk P w K mg base (L2.CX P w) 8 f fd ["text"] (spPO7 K CP) := by
  refine F.okX scPolyOf (fun vs H Q E h => ?_) (fun cdv A outer s H vs Q E hr h => ?_)
  · obtain ⟨t, L, rfl, _⟩ := h
    rfl
  · obtain ⟨t, L, rfl, hl, hT, hL, hc, q⟩ := h
    refine ⟨_, (pss_cons (ps_if (pt_not (pt_val (pe_callB call_isi (by rfl) T.isinstance (by decide +kernel) (pa_cons (pv 0) (pa_cons (pe_bltn (v := V.ty "str") (by rfl) T.str (by decide +kernel) rfl) pa_nil)))))
    (pss_one (ps_raise rfl (takes_of rfl rfl rfl rfl) (pmk_oex N_BadText.ox N_BadText.iC N_BadText.tI N_BadText.ok (hr.mono (by decide)) N_BadText.b .nil pass0 (by rfl) N_BadText.m (pa_cons pe_int pa_nil))))
    pss_nil)
  (pss_cons (ps_asg (pe_call G_read_poly.ok (hr.mono (by decide)) rfl G_read_poly.m G_read_poly.kp G_read_poly.b .nil (E := E) (passes_call (takes_of rfl rfl rfl rfl) (fun _ _ _ _ h => h)) (pa_cons (pv 0) (pa_cons pe_int pa_nil))) (pg_tup (by rfl) (pgs_cons (pg_name (i := 1) scPolyOf.nd rfl (Or.inl rfl)) (pgs_cons (pg_name (i := 2) scPolyOf.nd rfl (Or.inl rfl)) pgs_nil))))
  (pss_cons (ps_if (pt_cmpR op_lt (pv 2) (pe_callB call_len_str (by rfl) T.len (by decide +kernel) (pa_cons (pv 0) pa_nil)) (nomark _))
    (pss_one (ps_raise rfl (takes_of rfl rfl rfl rfl) (pmk_oex N_BadText.ox N_BadText.iC N_BadText.tI N_BadText.ok (hr.mono (by decide)) N_BadText.b .nil pass0 (by rfl) N_BadText.m (pa_cons (pe_op op_add (pv 2) pe_int) pa_nil))))
    pss_nil)
  (pss_one (ps_ret (pv 1)))))), ?_⟩
    refine ⟨_, rfl, .str (Tx t), .ty "str", _, .type "str", _, rfl, .ty _, (Dt.str (K := K) (H := H) (Tx t)).ty, (kit_ty (show kitB "str" "str" = some true by decide +kernel)), _, rfl, ?_⟩
    refine iteF ?_
    refine ⟨_, rfl, t, L, rfl, hl, hT, hL, hc, fun p x H1 qs s1 e1 hx l13 hs => ?_⟩
    refine ⟨p, _, rfl, SqT.of e1, rfl, _, _, rfl, _, _, rfl, rfl, ?_⟩
    refine ⟨_, rfl, _, rfl, Tx t, rfl, by rw [tx_len, sizeLine_eq]; omega, _, _, rfl, rfl, _, rfl, ?_⟩
    rw [tx_len, decide_eq_false (by omega)]
    refine iteF ?_
    exact ⟨_, rfl, q x H1 qs s1 hx l13 hs⟩
end

end Vf

set_option maxRecDepth 100000
set_option maxHeartbeats 8000000
namespace Vf
open PySem PySem.Spec PyProof.Rows L2
/-! ### the program's texts -/
theorem pss_no {X : Cx} {body : List Stmt} : PSs X body (fun _ _ _ => False) := ⟨fun _ _ _ _ _ _ h => h.elim⟩
theorem dig_small {m : Nat} (h : m < 10 ^ 64) : (m : Int).natAbs.log2 < 1920 := log_small (Nat.lt_trans (show (m : Int).natAbs < 10 ^ 64 by rw [Int.natAbs_natCast]; exact h) (by decide +kernel))
theorem str_digs (m : Nat) : (V.str (toString ((m : Nat) : Int))) = V.str (Tx (digs m)) := congrArg V.str (digs_tx m)
def spDigits : Sp := fun vs H Q _ => ∃ m : Nat, vs = [.int (m : Int)] ∧ m < 10 ^ 40 ∧ ∀ H', Same H H' → Q (.str (Tx (digs m))) H'
theorem join1 (y : Str) : Txt.join Str.empty [y] = y := by
  rw [TL.join_eq]
  rfl
/-- a ratio from 0 on, in lowest terms -/
structure Up (a b : Nat) : Prop where
  low : low (a : Int) (b : Int) = ((a : Int), (b : Int))
  a40 : a < 10 ^ 40
  b40 : b < 10 ^ 40
  b0 : 0 < b
def spRText : Sp := fun vs H Q _ => ∃ (r : Addr) (a b : Nat), vs = [.ref r] ∧ H r = some (.tup [.int (a : Int), .int (b : Int)]) ∧ Up a b ∧ ∀ H', Same H H' → Q (.str (Tx (sizeT a b))) H'
def spTText : Sp := fun vs H Q _ => ∃ (r : Addr) (a b k : Nat), vs = [.ref r, .int (k : Int)] ∧ H r = some (.tup [.int (a : Int), .int (b : Int)]) ∧ Up a b ∧ k ≤ 12 ∧ ∀ H', Same H H' → Q (.str (Tx (termT a b k))) H'
def spSText : Sp := fun vs H Q _ => ∃ (z : Int) (f : Bool), vs = [.int z, .bl f] ∧ Q (.str (Tx (signT (decide (z < 0)) f))) H
def Z40 (qs : List Rat) : Prop := ∀ k, (cf qs k).num.natAbs < 10 ^ 40 ∧ (cf qs k).den < 10 ^ 40
def spPText (K : PySem.W.Frag) (CP : Addr) : Sp := fun vs H Q _ => ∃ (x : Addr) (qs : List Rat), vs = [.ref x] ∧ PolyQ K CP H x qs ∧ qs.length ≤ 13 ∧ Z40 qs ∧ ∀ H', Same H H' → Q (.str (Tx (finT (dueN qs qs.length)))) H'
theorem up_q (q : Rat) (h1 : q.num.natAbs < 10 ^ 40) (h2 : q.den < 10 ^ 40) : Up q.num.natAbs q.den :=
  ⟨low_id ⟨by have := q.den_pos; omega, by rw [Int.natAbs_natCast, Int.natAbs_natCast]; exact q.reduced⟩, h1, h2, q.den_pos⟩
theorem lit_slash' : (Str.ofString "/" : Str) = Tx [47] := lit_slash
theorem tx_ge {l : List Nat} {n : Nat} (h : l.length ≤ n) (hn : n ≤ 100000) : (Tx l).length ≤ sizeLine := by rw [tx_len, sizeLine_eq]; omega
section
variable {P : Program} {w : World} {K : PySem.W.Frag} {mg : Str → Option Value} {base : Heap} {CT CP CR CN : Addr}
abbrev sDigits : Stmt := topS 19
theorem scDigits : FnScope ["number", "pieces", "rest", "piece"] ["number"] (defScope sDigits) := ⟨rfl, rfl, rfl, by decide +kernel, rfl, by decide +kernel, by decide +kernel⟩
theorem ok_digits {f : Addr} {fd : FuncData} (F : Fun K "digits_of" "digits_of" sDigits f fd) (T : Bk mg) : FnOk P w K mg base CX0 1 f fd ["number"] spDigits := by
  refine F.ok scDigits (fun vs H Q E h => ?_) (fun cdv A outer s H vs Q E hr h => ?_)
  · obtain ⟨n, rfl, _⟩ := h
    rfl
  · obtain ⟨m, rfl, h1, q⟩ := h
    refine ⟨_, (pss_cons (ps_set (i := 1) scDigits.nd rfl (Or.inl rfl) (pe_lst pa_nil))
      (pss_cons (ps_set (i := 2) scDigits.nd rfl (Or.inl rfl) (pv 0))
      (pss_cons (ps_while PassesOwn.never (pt_cmpR op_ge (pv 2) (pe_op op_pow pe_int pe_int) (nomark _)) pss_no)
      (pss_cons (ps_expr (pe_bm PySem.F.plainAttrs_list PySem.F.slot_list_append PySem.F.type_list_append mt_append (pv 1) (pa_cons (pe_callTy call_str_int (by rfl) T.str (by decide +kernel) (pa_cons (pv 2) pa_nil)) pa_nil)))
      (pss_one (ps_ret (pe_join pe_str (pe_revL (pv 1))))))))), ?_⟩
    refine ⟨(by show 0 ≤ sizeLine; decide), fun l nl => ?_⟩
    have el : upd H l (HO.lst []) l = some (HO.lst []) := upd_same
    have sl : Same H (upd H l (HO.lst [])) := same_upd nl
    generalize upd H l (HO.lst []) = H1 at el sl ⊢
    refine ⟨_, rfl, ?_⟩
    refine ⟨fun m' σ H => m' = 0 ∧ σ = [some (.int (m : Int)), some (.ref l), some (.int (m : Int)), none] ∧ H = H1, ⟨0, rfl, rfl, rfl⟩, ?_⟩
    rintro m' σ H2 ⟨rfl, rfl, rfl⟩
    have m64 : m < 10 ^ 64 := Nat.lt_trans h1 (by decide +kernel)
    refine ⟨_, rfl, _, _, rfl, rfl, (by unfold CPow; decide +kernel), _, _, rfl, rfl, _, rfl, ?_⟩
    rw [decide_eq_false (by show ¬ ((10 : Int) ^ 64 ≤ (m : Int)); omega)]
    refine iteF ?_
    refine ⟨_, rfl, Or.inl ⟨rfl, _, SqL.of el⟩, _, rfl, _, rfl, dig_small m64, l, [], _, rfl, rfl, el, (by show 0 < sizeLine; decide), ?_⟩
    rw [str_digs]
    have e2 : upd H2 l (HO.lst ([] ++ [V.str (Tx (digs m))])) l = some (HO.lst [V.str (Tx (digs m))]) := upd_same
    have s2 : Same H (upd H2 l (HO.lst ([] ++ [V.str (Tx (digs m))]))) := fun b o e => by
      rw [upd_ne (ne_of_none e nl)]
      exact sl b o e
    generalize upd H2 l (HO.lst ([] ++ [V.str (Tx (digs m))])) = H3 at e2 s2 ⊢
    refine ⟨⟨_, rfl⟩, _, rfl, l, _, rfl, SqL.of e2, fun l2 n2 => ?_⟩
    refine ⟨Str.empty, l2, [Tx (digs m)], rfl, rfl, Or.inl (SqL.of upd_same), ?_, ?_⟩
    · have := digs_len (by decide) h1
      simp only [List.map_cons, List.map_nil, List.sum_cons, List.sum_nil, List.length_cons, List.length_nil, tx_len]
      have : Str.empty.length = 0 := rfl
      omega
    · rw [join1]
      exact q _ (s2.trans (same_upd n2))
abbrev sRText : Stmt := topS 20
theorem scRText : FnScope ["value", "top", "bottom", "sign", "below"] ["value"] (defScope sRText) := ⟨rfl, rfl, rfl, by decide +kernel, rfl, by decide +kernel, by decide +kernel⟩
theorem ok_rtext {f : Addr} {fd : FuncData} (F : Fun K "ratio_text" "ratio_text" sRText f fd) (T : Bk mg) (G_told : Dx P w K mg base "told" 4 ["value", "what"] (spTold K CN)) (G_digits_of : Df P w K mg base "digits_of" 1 ["number"] spDigits) :
    FnOk P w K mg base (L2.CX P w) 5 f fd ["value"] spRText := by
  refine F.okX scRText (fun vs H Q E h => ?_) (fun cdv A outer s H vs Q E hr h => ?_)
  · obtain ⟨r, a, b, rfl, _⟩ := h
    rfl
  · obtain ⟨r, a, b, rfl, hr0, hU, q⟩ := h
    have hu := hU.b0
    refine ⟨_, (pss_cons (ps_asg (pe_call G_told.ok (hr.mono (by decide)) rfl G_told.m G_told.kp G_told.b .nil (E := E) (passes_call (takes_of rfl rfl rfl rfl) (fun _ _ _ _ h => h)) (pa_cons (pv 0) (pa_cons pe_str pa_nil))) (pg_tup (by rfl) (pgs_cons (pg_name (i := 1) scRText.nd rfl (Or.inl rfl)) (pgs_cons (pg_name (i := 2) scRText.nd rfl (Or.inl rfl)) pgs_nil))))
  (pss_cons (ps_set (i := 3) scRText.nd rfl (Or.inl rfl) (pe_ifExp (pt_cmpR op_lt (pv 1) pe_int (nomark _)) pe_str pe_str))
  (pss_cons (ps_set (i := 4) scRText.nd rfl (Or.inl rfl) (pe_ifExp (pt_cmpR op_eq (pv 2) pe_int (nomark _)) pe_str (pe_op op_add_str pe_str (pe_call G_digits_of.ok (hr.mono (by decide)) rfl G_digits_of.m G_digits_of.kp G_digits_of.b .nil pass0 (pa_cons (pv 2) pa_nil)))))
  (pss_one (ps_ret (pe_op op_add_str (pe_op op_add_str (pv 3) (pe_call G_digits_of.ok (hr.mono (by decide)) rfl G_digits_of.m G_digits_of.kp G_digits_of.b .nil pass0 (pa_cons (pe_callB call_abs (by rfl) T.abs (by decide +kernel) (pa_cons (pv 1) pa_nil)) pa_nil))) (pv 4))))))), ?_⟩
    have dq : Dt K H (.ref r) (pairD ((a : Int), (b : Int))) := .tup (SqT.of hr0) (.cons (.int _) (.cons (.int _) .nil))
    have pq1 : partsD (pairD ((a : Int), (b : Int))) = some ((a : Int), (b : Int)) := parts_pairD (by show (0 : Int) < (b : Int); omega)
    refine ⟨_, rfl, .ref r, .str "ratio", _, rfl, dq, fun t1 b1 p1 => ?_, fun z => by rw [pq1] at z; cases z⟩
    rw [pq1] at p1
    cases p1
    refine ⟨by rw [Int.natAbs_natCast]; exact Nat.lt_trans hU.b40 (by decide +kernel), fun p H1 s1 e1 => ?_⟩
    rw [hU.low] at e1
    refine ⟨p, _, rfl, SqT.of e1, rfl, _, _, rfl, _, _, rfl, rfl, ?_⟩
    have la := digs_len (by decide) hU.a40
    have lb := digs_len (by decide) hU.b40
    refine ⟨_, rfl, _, _, rfl, rfl, _, rfl, ?_⟩
    rw [decide_eq_false (by omega)]
    refine iteF ?_
    refine ⟨_, rfl, rfl, _, rfl, ?_⟩
    unfold sizeT at q
    by_cases b1 : b = 1
    · rw [if_pos b1] at q
      rw [decide_eq_true (by rw [b1]; rfl)]
      refine iteT ?_
      refine ⟨_, rfl, _, rfl, _, rfl, a, by rw [if_neg (by omega)]; rfl, hU.a40, fun H2 s2 => ⟨Tx [], Tx (digs a), congrArg V.str lit_empty, rfl, (by rw [tx_len, tx_len, sizeLine_eq]; show 0 + _ ≤ _; omega), ?_⟩⟩
      rw [tx_app]
      refine ⟨_, rfl, Tx (digs a), Tx [], rfl, congrArg V.str lit_empty, (by rw [tx_len, tx_len, sizeLine_eq]; show _ + 0 ≤ _; omega), ?_⟩
      rw [tx_app]
      exact q _ (s1.trans s2)
    · rw [if_neg b1] at q
      rw [decide_eq_false (fun z => b1 (by have := V.int.inj z; omega))]
      refine iteF ?_
      refine ⟨_, rfl, b, rfl, hU.b40, fun H2 s2 => ⟨Tx [47], Tx (digs b), congrArg V.str lit_slash, rfl, (by rw [tx_len, tx_len, sizeLine_eq]; show 1 + _ ≤ _; omega), ?_⟩⟩
      rw [tx_app]
      refine ⟨_, rfl, _, rfl, _, rfl, a, by rw [if_neg (by omega)]; rfl, hU.a40, fun H3 s3 => ⟨Tx [], Tx (digs a), congrArg V.str lit_empty, rfl, (by rw [tx_len, tx_len, sizeLine_eq]; show 0 + _ ≤ _; omega), ?_⟩⟩
      rw [tx_app]
      refine ⟨_, rfl, Tx (digs a), Tx (47 :: digs b), rfl, rfl, (by rw [tx_len, tx_len, List.length_cons, sizeLine_eq]; omega), ?_⟩
      rw [tx_app]
      exact q _ (s1.trans (s2.trans s3))
abbrev sSText : Stmt := topS 43
theorem scSText : FnScope ["top", "first"] ["top", "first"] (defScope sSText) := ⟨rfl, rfl, rfl, by decide +kernel, rfl, by decide +kernel, by decide +kernel⟩
theorem ok_stext {f : Addr} {fd : FuncData} (F : Fun K "sign_text" "sign_text" sSText f fd) : FnOk P w K mg base CX0 1 f fd ["top", "first"] spSText := by
  refine F.ok scSText (fun vs H Q E h => ?_) (fun cdv A outer s H vs Q E hr h => ?_)
  · obtain ⟨z, f, rfl, _⟩ := h
    rfl
  · obtain ⟨z, f, rfl, q⟩ := h
    refine ⟨_, (pss_cons (ps_if (pt_val (pv 1))
    (pss_one (ps_ret (pe_ifExp (pt_cmpR op_lt (pv 0) pe_int (nomark _)) pe_str pe_str)))
    pss_nil)
  (pss_one (ps_ret (pe_ifExp (pt_cmpR op_lt (pv 0) pe_int (nomark _)) pe_str pe_str)))), ?_⟩
    have l1 : (Str.ofString " - " : Str) = Tx [32, 45, 32] := by decide +kernel
    have l2 : (Str.ofString " + " : Str) = Tx [32, 43, 32] := by decide +kernel
    refine ⟨_, rfl, f, rfl, ?_⟩
    cases f with
    | true =>
      refine iteT ?_
      refine ⟨_, rfl, _, _, rfl, rfl, _, rfl, ?_⟩
      cases hz : decide (z < 0) with
      | true =>
        rw [hz] at q
        refine iteT ?_
        show Q (.str (Str.ofString "-")) H
        rw [show (Str.ofString "-" : Str) = Tx [45] from lit_minus]
        exact q
      | false =>
        rw [hz] at q
        refine iteF ?_
        show Q (.str (Str.ofString "")) H
        rw [show (Str.ofString "" : Str) = Tx [] from lit_empty]
        exact q
    | false =>
      refine iteF ?_
      refine ⟨_, rfl, _, _, rfl, rfl, _, rfl, ?_⟩
      cases hz : decide (z < 0) with
      | true =>
        rw [hz] at q
        refine iteT ?_
        show Q (.str (Str.ofString " - ")) H
        rw [l1]
        exact q
      | false =>
        rw [hz] at q
        refine iteF ?_
        show Q (.str (Str.ofString " + ")) H
        rw [l2]
        exact q
abbrev sTText : Stmt := topS 44
theorem scTText : FnScope ["number", "power", "letter"] ["number", "power"] (defScope sTText) := ⟨rfl, rfl, rfl, by decide +kernel, rfl, by decide +kernel, by decide +kernel⟩
theorem ok_ttext {f : Addr} {fd : FuncData} (F : Fun K "term_text" "term_text" sTText f fd) (hm1 : M1 base) (G_ratio_text : Dx P w K mg base "ratio_text" 5 ["value"] spRText) : FnOk P w K mg base (L2.CX P w) 6 f fd ["number", "power"] spTText := by
  refine F.okX scTText (fun vs H Q E h => ?_) (fun cdv A outer s H vs Q E hr h => ?_)
  · obtain ⟨r, a, b, k, rfl, _⟩ := h
    rfl
  · obtain ⟨r, a, b, k, rfl, hr0, hU, hk, q⟩ := h
    refine ⟨_, (pss_cons (ps_if (pt_cmpR op_eq (pv 1) pe_int (nomark _))
    (pss_one (ps_ret (pe_call G_ratio_text.ok (hr.mono (by decide)) rfl G_ratio_text.m G_ratio_text.kp G_ratio_text.b .nil (E := E) (passes_call (takes_of rfl rfl rfl rfl) (fun _ _ _ _ h => h)) (pa_cons (pv 0) pa_nil))))
    pss_nil)
  (C8.pss_cut (ps_set (i := 2) scTText.nd rfl (Or.inl rfl) (pe_ifExp (pt_cmpR op_eq (pv 1) pe_int (nomark _)) pe_str (pe_joined (PJ.cons pe_str (PJ.cons (pe_fmt (pv 1)) PJ.nil)))))
  (pss_one (ps_ret (pe_ifExp (pt_cmpR (op_eqT hr.units hm1) (pv 0) (pe_tup (pa_cons pe_int (pa_cons pe_int pa_nil))) (nomark _)) (pv 2) (pe_joined (PJ.cons (pe_fmt (pe_call G_ratio_text.ok (hr.mono (by decide)) rfl G_ratio_text.m G_ratio_text.kp G_ratio_text.b .nil (E := E) (passes_call (takes_of rfl rfl rfl rfl) (fun _ _ _ _ h => h)) (pa_cons (pv 0) pa_nil))) (PJ.cons pe_str (PJ.cons (pe_fmt (pv 2)) PJ.nil))))))))), ?_⟩
    unfold termT at q
    refine ⟨_, rfl, rfl, _, rfl, ?_⟩
    by_cases k0 : k = 0
    · rw [if_pos k0] at q
      rw [decide_eq_true (by rw [k0]; rfl)]
      refine iteT ?_
      exact ⟨_, rfl, r, a, b, rfl, hr0, hU, q⟩
    · rw [if_neg k0] at q
      rw [decide_eq_false (fun z => k0 (by have := V.int.inj z; omega))]
      refine iteF ?_
      refine ⟨fun σ H1 => H1 = H ∧ σ = [some (.ref r), some (.int (k : Int)), some (.str (Tx (letT k)))], ?_, ?_⟩
      · refine ⟨_, rfl, rfl, _, rfl, ?_⟩
        by_cases k1 : k = 1
        · rw [decide_eq_true (by rw [k1]; rfl)]
          refine iteT ?_
          refine ⟨rfl, ?_⟩
          unfold letT
          rw [if_pos k1, ← lit_x]
          rfl
        · rw [decide_eq_false (fun z => k1 (by have := V.int.inj z; omega))]
          refine iteF ?_
          have lx : (Str.ofString "x^" : Str) = Tx [120, 94] := by decide +kernel
          have ld := digs_len (n := k) (k := 2) (by decide) (by omega)
          refine ⟨Str.ofString "x^", rfl, ?_, ?_⟩
          · rw [lx, show (Str.empty : Str) = Tx [] from rfl, tx_app, tx_len, sizeLine_eq]
            show 2 ≤ _
            omega
          refine ⟨_, rfl, .inr ⟨_, rfl, dig_small (Nat.lt_of_le_of_lt hk (by decide +kernel)), _, rfl, ?_, ?_⟩⟩
          · rw [lx, show (Str.empty : Str) = Tx [] from rfl, tx_app, show (toString ((k : Nat) : Int) : String) = toString ((k : Nat) : Int) from rfl, digs_tx, tx_app, tx_len, sizeLine_eq]
            show (120 :: 94 :: digs k).length ≤ _
            rw [List.length_cons, List.length_cons]
            omega
          · refine ⟨rfl, ?_⟩
            rw [lx, show (Str.empty : Str) = Tx [] from rfl, tx_app, digs_tx, tx_app]
            unfold letT
            rw [if_neg k1]
            rfl
      · rintro σ H1 ⟨rfl, rfl⟩
        refine ⟨_, rfl, (by show 2 ≤ sizeLine; decide), fun tp ntp => ?_⟩
        have s1 : Same H1 (upd H1 tp (HO.tup [V.int 1, V.int 1])) := same_upd ntp
        refine ⟨pairD ((a : Int), (b : Int)), pairD (1, 1), .tup (SqT.of (s1 _ _ hr0)) (.cons (.int _) (.cons (.int _) .nil)), .tup (SqT.of upd_same) (.cons (.int _) (.cons (.int _) .nil)), (by simp [pairD, PyData.plain, PyData.plainAll]), (by simp [pairD, PyData.plain, PyData.plainAll]), (by simp [pairD, PyData.depth, PyData.depthAll]), ?_⟩
        rw [eqv_pair]
        refine ⟨_, rfl, ?_⟩
        by_cases h11 : a = 1 ∧ b = 1
        · rw [if_pos h11] at q
          rw [decide_eq_true (by rw [h11.1, h11.2]; rfl)]
          refine iteT ?_
          exact ⟨_, rfl, q _ s1⟩
        · rw [if_neg h11] at q
          rw [decide_eq_false (fun z => h11 (by have z1 := congrArg Prod.fst z; have z2 := congrArg Prod.snd z; simp at z1 z2; exact ⟨by omega, by omega⟩))]
          refine iteF ?_
          have sl := size_len hU.a40 hU.b40
          have ll := let_len hk
          have e0 : (Str.empty : Str) = Tx [] := rfl
          have es : (Str.ofString "*" : Str) = Tx [42] := lit_star
          have z1 : (Str.empty ++ Tx (sizeT a b)).length ≤ sizeLine := by rw [e0, tx_app, List.nil_append]; exact tx_ge sl (by decide)
          have z2 : (Str.empty ++ Tx (sizeT a b) ++ Str.ofString "*").length ≤ sizeLine := by rw [e0, es, tx_app, tx_app, List.nil_append]; exact tx_ge (n := 82) (by rw [List.length_append]; show _ + 1 ≤ 82; omega) (by decide)
          have z3 : (Str.empty ++ Tx (sizeT a b) ++ Str.ofString "*" ++ Tx (letT k)).length ≤ sizeLine := by rw [e0, es, tx_app, tx_app, tx_app, List.nil_append]; exact tx_ge (n := 86) (by rw [List.length_append, List.length_append]; show _ + 1 + _ ≤ 86; omega) (by decide)
          have z4 : Str.empty ++ Tx (sizeT a b) ++ Str.ofString "*" ++ Tx (letT k) = Tx (sizeT a b ++ 42 :: letT k) := by
            rw [e0, es, tx_app, tx_app, tx_app, List.nil_append, List.append_assoc]
            rfl
          refine ⟨_, rfl, r, a, b, rfl, s1 _ _ hr0, hU, fun H2 s2 => .inl ⟨_, rfl, tx_ge sl (by decide), _, rfl, z1, _, rfl, z2, ?_⟩⟩
          refine ⟨_, rfl, .inl ⟨_, rfl, tx_ge ll (by decide), _, rfl, z3, ?_⟩⟩
          have z := q H2 (s1.trans s2)
          rw [← z4] at z
          exact z
abbrev sPText : Stmt := topS 42
theorem scPText : FnScope ["poly", "text", "power", "top", "bottom"] ["poly"] (defScope sPText) := ⟨rfl, rfl, rfl, by decide +kernel, rfl, by decide +kernel, by decide +kernel⟩
theorem ok_ptext {f : Addr} {fd : FuncData} (F : Fun K "poly_text" "poly_text" sPText f fd) (T : Bk mg) (C : PoC K mg CP) (G_sign_text : Df P w K mg base "sign_text" 1 ["top", "first"] spSText) (G_term_text : Dx P w K mg base "term_text" 6 ["number", "power"] spTText) : FnOk P w K mg base (L2.CX P w) 7 f fd ["poly"] (spPText K CP) := by
  refine F.okX scPText (fun vs H Q E h => ?_) (fun cdv A outer s H vs Q E hr h => ?_)
  · obtain ⟨x, qs, rfl, _⟩ := h
    rfl
  · obtain ⟨x, qs, rfl, ⟨dx, t, as, h1, h2, h3⟩, hl, hz, q⟩ := h
    refine ⟨_, (pss_cons (ps_set (i := 1) scPText.nd rfl (Or.inl rfl) pe_str)
  (pss_cons (ps_for (passes_of rfl) rfl (pi_range1 (by rfl) T.range (pa_cons (pe_callB call_len_seq (by rfl) T.len (by decide +kernel) (pa_cons (pe_fld (pv 0) rfl) pa_nil)) pa_nil)) (pg_name (i := 2) scPText.nd rfl (Or.inl rfl))
    (pss_cons (ps_asg (pe_ix ix_tup (pe_fld (pv 0) rfl) (pv 2) (fun _ _ => rfl)) (pg_tup (by rfl) (pgs_cons (pg_name (i := 3) scPText.nd rfl (Or.inl rfl)) (pgs_cons (pg_name (i := 4) scPText.nd rfl (Or.inl rfl)) pgs_nil))))
    (pss_one (ps_if (pt_cmpR op_ne (pv 3) pe_int (nomark _))
      (pss_one (ps_set (i := 1) scPText.nd rfl (Or.inl rfl) (pe_op op_add_str (pe_op op_add_str (pv 1) (pe_call G_sign_text.ok (hr.mono (by decide)) rfl G_sign_text.m G_sign_text.kp G_sign_text.b .nil pass0 (pa_cons (pv 3) (pa_cons (pe_cmpR op_eq (pv 1) pe_str (nomark _)) pa_nil)))) (pe_call G_term_text.ok (hr.mono (by decide)) rfl G_term_text.m G_term_text.kp G_term_text.b .nil (E := E) (passes_call (takes_of rfl rfl rfl rfl) (fun _ _ _ _ h => h)) (pa_cons (pe_tup (pa_cons (pe_callB call_abs (by rfl) T.abs (by decide +kernel) (pa_cons (pv 3) pa_nil)) (pa_cons (pv 4) pa_nil))) (pa_cons (pv 2) pa_nil))))))
      pss_nil))))
  (pss_one (ps_ret (pe_ifExp (pt_truth (pv 1) (by intro _; rfl)) (pv 1) pe_str))))), ?_⟩
    have la : as.length = qs.length := by rw [h3.len, List.length_map]
    refine ⟨_, rfl, x, CP, dx, _, .ref t, rfl, h1, C.cl, C.nf, (by kernel_rfl), t, _, rfl, .inr (SqT.of h2), ?_⟩
    rw [List.length_map, la]
    refine ⟨_, rfl, by omega, by omega, for_range (lo := 0) (n := ((qs.length : Nat) : Int).toNat) (fun i σ H' => ∃ v2 v3 v4 : Option V, σ = [some (.ref x), some (.str (Tx (dueN qs i))), v2, v3, v4] ∧ Same H H') ⟨none, none, none, (by show _ = [some (V.ref x), some (V.str (Tx [])), none, none, none]; rw [← lit_empty]; rfl), Same.refl _⟩ ?_ ?_⟩
    · rintro i σ H1 hi ⟨v2, v3, v4, rfl, s1⟩
      have hi : i < qs.length := by omega
      have hai : as[i]? = some as[i] := List.getElem?_eq_getElem (by omega)
      obtain ⟨p, hp, hg⟩ := h3.at hai
      have ep : p = pq (cf qs i) := by
        rw [List.getElem?_map, List.getElem?_eq_getElem hi] at hp
        rw [cf_lt hi]
        exact (Option.some.inj hp).symm
      subst ep
      generalize as[i] = ai at hai hg
      have hx1 := s1 _ _ h1
      refine ⟨_, rfl, x, CP, dx, _, .ref t, rfl, hx1, C.cl, C.nf, (by kernel_rfl), _, rfl, t, _, _, .ref ai, rfl, rfl, SqT.of (s1 _ _ h2), at_of (j := i) (by omega) (by rw [List.getElem?_map, hai]; rfl), ?_⟩
      refine ⟨ai, _, rfl, SqT.of (s1 _ _ hg), rfl, _, _, rfl, _, _, rfl, rfl, ?_⟩
      have de : dueN qs (i + 1) = stepT (dueN qs i) (cf qs i) i := rfl
      have dl := due_len hz i (by omega)
      have dl1 := due_len hz (i + 1) (by omega)
      refine ⟨_, rfl, rfl, _, rfl, ?_⟩
      by_cases h0 : (cf qs i).num = 0
      · have de2 : dueN qs (i + 1) = dueN qs i := de.trans (if_pos h0)
        rw [show (!decide (V.int (pq (cf qs i)).1 = V.int 0)) = false from by rw [decide_eq_true (show V.int (pq (cf qs i)).1 = V.int 0 from congrArg V.int h0)]; rfl]
        refine iteF ?_
        refine ⟨some (.int (0 + (i : Int))), some (.int (pq (cf qs i)).1), some (.int (pq (cf qs i)).2), ?_, s1⟩
        rw [de2]
        rfl
      · have de2 : dueN qs (i + 1) = dueN qs i ++ (signT (decide ((cf qs i).num < 0)) (decide (dueN qs i = [])) ++ termT (cf qs i).num.natAbs (cf qs i).den i) := de.trans (if_neg h0)
        rw [de2, List.length_append, List.length_append] at dl1
        rw [show (!decide (V.int (pq (cf qs i)).1 = V.int 0)) = true from by rw [decide_eq_false (show ¬ V.int (pq (cf qs i)).1 = V.int 0 from fun z => h0 (V.int.inj z))]; rfl]
        refine iteT ?_
        refine ⟨_, rfl, _, rfl, _, rfl, rfl, (pq (cf qs i)).1, decide (dueN qs i = []), ?_, ?_⟩
        · rw [show (Str.ofString "" : Str) = Tx [] from lit_empty, tx_eq]
          rfl
        · refine ⟨Tx (dueN qs i), Tx (signT (decide ((cf qs i).num < 0)) (decide (dueN qs i = []))), rfl, rfl, (by rw [tx_len, tx_len, sizeLine_eq]; omega), ?_⟩
          rw [tx_app]
          refine ⟨_, rfl, _, rfl, _, rfl, (by show 2 ≤ sizeLine; decide), fun tp ntp => ?_⟩
          have s2 := same_upd (o := HO.tup [V.int (if (pq (cf qs i)).1 < 0 then -(pq (cf qs i)).1 else (pq (cf qs i)).1), V.int (pq (cf qs i)).2]) ntp
          have ab : (if (pq (cf qs i)).1 < 0 then -(pq (cf qs i)).1 else (pq (cf qs i)).1) = (((cf qs i).num.natAbs : Nat) : Int) := by
            show (if (cf qs i).num < 0 then -(cf qs i).num else (cf qs i).num) = _
            split <;> omega
          refine ⟨_, rfl, tp, (cf qs i).num.natAbs, (cf qs i).den, i, ?_, ?_, up_q _ (hz i).1 (hz i).2, by omega, fun H3 s3 => ?_⟩
          · show [V.ref tp, V.int (0 + (i : Int))] = _
            rw [Int.zero_add]
          · rw [upd_same, ab]
            rfl
          · refine ⟨_, _, rfl, rfl, (by rw [tx_len, tx_len, List.length_append, sizeLine_eq]; omega), ?_⟩
            rw [tx_app]
            refine ⟨some (.int (0 + (i : Int))), some (.int (pq (cf qs i)).1), some (.int (pq (cf qs i)).2), ?_, s1.trans (s2.trans s3)⟩
            rw [de2, List.append_assoc]
            rfl
    · rintro σ H1 ⟨v2, v3, v4, rfl, s1⟩
      have dl := due_len hz qs.length hl
      have el : ((qs.length : Nat) : Int).toNat = qs.length := rfl
      rw [el]
      have z := q H1 s1
      unfold finT at z
      refine ⟨_, rfl, decide (dueN qs qs.length ≠ []), ⟨tx_ge dl (by omega), ?_⟩, ?_⟩
      · rw [tx_len]
        by_cases h : dueN qs qs.length = []
        · rw [h]; rfl
        · rw [decide_eq_true h]
          have := List.length_pos_iff.mpr h
          exact (bne_iff_ne.mpr (by omega)).symm
      · by_cases h : dueN qs qs.length = []
        · rw [if_pos h] at z
          rw [decide_eq_false (fun y => y h)]
          refine iteF ?_
          show Q (.str (Str.ofString "0")) H1
          rw [show (Str.ofString "0" : Str) = Tx [48] from lit_zero]
          exact z
        · rw [if_neg h] at z
          rw [decide_eq_true h]
          refine iteT ?_
          exact ⟨_, rfl, z⟩
end

end Vf

set_option maxRecDepth 100000
set_option maxHeartbeats 8000000
namespace Vf
open PySem PySem.Spec PyProof.Rows L2
/-! ### the law's texts -/
theorem str_nat (m : Nat) : V.str (toString ((m : Nat) : Int)) = V.str (Tx (digs m)) := congrArg V.str (digs_tx m)
def spLSize : Sp := fun vs H Q _ => ∃ (r : Addr) (q : Rat), vs = [.ref r] ∧ TR H r q ∧ q.num.natAbs < 10 ^ 40 ∧ q.den < 10 ^ 40 ∧ Q (.str (Tx (sizeT q.num.natAbs q.den))) H
def spLDue : Sp := fun vs H Q _ => ∃ (l : Addr) (qs : List Rat), vs = [.ref l] ∧ RL H l qs ∧ qs.length ≤ 13 ∧ Z40 qs ∧ ∀ H', Same H H' → Q (.str (Tx (finT (dueN qs qs.length)))) H'
def spGap : Sp := fun vs H Q _ => ∃ (p lc : Addr) (B : Int), vs = [.ref p] ∧ Pen H p lc B ∧ B ≤ 100000000 ∧ ∀ (g : Nat) (H' : Hp), g ≤ 3 → Pen H' p lc (B + 1) → Kp p H H' → Q (.str (Tx (sp g))) H'
def spLTerm : Sp := fun vs H Q _ => ∃ (p lc r : Addr) (B : Int) (k : Nat) (q : Rat), vs = [.ref p, .int (k : Int), .ref r] ∧ Pen H p lc B ∧ B ≤ 10000000 ∧ TR H r q ∧ r ≠ p ∧ 0 ≤ q.num ∧ q.num.natAbs < 10 ^ 39 ∧ q.den < 10 ^ 39 ∧ k ≤ 12 ∧
  ∀ (b : List Nat) (x y : Nat) (H' : Hp), Pen H' p lc (B + 10) → Kp p H H' → TermB b x y k → Rat.divInt (x : Int) (y : Int) = q → b.length ≤ 200 → Q (.str (Tx b)) H'
theorem par_one {ta tb : TE} {i j : Nat} {D : Ends} {σ : L2.St} {H : Hp} (h : ta σ H fun v H1 => tb σ H1 fun w H2 => D.nx ((σ.set i (some v)).set j (some w)) H2) : tPar i j (tCons ta (tCons tb tNil)) D σ H := by
  show ta σ H fun v H1 => tb σ H1 fun w H2 => ∃ x y, [v, w] = [x, y] ∧ D.nx ((σ.set i (some x)).set j (some y)) H2
  have f : (fun v H1 => tb σ H1 fun w H2 => ∃ x y, [v, w] = [x, y] ∧ D.nx ((σ.set i (some x)).set j (some y)) H2) = (fun v H1 => tb σ H1 fun w H2 => D.nx ((σ.set i (some v)).set j (some w)) H2) := by
    funext v H1
    congr 1
    funext w H2
    refine propext ⟨fun ⟨x, y, e, h⟩ => ?_, fun h => ⟨v, w, rfl, h⟩⟩
    cases e
    exact h
  rw [f]
  exact h
section
variable {P : Program} {w : World} {K : PySem.W.Frag} {mg : Str → Option Value} {base : Heap} {CT CP CR CN : Addr}
theorem nat_abs_if (z : Int) : (if z < 0 then -z else z) = ((z.natAbs : Nat) : Int) := by split <;> omega
abbrev sLSize : Stmt := topS 59
theorem scLSize : FnScope ["_law_number"] ["_law_number"] (defScope sLSize) := ⟨rfl, rfl, rfl, by decide +kernel, rfl, by decide +kernel, by decide +kernel⟩
theorem ok_lsize {f : Addr} {fd : FuncData} (F : Fun K "_law_size" "_law_size" sLSize f fd) (T : Bk mg) : FnOk P w K mg base CX0 1 f fd ["_law_number"] spLSize := by
  refine F.ok scLSize (fun vs H Q E h => ?_) (fun cdv A outer s H vs Q E hr h => ?_)
  · obtain ⟨r, q, rfl, _⟩ := h
    rfl
  · obtain ⟨r, q, rfl, hq, z1, z2, k⟩ := h
    refine ⟨_, (pss_one (ps_ret (pe_op op_add_str (pe_callTy call_str_int (by rfl) T.str (by decide +kernel) (pa_cons (pe_callB call_abs (by rfl) T.abs (by decide +kernel) (pa_cons (pe_ix ix_tup (pv 0) pe_int (fun _ _ => rfl)) pa_nil)) pa_nil)) (pe_ifExp (pt_cmpR op_eq (pe_ix ix_tup (pv 0) pe_int (fun _ _ => rfl)) pe_int (nomark _)) pe_str (pe_op op_add_str pe_str (pe_callTy call_str_int (by rfl) T.str (by decide +kernel) (pa_cons (pe_ix ix_tup (pv 0) pe_int (fun _ _ => rfl)) pa_nil))))))), ?_⟩
    have l1 := digs_len (by decide) z1
    have l2 := digs_len (by decide) z2
    unfold sizeT at k
    refine ⟨_, rfl, r, _, _, .int q.num, rfl, rfl, SqT.of hq, at_of (j := 0) rfl rfl, _, rfl, ?_⟩
    rw [nat_abs_if]
    refine ⟨_, rfl, dig_small (Nat.lt_trans z1 (by decide +kernel)), ?_⟩
    rw [str_nat]
    refine ⟨_, rfl, r, _, _, .int (q.den : Int), rfl, rfl, SqT.of hq, at_of (j := 1) rfl rfl, rfl, _, rfl, ?_⟩
    by_cases b1 : q.den = 1
    · rw [if_pos b1] at k
      rw [decide_eq_true (by rw [b1]; rfl)]
      refine iteT ?_
      refine ⟨Tx (digs q.num.natAbs), Tx [], rfl, congrArg V.str lit_empty, (by rw [tx_len, tx_len, sizeLine_eq]; show _ + 0 ≤ _; omega), ?_⟩
      rw [tx_app]
      exact k
    · rw [if_neg b1] at k
      rw [decide_eq_false (fun z => b1 (by have := V.int.inj z; omega))]
      refine iteF ?_
      refine ⟨_, rfl, r, _, _, .int (q.den : Int), rfl, rfl, SqT.of hq, at_of (j := 1) rfl rfl, _, rfl, dig_small (Nat.lt_trans z2 (by decide +kernel)), ?_⟩
      rw [str_nat]
      refine ⟨Tx [47], Tx (digs q.den), congrArg V.str lit_slash, rfl, (by rw [tx_len, tx_len, sizeLine_eq]; show 1 + _ ≤ _; omega), ?_⟩
      rw [tx_app]
      refine ⟨Tx (digs q.num.natAbs), Tx (47 :: digs q.den), rfl, rfl, (by rw [tx_len, tx_len, List.length_cons, sizeLine_eq]; omega), ?_⟩
      rw [tx_app]
      exact k
abbrev sGap : Stmt := topS 61
theorem scGap : FnScope ["_law_pen_here"] ["_law_pen_here"] (defScope sGap) := ⟨rfl, rfl, rfl, by decide +kernel, rfl, by decide +kernel, by decide +kernel⟩
theorem ok_gap {f : Addr} {fd : FuncData} (F : Fun K "_law_gap" "_law_gap" sGap f fd) (G__law_pick : Df P w K mg base "_law_pick" 2 ["_law_pen_here", "_law_some"] spPick) : FnOk P w K mg base CX0 3 f fd ["_law_pen_here"] spGap := by
  refine F.ok scGap (fun vs H Q E h => ?_) (fun cdv A outer s H vs Q E hr h => ?_)
  · obtain ⟨p, lc, B, rfl, _⟩ := h
    rfl
  · obtain ⟨p, lc, B, rfl, hP, hB, k⟩ := h
    refine ⟨_, (pss_one (ps_ret (pe_op op_repG pe_str (pe_call G__law_pick.ok (hr.mono (by decide)) rfl G__law_pick.m G__law_pick.kp G__law_pick.b .nil pass0 (pa_cons (pv 0) (pa_cons (pe_lst (pa_cons pe_int (pa_cons pe_int (pa_cons pe_int (pa_cons pe_int (pa_cons pe_int pa_nil)))))) pa_nil)))))), ?_⟩
    refine ⟨_, rfl, (by show 5 ≤ sizeLine; decide), fun l nl => ?_⟩
    have el : upd H l (HO.lst [V.int 0, V.int 0, V.int 1, V.int 1, V.int 3]) l = some (HO.lst [V.int 0, V.int 0, V.int 1, V.int 1, V.int 3]) := upd_same
    have sl : Same H (upd H l (HO.lst [V.int 0, V.int 0, V.int 1, V.int 1, V.int 3])) := same_upd nl
    have lp := (hP.ne_new nl).1
    generalize upd H l (HO.lst [V.int 0, V.int 0, V.int 1, V.int 1, V.int 3]) = H1 at el sl ⊢
    refine ⟨p, lc, l, B, _, rfl, hP.same sl, by omega, el, lp, by decide, by decide, fun x H2 hx hP2 k2 => ?_⟩
    have kk : Kp p H H2 := (Kp.of sl).trans k2
    simp only [List.mem_cons, List.not_mem_nil, or_false] at hx
    rcases hx with rfl | rfl | rfl | rfl | rfl
    · exact ⟨32, 0, congrArg V.str lit_sp, rfl, by decide, by decide, k 0 H2 (by decide) hP2 kk⟩
    · exact ⟨32, 0, congrArg V.str lit_sp, rfl, by decide, by decide, k 0 H2 (by decide) hP2 kk⟩
    · exact ⟨32, 1, congrArg V.str lit_sp, rfl, by decide, by decide, k 1 H2 (by decide) hP2 kk⟩
    · exact ⟨32, 1, congrArg V.str lit_sp, rfl, by decide, by decide, k 1 H2 (by decide) hP2 kk⟩
    · exact ⟨32, 3, congrArg V.str lit_sp, rfl, by decide, by decide, k 3 H2 (by decide) hP2 kk⟩
abbrev sLDue : Stmt := topS 60
theorem scLDue : FnScope ["_law_numbers", "_law_found", "_law_k", "_law_number", "_law_size_here", "_law_letter", "_law_sign"] ["_law_numbers"] (defScope sLDue) := ⟨rfl, rfl, rfl, by decide +kernel, rfl, by decide +kernel, by decide +kernel⟩
theorem ok_ldue {f : Addr} {fd : FuncData} (F : Fun K "_law_due" "_law_due" sLDue f fd) (T : Bk mg) (henum : mg "enumerate" = none) (G__law_size : Df P w K mg base "_law_size" 1 ["_law_number"] spLSize) : FnOk P w K mg base CX0 2 f fd ["_law_numbers"] spLDue := by
  refine F.ok scLDue (fun vs H Q E h => ?_) (fun cdv A outer s H vs Q E hr h => ?_)
  · obtain ⟨l, qs, rfl, _⟩ := h
    rfl
  · obtain ⟨l, qs, rfl, ⟨as, el, tp⟩, hl, hz, q⟩ := h
    have la : as.length = qs.length := by rw [tp.len, List.length_map]
    refine ⟨_, (pss_cons (ps_set (i := 1) scLDue.nd rfl (Or.inl rfl) pe_str)
  (pss_cons (ps_for PassesOwn.never rfl (pi_enum (by rfl) henum (pa_cons (pv 0) pa_nil)) (pg_tup rfl (pgs_cons (pg_name (i := 2) scLDue.nd rfl (Or.inl rfl)) (pgs_cons (pg_name (i := 3) scLDue.nd rfl (Or.inl rfl)) pgs_nil)))
    (pss_one (ps_if (pt_cmpR op_ne (pe_ix ix_tup (pv 3) pe_int (fun _ _ => rfl)) pe_int (nomark _))
      (C8.pss_cut (ps_par (i := 4) (j := 5) (by rfl) scLDue.nd rfl rfl (by decide) rfl rfl (pa_cons (pe_call G__law_size.ok (hr.mono (by decide)) rfl G__law_size.m G__law_size.kp G__law_size.b .nil pass0 (pa_cons (pv 3) pa_nil)) (pa_cons (pe_ifExp (pt_cmpR op_lt (pv 2) pe_int (nomark _)) (pe_ix ix_list (pe_lst (pa_cons pe_str (pa_cons pe_str pa_nil))) (pv 2) (fun _ _ => rfl)) (pe_op op_add_str pe_str (pe_callTy call_str_int (by rfl) T.str (by decide +kernel) (pa_cons (pv 2) pa_nil)))) pa_nil)) (by rfl))
      (C8.pss_cut (ps_set (i := 4) scLDue.nd rfl (Or.inl rfl) (pe_ifExp (pt_cmpR op_eq (pv 2) pe_int (nomark _)) (pv 4) (pe_ifExp (pt_cmpR op_eq (pv 4) pe_str (nomark _)) (pv 5) (pe_op op_add_str (pe_op op_add_str (pv 4) pe_str) (pv 5)))))
      (C8.pss_cut (ps_set (i := 6) scLDue.nd rfl (Or.inl rfl) (pe_ifExp (pt_cmpR op_lt (pe_ix ix_tup (pv 3) pe_int (fun _ _ => rfl)) pe_int (nomark _)) pe_str pe_str))
      (pss_one (ps_set (i := 1) scLDue.nd rfl (Or.inl rfl) (pe_ifExp (pt_cmpR op_eq (pv 1) pe_str (nomark _)) (pe_op op_add_str (pv 6) (pv 4)) (pe_op op_add_str (pe_op op_add_str (pv 1) (pe_ifExp (pt_cmpR op_eq (pv 6) pe_str (nomark _)) pe_str pe_str)) (pv 4))))))))
      pss_nil)))
  (pss_one (ps_ret (pe_ifExp (pt_cmpR op_ne (pv 1) pe_str (nomark _)) (pv 1) pe_str))))), ?_⟩
    refine ⟨_, rfl, l, _, rfl, SqL.of el, for_enumL (K := K) (a := l) (xs := as.map V.ref) (fun i σ H' => ∃ v2 v3 v4 v5 v6 : Option V, σ = [some (.ref l), some (.str (Tx (dueN qs i))), v2, v3, v4, v5, v6] ∧ Same H H')
      ⟨none, none, none, none, none, (by show _ = [some (V.ref l), some (V.str (Tx [])), none, none, none, none, none]; rw [← lit_empty]; rfl), Same.refl _⟩ (fun i σ H' ⟨v2, v3, v4, v5, v6, e, s1⟩ => SqL.of (s1 _ _ el)) ?_ ?_⟩
    · rintro i y T1 σ H1 hi ⟨v2, v3, v4, v5, v6, rfl, s1⟩ nT
      rw [List.getElem?_map] at hi
      cases hai : as[i]? with
      | none => rw [hai] at hi; cases hi
      | some ai =>
        rw [hai] at hi
        cases hi
        have hi := (List.getElem?_eq_some_iff.mp hai).1
        rw [la] at hi
        obtain ⟨p, hp, hg⟩ := tp.at hai
        have ep : p = pq (cf qs i) := by
          rw [List.getElem?_map, List.getElem?_eq_getElem hi] at hp
          rw [cf_lt hi]
          exact (Option.some.inj hp).symm
        subst ep
        have s2 : Same H1 (upd H1 T1 (.tup [.int (i : Nat), V.ref ai])) := same_upd nT
        refine ⟨T1, _, rfl, SqT.of upd_same, rfl, _, _, rfl, _, _, rfl, rfl, ?_⟩
        generalize upd H1 T1 (.tup [.int (i : Nat), V.ref ai]) = H2 at s2 ⊢
        have s3 := s1.trans s2
        have hg2 : TR H2 ai (cf qs i) := s3 _ _ hg
        have de : dueN qs (i + 1) = stepT (dueN qs i) (cf qs i) i := rfl
        have dl := due_len hz i (by omega)
        have dl1 := due_len hz (i + 1) (by omega)
        refine ⟨_, rfl, ai, _, _, .int (cf qs i).num, rfl, rfl, SqT.of hg2, at_of (j := 0) rfl rfl, rfl, _, rfl, ?_⟩
        by_cases h0 : (cf qs i).num = 0
        · have de2 : dueN qs (i + 1) = dueN qs i := de.trans (if_pos h0)
          rw [show (!decide (V.int (cf qs i).num = V.int 0)) = false from by rw [decide_eq_true (show V.int (cf qs i).num = V.int 0 from congrArg V.int h0)]; rfl]
          refine iteF ?_
          refine ⟨some (.int (i : Int)), some (.ref ai), v4, v5, v6, ?_, s3⟩
          rw [de2]
          rfl
        · have de2 : dueN qs (i + 1) = dueN qs i ++ (signT (decide ((cf qs i).num < 0)) (decide (dueN qs i = [])) ++ termT (cf qs i).num.natAbs (cf qs i).den i) := de.trans (if_neg h0)
          rw [de2, List.length_append, List.length_append] at dl1
          rw [show (!decide (V.int (cf qs i).num = V.int 0)) = true from by rw [decide_eq_false (show ¬ V.int (cf qs i).num = V.int 0 from fun z => h0 (V.int.inj z))]; rfl]
          refine iteT ?_
          generalize hA : (cf qs i).num.natAbs = A at *
          have zA : A < 10 ^ 40 := by rw [← hA]; exact (hz i).1
          have zB := (hz i).2
          have sl := size_len zA zB
          have ll := let_len (k := i) (by omega)
          -- the letter and the size
          refine ⟨fun σ H3 => ∃ v6 : Option V, σ = [some (.ref l), some (.str (Tx (dueN qs i))), some (.int (i : Int)), some (.ref ai), some (.str (Tx (sizeT A (cf qs i).den))), some (.str (Tx (if i = 0 then [] else letT i))), v6] ∧ Same H2 H3, ?_, ?_⟩
          · refine par_one ?_
            refine ⟨_, rfl, ai, cf qs i, rfl, hg2, (by rw [hA]; exact zA), zB, ?_⟩
            rw [hA]
            refine ⟨_, rfl, _, _, rfl, rfl, _, rfl, ?_⟩
            by_cases i2 : i < 2
            · rw [decide_eq_true (by omega)]
              refine iteT ?_
              refine ⟨(by show 2 ≤ sizeLine; decide), fun l2 n2 => ?_⟩
              have e2 : upd H2 l2 (HO.lst [V.str "", V.str "x"]) l2 = some (HO.lst [V.str "", V.str "x"]) := upd_same
              have t2 : Same H2 (upd H2 l2 (HO.lst [V.str "", V.str "x"])) := same_upd n2
              generalize upd H2 l2 (HO.lst [V.str "", V.str "x"]) = H3 at e2 t2 ⊢
              have hi01 : i = 0 ∨ i = 1 := by omega
              rcases hi01 with rfl | rfl
              · refine ⟨_, rfl, l2, _, _, V.str "", rfl, rfl, SqL.of e2, at_of (j := 0) rfl rfl, v6, ?_, t2⟩
                rw [show V.str "" = V.str (Tx []) from congrArg V.str lit_empty]
                rfl
              · refine ⟨_, rfl, l2, _, _, V.str "x", rfl, rfl, SqL.of e2, at_of (j := 1) rfl rfl, v6, ?_, t2⟩
                rw [show V.str "x" = V.str (Tx [120]) from congrArg V.str lit_x]
                rfl
            · rw [decide_eq_false (by omega)]
              refine iteF ?_
              have ld := digs_len (n := i) (k := 2) (by decide) (by omega)
              refine ⟨_, rfl, _, rfl, dig_small (Nat.lt_trans (show i < 100 by omega) (by decide +kernel)), ?_⟩
              rw [str_nat]
              refine ⟨Tx [120, 94], Tx (digs i), congrArg V.str (by decide +kernel), rfl, (by rw [tx_len, tx_len, sizeLine_eq]; show 2 + _ ≤ _; omega), ?_⟩
              rw [tx_app]
              refine ⟨v6, ?_, Same.refl _⟩
              rw [if_neg (by omega)]
              unfold letT
              rw [if_neg (by omega)]
              rfl
          · rintro σ H3 ⟨v6, rfl, t3⟩
            have s4 := s3.trans t3
            have hg3 : TR H3 ai (cf qs i) := t3 _ _ hg2
            refine ⟨fun σ H4 => H4 = H3 ∧ ∃ v5 : Option V, σ = [some (.ref l), some (.str (Tx (dueN qs i))), some (.int (i : Int)), some (.ref ai), some (.str (Tx (termT A (cf qs i).den i))), v5, v6], ?_, ?_⟩
            · refine ⟨_, rfl, rfl, _, rfl, ?_⟩
              by_cases i0 : i = 0
              · have et : termT A (cf qs i).den i = sizeT A (cf qs i).den := if_pos i0
                rw [decide_eq_true (by rw [i0]; rfl)]
                refine iteT ?_
                refine ⟨_, rfl, rfl, some (.str (Tx (if i = 0 then [] else letT i))), ?_⟩
                rw [et]
                rfl
              · have et : termT A (cf qs i).den i = if A = 1 ∧ (cf qs i).den = 1 then letT i else sizeT A (cf qs i).den ++ 42 :: letT i := if_neg i0
                rw [decide_eq_false (fun z => i0 (by have := V.int.inj z; omega)), if_neg i0]
                refine iteF ?_
                refine ⟨_, rfl, rfl, _, rfl, ?_⟩
                rw [show (Str.ofString "1" : Str) = Tx [49] from lit_one, tx_eq]
                by_cases h11 : A = 1 ∧ (cf qs i).den = 1
                · rw [if_pos h11] at et
                  rw [decide_eq_true (size_one.mpr h11)]
                  refine iteT ?_
                  refine ⟨_, rfl, rfl, some (.str (Tx (letT i))), ?_⟩
                  rw [et]
                  rfl
                · rw [if_neg h11] at et
                  rw [decide_eq_false (fun z => h11 (size_one.mp z))]
                  refine iteF ?_
                  refine ⟨_, rfl, Tx (sizeT A (cf qs i).den), Tx [42], rfl, congrArg V.str lit_star, (by rw [tx_len, tx_len, sizeLine_eq]; show _ + 1 ≤ _; omega), ?_⟩
                  rw [tx_app]
                  refine ⟨_, rfl, _, _, rfl, rfl, (by rw [tx_len, tx_len, List.length_append, sizeLine_eq]; show _ + 1 + _ ≤ _; omega), ?_⟩
                  rw [tx_app, List.append_assoc]
                  refine ⟨rfl, some (.str (Tx (letT i))), ?_⟩
                  rw [et]
                  rfl
            · rintro σ H4 ⟨rfl, v5, rfl⟩
              refine ⟨fun σ H5 => H5 = H4 ∧ σ = [some (.ref l), some (.str (Tx (dueN qs i))), some (.int (i : Int)), some (.ref ai), some (.str (Tx (termT A (cf qs i).den i))), v5, some (.str (Tx (if (cf qs i).num < 0 then [45] else [])))], ?_, ?_⟩
              · refine ⟨_, rfl, ai, _, _, .int (cf qs i).num, rfl, rfl, SqT.of hg3, at_of (j := 0) rfl rfl, _, _, rfl, rfl, _, rfl, ?_⟩
                by_cases hn : (cf qs i).num < 0
                · rw [decide_eq_true hn, if_pos hn]
                  refine iteT ?_
                  refine ⟨rfl, ?_⟩
                  rw [← lit_minus]
                  rfl
                · rw [decide_eq_false hn, if_neg hn]
                  refine iteF ?_
                  refine ⟨rfl, ?_⟩
                  rw [← lit_empty]
                  rfl
              · rintro σ H5 ⟨rfl, rfl⟩
                refine ⟨_, rfl, rfl, _, rfl, ?_⟩
                rw [show (Str.ofString "" : Str) = Tx [] from lit_empty, tx_eq]
                by_cases hd : dueN qs i = []
                · rw [decide_eq_true hd]
                  refine iteT ?_
                  have e2 : dueN qs (i + 1) = (if (cf qs i).num < 0 then [45] else []) ++ termT A (cf qs i).den i := by
                    rw [de2, hd, List.nil_append, decide_eq_true rfl]
                    unfold signT
                    by_cases hn : (cf qs i).num < 0
                    · rw [decide_eq_true hn, if_pos hn]; rfl
                    · rw [decide_eq_false hn, if_neg hn]; rfl
                  have sg : (if (cf qs i).num < 0 then [45] else ([] : List Nat)).length ≤ 1 := by split <;> decide
                  refine ⟨_, rfl, _, rfl, _, _, rfl, rfl, (by rw [tx_len, tx_len, sizeLine_eq]; omega), ?_⟩
                  rw [tx_app]
                  refine ⟨some (.int (i : Int)), some (.ref ai), some (.str (Tx (termT A (cf qs i).den i))), v5, some (.str (Tx (if (cf qs i).num < 0 then [45] else []))), ?_, s4⟩
                  rw [e2]
                  rfl
                · rw [decide_eq_false hd]
                  refine iteF ?_
                  have lm : (Str.ofString " - " : Str) = Tx [32, 45, 32] := by decide +kernel
                  have lp : (Str.ofString " + " : Str) = Tx [32, 43, 32] := by decide +kernel
                  have e2 : dueN qs (i + 1) = dueN qs i ++ (if (cf qs i).num < 0 then [32, 45, 32] else [32, 43, 32]) ++ termT A (cf qs i).den i := by
                    rw [de2, decide_eq_false hd, List.append_assoc]
                    unfold signT
                    by_cases hn : (cf qs i).num < 0
                    · rw [decide_eq_true hn, if_pos hn]; rfl
                    · rw [decide_eq_false hn, if_neg hn]; rfl
                  have l3 : (if (cf qs i).num < 0 then [32, 45, 32] else [32, 43, 32] : List Nat).length = 3 := by split <;> rfl
                  have tl := term_len zA zB (show i ≤ 12 by omega)
                  refine ⟨_, rfl, _, rfl, rfl, _, rfl, ?_⟩
                  rw [show (Str.ofString "-" : Str) = Tx [45] from lit_minus, tx_eq]
                  by_cases hn : (cf qs i).num < 0
                  · rw [if_pos hn] at l3 e2
                    rw [if_pos hn, decide_eq_true rfl]
                    refine iteT ?_
                    refine ⟨Tx (dueN qs i), Tx [32, 45, 32], rfl, congrArg V.str lm, (by rw [tx_len, tx_len, sizeLine_eq]; show _ + 3 ≤ _; omega), ?_⟩
                    rw [tx_app]
                    refine ⟨_, rfl, _, _, rfl, rfl, (by rw [tx_len, tx_len, List.length_append, sizeLine_eq]; show _ + 3 + _ ≤ _; omega), ?_⟩
                    rw [tx_app]
                    refine ⟨some (.int (i : Int)), some (.ref ai), some (.str (Tx (termT A (cf qs i).den i))), v5, some (.str (Tx [45])), ?_, s4⟩
                    rw [e2]
                    rfl
                  · rw [if_neg hn] at l3 e2
                    rw [if_neg hn, decide_eq_false (by intro z; cases z)]
                    refine iteF ?_
                    refine ⟨Tx (dueN qs i), Tx [32, 43, 32], rfl, congrArg V.str lp, (by rw [tx_len, tx_len, sizeLine_eq]; show _ + 3 ≤ _; omega), ?_⟩
                    rw [tx_app]
                    refine ⟨_, rfl, _, _, rfl, rfl, (by rw [tx_len, tx_len, List.length_append, sizeLine_eq]; show _ + 3 + _ ≤ _; omega), ?_⟩
                    rw [tx_app]
                    refine ⟨some (.int (i : Int)), some (.ref ai), some (.str (Tx (termT A (cf qs i).den i))), v5, some (.str (Tx [])), ?_, s4⟩
                    rw [e2]
                    rfl
    · rintro σ H1 ⟨v2, v3, v4, v5, v6, rfl, s1⟩
      have dl := due_len hz qs.length hl
      have z := q H1 s1
      rw [List.length_map, la]
      unfold finT at z
      refine ⟨_, rfl, rfl, _, rfl, ?_⟩
      rw [show (Str.ofString "" : Str) = Tx [] from lit_empty, tx_eq]
      by_cases h : dueN qs qs.length = []
      · rw [if_pos h] at z
        rw [decide_eq_true h]
        refine iteF ?_
        show Q (.str (Str.ofString "0")) H1
        rw [show (Str.ofString "0" : Str) = Tx [48] from lit_zero]
        exact z
      · rw [if_neg h] at z
        rw [decide_eq_false h]
        refine iteT ?_
        exact ⟨_, rfl, z⟩
end

end Vf

set_option maxRecDepth 100000
set_option maxHeartbeats 8000000
namespace Vf
open PySem PySem.Spec PyProof.Rows L2
section
variable {P : Program} {w : World} {K : PySem.W.Frag} {mg : Str → Option Value} {base : Heap} {CT CP CR CN : Addr}
theorem divInt_up (q : Rat) (h0 : 0 ≤ q.num) {n : Nat} (hn : 1 ≤ n) : Rat.divInt ((q.num.natAbs * n : Nat) : Int) ((q.den * n : Nat) : Int) = q := by
  have e1 : ((q.num.natAbs * n : Nat) : Int) = q.num * (n : Int) := by
    rw [Int.natCast_mul]
    congr 1
    omega
  rw [e1, Int.natCast_mul, Rat.divInt_mul_right (by omega)]
  exact Rat.num_divInt_den q
theorem kp_lst {p l : Addr} {H H1 : Hp} (h : Kp p H H1) : Kp p H H1 := h
abbrev sLTerm : Stmt := topS 62
theorem scLTerm : FnScope ["_law_pen_here", "_law_k", "_law_number", "_law_by", "_law_size_here", "_law_letter"] ["_law_pen_here", "_law_k", "_law_number"] (defScope sLTerm) := ⟨rfl, rfl, rfl, by decide +kernel, rfl, by decide +kernel, by decide +kernel⟩
theorem ok_lterm {f : Addr} {fd : FuncData} (F : Fun K "_law_term" "_law_term" sLTerm f fd) (T : Bk mg) (hm1 : M1 base) (G__law_draw : Df P w K mg base "_law_draw" 1 ["_law_pen_here", "_law_many"] spDraw) (G__law_pick : Df P w K mg base "_law_pick" 2 ["_law_pen_here", "_law_some"] spPick) (G__law_gap : Df P w K mg base "_law_gap" 3 ["_law_pen_here"] spGap) :
    FnOk P w K mg base CX0 4 f fd ["_law_pen_here", "_law_k", "_law_number"] spLTerm := by
  refine F.ok scLTerm (fun vs H Q E h => ?_) (fun cdv A outer s H vs Q E hr h => ?_)
  · obtain ⟨p, lc, r, B, k, q, rfl, _⟩ := h
    rfl
  · obtain ⟨p, lc, r, B, k, q, rfl, hP, hB, hq, rp, q0, z1, z2, hk, kc⟩ := h
    refine ⟨_, (pss_cons (ps_set (i := 3) scLTerm.nd rfl (Or.inl rfl) (pe_call G__law_pick.ok (hr.mono (by decide)) rfl G__law_pick.m G__law_pick.kp G__law_pick.b .nil pass0 (pa_cons (pv 0) (pa_cons (pe_lst (pa_cons pe_int (pa_cons pe_int (pa_cons pe_int (pa_cons pe_int pa_nil))))) pa_nil))))
  (C8.pss_cut (ps_set (i := 4) scLTerm.nd rfl (Or.inl rfl) (pe_ifExp (pt_cmpR op_gt (pe_op op_mul (pe_ix ix_tup (pv 2) pe_int (fun _ _ => rfl)) (pv 3)) pe_int (nomark _)) (pe_op op_add_str (pe_op op_add_str (pe_callTy call_str_int (by rfl) T.str (by decide +kernel) (pa_cons (pe_op op_mul (pe_ix ix_tup (pv 2) pe_int (fun _ _ => rfl)) (pv 3)) pa_nil)) pe_str) (pe_callTy call_str_int (by rfl) T.str (by decide +kernel) (pa_cons (pe_op op_mul (pe_ix ix_tup (pv 2) pe_int (fun _ _ => rfl)) (pv 3)) pa_nil))) (pe_callTy call_str_int (by rfl) T.str (by decide +kernel) (pa_cons (pe_ix ix_tup (pv 2) pe_int (fun _ _ => rfl)) pa_nil))))
  (C8.pss_cut (ps_set (i := 5) scLTerm.nd rfl (Or.inl rfl) (pe_call G__law_pick.ok (hr.mono (by decide)) rfl G__law_pick.m G__law_pick.kp G__law_pick.b .nil pass0 (pa_cons (pv 0) (pa_cons (pe_op op_cat (pe_op op_rep (pe_lst (pa_cons (pe_op op_add_str pe_str (pe_callTy call_str_int (by rfl) T.str (by decide +kernel) (pa_cons (pv 1) pa_nil))) pa_nil)) pe_int) (pe_ifExp (pt_cmpR op_eq (pv 1) pe_int (nomark _)) (pe_lst (pa_cons pe_str pa_nil)) (pe_lst pa_nil))) pa_nil))))
  (pss_cons (ps_if (pt_cmpR op_eq (pv 1) pe_int (nomark _))
    (pss_one (ps_ret (pe_call G__law_pick.ok (hr.mono (by decide)) rfl G__law_pick.m G__law_pick.kp G__law_pick.b .nil pass0 (pa_cons (pv 0) (pa_cons (pe_lst (pa_cons (pv 4) (pa_cons (pv 4) (pa_cons (pe_op op_add_str (pe_op op_add_str (pe_op op_add_str (pe_op op_add_str (pv 4) (pe_call G__law_gap.ok (hr.mono (by decide)) rfl G__law_gap.m G__law_gap.kp G__law_gap.b .nil pass0 (pa_cons (pv 0) pa_nil))) pe_str) (pe_call G__law_gap.ok (hr.mono (by decide)) rfl G__law_gap.m G__law_gap.kp G__law_gap.b .nil pass0 (pa_cons (pv 0) pa_nil))) pe_str) pa_nil)))) pa_nil)))))
    pss_nil)
  (pss_cons (ps_if (PW.pt (pw_and (pt_cmpR (op_eqT hr.units hm1) (pv 2) (pe_tup (pa_cons pe_int (pa_cons pe_int pa_nil))) (nomark _)) (pw_and1 (pt_cmpR op_eq (pe_call G__law_draw.ok (hr.mono (by decide)) rfl G__law_draw.m G__law_draw.kp G__law_draw.b .nil pass0 (pa_cons (pv 0) (pa_cons pe_int pa_nil))) pe_int (nomark _)))))
    (pss_one (ps_ret (pv 5)))
    pss_nil)
  (pss_one (ps_ret (pe_op op_add_str (pe_op op_add_str (pe_op op_add_str (pe_op op_add_str (pv 4) (pe_call G__law_gap.ok (hr.mono (by decide)) rfl G__law_gap.m G__law_gap.kp G__law_gap.b .nil pass0 (pa_cons (pv 0) pa_nil))) pe_str) (pe_call G__law_gap.ok (hr.mono (by decide)) rfl G__law_gap.m G__law_gap.kp G__law_gap.b .nil pass0 (pa_cons (pv 0) pa_nil))) (pv 5))))))))), ?_⟩
    -- by
    refine ⟨_, rfl, (by show 4 ≤ sizeLine; decide), fun l1 nl1 => ?_⟩
    have el1 : upd H l1 (HO.lst [V.int 1, V.int 1, V.int 2, V.int 3]) l1 = some (HO.lst [V.int 1, V.int 1, V.int 2, V.int 3]) := upd_same
    have s1 : Same H (upd H l1 (HO.lst [V.int 1, V.int 1, V.int 2, V.int 3])) := same_upd nl1
    have l1p := (hP.ne_new nl1).1
    generalize upd H l1 (HO.lst [V.int 1, V.int 1, V.int 2, V.int 3]) = H1 at el1 s1 ⊢
    refine ⟨p, lc, l1, B, _, rfl, hP.same s1, by omega, el1, l1p, by decide, by decide, fun x H2 hx hP2 k2 => ?_⟩
    have kk2 : Kp p H H2 := (Kp.of s1).trans k2
    obtain ⟨n, rfl, n1, n3⟩ : ∃ n : Nat, x = V.int (n : Int) ∧ 1 ≤ n ∧ n ≤ 3 := by
      simp only [List.mem_cons, List.not_mem_nil, or_false] at hx
      rcases hx with rfl | rfl | rfl | rfl
      · exact ⟨1, rfl, by decide, by decide⟩
      · exact ⟨1, rfl, by decide, by decide⟩
      · exact ⟨2, rfl, by decide, by decide⟩
      · exact ⟨3, rfl, by decide, by decide⟩
    clear hx
    have hq2 : TR H2 r q := kk2 _ _ rp hq
    have e39 : (10 : Nat) ^ 40 = 10 ^ 39 * 10 := by decide +kernel
    have an : q.num.natAbs * n < 10 ^ 40 := by
      rw [e39]
      exact Nat.lt_of_lt_of_le (Nat.mul_lt_mul_of_pos_right z1 (by omega)) (Nat.mul_le_mul_left _ (by omega))
    have bn : q.den * n < 10 ^ 40 := by
      rw [e39]
      exact Nat.lt_of_lt_of_le (Nat.mul_lt_mul_of_pos_right z2 (by omega)) (Nat.mul_le_mul_left _ (by omega))
    have d0 := q.den_pos
    have ea : q.num * (n : Int) = ((q.num.natAbs * n : Nat) : Int) := by rw [Int.natCast_mul]; congr 1; omega
    have eb : (q.den : Int) * (n : Int) = ((q.den * n : Nat) : Int) := (Int.natCast_mul _ _).symm
    -- the size
    refine ⟨fun σ H3 => H3 = H2 ∧ ∃ (S : List Nat) (x y : Nat), σ = [some (.ref p), some (.int (k : Int)), some (.ref r), some (.int (n : Int)), some (.str (Tx S)), none] ∧ NumB S x y ∧ Rat.divInt (x : Int) (y : Int) = q ∧ S.length ≤ 90, ?_, ?_⟩
    · refine ⟨_, rfl, r, _, _, .int (q.den : Int), rfl, rfl, SqT.of hq2, at_of (j := 1) rfl rfl, _, rfl, _, _, rfl, rfl, .inr ⟨by omega, by omega⟩, _, _, rfl, rfl, _, rfl, ?_⟩
      rw [eb]
      by_cases b1 : 1 < q.den * n
      · rw [decide_eq_true (by omega)]
        refine iteT ?_
        refine ⟨_, rfl, r, _, _, .int q.num, rfl, rfl, SqT.of hq2, at_of (j := 0) rfl rfl, _, rfl, _, _, rfl, rfl, .inr ⟨by omega, by omega⟩, ?_⟩
        have l1 := digs_len (by decide) an
        have l2 := digs_len (by decide) bn
        refine ⟨((q.num.natAbs * n : Nat) : Int), (by show [V.int (q.num * (n : Int))] = _; rw [ea]), dig_small (Nat.lt_trans an (by decide +kernel)), ?_⟩
        rw [str_nat]
        refine ⟨Tx (digs (q.num.natAbs * n)), Tx [47], rfl, congrArg V.str lit_slash, (by rw [tx_len, tx_len, sizeLine_eq]; show _ + 1 ≤ _; omega), ?_⟩
        rw [tx_app]
        refine ⟨_, rfl, r, _, _, .int (q.den : Int), rfl, rfl, SqT.of hq2, at_of (j := 1) rfl rfl, _, rfl, _, _, rfl, rfl, .inr ⟨by omega, by omega⟩, ?_⟩
        refine ⟨((q.den * n : Nat) : Int), (by show [V.int ((q.den : Int) * (n : Int))] = _; rw [eb]), dig_small (Nat.lt_trans bn (by decide +kernel)), ?_⟩
        rw [str_nat]
        refine ⟨_, _, rfl, rfl, (by rw [tx_len, tx_len, List.length_append, sizeLine_eq]; show _ + 1 + _ ≤ _; omega), ?_⟩
        rw [tx_app, List.append_assoc]
        exact ⟨rfl, digs (q.num.natAbs * n) ++ 47 :: digs (q.den * n), _, _, rfl, .two an bn (by omega), divInt_up q q0 n1, by rw [List.length_append, List.length_cons]; omega⟩
      · rw [decide_eq_false (by omega)]
        refine iteF ?_
        have e1 : q.den * n = 1 := by
          have : 0 < q.den * n := Nat.mul_pos d0 (by omega)
          omega
        have ed : q.den = 1 := Nat.eq_one_of_mul_eq_one_right e1
        have l1 := digs_len (k := 39) (by decide) z1
        refine ⟨_, rfl, r, _, _, .int q.num, rfl, rfl, SqT.of hq2, at_of (j := 0) rfl rfl, ?_⟩
        have en : q.num = ((q.num.natAbs : Nat) : Int) := by omega
        have a40 : q.num.natAbs < 10 ^ 40 := Nat.lt_trans z1 (by decide +kernel)
        refine ⟨_, rfl, (by rw [en]; exact dig_small (Nat.lt_trans a40 (by decide +kernel))), ?_⟩
        rw [show V.str (toString q.num) = V.str (Tx (digs q.num.natAbs)) from by rw [← str_nat]; rw [← en]]
        refine ⟨rfl, digs q.num.natAbs, q.num.natAbs, 1, rfl, .one a40, ?_, by omega⟩
        have := Rat.num_divInt_den q
        rw [ed] at this
        rw [← en]
        exact this
    · rintro σ H3 ⟨rfl, S, x, y, rfl, hS, hv, lS⟩
      -- the letter
      refine ⟨fun σ H4 => ∃ Lt : List Nat, σ = [some (.ref p), some (.int (k : Int)), some (.ref r), some (.int (n : Int)), some (.str (Tx S)), some (.str (Tx Lt))] ∧ Pen H4 p lc (B + 2) ∧ Kp p H H4 ∧ PowB Lt k ∧ Lt.length ≤ 4, ?_, ?_⟩
      · have lk := digs_len (n := k) (k := 2) (by decide) (by omega)
        refine ⟨_, rfl, _, rfl, _, rfl, dig_small (Nat.lt_trans (show k < 100 by omega) (by decide +kernel)), ?_⟩
        rw [str_nat]
        refine ⟨Tx [120, 94], Tx (digs k), congrArg V.str (by decide +kernel), rfl, (by rw [tx_len, tx_len, sizeLine_eq]; show 2 + _ ≤ _; omega), ?_⟩
        rw [tx_app]
        refine ⟨(by show 1 ≤ sizeLine; decide), fun l3 n3' => ?_⟩
        have e3 : upd H3 l3 (HO.lst [V.str (Tx ([120, 94] ++ digs k))]) l3 = some (HO.lst [V.str (Tx ([120, 94] ++ digs k))]) := upd_same
        have s3 : Same H3 (upd H3 l3 (HO.lst [V.str (Tx ([120, 94] ++ digs k))])) := same_upd n3'
        generalize upd H3 l3 (HO.lst [V.str (Tx ([120, 94] ++ digs k))]) = H4 at e3 s3 ⊢
        refine ⟨l3, 2, _, rfl, rfl, e3, by decide, by decide, (by rw [sizeLine_eq]; show 1 * 2 ≤ 16777216; decide), fun l4 n4 => ?_⟩
        have e4 : upd H4 l4 (HO.lst (List.replicate (2 : Int).toNat [V.str (Tx ([120, 94] ++ digs k))]).flatten) l4 = some (HO.lst [V.str (Tx ([120, 94] ++ digs k)), V.str (Tx ([120, 94] ++ digs k))]) := upd_same
        have s4 : Same H4 (upd H4 l4 (HO.lst (List.replicate (2 : Int).toNat [V.str (Tx ([120, 94] ++ digs k))]).flatten)) := same_upd n4
        generalize upd H4 l4 (HO.lst (List.replicate (2 : Int).toNat [V.str (Tx ([120, 94] ++ digs k))]).flatten) = H5 at e4 s4 ⊢
        have s25 := s3.trans s4
        have rest : ∀ (l5 : Addr) (H6 : Hp) (ys : List V), Same H5 H6 → H6 l5 = some (.lst ys) → ys.length ≤ 1 → (∀ y ∈ ys, k = 1 ∧ y = V.str "x") → rCat (V.ref l4) (V.ref l5) H6 fun z H7 => spPick [V.ref p, z] H7 (fun v H8 => ∃ Lt : List Nat, [some (V.ref p), some (.int (k : Int)), some (.ref r), some (.int (n : Int)), some (.str (Tx S)), some v] = [some (.ref p), some (.int (k : Int)), some (.ref r), some (.int (n : Int)), some (.str (Tx S)), some (.str (Tx Lt))] ∧ Pen H8 p lc (B + 2) ∧ Kp p H H8 ∧ PowB Lt k ∧ Lt.length ≤ 4) E0 := by
          intro l5 H6 ys s5 e5 ly hy
          refine ⟨l4, l5, _, _, rfl, rfl, s5 _ _ e4, e5, (by rw [sizeLine_eq]; show 2 + _ ≤ _; omega), fun l6 n6 => ?_⟩
          have s26 := s25.trans s5
          have e6 : upd H6 l6 (HO.lst ([V.str (Tx ([120, 94] ++ digs k)), V.str (Tx ([120, 94] ++ digs k))] ++ ys)) l6 = some (HO.lst ([V.str (Tx ([120, 94] ++ digs k)), V.str (Tx ([120, 94] ++ digs k))] ++ ys)) := upd_same
          have s6 : Same H6 (upd H6 l6 (HO.lst ([V.str (Tx ([120, 94] ++ digs k)), V.str (Tx ([120, 94] ++ digs k))] ++ ys))) := same_upd n6
          have hP6 := hP2.same s26
          have l6p := (hP6.ne_new n6).1
          generalize upd H6 l6 (HO.lst ([V.str (Tx ([120, 94] ++ digs k)), V.str (Tx ([120, 94] ++ digs k))] ++ ys)) = H7 at e6 s6 ⊢
          refine ⟨p, lc, l6, B + 1, _, rfl, hP6.same s6, by omega, e6, l6p, (by rw [List.length_append]; show 0 < 2 + _; omega), (by rw [List.length_append]; show 2 + _ < _; omega), fun v H8 hv8 hP8 k8 => ?_⟩
          have kk : Kp p H H8 := kk2.trans ((Kp.of (s26.trans s6)).trans k8)
          rcases List.mem_append.mp hv8 with h | h
          · have ev : v = V.str (Tx (120 :: 94 :: digs k)) := by
              simp only [List.mem_cons, List.not_mem_nil, or_false, or_self] at h
              exact h
            exact ⟨120 :: 94 :: digs k, by rw [ev], hP8.more (by omega), kk, .pw hk, by rw [List.length_cons, List.length_cons]; omega⟩
          · obtain ⟨h1, h2⟩ := hy v h
            refine ⟨[120], by rw [h2, show V.str "x" = V.str (Tx [120]) from congrArg V.str lit_x], hP8.more (by omega), kk, ?_, by decide⟩
            rw [h1]
            exact .x
        refine ⟨_, rfl, rfl, _, rfl, ?_⟩
        by_cases k1 : k = 1
        · rw [decide_eq_true (by rw [k1]; rfl)]
          refine iteT ?_
          refine ⟨(by show 1 ≤ sizeLine; decide), fun l5 n5 => ?_⟩
          exact rest l5 _ [V.str "x"] (same_upd n5) upd_same (Nat.le_refl _) (fun y hy => ⟨k1, List.mem_singleton.mp hy⟩)
        · rw [decide_eq_false (fun z => k1 (by have := V.int.inj z; omega))]
          refine iteF ?_
          refine ⟨(by show 0 ≤ sizeLine; decide), fun l5 n5 => ?_⟩
          exact rest l5 _ [] (same_upd n5) upd_same (by decide) (fun y hy => by cases hy)
      · rintro σ H4 ⟨Lt, rfl, hP4, kk4, hLt, lLt⟩
        have hq4 : TR H4 r q := kk4 _ _ rp hq
        have lg : ∀ g : Nat, (sp g).length = g := fun g => List.length_replicate
        refine ⟨_, rfl, rfl, _, rfl, ?_⟩
        by_cases k0 : k = 0
        · rw [decide_eq_true (by rw [k0]; rfl)]
          refine iteT ?_
          refine ⟨_, rfl, _, rfl, _, rfl, _, rfl, _, rfl, p, lc, B + 2, rfl, hP4, by omega, fun g1 H5 hg1 hP5 k5 => ?_⟩
          refine ⟨_, _, rfl, rfl, (by rw [tx_len, tx_len, lg, sizeLine_eq]; omega), ?_⟩
          rw [tx_app]
          refine ⟨_, Tx [42], rfl, congrArg V.str lit_star, (by rw [tx_len, tx_len, List.length_append, lg, sizeLine_eq]; show _ + 1 ≤ _; omega), ?_⟩
          rw [tx_app]
          refine ⟨_, rfl, p, lc, B + 2 + 1, rfl, hP5, by omega, fun g2 H6 hg2 hP6 k6 => ?_⟩
          refine ⟨_, _, rfl, rfl, (by rw [tx_len, tx_len, List.length_append, List.length_append, lg, lg, sizeLine_eq]; show _ + 1 + _ ≤ _; omega), ?_⟩
          rw [tx_app]
          refine ⟨_, Tx [120, 94, 48], rfl, congrArg V.str (by decide +kernel), (by rw [tx_len, tx_len, List.length_append, List.length_append, List.length_append, lg, lg, sizeLine_eq]; show _ + 1 + _ + 3 ≤ _; omega), ?_⟩
          rw [tx_app]
          have et : S ++ sp g1 ++ [42] ++ sp g2 ++ [120, 94, 48] = S ++ (sp g1 ++ 42 :: (sp g2 ++ [120, 94, 48])) := by simp
          rw [et]
          have hT : TermB (S ++ (sp g1 ++ 42 :: (sp g2 ++ [120, 94, 48]))) x y 0 := by
            have := TermB.both g1 g2 hS (PowB.pw (k := 0) (by decide))
            rw [digs_zero] at this
            exact this
          have lT : (S ++ (sp g1 ++ 42 :: (sp g2 ++ [120, 94, 48]))).length ≤ 200 := by
            rw [List.length_append, List.length_append, List.length_cons, List.length_append, lg, lg]
            show _ + (_ + (_ + 3 + 1)) ≤ _
            omega
          generalize S ++ (sp g1 ++ 42 :: (sp g2 ++ [120, 94, 48])) = S3 at hT lT
          refine ⟨(by show 3 ≤ sizeLine; decide), fun l7 n7 => ?_⟩
          have e7 : upd H6 l7 (HO.lst [V.str (Tx S), V.str (Tx S), V.str (Tx S3)]) l7 = some (HO.lst [V.str (Tx S), V.str (Tx S), V.str (Tx S3)]) := upd_same
          have s7 : Same H6 (upd H6 l7 (HO.lst [V.str (Tx S), V.str (Tx S), V.str (Tx S3)])) := same_upd n7
          have l7p := (hP6.ne_new n7).1
          generalize upd H6 l7 (HO.lst [V.str (Tx S), V.str (Tx S), V.str (Tx S3)]) = H7 at e7 s7 ⊢
          refine ⟨p, lc, l7, _, _, rfl, hP6.same s7, by omega, e7, l7p, (by show 0 < 3; decide), (by show 3 < 1000000; decide), fun v H8 hv8 hP8 k8 => ?_⟩
          have kk : Kp p H H8 := kk4.trans (k5.trans (k6.trans ((Kp.of s7).trans k8)))
          simp only [List.mem_cons, List.not_mem_nil, or_false] at hv8
          rw [k0] at kc
          rcases hv8 with rfl | rfl | rfl
          · exact kc S x y H8 (hP8.more (by omega)) kk (.num hS) hv (by omega)
          · exact kc S x y H8 (hP8.more (by omega)) kk (.num hS) hv (by omega)
          · exact kc S3 x y H8 (hP8.more (by omega)) kk hT hv lT
        · rw [decide_eq_false (fun z => k0 (by have := V.int.inj z; omega))]
          refine iteF ?_
          have gen : ∀ (B' : Int) (H4 : Hp), Pen H4 p lc B' → B' ≤ B + 4 → Kp p H H4 → (tOp (fun x y H Q => ∃ i j, x = V.str i ∧ y = V.str j ∧ i.length + j.length ≤ sizeLine ∧ Q (V.str (i ++ j)) H) (tOp (fun x y H Q => ∃ i j, x = V.str i ∧ y = V.str j ∧ i.length + j.length ≤ sizeLine ∧ Q (V.str (i ++ j)) H) (tOp (fun x y H Q => ∃ i j, x = V.str i ∧ y = V.str j ∧ i.length + j.length ≤ sizeLine ∧ Q (V.str (i ++ j)) H) (tOp (fun x y H Q => ∃ i j, x = V.str i ∧ y = V.str j ∧ i.length + j.length ≤ sizeLine ∧ Q (V.str (i ++ j)) H) (tVar 4) (tCall spGap [] E0 (tCons (tVar 0) tNil))) (tC (V.str "*"))) (tCall spGap [] E0 (tCons (tVar 0) tNil))) (tVar 5)) [some (V.ref p), some (.int (k : Int)), some (.ref r), some (.int (n : Int)), some (.str (Tx S)), some (.str (Tx Lt))] H4 Q := by
            intro B' H4 hP4 hB' kk4
            refine ⟨_, rfl, _, rfl, p, lc, B', rfl, hP4, by omega, fun g1 H5 hg1 hP5 k5 => ?_⟩
            refine ⟨_, _, rfl, rfl, (by rw [tx_len, tx_len, lg, sizeLine_eq]; omega), ?_⟩
            rw [tx_app]
            refine ⟨_, Tx [42], rfl, congrArg V.str lit_star, (by rw [tx_len, tx_len, List.length_append, lg, sizeLine_eq]; show _ + 1 ≤ _; omega), ?_⟩
            rw [tx_app]
            refine ⟨_, rfl, p, lc, B' + 1, rfl, hP5, by omega, fun g2 H6 hg2 hP6 k6 => ?_⟩
            refine ⟨_, _, rfl, rfl, (by rw [tx_len, tx_len, List.length_append, List.length_append, lg, lg, sizeLine_eq]; show _ + 1 + _ ≤ _; omega), ?_⟩
            rw [tx_app]
            refine ⟨_, rfl, _, _, rfl, rfl, (by rw [tx_len, tx_len, List.length_append, List.length_append, List.length_append, lg, lg, sizeLine_eq]; show _ + 1 + _ + _ ≤ _; omega), ?_⟩
            rw [tx_app]
            have et : S ++ sp g1 ++ [42] ++ sp g2 ++ Lt = S ++ (sp g1 ++ 42 :: (sp g2 ++ Lt)) := by simp
            rw [et]
            refine kc _ x y H6 (hP6.more (by omega)) (kk4.trans (k5.trans k6)) (.both g1 g2 hS hLt) hv ?_
            rw [List.length_append, List.length_append, List.length_cons, List.length_append, lg, lg]
            omega
          refine ⟨_, rfl, (by show 2 ≤ sizeLine; decide), fun tp ntp => ?_⟩
          have s5 : Same H4 (upd H4 tp (HO.tup [V.int 1, V.int 1])) := same_upd ntp
          refine ⟨pairD (pq q), pairD (1, 1), .tup (SqT.of (s5 _ _ hq4)) (.cons (.int _) (.cons (.int _) .nil)), .tup (SqT.of upd_same) (.cons (.int _) (.cons (.int _) .nil)), (by simp [pairD, PyData.plain, PyData.plainAll]), (by simp [pairD, PyData.plain, PyData.plainAll]), (by simp [pairD, PyData.depth, PyData.depthAll]), ?_⟩
          rw [eqv_pair]
          generalize upd H4 tp (HO.tup [V.int 1, V.int 1]) = H5 at s5 ⊢
          refine ⟨_, rfl, ?_⟩
          by_cases h11 : pq q = (1, 1)
          · rw [decide_eq_true h11]
            refine iteT ?_
            refine ⟨_, rfl, p, lc, B + 2, 2, rfl, hP4.same s5, by omega, by decide, by decide, fun z H6 z0 z2 hP6 k6 => ?_⟩
            have kk6 : Kp p H H6 := kk4.trans ((Kp.of s5).trans k6)
            refine ⟨rfl, _, rfl, ?_⟩
            by_cases zz : z = 0
            · rw [decide_eq_true (by rw [zz])]
              refine iteT ?_
              refine ⟨_, rfl, kc Lt 1 1 H6 (hP6.more (by omega)) kk6 (.pow hLt) ?_ (by omega)⟩
              have := Rat.num_divInt_den q
              have e1 : q.num = 1 := congrArg Prod.fst h11
              have e2 : (q.den : Int) = 1 := congrArg Prod.snd h11
              rw [e1, e2] at this
              exact this
            · rw [decide_eq_false (fun y => zz (V.int.inj y))]
              refine iteF ?_
              exact gen (B + 2 + 1) H6 hP6 (by omega) kk6
          · rw [decide_eq_false h11]
            refine iteF ?_
            refine iteF ?_
            exact gen (B + 2) H5 (hP4.same s5) (by omega) (kk4.trans (Kp.of s5))
end

end Vf

set_option maxRecDepth 100000
set_option maxHeartbeats 8000000
namespace Vf
open PySem PySem.Spec PyProof.Rows L2
/-! ### the law's differences and sizes -/
/-! ### the error of a polynomial -/
def absQ (q : Rat) : Rat := if q < 0 then -q else q
theorem absQ_nonneg (q : Rat) : 0 ≤ absQ q := by
  unfold absQ
  split
  · grind
  · grind
theorem absQ_pq (q : Rat) : pq (absQ q) = (((q.num.natAbs : Nat) : Int), (q.den : Int)) := by
  unfold absQ
  by_cases h : q < 0
  · have : q.num < 0 := by
      by_cases z : q.num < 0
      · exact z
      · exact absurd (Rat.num_nonneg.mp (show 0 ≤ q.num by omega)) (by grind)
    rw [if_pos h]
    show ((-q).num, ((-q).den : Int)) = _
    rw [Rat.neg_num, Rat.neg_den, show ((q.num.natAbs : Nat) : Int) = -q.num by omega]
  · have : 0 ≤ q.num := Rat.num_nonneg.mpr (by grind)
    rw [if_neg h]
    show (q.num, (q.den : Int)) = _
    rw [show ((q.num.natAbs : Nat) : Int) = q.num by omega]
theorem if_abs (i : Int) : (if i < 0 then -i else i) = ((i.natAbs : Nat) : Int) := by
  split <;> omega
/-! ### the law's own ratios, in order -/
def rSub (a b : Rat) : Rat := a - b
theorem low_sub (a b : Rat) : low (a.num * b.den - b.num * a.den) ((a.den : Int) * b.den) = pq (a - b) := by
  have h := low_add a (-b)
  rw [Rat.neg_num, Rat.neg_den, Int.neg_mul, ← Int.sub_eq_add_neg, ← Rat.sub_eq_add_neg] at h
  exact h
theorem sr_neg' {q : Rat} (h : Sr q) : Sr (-q) := ⟨by rw [Rat.neg_num, Int.natAbs_neg]; exact h.1, by rw [Rat.neg_den]; exact h.2⟩
def spAbs : Sp := fun vs H Q _ => ∃ (r1 : Addr) (a : Rat), vs = [.ref r1] ∧ TR H r1 a ∧ ∀ (r : Addr) (H' : Hp), Same H H' → H r = none → TR H' r (absQ a) → Q (.ref r) H'

section
variable {P : Program} {w : World} {K : PySem.W.Frag} {mg : Str → Option Value} {base : Heap} {CN : Addr}
abbrev sLMinus : Stmt := topS 51
theorem scLMinus : FnScope ["_law_one", "_law_two"] ["_law_one", "_law_two"] (defScope sLMinus) := ⟨rfl, rfl, rfl, by decide +kernel, rfl, by decide +kernel, by decide +kernel⟩
theorem ok_lminus {f : Addr} {fd : FuncData} (F : Fun K "_law_minus" "_law_minus" sLMinus f fd) (G__law_q : Df P w K mg base "_law_q" 2 ["_law_top", "_law_bottom"] spQ) : FnOk P w K mg base CX0 3 f fd ["_law_one", "_law_two"] (spL2 rSub) := by
  refine F.ok scLMinus (fun vs H Q E h => ?_) (fun cdv A outer s H vs Q E hr h => ?_)
  · obtain ⟨r1, r2, a, b, rfl, _⟩ := h
    rfl
  · obtain ⟨r1, r2, a, b, rfl, h1, h2, za, zb, q⟩ := h
    refine ⟨_, (pss_one (ps_ret (pe_call G__law_q.ok (hr.mono (by decide)) rfl G__law_q.m G__law_q.kp G__law_q.b .nil pass0 (pa_cons (pe_op op_sub (pe_op op_mulW (pe_ix ix_tup (pv 0) pe_int (fun _ _ => rfl)) (pe_ix ix_tup (pv 1) pe_int (fun _ _ => rfl))) (pe_op op_mulW (pe_ix ix_tup (pv 1) pe_int (fun _ _ => rfl)) (pe_ix ix_tup (pv 0) pe_int (fun _ _ => rfl)))) (pa_cons (pe_op op_mulW (pe_ix ix_tup (pv 0) pe_int (fun _ _ => rfl)) (pe_ix ix_tup (pv 1) pe_int (fun _ _ => rfl))) pa_nil))))), ?_⟩
    obtain ⟨s1, s2, s3⟩ := sr_sum za (sr_neg' zb)
    rw [Rat.neg_num, Rat.neg_den, Int.neg_mul, ← Int.sub_eq_add_neg] at s1
    rw [Rat.neg_den] at s2
    refine ⟨_, rfl, r1, _, _, .int a.num, rfl, rfl, SqT.of h1, at_of (j := 0) rfl rfl, _, rfl, r2, _, _, .int b.den, rfl, rfl, SqT.of h2, at_of (j := 1) rfl rfl, _, _, rfl, rfl, big_mulW za.n zb.d, ?_⟩
    refine ⟨_, rfl, r2, _, _, .int b.num, rfl, rfl, SqT.of h2, at_of (j := 0) rfl rfl, _, rfl, r1, _, _, .int a.den, rfl, rfl, SqT.of h1, at_of (j := 1) rfl rfl, _, _, rfl, rfl, big_mulW zb.n za.d, ?_⟩
    refine ⟨_, _, rfl, rfl, ?_⟩
    refine ⟨_, rfl, r1, _, _, .int a.den, rfl, rfl, SqT.of h1, at_of (j := 1) rfl rfl, _, rfl, r2, _, _, .int b.den, rfl, rfl, SqT.of h2, at_of (j := 1) rfl rfl, _, _, rfl, rfl, big_mulW za.d zb.d, ?_⟩
    refine ⟨_, _, rfl, den_ne a b, s1, s2, fun r H' ss nr er => ?_⟩
    rw [low_sub] at er
    exact q r H' ss nr er
abbrev sLAbs : Stmt := topS 52
theorem scLAbs : FnScope ["_law_one"] ["_law_one"] (defScope sLAbs) := ⟨rfl, rfl, rfl, by decide +kernel, rfl, by decide +kernel, by decide +kernel⟩
theorem ok_labs {f : Addr} {fd : FuncData} (F : Fun K "_law_abs" "_law_abs" sLAbs f fd) (T : Bk mg) : FnOk P w K mg base CX0 1 f fd ["_law_one"] spAbs := by
  refine F.ok scLAbs (fun vs H Q E h => ?_) (fun cdv A outer s H vs Q E hr h => ?_)
  · obtain ⟨r1, a, rfl, _⟩ := h
    rfl
  · obtain ⟨r1, a, rfl, h1, q⟩ := h
    refine ⟨_, (pss_one (ps_ret (pe_tup (pa_cons (pe_callB call_abs (by rfl) T.abs (by decide +kernel) (pa_cons (pe_ix ix_tup (pv 0) pe_int (fun _ _ => rfl)) pa_nil)) (pa_cons (pe_ix ix_tup (pv 0) pe_int (fun _ _ => rfl)) pa_nil))))), ?_⟩
    refine ⟨_, rfl, r1, _, _, .int a.num, rfl, rfl, SqT.of h1, at_of (j := 0) rfl rfl, _, rfl, ?_⟩
    rw [if_abs]
    refine ⟨_, rfl, r1, _, _, .int a.den, rfl, rfl, SqT.of h1, at_of (j := 1) rfl rfl, (by show 2 ≤ sizeLine; decide), fun t nt => ?_⟩
    refine q t _ (same_upd nt) nt ?_
    unfold TR
    rw [upd_same]
    have := absQ_pq a
    rw [show (absQ a).num = ((a.num.natAbs : Nat) : Int) from congrArg Prod.fst this, show (((absQ a).den : Nat) : Int) = (a.den : Int) from congrArg Prod.snd this]
end

end Vf

set_option maxRecDepth 100000
set_option maxHeartbeats 8000000
namespace Vf
open PySem PySem.Spec PyProof.Rows L2
/-! ### terms in any order -/
abbrev Prt := Nat × Rat
def PTm (H : Hp) (r : Addr) (m : Prt) : Prop := ∃ n : Addr, H r = some (.tup [.int (m.1 : Int), .ref n]) ∧ TR H n m.2
inductive PTms (H : Hp) : List Addr → List Prt → Prop
  | nil : PTms H [] []
  | cons {r : Addr} {rs : List Addr} {m : Prt} {M : List Prt} : PTm H r m → PTms H rs M → PTms H (r :: rs) (m :: M)
theorem PTm.up {H H' : Hp} {r : Addr} {m : Prt} (h : PTm H r m) (u : ∀ b xs, H b = some (.tup xs) → H' b = some (.tup xs)) : PTm H' r m := by
  obtain ⟨n, h1, h2⟩ := h
  exact ⟨n, u _ _ h1, u _ _ h2⟩
theorem PTms.up {H H' : Hp} (u : ∀ b xs, H b = some (.tup xs) → H' b = some (.tup xs)) : ∀ {rs : List Addr} {M : List Prt}, PTms H rs M → PTms H' rs M
  | _, _, .nil => .nil
  | _, _, .cons h t => .cons (h.up u) (t.up u)
theorem PTms.len {H : Hp} : ∀ {rs : List Addr} {M : List Prt}, PTms H rs M → rs.length = M.length
  | _, _, .nil => rfl
  | _, _, .cons _ t => by rw [List.length_cons, List.length_cons, t.len]
theorem PTms.ins {H : Hp} {r : Addr} {m : Prt} (z : PTm H r m) : ∀ (j : Nat) {rs : List Addr} {M : List Prt}, PTms H rs M → PTms H (rs.take j ++ r :: rs.drop j) (M.take j ++ m :: M.drop j)
  | 0, _, _, h => .cons z h
  | j + 1, _, _, .nil => .cons z .nil
  | j + 1, _, _, .cons h t => .cons h (t.ins z j)
theorem PTms.at {H : Hp} : ∀ {rs : List Addr} {M : List Prt} {i : Nat} {r : Addr}, PTms H rs M → rs[i]? = some r → ∃ m, M[i]? = some m ∧ PTm H r m
  | _, _, 0, _, .cons h _, e => by cases e; exact ⟨_, rfl, h⟩
  | _, _, i + 1, _, .cons _ t, e => t.at (i := i) e
  | _, _, i, _, .nil, e => by cases e
def prtD (m : Prt) : PyData := .tuple [.int (m.1 : Int), pairD (pq m.2)]
theorem PTms.dts {K : PySem.W.Frag} {H : Hp} : ∀ {rs : List Addr} {M : List Prt}, PTms H rs M → Dts K H (rs.map V.ref) (M.map prtD)
  | _, _, .nil => .nil
  | _, _, .cons ⟨n, h1, h2⟩ t => .cons (.tup (SqT.of h1) (.cons (.int _) (.cons (.tup (SqT.of h2) (.cons (.int _) (.cons (.int _) .nil))) .nil))) t.dts
theorem plain_prt : ∀ M : List Prt, PyData.plainAll (M.map prtD) = true
  | [] => by simp [PyData.plainAll]
  | m :: M => by
    rw [List.map_cons]
    simp [PyData.plainAll, prtD, pairD, PyData.plain, plain_prt M]
theorem depth_prt : ∀ M : List Prt, PyData.depthAll (M.map prtD) ≤ 2
  | [] => by simp [PyData.depthAll]
  | m :: M => by
    rw [List.map_cons]
    have := depth_prt M
    simp [PyData.depthAll, prtD, pairD, PyData.depth]
    omega
theorem eqv_nil (M : List Prt) : PyData.eqv (.list (M.map prtD)) (.list []) = decide (M = []) := by
  cases M with
  | nil => simp [PyData.eqv, PyData.eqvAll]
  | cons m M => simp [PyData.eqv, PyData.eqvAll]
def sumM : List Prt → Nat → Rat
  | [], _ => 0
  | m :: M, k => (if m.1 = k then m.2 else 0) + sumM M k
theorem sumM_app (k : Nat) : ∀ A B : List Prt, sumM (A ++ B) k = sumM A k + sumM B k
  | [], B => by rw [List.nil_append]; show _ = 0 + _; rw [Rat.zero_add]
  | it :: A, B => by
    rw [List.cons_append]
    show _ + sumM (A ++ B) k = (_ + sumM A k) + sumM B k
    rw [sumM_app k A B, Rat.add_assoc]
theorem sumM_ins (j : Nat) (m : Prt) (M : List Prt) (k : Nat) : sumM (M.take j ++ m :: M.drop j) k = sumM M k + (if m.1 = k then m.2 else 0) := by
  rw [sumM_app]
  show sumM (M.take j) k + ((if m.1 = k then m.2 else 0) + sumM (M.drop j) k) = _
  rw [Rat.add_comm (if m.1 = k then m.2 else 0), ← Rat.add_assoc, ← sumM_app, List.take_append_drop]
def cntM : List Prt → Nat → Nat
  | [], _ => 0
  | m :: M, k => (if m.1 = k then 1 else 0) + cntM M k
theorem cntM_app (k : Nat) : ∀ A B : List Prt, cntM (A ++ B) k = cntM A k + cntM B k
  | [], B => by rw [List.nil_append]; show _ = 0 + _; rw [Nat.zero_add]
  | it :: A, B => by
    rw [List.cons_append]
    show _ + cntM (A ++ B) k = (_ + cntM A k) + cntM B k
    rw [cntM_app k A B, Nat.add_assoc]
theorem cntM_ins (j : Nat) (m : Prt) (M : List Prt) (k : Nat) : cntM (M.take j ++ m :: M.drop j) k = cntM M k + (if m.1 = k then 1 else 0) := by
  have e := cntM_app k (M.take j) (M.drop j)
  rw [List.take_append_drop] at e
  rw [cntM_app]
  show cntM (M.take j) k + ((if m.1 = k then 1 else 0) + cntM (M.drop j) k) = _
  omega
def OkP (m : Prt) : Prop := m.1 ≤ 12 ∧ m.2.num.natAbs < 10 ^ 39 ∧ m.2.den < 10 ^ 39
/-- what stands behind i numbers -/
structure Row7 (qs : List Rat) (M : List Prt) (i n : Nat) (e : Rat) : Prop where
  sum : ∀ k, sumM M k = if k < i then cf qs k else if k = i then e else 0
  cnt : ∀ k, cntM M k ≤ if k < i then 2 else if k = i then n else 0
  ok : ∀ m ∈ M, OkP m
  len : M.length ≤ 2 * i + n
theorem Row7.ins {qs : List Rat} {M : List Prt} {i n : Nat} {e q : Rat} (h : Row7 qs M i n e) (j : Nat) (ok : OkP (i, q)) : Row7 qs (M.take j ++ (i, q) :: M.drop j) i (n + 1) (e + q) := by
  refine ⟨fun k => ?_, fun k => ?_, fun m hm => ?_, ?_⟩
  · rw [sumM_ins, h.sum k]
    show _ + (if i = k then q else 0) = _
    by_cases h1 : k < i
    · rw [if_pos h1, if_pos h1, if_neg (by omega), Rat.add_zero]
    · rw [if_neg h1, if_neg h1]
      by_cases h2 : k = i
      · rw [if_pos h2, if_pos h2, if_pos h2.symm]
      · rw [if_neg h2, if_neg h2, if_neg (fun z => h2 z.symm), Rat.add_zero]
  · rw [cntM_ins]
    show _ + (if i = k then 1 else 0) ≤ _
    have := h.cnt k
    by_cases h1 : k < i
    · rw [if_pos h1] at this ⊢
      rw [if_neg (by omega)]
      omega
    · rw [if_neg h1] at this ⊢
      by_cases h2 : k = i
      · rw [if_pos h2] at this ⊢
        rw [if_pos h2.symm]
        omega
      · rw [if_neg h2] at this ⊢
        rw [if_neg (fun z => h2 z.symm)]
        omega
  · rcases List.mem_append.mp hm with h1 | h1
    · exact h.ok m (List.mem_of_mem_take h1)
    · rcases List.mem_cons.mp h1 with rfl | h1
      · exact ok
      · exact h.ok m (List.mem_of_mem_drop h1)
  · have := h.len
    rw [List.length_append, List.length_cons, List.length_take, List.length_drop]
    omega
theorem Row7.skip {qs : List Rat} {M : List Prt} {i n : Nat} {e : Rat} (h : Row7 qs M i n e) : Row7 qs M i (n + 1) (e + 0) := by
  rw [Rat.add_zero]
  refine ⟨h.sum, fun k => ?_, h.ok, by have := h.len; omega⟩
  have := h.cnt k
  by_cases h1 : k < i
  · rw [if_pos h1] at this ⊢; exact this
  · rw [if_neg h1] at this ⊢
    by_cases h2 : k = i
    · rw [if_pos h2] at this ⊢; omega
    · rw [if_neg h2] at this ⊢; exact this
theorem Row7.next {qs : List Rat} {M : List Prt} {i : Nat} (h : Row7 qs M i 2 (cf qs i)) : Row7 qs M (i + 1) 0 0 := by
  refine ⟨fun k => ?_, fun k => ?_, h.ok, by have := h.len; omega⟩
  · rw [h.sum k]
    by_cases h1 : k < i
    · rw [if_pos h1, if_pos (by omega)]
    · rw [if_neg h1]
      by_cases h2 : k = i
      · subst h2
        rw [if_pos rfl, if_pos (Nat.lt_succ_self _)]
      · rw [if_neg h2, if_neg (by omega)]
        split <;> rfl
  · have := h.cnt k
    by_cases h1 : k < i
    · rw [if_pos h1] at this
      rw [if_pos (by omega)]
      exact this
    · rw [if_neg h1] at this
      by_cases h2 : k = i
      · rw [if_pos h2] at this
        rw [if_pos (by omega)]
        exact this
      · rw [if_neg h2] at this
        omega
theorem ival_of {q : Rat} {x y k : Nat} {s : Int} (h : Rat.divInt (x : Int) (y : Int) = absQ q) (hs : (s = 1 ∧ 0 ≤ q) ∨ (s = -1 ∧ q ≤ 0)) : ival (s, x, y, k) = q := by
  show Rat.divInt ((x : Int) * s) ((y : Int) * 1) = q
  rw [Int.mul_one]
  rcases hs with ⟨rfl, h0⟩ | ⟨rfl, h0⟩
  · rw [Int.mul_one, h]
    unfold absQ
    rw [if_neg (by grind)]
  · rw [show (x : Int) * -1 = -(x : Int) by omega, ← Rat.neg_divInt, h]
    unfold absQ
    split <;> grind
def spLoose : Sp := fun vs H Q _ => ∃ (p lc l : Addr) (B : Int) (qs : List Rat), vs = [.ref p, .ref l] ∧ Pen H p lc B ∧ B ≤ 1000000 ∧ RL H l qs ∧ qs.length ≤ 13 ∧ (∀ k, RatOk (pq (cf qs k))) ∧
  ∀ (t : List Nat) (L : List Itm) (H' : Hp), Pen H' p lc (B + 2000) → Kp p H H' → TextB t L → t.length ≤ 100000 → L.length ≤ 1000 → (∀ k, cntAt L k ≤ 10) → (∀ k, sumAt L k = cf qs k) → Q (.str (Tx t)) H'
section
variable {P : Program} {w : World} {K : PySem.W.Frag} {mg : Str → Option Value} {base : Heap} {CT CP CR CN : Addr}
abbrev sLoose : Stmt := topS 63
theorem scLoose : FnScope ["_law_pen_here", "_law_numbers", "_law_terms", "_law_k", "_law_number", "_law_part", "_law_one", "_law_text", "_law_at", "_law_row", "_law_sign"] ["_law_pen_here", "_law_numbers"] (defScope sLoose) := ⟨rfl, rfl, rfl, by decide +kernel, rfl, by decide +kernel, by decide +kernel⟩
theorem ok_loose {f : Addr} {fd : FuncData} (F : Fun K "_law_loose" "_law_loose" sLoose f fd) (T : Bk mg) (hm1 : M1 base) (henum : mg "enumerate" = none) (G__law_draw : Df P w K mg base "_law_draw" 1 ["_law_pen_here", "_law_many"] spDraw) (G__law_ratio : Df P w K mg base "_law_ratio" 3 ["_law_pen_here", "_law_most"] spRatio) (G__law_minus : Df P w K mg base "_law_minus" 3 ["_law_one", "_law_two"] (spL2 rSub)) (G__law_abs : Df P w K mg base "_law_abs" 1 ["_law_one"] spAbs) (G__law_gap : Df P w K mg base "_law_gap" 3 ["_law_pen_here"] spGap) (G__law_term : Df P w K mg base "_law_term" 4 ["_law_pen_here", "_law_k", "_law_number"] spLTerm) :
    FnOk P w K mg base CX0 5 f fd ["_law_pen_here", "_law_numbers"] spLoose := by
  refine F.ok scLoose (fun vs H Q E h => ?_) (fun cdv A outer s H vs Q E hr h => ?_)
  · obtain ⟨p, lc, l, B, qs, rfl, _⟩ := h
    rfl
  · obtain ⟨p, lc, l, B, qs, rfl, hP, hB, hRL, hl, hz, kc⟩ := h
    refine ⟨_, (pss_cons (ps_set (i := 2) scLoose.nd rfl (Or.inl rfl) (pe_lst pa_nil))
  (C8.pss_cut (ps_for PassesOwn.never rfl (pi_enum (by rfl) henum (pa_cons (pv 1) pa_nil)) (pg_tup rfl (pgs_cons (pg_name (i := 3) scLoose.nd rfl (Or.inl rfl)) (pgs_cons (pg_name (i := 4) scLoose.nd rfl (Or.inl rfl)) pgs_nil)))
    (C8.pss_cut (ps_set (i := 5) scLoose.nd rfl (Or.inl rfl) (pe_ifExp (pt_cmpR op_eq (pe_call G__law_draw.ok (hr.mono (by decide)) rfl G__law_draw.m G__law_draw.kp G__law_draw.b .nil pass0 (pa_cons (pv 0) (pa_cons pe_int pa_nil))) pe_int (nomark _)) (pe_call G__law_ratio.ok (hr.mono (by decide)) rfl G__law_ratio.m G__law_ratio.kp G__law_ratio.b .nil pass0 (pa_cons (pv 0) (pa_cons pe_int pa_nil))) (pe_tup (pa_cons pe_int (pa_cons pe_int pa_nil)))))
    (pss_one (ps_for PassesOwn.never rfl (pi_list (pe_lst (pa_cons (pe_call G__law_minus.ok (hr.mono (by decide)) rfl G__law_minus.m G__law_minus.kp G__law_minus.b .nil pass0 (pa_cons (pv 4) (pa_cons (pv 5) pa_nil))) (pa_cons (pv 5) pa_nil)))) (pg_name (i := 6) scLoose.nd rfl (Or.inl rfl))
      (pss_one (ps_if (PW.pt (pw_or (pt_cmpR op_ne (pe_ix ix_tup (pv 6) pe_int (fun _ _ => rfl)) pe_int (nomark _)) (pw_or1 (pt_cmpR op_eq (pe_call G__law_draw.ok (hr.mono (by decide)) rfl G__law_draw.m G__law_draw.kp G__law_draw.b .nil pass0 (pa_cons (pv 0) (pa_cons pe_int pa_nil))) pe_int (nomark _)))))
        (pss_one (ps_expr (pe_bm PySem.F.plainAttrs_list PySem.F.slot_list_insert PySem.F.type_list_insert mt_insert (pv 2) (pa_cons (pe_call G__law_draw.ok (hr.mono (by decide)) rfl G__law_draw.m G__law_draw.kp G__law_draw.b .nil pass0 (pa_cons (pv 0) (pa_cons (pe_op op_add (pe_callB call_len_seq (by rfl) T.len (by decide +kernel) (pa_cons (pv 2) pa_nil)) pe_int) pa_nil))) (pa_cons (pe_tup (pa_cons (pv 3) (pa_cons (pv 6) pa_nil))) pa_nil)))))
        pss_nil))))))
  (C8.pss_cut (ps_if (pt_cmpR (op_eqT hr.units hm1) (pv 2) (pe_lst pa_nil) (nomark _))
    (pss_one (ps_set (i := 2) scLoose.nd rfl (Or.inl rfl) (pe_lst (pa_cons (pe_tup (pa_cons (pe_call G__law_draw.ok (hr.mono (by decide)) rfl G__law_draw.m G__law_draw.kp G__law_draw.b .nil pass0 (pa_cons (pv 0) (pa_cons pe_int pa_nil))) (pa_cons (pe_tup (pa_cons pe_int (pa_cons pe_int pa_nil))) pa_nil))) pa_nil))))
    pss_nil)
  (pss_cons (ps_set (i := 7) scLoose.nd rfl (Or.inl rfl) (pe_call G__law_gap.ok (hr.mono (by decide)) rfl G__law_gap.m G__law_gap.kp G__law_gap.b .nil pass0 (pa_cons (pv 0) pa_nil)))
  (C8.pss_cut (ps_for PassesOwn.never rfl (pi_enum (by rfl) henum (pa_cons (pv 2) pa_nil)) (pg_tup rfl (pgs_cons (pg_name (i := 8) scLoose.nd rfl (Or.inl rfl)) (pgs_cons (pg_name (i := 9) scLoose.nd rfl (Or.inl rfl)) pgs_nil)))
    (pss_cons (ps_asg (pv 9) (pg_tup (by rfl) (pgs_cons (pg_name (i := 3) scLoose.nd rfl (Or.inl rfl)) (pgs_cons (pg_name (i := 6) scLoose.nd rfl (Or.inl rfl)) pgs_nil))))
    (C8.pss_cut (ps_set (i := 10) scLoose.nd rfl (Or.inl rfl) (pe_ifExp (PW.pt (pw_or (pt_cmpR op_lt (pe_ix ix_tup (pv 6) pe_int (fun _ _ => rfl)) pe_int (nomark _)) (pw_or1 (PW.pt (pw_and (pt_cmpR op_eq (pe_ix ix_tup (pv 6) pe_int (fun _ _ => rfl)) pe_int (nomark _)) (pw_and1 (pt_cmpR op_eq (pe_call G__law_draw.ok (hr.mono (by decide)) rfl G__law_draw.m G__law_draw.kp G__law_draw.b .nil pass0 (pa_cons (pv 0) (pa_cons pe_int pa_nil))) pe_int (nomark _)))))))) pe_str (pe_ifExp (pt_cmpR op_eq (pv 8) pe_int (nomark _)) pe_str pe_str)))
    (pss_one (ps_set (i := 7) scLoose.nd rfl (Or.inl rfl) (pe_op op_add_str (pe_op op_add_str (pe_op op_add_str (pe_op op_add_str (pv 7) (pv 10)) (pe_call G__law_gap.ok (hr.mono (by decide)) rfl G__law_gap.m G__law_gap.kp G__law_gap.b .nil pass0 (pa_cons (pv 0) pa_nil))) (pe_call G__law_term.ok (hr.mono (by decide)) rfl G__law_term.m G__law_term.kp G__law_term.b .nil pass0 (pa_cons (pv 0) (pa_cons (pv 3) (pa_cons (pe_call G__law_abs.ok (hr.mono (by decide)) rfl G__law_abs.m G__law_abs.kp G__law_abs.b .nil pass0 (pa_cons (pv 6) pa_nil)) pa_nil))))) (pe_call G__law_gap.ok (hr.mono (by decide)) rfl G__law_gap.m G__law_gap.kp G__law_gap.b .nil pass0 (pa_cons (pv 0) pa_nil))))))))
  (pss_one (ps_ret (pv 7)))))))), ?_⟩
    have lnp := hRL.ne hP
    refine ⟨(by show 0 ≤ sizeLine; decide), fun lt nlt => ?_⟩
    have elt : upd H lt (HO.lst []) lt = some (HO.lst ([] : List V)) := upd_same
    have slt : Same H (upd H lt (HO.lst [])) := same_upd nlt
    obtain ⟨ltp, ltc⟩ := hP.ne_new nlt
    generalize upd H lt (HO.lst []) = H1 at elt slt ⊢
    have hP1 := hP.same slt
    obtain ⟨as, el, tp⟩ := hRL
    have la : as.length = qs.length := by rw [tp.len, List.length_map]
    -- the terms
    refine ⟨fun σ H2 => ∃ (v3 v4 v5 v6 : Option V) (rs : List Addr) (M : List Prt), σ = [some (.ref p), some (.ref l), some (.ref lt), v3, v4, v5, v6, none, none, none, none] ∧ Pen H2 p lc (B + 200) ∧ Kp p H H2 ∧ H2 lt = some (.lst (rs.map V.ref)) ∧ PTms H2 rs M ∧ Row7 qs M qs.length 0 0, ?_, ?_⟩
    · refine ⟨_, rfl, l, _, rfl, SqL.of (slt _ _ el), for_enumL (K := K) (a := l) (xs := as.map V.ref) (fun i σ H2 => ∃ (v3 v4 v5 v6 : Option V) (rs : List Addr) (M : List Prt), σ = [some (.ref p), some (.ref l), some (.ref lt), v3, v4, v5, v6, none, none, none, none] ∧ Pen H2 p lc (B + 15 * i) ∧ Kp p H H2 ∧ H2 lt = some (.lst (rs.map V.ref)) ∧ PTms H2 rs M ∧ Row7 qs M i 0 0)
        ⟨none, none, none, none, [], [], rfl, hP1.more (by omega), Kp.of slt, elt, .nil, ⟨fun k => by rw [if_neg (by omega)]; split <;> rfl, fun k => Nat.zero_le _, (fun m hm => by cases hm), Nat.zero_le _⟩⟩ (fun i σ H2 ⟨v3, v4, v5, v6, rs, M, e, h1, h2, _⟩ => SqL.of (h2 _ _ lnp el)) ?_ ?_⟩
      · rintro i y T1 σ H2 hi ⟨v3, v4, v5, v6, rs, M, rfl, hP2, k2, e2, pt2, row⟩ nT
        rw [List.getElem?_map] at hi
        cases hai : as[i]? with
        | none => rw [hai] at hi; cases hi
        | some ai =>
          rw [hai] at hi
          cases hi
          have hi := (List.getElem?_eq_some_iff.mp hai).1
          rw [la] at hi
          obtain ⟨q0, hq0, hg0⟩ := tp.atQ hai
          have eq0 : q0 = cf qs i := (cf_get hq0).symm
          subst eq0
          have s3 : Same H2 (upd H2 T1 (.tup [.int (i : Nat), V.ref ai])) := same_upd nT
          have T1p := (hP2.ne_new nT).1
          refine ⟨T1, _, rfl, SqT.of upd_same, rfl, _, _, rfl, _, _, rfl, rfl, ?_⟩
          generalize upd H2 T1 (.tup [.int (i : Nat), V.ref ai]) = H3 at s3 ⊢
          have hP3 := hP2.same s3
          have k3 : Kp p H H3 := k2.trans (Kp.of s3)
          have aip : ai ≠ p := by
            obtain ⟨_, _, _, _, _, g1, _⟩ := hP
            exact ne_of hg0 g1.1 (by intro z; cases z)
          have hg3 : TR H3 ai (cf qs i) := k3 _ _ aip hg0
          have zi := hz i
          have hbn : Hb (2 ^ 80) (cf qs i) := ⟨Nat.le_of_lt zi.zt, by have := zi.zb; unfold S80 at this; rw [show (pq (cf qs i)).2 = ((cf qs i).den : Int) from rfl, Int.natAbs_natCast] at this; omega⟩
          have e3 := s3 _ _ e2
          have pt3 := pt2.up fun b xs z => s3 _ _ z
          -- the part
          refine ⟨fun σ H4 => ∃ (r5 : Addr) (q5 : Rat), σ = [some (.ref p), some (.ref l), some (.ref lt), some (.int (i : Int)), some (.ref ai), some (.ref r5), v6, none, none, none, none] ∧ Pen H4 p lc (B + 15 * i + 4) ∧ Kp p H3 H4 ∧ TR H4 r5 q5 ∧ Hb 495 q5, ?_, ?_⟩
          · refine ⟨_, rfl, p, lc, _, 4, rfl, hP3, by omega, by decide, by decide, fun z H4 z0 z4 hP4 k4 => ?_⟩
            refine ⟨rfl, _, rfl, ?_⟩
            by_cases hz0 : z = 0
            · rw [decide_eq_true (by rw [hz0])]
              refine iteT ?_
              refine ⟨_, rfl, p, lc, _, 5, rfl, by decide, by decide, hP4, by omega, fun r5 t5 b5 H5 hP5 k5 e5 lw5 zt5 zb5 => ?_⟩
              obtain ⟨q5, ee⟩ := low_is_pq (p := (t5, b5)) lw5
              have et : t5 = q5.num := congrArg Prod.fst ee
              have eb : b5 = (q5.den : Int) := congrArg Prod.snd ee
              refine ⟨r5, q5, rfl, hP5.more (by omega), k4.trans k5, ?_, ?_, ?_⟩
              · unfold TR
                rw [e5, et, eb]
              · rw [← et]; omega
              · rw [eb, Int.natAbs_natCast] at zb5; omega
            · rw [decide_eq_false (fun y => hz0 (V.int.inj y))]
              refine iteF ?_
              refine ⟨(by show 2 ≤ sizeLine; decide), fun t5 n5 => ?_⟩
              exact ⟨t5, 0, rfl, (hP4.same (same_upd n5)).more (by omega), k4.trans (Kp.of (same_upd n5)), upd_same, by decide, by decide⟩
          · rintro σ H4 ⟨r5, q5, rfl, hP4, k4, h5, hb5⟩
            have k04 : Kp p H H4 := k3.trans k4
            have hg4 : TR H4 ai (cf qs i) := k04 _ _ aip hg0
            have e4 := k4 _ _ ltp e3
            have tupKp : ∀ {G G' : Hp} {B' : Int}, Pen G p lc B' → Kp p G G' → ∀ b xs, G b = some (.tup xs) → G' b = some (.tup xs) := fun hG kk b xs z => by
              obtain ⟨_, _, _, _, _, g1, _⟩ := hG
              exact kk _ _ (ne_of z g1.1 (by intro z; cases z)) z
            have pt4 := pt3.up (tupKp hP3 k4)
            have sr1 : Sr (cf qs i) := ⟨Nat.lt_of_le_of_lt hbn.1 (Nat.pow_lt_pow_right (by decide) (by decide)), Nat.lt_of_le_of_lt hbn.2 (Nat.pow_lt_pow_right (by decide) (by decide))⟩
            have sr5 : Sr q5 := ⟨Nat.lt_of_le_of_lt hb5.1 (by decide +kernel), Nat.lt_of_le_of_lt hb5.2 (by decide +kernel)⟩
            have hbd : Hb (10 ^ 38) (rSub (cf qs i) q5) := by
              have h1 : Hb 495 (-q5) := ⟨by rw [Rat.neg_num, Int.natAbs_neg]; exact hb5.1, by rw [Rat.neg_den]; exact hb5.2⟩
              have := (hbn.add h1).le (show 2 * (2 ^ 80 * 495) ≤ 10 ^ 38 by decide +kernel)
              rw [← Rat.sub_eq_add_neg] at this
              exact this
            have okd : OkP (i, rSub (cf qs i) q5) := ⟨by show i ≤ 12; omega, Nat.lt_of_le_of_lt hbd.1 (by decide +kernel), Nat.lt_of_le_of_lt hbd.2 (by decide +kernel)⟩
            have ok5 : OkP (i, q5) := ⟨by show i ≤ 12; omega, Nat.lt_of_le_of_lt hb5.1 (by decide +kernel), Nat.lt_of_le_of_lt hb5.2 (by decide +kernel)⟩
            have sumq : rSub (cf qs i) q5 + q5 = cf qs i := by unfold rSub; grind
            refine ⟨_, rfl, _, rfl, ai, r5, cf qs i, q5, rfl, hg4, h5, sr1, sr5, fun r6 H5 s5 n6 h6 => ?_⟩
            refine ⟨_, rfl, (by show 2 ≤ sizeLine; decide), fun l7 n7 => ?_⟩
            have e7 : upd H5 l7 (HO.lst [V.ref r6, V.ref r5]) l7 = some (HO.lst [V.ref r6, V.ref r5]) := upd_same
            have s7 : Same H5 (upd H5 l7 (HO.lst [V.ref r6, V.ref r5])) := same_upd n7
            have hP5 := hP4.same s5
            have l7p := (hP5.ne_new n7).1
            have e5 := s5 _ _ e4
            have l7lt : l7 ≠ lt := (ne_of_none e5 n7).symm
            generalize upd H5 l7 (HO.lst [V.ref r6, V.ref r5]) = H6 at e7 s7 ⊢
            have hP6 := hP5.same s7
            have e6 := s7 _ _ e5
            have pt6 := pt4.up fun b xs z => s7 _ _ (s5 _ _ z)
            have k06 : Kp p H H6 := k04.trans (Kp.of (s5.trans s7))
            have h66 : TR H6 r6 (rSub (cf qs i) q5) := s7 _ _ h6
            have h56 : TR H6 r5 q5 := s7 _ _ (s5 _ _ h5)
            refine ⟨l7, rfl, ⟨_, SqL.of e7⟩, for_list (K := K) (a := l7) (xs := [V.ref r6, V.ref r5]) (fun j σ H7 => ∃ (v6 : Option V) (rs : List Addr) (M : List Prt), σ = [some (.ref p), some (.ref l), some (.ref lt), some (.int (i : Int)), some (.ref ai), some (.ref r5), v6, none, none, none, none] ∧ Pen H7 p lc (B + 15 * i + 4 + 3 * j) ∧ Kp p H H7 ∧ H7 l7 = some (.lst [V.ref r6, V.ref r5]) ∧ H7 lt = some (.lst (rs.map V.ref)) ∧ PTms H7 rs M ∧ TR H7 r6 (rSub (cf qs i) q5) ∧ TR H7 r5 q5 ∧ Row7 qs M i j (if j = 0 then 0 else if j = 1 then 0 + rSub (cf qs i) q5 else 0 + rSub (cf qs i) q5 + q5))
              ⟨v6, rs, M, rfl, hP6.more (by omega), k06, e7, e6, pt6, h66, h56, row⟩ (fun j σ H7 _ ⟨w6, rs', M', e, _, _, z, _⟩ => SqL.of z) ?_ ?_⟩
            · rintro j y σ H7 hj ⟨w6, rs', M', rfl, hP7, k7, e77, elt7, pt7, h67, h57, row7⟩
              -- one of the two
              obtain ⟨r8, q8, rfl, h8, ok8, ej⟩ : ∃ (r8 : Addr) (q8 : Rat), y = V.ref r8 ∧ TR H7 r8 q8 ∧ OkP (i, q8) ∧ (if j + 1 = 0 then 0 else if j + 1 = 1 then 0 + rSub (cf qs i) q5 else 0 + rSub (cf qs i) q5 + q5) = (if j = 0 then 0 else if j = 1 then 0 + rSub (cf qs i) q5 else 0 + rSub (cf qs i) q5 + q5) + q8 := by
                match j, hj with
                | 0, hj => cases hj; exact ⟨r6, _, rfl, h67, okd, rfl⟩
                | 1, hj => cases hj; exact ⟨r5, _, rfl, h57, ok5, rfl⟩
                | j + 2, hj => cases hj
              rw [ej]
              have j2 : j < 2 := (List.getElem?_eq_some_iff.mp hj).1
              have fin : ∀ (H8 : Hp) (B' : Int) (M2 : List Prt) (rs2 : List Addr) (v : Option V), Pen H8 p lc B' → B' ≤ B + 15 * i + 4 + 3 * (j + 1 : Nat) → Kp p H H8 → H8 l7 = some (.lst [V.ref r6, V.ref r5]) → H8 lt = some (.lst (rs2.map V.ref)) → PTms H8 rs2 M2 → TR H8 r6 (rSub (cf qs i) q5) → TR H8 r5 q5 → Row7 qs M2 i (j + 1) ((if j = 0 then 0 else if j = 1 then 0 + rSub (cf qs i) q5 else 0 + rSub (cf qs i) q5 + q5) + q8) →
                  ∃ (v6 : Option V) (rs : List Addr) (M : List Prt), [some (.ref p), some (.ref l), some (.ref lt), some (.int (i : Int)), some (.ref ai), some (.ref r5), v, none, none, none, none] = [some (.ref p), some (.ref l), some (.ref lt), some (.int (i : Int)), some (.ref ai), some (.ref r5), v6, none, none, none, none] ∧ Pen H8 p lc (B + 15 * i + 4 + 3 * (j + 1 : Nat)) ∧ Kp p H H8 ∧ H8 l7 = some (.lst [V.ref r6, V.ref r5]) ∧ H8 lt = some (.lst (rs.map V.ref)) ∧ PTms H8 rs M ∧ TR H8 r6 (rSub (cf qs i) q5) ∧ TR H8 r5 q5 ∧ Row7 qs M i (j + 1) ((if j = 0 then 0 else if j = 1 then 0 + rSub (cf qs i) q5 else 0 + rSub (cf qs i) q5 + q5) + q8) :=
                fun H8 B' M2 rs2 v a1 a2 a3 a4 a5 a6 a7 a8 a9 => ⟨v, rs2, M2, rfl, a1.more a2, a3, a4, a5, a6, a7, a8, a9⟩
              refine ⟨_, rfl, r8, _, _, .int q8.num, rfl, rfl, SqT.of h8, at_of (j := 0) rfl rfl, rfl, _, rfl, ?_⟩
              by_cases hn0 : q8.num = 0
              · rw [show (!decide (V.int q8.num = V.int 0)) = false from by rw [decide_eq_true (show V.int q8.num = V.int 0 from congrArg V.int hn0)]; rfl]
                refine iteF ?_
                refine ⟨_, rfl, p, lc, _, 9, rfl, hP7, by omega, by decide, by decide, fun z8 H8 z80 z89 hP8 k8 => ?_⟩
                refine ⟨rfl, _, rfl, ?_⟩
                by_cases hz8 : z8 = 0
                · rw [decide_eq_true (by rw [hz8])]
                  refine iteT ?_
                  have e8 := k8 _ _ ltp elt7
                  have l78 := k8 _ _ l7p e77
                  have pt8 := pt7.up (tupKp hP7 k8)
                  have h68 := h67.kp hP7 k8
                  have h58 := h57.kp hP7 k8
                  have h88 := h8.kp hP7 k8
                  have ml := row7.len
                  have rl := pt8.len
                  refine ⟨_, rfl, .inl ⟨rfl, _, SqL.of e8⟩, _, rfl, _, rfl, lt, _, rfl, .inl (SqL.of e8), _, _, rfl, rfl, p, lc, _, _, rfl, hP8, by omega, by omega, (by rw [List.length_map]; omega), fun z9 H9 z90 z91 hP9 k9 => ?_⟩
                  rw [List.length_map] at z91
                  refine ⟨_, rfl, _, rfl, (by show 2 ≤ sizeLine; decide), fun t9 n9 => ?_⟩
                  have et9 : upd H9 t9 (HO.tup [V.int (i : Int), V.ref r8]) t9 = some (HO.tup [V.int (i : Int), V.ref r8]) := upd_same
                  have st9 : Same H9 (upd H9 t9 (HO.tup [V.int (i : Int), V.ref r8])) := same_upd n9
                  generalize upd H9 t9 (HO.tup [V.int (i : Int), V.ref r8]) = H10 at et9 st9 ⊢
                  have e10 := st9 _ _ (k9 _ _ ltp e8)
                  have hP10 := hP9.same st9
                  have h610 : TR H10 r6 (rSub (cf qs i) q5) := st9 _ _ (h68.kp hP8 k9)
                  have h510 : TR H10 r5 q5 := st9 _ _ (h58.kp hP8 k9)
                  have h810 : TR H10 r8 q8 := st9 _ _ (h88.kp hP8 k9)
                  have pt10 := (pt8.up (tupKp hP8 k9)).up fun b xs z => st9 _ _ z
                  refine ⟨lt, _, z9, V.ref t9, rfl, rfl, e10, (by rw [List.length_map, sizeLine_eq]; omega), z90, (by omega), ?_⟩
                  have eL : (rs'.map V.ref).take z9.toNat ++ [V.ref t9] ++ (rs'.map V.ref).drop z9.toNat = (rs'.take z9.toNat ++ t9 :: rs'.drop z9.toNat).map V.ref := by
                    rw [List.map_append, List.map_cons, List.map_take, List.map_drop, List.append_assoc]
                    rfl
                  have up : ∀ c u, c ≠ lt → H10 c = some u → upd H10 lt (HO.lst ((rs'.map V.ref).take z9.toNat ++ [V.ref t9] ++ (rs'.map V.ref).drop z9.toNat)) c = some u := upd_away
                  have ne10 : ∀ b xs, H10 b = some (.tup xs) → b ≠ lt := fun b xs z => ne_of z e10 (by intro z; cases z)
                  refine fin _ (B + 15 * i + 4 + 3 * j + 2) _ (rs'.take z9.toNat ++ t9 :: rs'.drop z9.toNat) _ ((hP10.put up ltp ?_).more (by omega)) (by omega) ?_ (up _ _ l7lt (st9 _ _ (k9 _ _ l7p l78))) ?_ ((PTms.ins ⟨r8, et9, h810⟩ z9.toNat pt10).up fun b xs z => up _ _ (ne10 b xs z) z) (up _ _ (ne10 _ _ h610) h610) (up _ _ (ne10 _ _ h510) h510) (row7.ins z9.toNat ok8)
                  · exact ltc
                  · intro b o nb eb
                    have blt : b ≠ lt := ne_of_none eb nlt
                    exact up _ _ blt (st9 _ _ (k9 _ _ nb (k8 _ _ nb (k7 _ _ nb eb))))
                  · rw [upd_same, eL]
                · rw [decide_eq_false (fun y => hz8 (V.int.inj y))]
                  refine iteF ?_
                  have q80 : q8 = 0 := num_zero hn0
                  have row8 := row7.skip
                  rw [q80]
                  rw [q80] at fin
                  exact fin H8 _ M' rs' _ hP8 (by omega) (k7.trans k8) (k8 _ _ l7p e77) (k8 _ _ ltp elt7) (pt7.up (tupKp hP7 k8)) (h67.kp hP7 k8) (h57.kp hP7 k8) row8
              · rw [show (!decide (V.int q8.num = V.int 0)) = true from by rw [decide_eq_false (show ¬ V.int q8.num = V.int 0 from fun z => hn0 (V.int.inj z))]; rfl]
                refine iteT ?_
                have e8 := (Kp.refl (p := p) (H := H7)) _ _ ltp elt7
                have l78 := (Kp.refl (p := p) (H := H7)) _ _ l7p e77
                have pt8 := pt7.up (tupKp hP7 (Kp.refl (p := p) (H := H7)))
                have h68 := h67.kp hP7 (Kp.refl (p := p) (H := H7))
                have h58 := h57.kp hP7 (Kp.refl (p := p) (H := H7))
                have h88 := h8.kp hP7 (Kp.refl (p := p) (H := H7))
                have ml := row7.len
                have rl := pt8.len
                refine ⟨_, rfl, .inl ⟨rfl, _, SqL.of e8⟩, _, rfl, _, rfl, lt, _, rfl, .inl (SqL.of e8), _, _, rfl, rfl, p, lc, _, _, rfl, hP7, by omega, by omega, (by rw [List.length_map]; omega), fun z9 H9 z90 z91 hP9 k9 => ?_⟩
                rw [List.length_map] at z91
                refine ⟨_, rfl, _, rfl, (by show 2 ≤ sizeLine; decide), fun t9 n9 => ?_⟩
                have et9 : upd H9 t9 (HO.tup [V.int (i : Int), V.ref r8]) t9 = some (HO.tup [V.int (i : Int), V.ref r8]) := upd_same
                have st9 : Same H9 (upd H9 t9 (HO.tup [V.int (i : Int), V.ref r8])) := same_upd n9
                generalize upd H9 t9 (HO.tup [V.int (i : Int), V.ref r8]) = H10 at et9 st9 ⊢
                have e10 := st9 _ _ (k9 _ _ ltp e8)
                have hP10 := hP9.same st9
                have h610 : TR H10 r6 (rSub (cf qs i) q5) := st9 _ _ (h68.kp hP7 k9)
                have h510 : TR H10 r5 q5 := st9 _ _ (h58.kp hP7 k9)
                have h810 : TR H10 r8 q8 := st9 _ _ (h88.kp hP7 k9)
                have pt10 := (pt8.up (tupKp hP7 k9)).up fun b xs z => st9 _ _ z
                refine ⟨lt, _, z9, V.ref t9, rfl, rfl, e10, (by rw [List.length_map, sizeLine_eq]; omega), z90, (by omega), ?_⟩
                have eL : (rs'.map V.ref).take z9.toNat ++ [V.ref t9] ++ (rs'.map V.ref).drop z9.toNat = (rs'.take z9.toNat ++ t9 :: rs'.drop z9.toNat).map V.ref := by
                  rw [List.map_append, List.map_cons, List.map_take, List.map_drop, List.append_assoc]
                  rfl
                have up : ∀ c u, c ≠ lt → H10 c = some u → upd H10 lt (HO.lst ((rs'.map V.ref).take z9.toNat ++ [V.ref t9] ++ (rs'.map V.ref).drop z9.toNat)) c = some u := upd_away
                have ne10 : ∀ b xs, H10 b = some (.tup xs) → b ≠ lt := fun b xs z => ne_of z e10 (by intro z; cases z)
                refine fin _ (B + 15 * i + 4 + 3 * j + 2) _ (rs'.take z9.toNat ++ t9 :: rs'.drop z9.toNat) _ ((hP10.put up ltp ?_).more (by omega)) (by omega) ?_ (up _ _ l7lt (st9 _ _ (k9 _ _ l7p l78))) ?_ ((PTms.ins ⟨r8, et9, h810⟩ z9.toNat pt10).up fun b xs z => up _ _ (ne10 b xs z) z) (up _ _ (ne10 _ _ h610) h610) (up _ _ (ne10 _ _ h510) h510) (row7.ins z9.toNat ok8)
                · exact ltc
                · intro b o nb eb
                  have blt : b ≠ lt := ne_of_none eb nlt
                  exact up _ _ blt (st9 _ _ (k9 _ _ nb ((Kp.refl (p := p) (H := H7)) _ _ nb (k7 _ _ nb eb))))
                · rw [upd_same, eL]
            · rintro σ H7 ⟨w6, rs', M', rfl, hP7, k7, e77, elt7, pt7, h67, h57, row7⟩
              have row7 : Row7 qs M' i 2 (0 + rSub (cf qs i) q5 + q5) := row7
              rw [Rat.zero_add, sumq] at row7
              exact ⟨_, _, _, _, rs', M', rfl, hP7.more (by show B + 15 * i + 4 + 3 * ((2 : Nat) : Int) ≤ _; omega), k7, elt7, pt7, row7.next⟩
      · rintro σ H2 ⟨v3, v4, v5, v6, rs, M, rfl, hP2, k2, e2, pt2, row⟩
        rw [List.length_map, la] at row hP2
        exact ⟨v3, v4, v5, v6, rs, M, rfl, hP2.more (by omega), k2, e2, pt2, row⟩
    · rintro σ H2 ⟨v3, v4, v5, v6, rs, M, rfl, hP2, k2, e2, pt2, row⟩
      have cfl : ∀ k, qs.length ≤ k → cf qs k = 0 := fun k hk => cf_ge hk
      have sums : ∀ k, sumM M k = cf qs k := fun k => by
        rw [row.sum k]
        by_cases h1 : k < qs.length
        · rw [if_pos h1]
        · rw [if_neg h1, cfl k (by omega)]
          split <;> rfl
      have cnts : ∀ k, cntM M k ≤ 2 := fun k => by
        have := row.cnt k
        split at this
        · exact this
        · split at this <;> omega
      refine ⟨fun σ H3 => ∃ (v3 v4 v5 v6 : Option V) (l3 : Addr) (rs : List Addr) (M : List Prt), σ = [some (.ref p), some (.ref l), some (.ref l3), v3, v4, v5, v6, none, none, none, none] ∧ Pen H3 p lc (B + 210) ∧ Kp p H H3 ∧ l3 ≠ p ∧ H3 l3 = some (.lst (rs.map V.ref)) ∧ PTms H3 rs M ∧ (∀ k, sumM M k = cf qs k) ∧ (∀ k, cntM M k ≤ 3) ∧ (∀ m ∈ M, OkP m) ∧ M.length ≤ 30 ∧ M ≠ [], ?_, ?_⟩
      · refine ⟨_, rfl, (by show 0 ≤ sizeLine; decide), fun l0 n0 => ?_⟩
        have s0 : Same H2 (upd H2 l0 (HO.lst [])) := same_upd n0
        refine ⟨.list (M.map prtD), .list [], .lst (SqL.of (s0 _ _ e2)) (pt2.up fun b xs z => s0 _ _ z).dts, .lst (SqL.of upd_same) .nil, (by simp [PyData.plain, plain_prt]), (by simp [PyData.plain, PyData.plainAll]), (by have := depth_prt M; simp [PyData.depth]; omega), ?_⟩
        rw [eqv_nil]
        generalize upd H2 l0 (HO.lst []) = H3 at s0 ⊢
        have hP3 := hP2.same s0
        have k3 : Kp p H H3 := k2.trans (Kp.of s0)
        refine ⟨_, rfl, ?_⟩
        by_cases hM : M = []
        · rw [decide_eq_true hM]
          refine iteT ?_
          refine ⟨_, rfl, p, lc, _, 13, rfl, hP3, by omega, by decide, by decide, fun z H4 z0 z13 hP4 k4 => ?_⟩
          refine ⟨(by show 2 ≤ sizeLine; decide), fun t1 n1 => ?_⟩
          have e1 : upd H4 t1 (HO.tup [V.int 0, V.int 1]) t1 = some (HO.tup [V.int 0, V.int 1]) := upd_same
          have s1 : Same H4 (upd H4 t1 (HO.tup [V.int 0, V.int 1])) := same_upd n1
          generalize upd H4 t1 (HO.tup [V.int 0, V.int 1]) = H5 at e1 s1 ⊢
          refine ⟨(by show 2 ≤ sizeLine; decide), fun t2 n2 => ?_⟩
          have e22 : upd H5 t2 (HO.tup [V.int z, V.ref t1]) t2 = some (HO.tup [V.int z, V.ref t1]) := upd_same
          have s2 : Same H5 (upd H5 t2 (HO.tup [V.int z, V.ref t1])) := same_upd n2
          generalize upd H5 t2 (HO.tup [V.int z, V.ref t1]) = H6 at e22 s2 ⊢
          refine ⟨(by show 1 ≤ sizeLine; decide), fun l3 n3 => ?_⟩
          have e33 : upd H6 l3 (HO.lst [V.ref t2]) l3 = some (HO.lst [V.ref t2]) := upd_same
          have s3 : Same H6 (upd H6 l3 (HO.lst [V.ref t2])) := same_upd n3
          have hP6 := (hP4.same s1).same s2
          have l3p := (hP6.ne_new n3).1
          generalize upd H6 l3 (HO.lst [V.ref t2]) = H7 at e33 s3 ⊢
          have ez : z = ((z.toNat : Nat) : Int) := by omega
          refine ⟨v3, v4, v5, v6, l3, [t2], [(z.toNat, 0)], rfl, (hP6.same s3).more (by omega), k3.trans (k4.trans (Kp.of (s1.trans (s2.trans s3)))), l3p, e33, .cons ⟨t1, ?_, s3 _ _ (s2 _ _ e1)⟩ .nil, fun k => ?_, fun k => ?_, fun m hm => ?_, (by show 1 ≤ 30; decide), by intro z; cases z⟩
          · rw [← ez]
            exact s3 _ _ e22
          · have := sums k
            rw [hM] at this
            rw [← this]
            show (if z.toNat = k then (0 : Rat) else 0) + 0 = 0
            rw [Rat.add_zero]
            split <;> rfl
          · show (if z.toNat = k then 1 else 0) + 0 ≤ 3
            split <;> omega
          · rw [List.mem_singleton.mp hm]
            exact ⟨by show z.toNat ≤ 12; omega, (by show (0 : Rat).num.natAbs < 10 ^ 39; decide), (by show (0 : Rat).den < 10 ^ 39; decide)⟩
        · rw [decide_eq_false hM]
          refine iteF ?_
          exact ⟨v3, v4, v5, v6, lt, rs, M, rfl, hP3.more (by omega), k3, ltp, s0 _ _ e2, pt2.up fun b xs z => s0 _ _ z, sums, fun k => by have := cnts k; omega, row.ok, by have := row.len; omega, hM⟩
      · clear sums cnts row pt2 e2 hP2 k2 M rs
        rintro σ H3 ⟨v3, v4, v5, v6, l3, rs, M, rfl, hP3, k3, l3p, e3, pt3, sums, cnts, oks, lM, hM⟩
        have lg : ∀ g : Nat, (sp g).length = g := fun g => List.length_replicate
        have tupKp : ∀ {G G' : Hp} {B' : Int}, Pen G p lc B' → Kp p G G' → ∀ b xs, G b = some (.tup xs) → G' b = some (.tup xs) := fun hG kk b xs z => by
          obtain ⟨_, _, _, _, _, g1, _⟩ := hG
          exact kk _ _ (ne_of z g1.1 (by intro z; cases z)) z
        refine ⟨_, rfl, p, lc, _, rfl, hP3, by omega, fun g0 H4 hg0 hP4 k4 => ?_⟩
        have e4 := k4 _ _ l3p e3
        have pt4 := pt3.up (tupKp hP3 k4)
        have lrs := pt4.len
        refine ⟨fun σ H5 => ∃ (w3 w6 w8 w9 w10 : Option V) (t : List Nat) (L : List Itm), σ = [some (.ref p), some (.ref l), some (.ref l3), w3, v4, v5, w6, some (.str (Tx t)), w8, w9, w10] ∧ Pen H5 p lc (B + 2000) ∧ Kp p H4 H5 ∧ TextB t L ∧ (∀ k, sumAt L k = sumM M k) ∧ (∀ k, cntAt L k ≤ cntM M k) ∧ L.length = M.length ∧ t.length ≤ 100000, ?_, ?_⟩
        · refine ⟨_, rfl, l3, _, rfl, SqL.of e4, for_enumL (K := K) (a := l3) (xs := rs.map V.ref) (fun i σ H5 => ∃ (w3 w6 w8 w9 w10 : Option V) (t : List Nat), σ = [some (.ref p), some (.ref l), some (.ref l3), w3, v4, v5, w6, some (.str (Tx t)), w8, w9, w10] ∧ Pen H5 p lc (B + 220 + 15 * i) ∧ Kp p H4 H5 ∧ ((i = 0 ∧ t = sp g0) ∨ ∃ L, TextB t L ∧ 0 < i ∧ (∀ k, sumAt L k = sumM (M.take i) k) ∧ (∀ k, cntAt L k ≤ cntM (M.take i) k) ∧ L.length = i) ∧ t.length ≤ 3 + 220 * i)
            ⟨v3, v6, none, none, none, sp g0, rfl, hP4.more (by omega), Kp.refl, .inl ⟨rfl, rfl⟩, by rw [lg]; omega⟩ (fun i σ H5 ⟨w3, w6, w8, w9, w10, t, e, h1, h2, _⟩ => SqL.of (h2 _ _ l3p e4)) ?_ ?_⟩
          · rintro i y T1 σ H5 hi ⟨w3, w6, w8, w9, w10, t, rfl, hP5, k5, ht, lt5⟩ nT
            rw [List.getElem?_map] at hi
            cases hri : rs[i]? with
            | none => rw [hri] at hi; cases hi
            | some ri =>
              rw [hri] at hi
              cases hi
              have hi := (List.getElem?_eq_some_iff.mp hri).1
              have pt5 := pt4.up (tupKp hP4 k5)
              obtain ⟨m, hm, n, h1, h2⟩ := pt5.at hri
              obtain ⟨k12, z1, z2⟩ := oks m (List.mem_of_getElem? hm)
              have s6 : Same H5 (upd H5 T1 (.tup [.int (i : Nat), V.ref ri])) := same_upd nT
              refine ⟨T1, _, rfl, SqT.of upd_same, rfl, _, _, rfl, _, _, rfl, rfl, ?_⟩
              generalize upd H5 T1 (.tup [.int (i : Nat), V.ref ri]) = H6 at s6 ⊢
              have hP6 := hP5.same s6
              have h16 := s6 _ _ h1
              have h26 : TR H6 n m.2 := s6 _ _ h2
              have k6 : Kp p H4 H6 := k5.trans (Kp.of s6)
              refine ⟨_, rfl, ri, _, rfl, SqT.of h16, rfl, _, _, rfl, _, _, rfl, rfl, ?_⟩
              generalize hq : m.2 = q at *
              -- the sign
              refine ⟨fun σ H7 => ∃ (s : Int), σ = [some (.ref p), some (.ref l), some (.ref l3), some (.int (m.1 : Int)), v4, v5, some (.ref n), some (.str (Tx t)), some (.int (i : Int)), some (.ref ri), some (.str (Tx (if i = 0 then (if s = 1 then [] else [45]) else [if s = 1 then 43 else 45])))] ∧ ((s = 1 ∧ 0 ≤ q) ∨ (s = -1 ∧ q ≤ 0)) ∧ Pen H7 p lc (B + 220 + 15 * i + 1) ∧ Kp p H6 H7, ?_, ?_⟩
              · have minus : ∀ H7, Pen H7 p lc (B + 220 + 15 * i + 1) → Kp p H6 H7 → q ≤ 0 → ∃ (s : Int), [some (V.ref p), some (.ref l), some (.ref l3), some (.int (m.1 : Int)), v4, v5, some (.ref n), some (.str (Tx t)), some (.int (i : Int)), some (.ref ri), some (.str (Str.ofString "-"))] = [some (.ref p), some (.ref l), some (.ref l3), some (.int (m.1 : Int)), v4, v5, some (.ref n), some (.str (Tx t)), some (.int (i : Int)), some (.ref ri), some (.str (Tx (if i = 0 then (if s = 1 then [] else [45]) else [if s = 1 then 43 else 45])))] ∧ ((s = 1 ∧ 0 ≤ q) ∨ (s = -1 ∧ q ≤ 0)) ∧ Pen H7 p lc (B + 220 + 15 * i + 1) ∧ Kp p H6 H7 := fun H7 a1 a2 a3 => by
                  refine ⟨-1, ?_, .inr ⟨rfl, a3⟩, a1, a2⟩
                  rw [show (Str.ofString "-" : Str) = Tx [45] from lit_minus]
                  by_cases i0 : i = 0
                  · rw [if_pos i0]; rfl
                  · rw [if_neg i0]; rfl
                have plus : ∀ H7, Pen H7 p lc (B + 220 + 15 * i + 1) → Kp p H6 H7 → 0 ≤ q → (tIf (tTest (tOp rEq (tVar 8) (tC (V.int 0)))) (tC (V.str "")) (tC (V.str "+"))) [some (V.ref p), some (.ref l), some (.ref l3), some (.int (m.1 : Int)), v4, v5, some (.ref n), some (.str (Tx t)), some (.int (i : Int)), some (.ref ri), w10] H7 (fun v H8 => ∃ (s : Int), [some (V.ref p), some (.ref l), some (.ref l3), some (.int (m.1 : Int)), v4, v5, some (.ref n), some (.str (Tx t)), some (.int (i : Int)), some (.ref ri), some v] = [some (.ref p), some (.ref l), some (.ref l3), some (.int (m.1 : Int)), v4, v5, some (.ref n), some (.str (Tx t)), some (.int (i : Int)), some (.ref ri), some (.str (Tx (if i = 0 then (if s = 1 then [] else [45]) else [if s = 1 then 43 else 45])))] ∧ ((s = 1 ∧ 0 ≤ q) ∨ (s = -1 ∧ q ≤ 0)) ∧ Pen H8 p lc (B + 220 + 15 * i + 1) ∧ Kp p H6 H8) := fun H7 a1 a2 a3 => by
                  refine ⟨_, rfl, rfl, _, rfl, ?_⟩
                  by_cases i0 : i = 0
                  · rw [decide_eq_true (by rw [i0]; rfl)]
                    refine iteT ?_
                    refine ⟨1, ?_, .inl ⟨rfl, a3⟩, a1, a2⟩
                    rw [if_pos i0, show V.str (Str.ofString "") = V.str (Tx []) from congrArg V.str lit_empty]
                    rfl
                  · rw [decide_eq_false (fun z => i0 (by have := V.int.inj z; omega))]
                    refine iteF ?_
                    refine ⟨1, ?_, .inl ⟨rfl, a3⟩, a1, a2⟩
                    rw [if_neg i0, show V.str (Str.ofString "+") = V.str (Tx [43]) from congrArg V.str lit_plus]
                    rfl
                refine ⟨_, rfl, n, _, _, .int q.num, rfl, rfl, SqT.of h26, at_of (j := 0) rfl rfl, _, _, rfl, rfl, _, rfl, ?_⟩
                by_cases hn : q.num < 0
                · rw [decide_eq_true hn]
                  refine iteT ?_
                  have q0 : q ≤ 0 := by
                    have := (not_congr (Rat.num_nonneg (q := q))).mp (by omega)
                    grind
                  exact minus H6 (hP6.more (by omega)) Kp.refl q0
                · rw [decide_eq_false hn]
                  refine iteF ?_
                  have q0 : 0 ≤ q := Rat.num_nonneg.mp (by omega)
                  refine ⟨_, rfl, n, _, _, .int q.num, rfl, rfl, SqT.of h26, at_of (j := 0) rfl rfl, rfl, _, rfl, ?_⟩
                  by_cases hz : q.num = 0
                  · rw [decide_eq_true (by rw [hz])]
                    refine iteT ?_
                    refine ⟨_, rfl, p, lc, _, 2, rfl, hP6, by omega, by decide, by decide, fun z8 H8 z80 z89 hP8 k8 => ?_⟩
                    refine ⟨rfl, _, rfl, ?_⟩
                    by_cases hz8 : z8 = 0
                    · rw [decide_eq_true (by rw [hz8])]
                      refine iteT ?_
                      exact minus H8 hP8 k8 (by rw [num_zero hz]; exact Rat.le_refl)
                    · rw [decide_eq_false (fun y => hz8 (V.int.inj y))]
                      refine iteF ?_
                      exact plus H8 hP8 k8 q0
                  · rw [decide_eq_false (fun z => hz (V.int.inj z))]
                    refine iteF ?_
                    refine iteF ?_
                    exact plus H6 (hP6.more (by omega)) Kp.refl q0
              · rintro σ H7 ⟨s, rfl, hs, hP7, k7⟩
                generalize hS : (if i = 0 then (if s = 1 then [] else [45]) else [if s = 1 then 43 else 45] : List Nat) = S at *
                have lS : S.length ≤ 1 := by
                  rw [← hS]
                  split
                  · split <;> decide
                  · exact Nat.le_refl _
                have h27 : TR H7 n q := h26.kp hP6 k7
                have hs' : s = 1 ∨ s = -1 := by rcases hs with ⟨h, _⟩ | ⟨h, _⟩; exact .inl h; exact .inr h
                refine ⟨_, rfl, _, rfl, _, _, rfl, rfl, (by rw [tx_len, tx_len, sizeLine_eq]; omega), ?_⟩
                rw [tx_app]
                refine ⟨_, rfl, p, lc, _, rfl, hP7, by omega, fun g1 H8 hg1 hP8 k8 => ?_⟩
                refine ⟨_, _, rfl, rfl, (by rw [tx_len, tx_len, List.length_append, lg, sizeLine_eq]; omega), ?_⟩
                rw [tx_app]
                have h28 : TR H8 n q := h27.kp hP7 k8
                have apq := absQ_pq q
                have an : (absQ q).num = ((q.num.natAbs : Nat) : Int) := congrArg Prod.fst apq
                have ad : ((absQ q).den : Int) = (q.den : Int) := congrArg Prod.snd apq
                refine ⟨_, rfl, _, rfl, _, rfl, n, q, rfl, h28, fun r9 H9 s9 n9 h9 => ?_⟩
                have hP9 := hP8.same s9
                have r9p : r9 ≠ p := (hP8.ne_new n9).1
                refine ⟨p, lc, r9, _, m.1, absQ q, rfl, hP9, by omega, h9, r9p, by rw [an]; omega, by rw [an, Int.natAbs_natCast]; exact z1, by omega, k12, fun b x y H10 hP10 k10 hTB hv lb => ?_⟩
                refine ⟨_, _, rfl, rfl, (by rw [tx_len, tx_len, List.length_append, List.length_append, lg, sizeLine_eq]; omega), ?_⟩
                rw [tx_app]
                refine ⟨_, rfl, p, lc, _, rfl, hP10, by omega, fun g2 H11 hg2 hP11 k11 => ?_⟩
                refine ⟨_, _, rfl, rfl, (by rw [tx_len, tx_len, List.length_append, List.length_append, List.length_append, lg, lg, sizeLine_eq]; omega), ?_⟩
                rw [tx_app]
                have k711 : Kp p H4 H11 := k6.trans (k7.trans (k8.trans ((Kp.of s9).trans (k10.trans k11))))
                have lT : (t ++ S ++ sp g1 ++ b ++ sp g2).length ≤ 3 + 220 * (i + 1) := by
                  simp only [List.length_append, lg]
                  omega
                have iv : ival (s, x, y, m.1) = q := ival_of hv hs
                have tkS : ∀ k, sumM (M.take (i + 1)) k = sumM (M.take i) k + (if m.1 = k then q else 0) := fun k => by
                  rw [List.take_succ, hm, ← hq]
                  show sumM (M.take i ++ [m]) k = _
                  rw [sumM_app]
                  show _ + ((if m.1 = k then m.2 else 0) + 0) = _
                  rw [Rat.add_zero]
                have tkC : ∀ k, cntM (M.take (i + 1)) k = cntM (M.take i) k + (if m.1 = k then 1 else 0) := fun k => by
                  rw [List.take_succ, hm]
                  show cntM (M.take i ++ [m]) k = _
                  rw [cntM_app]
                  rfl
                have oneS : ∀ k, sumAt [(s, x, y, m.1)] k = if m.1 = k then q else 0 := fun k => by rw [sumAt_one, iv]
                refine ⟨_, _, _, _, _, t ++ S ++ sp g1 ++ b ++ sp g2, rfl, hP11.more (by omega), k711, .inr ?_, lT⟩
                rcases ht with ⟨i0, et⟩ | ⟨L, hL, i0, hLs, hLc, hLl⟩
                · subst i0
                  rw [if_pos rfl] at hS
                  refine ⟨[(s, x, y, m.1)], ?_, by omega, fun k => ?_, fun k => ?_, rfl⟩
                  · have := TextB.mk s g0 g1 g2 hs' hTB .nil
                    rw [et, ← hS]
                    have e : sp g0 ++ (if s = 1 then [] else [45]) ++ sp g1 ++ b ++ sp g2 = sp g0 ++ ((if s = 1 then [] else [45]) ++ (sp g1 ++ (b ++ (sp g2 ++ [])))) := by simp
                    rw [e]
                    exact this
                  · rw [tkS, oneS, List.take_zero]
                    show _ = 0 + _
                    rw [Rat.zero_add]
                  · rw [tkC, List.take_zero]
                    show (if m.1 = k then 1 else 0) + 0 ≤ 0 + _
                    omega
                · rw [if_neg (by omega)] at hS
                  refine ⟨L ++ [(s, x, y, m.1)], ?_, by omega, fun k => ?_, fun k => ?_, by rw [List.length_append, hLl]; rfl⟩
                  · have := hL.snoc s 0 g1 g2 hs' hTB
                    rw [← hS]
                    have e : t ++ [if s = 1 then 43 else 45] ++ sp g1 ++ b ++ sp g2 = t ++ (sp 0 ++ ((if s = 1 then 43 else 45) :: (sp g1 ++ (b ++ (sp g2 ++ []))))) := by simp [sp]
                    rw [e]
                    exact this
                  · rw [sumAt_app, hLs, tkS, oneS]
                  · rw [cntAt_app, tkC]
                    have := hLc k
                    have e : cntAt [(s, x, y, m.1)] k = if m.1 = k then 1 else 0 := rfl
                    rw [e]
                    omega
          · rintro σ H5 ⟨w3, w6, w8, w9, w10, t, rfl, hP5, k5, ht, lt5⟩
            rw [List.length_map] at ht lt5 hP5
            have lM0 : 0 < M.length := List.length_pos_iff.mpr hM
            rcases ht with ⟨i0, et⟩ | ⟨L, hL, i0, hLs, hLc, hLl⟩
            · omega
            · rw [lrs, List.take_length] at hLs hLc
              exact ⟨w3, w6, w8, w9, w10, t, L, rfl, hP5.more (by omega), k5, hL, hLs, hLc, by omega, by omega⟩
        · rintro σ H5 ⟨w3, w6, w8, w9, w10, t, L, rfl, hP5, k5, hL, hLs, hLc, hLl, lt5⟩
          refine ⟨_, rfl, ?_⟩
          exact kc t L H5 hP5 (k3.trans (k4.trans k5)) hL lt5 (by omega) (fun k => by have := hLc k; have := cnts k; omega) (fun k => by rw [hLs, sums])
end

end Vf

set_option maxRecDepth 100000
set_option maxHeartbeats 8000000
namespace Vf
open PySem PySem.Spec PyProof.Rows L2
/-! ### the law -/
theorem par_two {ta tb : TE} {i j : Nat} {rest : TS} {D : Ends} {σ : L2.St} {H : Hp} (h : ta σ H fun v H1 => tb σ H1 fun w H2 => rest D ((σ.set i (some v)).set j (some w)) H2) : tSeq (tPar i j (tCons ta (tCons tb tNil))) rest D σ H := par_one (D := { D with nx := rest D }) h
theorem gn_par_two {ta tb : TE} {n i j : Nat} {v : V} {rest : TS} {D : Ends} {σ : L2.St} {H : Hp} (h : ta (σ.set n (some v)) H fun v1 H1 => tb (σ.set n (some v)) H1 fun w H2 => rest D (((σ.set n (some v)).set i (some v1)).set j (some w)) H2) : gName n v σ H { D with nx := tSeq (tPar i j (tCons ta (tCons tb tNil))) rest D }.nx := par_two h
theorem text_zero : TextB [48] [(1, 0, 1, 0)] ∧ TextB [45, 48] [(-1, 0, 1, 0)] := by
  have hB : TermB [48] 0 1 0 := by
    have := TermB.num (NumB.one (n := 0) (by decide))
    rw [digs_zero] at this
    exact this
  exact ⟨TextB.one 1 (.inl rfl) hB, TextB.one (-1) (.inr rfl) hB⟩
theorem sum_zero (s : Int) (k : Nat) : sumAt [(s, 0, 1, 0)] k = 0 := by
  rw [sumAt_one]
  split
  · show Rat.divInt (((0 : Nat) : Int) * s) _ = 0
    rw [show ((0 : Nat) : Int) * s = 0 by omega]
    exact Rat.zero_divInt _
  · rfl
theorem cnt_one (it : Itm) (k : Nat) : cntAt [it] k ≤ 10 := by
  show (if it.2.2.2 = k then 1 else 0) + 0 ≤ 10
  split <;> omega
/-- a text that is due, read back -/
theorem due_read {qs : List Rat} (hz : Z40 qs) (hl : qs.length ≤ 13) (hs : stripQ qs = qs) : ∃ L, TextB (finT (dueN qs qs.length)) L ∧ L.length ≤ 1000 ∧ (∀ k, cntAt L k ≤ 10) ∧ ∀ k, sumAt L k = cf qs k := by
  rcases due_of hz qs.length hl with ⟨h1, h2⟩ | ⟨L, h⟩
  · refine ⟨[(1, 0, 1, 0)], ?_, by decide, cnt_one _, fun k => ?_⟩
    · unfold finT
      rw [if_pos h1]
      exact text_zero.1
    · rw [sum_zero]
      by_cases hk : k < qs.length
      · exact (h2 k hk).symm
      · exact (cf_ge (by omega)).symm
  · refine ⟨L, ?_, by have := h.len; omega, fun k => ?_, fun k => ?_⟩
    · unfold finT
      rw [if_neg h.text.ne]
      exact h.text
    · have := h.cnt k
      split at this <;> omega
    · rw [h.sum k]
      split
      · rfl
      · exact (cf_ge (by omega)).symm
theorem read_eq {qs ps : List Rat} {L : List Itm} (hl : qs.length ≤ 13) (hs : stripQ qs = qs) (l13 : ps.length = 13) (h : ∀ k, k < 13 → cf ps k = sumAt L k) (e : ∀ k, sumAt L k = cf qs k) : stripQ ps = qs := by
  rw [← hs]
  refine stripQ_ext fun k => ?_
  by_cases hk : k < 13
  · rw [h k hk, e]
  · rw [cf_ge (by omega), cf_ge (by omega)]
theorem ratok_z40 {qs : List Rat} (h : ∀ k, RatOk (pq (cf qs k))) : Z40 qs := fun k => by
  have z1 := (h k).zt
  have z2 := (h k).zb
  unfold S80 at z1 z2
  refine ⟨Nat.lt_trans z1 (by decide +kernel), ?_⟩
  rw [show (pq (cf qs k)).2 = ((cf qs k).den : Int) from rfl, Int.natAbs_natCast] at z2
  exact Nat.lt_trans z2 (by decide +kernel)
def hi12 : List Rat := List.replicate 12 0 ++ [1]
def hi12D : List PyData := List.replicate 12 (PyData.int 0) ++ [.int 1]
theorem hi12_text : finT (dueN hi12 13) = [120, 94, 49, 50] := by decide +kernel
theorem hi12_z : Z40 hi12 := fun k => by
  by_cases hk : k < 13
  · have : ∀ j : Fin 13, (cf hi12 j.val).num.natAbs < 10 ^ 40 ∧ (cf hi12 j.val).den < 10 ^ 40 := by decide +kernel
    exact this ⟨k, hk⟩
  · rw [cf_ge (show hi12.length ≤ k by show 13 ≤ k; omega)]
    exact ⟨by decide, by decide⟩
theorem hi12_row : rowD (.tuple hi12D) = some (hi12.map pq) := by rfl
theorem hi12_strip : strip ((hi12.map pq).map lowP) = (stripQ hi12).map pq := by rw [low_pqs, strip_map]
theorem hi12_id : stripQ hi12 = hi12 := by
  show stripQ (List.replicate 12 0 ++ [1]) = _
  rw [stripQ_snoc, if_neg (by decide)]
  rfl
def spLaw0 (K : PySem.W.Frag) : Sp := fun vs H Q _ => ∃ (a : Addr) (ns : List Int), vs = [.ref a] ∧ SqL K H a (ns.map V.int) ∧ ns.length ≤ 63 ∧ ∀ H', Q (.bl true) H'
def nLaw : List Str := ["_law_script", "_law_pen_here", "_law_lap", "_law_numbers", "_law_k", "_law_some", "_law_made", "_law_due_here"]
abbrev sLaw : Stmt := topS 64
theorem scLaw : FnScope ["_law_script", "_law_pen_here", "_law_lap", "_law_numbers", "_law_k", "_law_some", "_law_made", "_law_due_here"] ["_law_script"] (defScope sLaw) := ⟨rfl, rfl, rfl, by decide +kernel, rfl, by decide +kernel, by decide +kernel⟩
section
variable {P : Program} {w : World} {K : PySem.W.Frag} {mg : Str → Option Value} {base : Heap} {CP CR : Addr}
theorem ok_law {f : Addr} {fd : FuncData} (F : Fun K "law" "law" sLaw f fd) (T : Bk mg) (hm1 : M1 base) (PM : PoM P w K mg base CP CR)
    (G__law_pen : Df P w K mg base "_law_pen" 1 ["_law_script"] (spPen K)) (G__law_draw : Df P w K mg base "_law_draw" 1 ["_law_pen_here", "_law_many"] spDraw) (G__law_pick : Df P w K mg base "_law_pick" 2 ["_law_pen_here", "_law_some"] spPick)
    (G__law_ratio : Df P w K mg base "_law_ratio" 3 ["_law_pen_here", "_law_most"] spRatio) (G__law_some_ratio : Df P w K mg base "_law_some_ratio" 4 ["_law_pen_here"] spSome) (G__law_poly : Df P w K mg base "_law_poly" 1 ["_law_numbers"] (spLPoly K)) (G__law_made_poly : Df P w K mg base "_law_made_poly" 7 ["_law_pen_here", "_law_one"] (spMade K CP))
    (G__law_due : Df P w K mg base "_law_due" 2 ["_law_numbers"] spLDue) (G__law_loose : Df P w K mg base "_law_loose" 5 ["_law_pen_here", "_law_numbers"] spLoose) (G_poly_text : Dx P w K mg base "poly_text" 7 ["poly"] (spPText K CP)) (G_poly_of : Dx P w K mg base "poly_of" 8 ["text"] (spPO7 K CP)) : FnG P w K mg base CX0 10 f fd ["_law_script"] (spLaw0 K) := by
  refine fnG_of0 F scLaw (fun vs H Q E h => ?_) (fun cdv A outer s H0 vs Q E hgu hr hcd h => ?_)
  · obtain ⟨a, ns, rfl, _⟩ := h
    rfl
  · obtain ⟨a, ns, rfl, hS, hns, kend⟩ := h
    have hu64 := hr.units
    refine ⟨_, (pss_cons (ps_set (i := 1) scLaw.nd rfl (Or.inl rfl) (pe_call G__law_pen.ok (hr.mono (by decide)) rfl G__law_pen.m G__law_pen.kp G__law_pen.b .nil pass0 (pa_cons (pv 0) pa_nil)))
  (pss_cons (ps_for PassesOwn.never rfl (pi_range1 (by rfl) T.range (pa_cons pe_int pa_nil)) (pg_name (i := 2) scLaw.nd rfl (Or.inl rfl))
    (pss_cons (ps_set (i := 3) scLaw.nd rfl (Or.inl rfl) (pe_lst pa_nil))
    (C8.pss_cut (ps_for PassesOwn.never rfl (pi_range1 (by rfl) T.range (pa_cons (pe_call G__law_draw.ok (hr.mono (by decide)) rfl G__law_draw.m G__law_draw.kp G__law_draw.b .nil pass0 (pa_cons (pv 1) (pa_cons pe_int pa_nil))) pa_nil)) (pg_name (i := 4) scLaw.nd rfl (Or.inl rfl))
      (pss_cons (ps_set (i := 5) scLaw.nd rfl (Or.inl rfl) (pe_lst (pa_cons (pe_tup (pa_cons pe_int (pa_cons pe_int pa_nil))) (pa_cons (pe_tup (pa_cons pe_int (pa_cons pe_int pa_nil))) (pa_cons (pe_tup (pa_cons (pe_un un_neg pe_int) (pa_cons pe_int pa_nil))) (pa_cons (pe_call G__law_ratio.ok (hr.mono (by decide)) rfl G__law_ratio.m G__law_ratio.kp G__law_ratio.b .nil pass0 (pa_cons (pv 1) (pa_cons pe_int pa_nil))) (pa_cons (pe_call G__law_some_ratio.ok (hr.mono (by decide)) rfl G__law_some_ratio.m G__law_some_ratio.kp G__law_some_ratio.b .nil pass0 (pa_cons (pv 1) pa_nil)) pa_nil)))))))
      (pss_one (ps_expr (pe_bm PySem.F.plainAttrs_list PySem.F.slot_list_append PySem.F.type_list_append mt_append (pv 3) (pa_cons (pe_call G__law_pick.ok (hr.mono (by decide)) rfl G__law_pick.m G__law_pick.kp G__law_pick.b .nil pass0 (pa_cons (pv 1) (pa_cons (pv 5) pa_nil))) pa_nil))))))
    (pss_cons (ps_set (i := 3) scLaw.nd rfl (Or.inl rfl) (pe_call G__law_poly.ok (hr.mono (by decide)) rfl G__law_poly.m G__law_poly.kp G__law_poly.b .nil pass0 (pa_cons (pe_slice sl_list (pv 3) po_none (po_some pe_int)) pa_nil)))
    (pss_cons (ps_par (i := 6) (j := 7) (by rfl) scLaw.nd rfl rfl (by decide) rfl rfl (pa_cons (pe_call G__law_made_poly.ok (hr.mono (by decide)) rfl G__law_made_poly.m G__law_made_poly.kp G__law_made_poly.b .nil pass0 (pa_cons (pv 1) (pa_cons (pv 3) pa_nil))) (pa_cons (pe_call G__law_due.ok (hr.mono (by decide)) rfl G__law_due.m G__law_due.kp G__law_due.b .nil pass0 (pa_cons (pv 3) pa_nil)) pa_nil)) (by rfl))
    (pss_cons (ps_if (PW.pt (pw_or (pt_cmpR op_ne (pe_call G_poly_text.ok (hr.mono (by decide)) rfl G_poly_text.m G_poly_text.kp G_poly_text.b .nil passL (pa_cons (pv 6) pa_nil)) (pv 7) (nomark _)) (pw_or1 (pt_not (pt_cmpR (op_eqO PM.aE PM.nE PM.okE PM.bE (hr.mono (by decide)) pass0) (pe_call G_poly_of.ok (hr.mono (by decide)) rfl G_poly_of.m G_poly_of.kp G_poly_of.b .nil passL (pa_cons (pv 7) pa_nil)) (pv 6) (nomark _))))))
      (pss_one (ps_ret pe_bl))
      pss_nil)
    (pss_one (ps_if (pt_cmpR (op_neT hu64 hm1) (pe_fld (pe_call G_poly_of.ok (hr.mono (by decide)) rfl G_poly_of.m G_poly_of.kp G_poly_of.b .nil passL (pa_cons (pe_call G__law_loose.ok (hr.mono (by decide)) rfl G__law_loose.m G__law_loose.kp G__law_loose.b .nil pass0 (pa_cons (pv 1) (pa_cons (pv 3) pa_nil))) pa_nil)) rfl) (pe_callTy call_tuple_of (by rfl) T.tuple (by decide +kernel) (pa_cons (pv 3) pa_nil)) (nomark _))
      (pss_one (ps_ret pe_bl))
      pss_nil))))))))
  (pss_one (ps_ret (pe_and (pe_cmpR op_eq (pe_call G_poly_text.ok (hr.mono (by decide)) rfl G_poly_text.m G_poly_text.kp G_poly_text.b .nil passL (pa_cons (pe_make PM.mkI PM.okI (hr.mono (by decide)) rfl PM.C.m PM.bI .nil passL (pa_cons (pe_tup pa_nil) pa_nil)) pa_nil)) pe_str (nomark _)) (pe_and (pe_cmpR (op_eqT hu64 hm1) (pe_fld (pe_call G_poly_of.ok (hr.mono (by decide)) rfl G_poly_of.m G_poly_of.kp G_poly_of.b .nil passL (pa_cons pe_str pa_nil)) rfl) (pe_tup pa_nil) (nomark _)) (pe_one (pe_cmpR op_eq (pe_call G_poly_text.ok (hr.mono (by decide)) rfl G_poly_text.m G_poly_text.kp G_poly_text.b .nil passL (pa_cons (pe_make PM.mkI PM.okI (hr.mono (by decide)) rfl PM.C.m PM.bI .nil passL (pa_cons (pe_op op_catA (pe_op op_repA (pe_tup (pa_cons pe_int pa_nil)) pe_int) (pe_tup (pa_cons pe_int pa_nil))) pa_nil)) pa_nil)) pe_str (nomark _))))))))), ?_⟩
    refine ⟨_, rfl, a, ns, rfl, hS, hns, fun p lc H1 s1 np nlc hP => ?_⟩
    refine ⟨5, rfl, by decide, by decide, for_range (lo := 0) (n := 5) (fun i σ H => ∃ v2 v3 v4 v5 v6 v7 : Option V, σ = [some (.ref a), some (.ref p), v2, v3, v4, v5, v6, v7] ∧ Pen H p lc (5000 * i)) ⟨none, none, none, none, none, none, rfl, hP.more (by decide)⟩ ?_ ?_⟩
    · rintro i σ H ih ⟨v2, v3, v4, v5, v6, v7, rfl, hP0⟩
      refine ⟨(by show 0 ≤ sizeLine; decide), fun ln nln => ?_⟩
      have eln : upd H ln (HO.lst []) ln = some (HO.lst []) := upd_same
      have sln : Same H (upd H ln (HO.lst [])) := same_upd nln
      obtain ⟨lnp, lnc⟩ := hP0.ne_new nln
      generalize upd H ln (HO.lst []) = H2 at eln sln ⊢
      have hP2 := hP0.same sln
      refine ⟨fun σ H => ∃ (v4 v5 : Option V) (as : List Addr) (qs : List Rat), σ = [some (.ref a), some (.ref p), some (.int (0 + (i : Int))), some (.ref ln), v4, v5, v6, v7] ∧ Pen H p lc (5000 * i + 600) ∧ H ln = some (.lst (as.map V.ref)) ∧ Tups H as (qs.map pq) ∧ (∀ q ∈ qs, RatOk (pq q)) ∧ as.length ≤ 13, ?_, ?_⟩
      · refine ⟨_, rfl, p, lc, _, 14, rfl, hP2, by omega, by decide, by decide, fun z H3 z0 z1 hP3 k3 => ?_⟩
        have eln3 := k3 _ _ lnp eln
        refine ⟨_, rfl, by omega, by omega, for_range (lo := 0) (n := z.toNat) (fun j σ H => ∃ (v4 v5 : Option V) (as : List Addr) (qs : List Rat), σ = [some (.ref a), some (.ref p), some (.int (0 + (i : Int))), some (.ref ln), v4, v5, v6, v7] ∧ Pen H p lc (5000 * i + 1 + 30 * j) ∧ H ln = some (.lst (as.map V.ref)) ∧ Tups H as (qs.map pq) ∧ (∀ q ∈ qs, RatOk (pq q)) ∧ as.length = j)
          ⟨_, _, [], [], rfl, hP3.more (by omega), eln3, .nil, (fun q h => by cases h), rfl⟩ ?_ ?_⟩
        · rintro j σ H jz ⟨w4, w5, as, qs, rfl, hP4, e4, t4, ok4, len4⟩
          refine ⟨(by show 2 ≤ sizeLine; decide), fun a1 n1 => ?_⟩
          have f1 : upd H a1 (HO.tup [V.int 0, V.int 1]) a1 = some (HO.tup [V.int 0, V.int 1]) := upd_same
          have t1 : Same H (upd H a1 (HO.tup [V.int 0, V.int 1])) := same_upd n1
          have p1 := (hP4.ne_new n1).1
          generalize upd H a1 (HO.tup [V.int 0, V.int 1]) = G1 at f1 t1 ⊢
          have hP5 := hP4.same t1
          refine ⟨(by show 2 ≤ sizeLine; decide), fun a2 n2 => ?_⟩
          have f2 : upd G1 a2 (HO.tup [V.int 1, V.int 1]) a2 = some (HO.tup [V.int 1, V.int 1]) := upd_same
          have t2 : Same G1 (upd G1 a2 (HO.tup [V.int 1, V.int 1])) := same_upd n2
          have p2 := (hP5.ne_new n2).1
          generalize upd G1 a2 (HO.tup [V.int 1, V.int 1]) = G2 at f2 t2 ⊢
          have hP6 := hP5.same t2
          refine ⟨_, rfl, (by show 2 ≤ sizeLine; decide), fun a3 n3 => ?_⟩
          have f3 : upd G2 a3 (HO.tup [V.int (-1), V.int 1]) a3 = some (HO.tup [V.int (-1), V.int 1]) := upd_same
          have t3 : Same G2 (upd G2 a3 (HO.tup [V.int (-1), V.int 1])) := same_upd n3
          have p3 := (hP6.ne_new n3).1
          generalize upd G2 a3 (HO.tup [V.int (-1), V.int 1]) = G3 at f3 t3 ⊢
          have hP7 := hP6.same t3
          refine ⟨_, rfl, p, lc, _, 9, rfl, by decide, by decide, hP7, by omega, fun a5 u5 b5 G5 hP8 k5 f5 lw5 zt5 zb5 => ?_⟩
          refine ⟨_, rfl, p, lc, _, rfl, hP8, by omega, fun a6 u6 b6 G6 hP9 k6 n6 f6 lw6 zt6 zb6 => ?_⟩
          obtain ⟨_, _, _, _, _, gp5, _⟩ := id hP8
          obtain ⟨_, _, _, _, _, gp6, _⟩ := id hP9
          have p5 : a5 ≠ p := ne_of f5 gp5.1 (by intro z; cases z)
          have p6 : a6 ≠ p := ne_of f6 gp6.1 (by intro z; cases z)
          refine ⟨(by show 5 ≤ sizeLine; decide), fun l7 n7 => ?_⟩
          have f7 : upd G6 l7 (HO.lst [V.ref a1, V.ref a2, V.ref a3, V.ref a5, V.ref a6]) l7 = some (HO.lst [V.ref a1, V.ref a2, V.ref a3, V.ref a5, V.ref a6]) := upd_same
          have t7 : Same G6 (upd G6 l7 (HO.lst [V.ref a1, V.ref a2, V.ref a3, V.ref a5, V.ref a6])) := same_upd n7
          have p7 := (hP9.ne_new n7).1
          generalize upd G6 l7 (HO.lst [V.ref a1, V.ref a2, V.ref a3, V.ref a5, V.ref a6]) = G7 at f7 t7 ⊢
          have hP10 := hP9.same t7
          have e7 : G7 ln = some (.lst (as.map V.ref)) := t7 _ _ (k6 _ _ lnp (k5 _ _ lnp (t3 _ _ (t2 _ _ (t1 _ _ e4)))))
          refine ⟨_, rfl, .inl ⟨rfl, _, SqL.of e7⟩, _, rfl, _, rfl, p, lc, l7, _, _, rfl, hP10, by omega, f7, p7, (by show 0 < 5; decide), (by show 5 < 1000000; decide), fun x G8 hx hP11 k8 => ?_⟩
          have lt18 : (10 : Nat) ^ 18 < 2 ^ 80 := by decide +kernel
          have up : ∀ (b : Addr) o, b ≠ p → G3 b = some o → G8 b = some o := fun b o hb e => k8 _ _ hb (t7 _ _ (k6 _ _ hb (k5 _ _ hb e)))
          have ok1 : ∀ n : Int, n.natAbs ≤ 1 → RatOk (pq (n : Rat)) := fun n hn => ⟨pq_low _, (by show ((n : Rat).num).natAbs < 2 ^ 80; rw [Rat.num_intCast]; exact Nat.lt_of_le_of_lt hn (by decide +kernel)), (by show (((n : Rat).den : Nat) : Int).natAbs < 2 ^ 80; rw [Rat.den_intCast]; decide +kernel)⟩
          obtain ⟨r, q, rfl, er, okr⟩ : ∃ r q, x = V.ref r ∧ TR G8 r q ∧ RatOk (pq q) := by
            simp only [List.mem_cons, List.not_mem_nil, or_false] at hx
            rcases hx with h | h | h | h | h
            · exact ⟨a1, ((0 : Int) : Rat), h, up _ _ p1 (t3 _ _ (t2 _ _ f1)), ok1 0 (by decide)⟩
            · exact ⟨a2, ((1 : Int) : Rat), h, up _ _ p2 (t3 _ _ f2), ok1 1 (by decide)⟩
            · exact ⟨a3, ((-1 : Int) : Rat), h, up _ _ p3 f3, ok1 (-1) (by decide)⟩
            · obtain ⟨q5, ee⟩ := low_is_pq (p := (u5, b5)) lw5
              refine ⟨a5, q5, h, ?_, ?_⟩
              · have et : u5 = q5.num := congrArg Prod.fst ee
                have eb : b5 = (q5.den : Int) := congrArg Prod.snd ee
                rw [et, eb] at f5
                exact k8 _ _ p5 (t7 _ _ (k6 _ _ p5 f5))
              · rw [← ee]
                exact ⟨lw5, Nat.lt_of_le_of_lt (show u5.natAbs ≤ 891 by omega) (by decide +kernel), Nat.lt_of_le_of_lt zb5 (by decide +kernel)⟩
            · obtain ⟨q6, ee⟩ := low_is_pq (p := (u6, b6)) lw6
              refine ⟨a6, q6, h, ?_, ?_⟩
              · have et : u6 = q6.num := congrArg Prod.fst ee
                have eb : b6 = (q6.den : Int) := congrArg Prod.snd ee
                rw [et, eb] at f6
                exact k8 _ _ p6 (t7 _ _ f6)
              · rw [← ee]
                exact ⟨lw6, zt6, zb6⟩
          have e9 : G8 ln = some (.lst (as.map V.ref)) := k8 _ _ lnp e7
          have t9 : Tups G8 as (qs.map pq) := ((((((t4.same t1).same t2).same t3).kp hP7 k5).kp hP8 k6).same t7).kp hP10 k8
          refine ⟨ln, _, _, rfl, rfl, e9, (by rw [List.length_map, sizeLine_eq]; omega), ?_⟩
          refine ⟨_, _, as ++ [r], qs ++ [q], rfl, (hP11.put upd_away lnp lnc).more (by omega), ?_, ?_, ?_, ?_⟩
          · rw [upd_same, List.map_append]
            rfl
          · exact Tups.snocQ (t9.lst e9 upd_away) (upd_away _ _ (ne_of er e9 (by intro z; cases z)) er)
          · intro y hy
            rcases List.mem_append.mp hy with h | h
            · exact ok4 y h
            · rw [List.mem_singleton.mp h]; exact okr
          · rw [List.length_append, len4]
            rfl
        · rintro σ H ⟨w4, w5, as, qs, rfl, hP4, e4, t4, ok4, len4⟩
          exact ⟨w4, w5, as, qs, rfl, hP4.more (by omega), e4, t4, ok4, by omega⟩
      · clear eln sln hP2 H2
        rintro σ H2 ⟨w4, w5, as, qs, rfl, hP2, e2, t2, ok2, las⟩
        -- the row
        have ec : cutV (as.map V.ref) none (some 13) = (as.take 13).map V.ref := by
          rw [List.map_take]
          exact cut_to _ 13
        refine ⟨_, rfl, _, rfl, ln, _, rfl, SqL.of e2, fun ls nls => ?_⟩
        have els : upd H2 ls (HO.lst (cutV (as.map V.ref) none (some 13))) ls = some (HO.lst ((as.take 13).map V.ref)) := by rw [upd_same, ec]
        have sls : Same H2 (upd H2 ls (HO.lst (cutV (as.map V.ref) none (some 13)))) := same_upd nls
        generalize upd H2 ls (HO.lst (cutV (as.map V.ref) none (some 13))) = H3 at els sls ⊢
        have tk : as.take 13 = as := List.take_of_length_le las
        rw [tk] at els
        refine ⟨ls, as, qs.map pq, rfl, SqL.of els, t2.same sls, by omega, fun l as' H4 s4 n4 el t4' => ?_⟩
        rw [strip_map] at t4'
        have hP4 := (hP2.same sls).same s4
        generalize hqs : stripQ qs = qs2 at t4'
        have lq : qs2.length ≤ 13 := by
          have := stripQ_len qs
          rw [hqs] at this
          have z := t2.len
          rw [List.length_map] at z
          omega
        have hs : stripQ qs2 = qs2 := by rw [← hqs]; exact stripQ_id (stripQ_stp qs)
        have ok0 : RatOk (pq (0 : Rat)) := ⟨pq_low 0, by show (0 : Nat) < 2 ^ 80; decide +kernel, by show (1 : Nat) < 2 ^ 80; decide +kernel⟩
        have okq : ∀ k, RatOk (pq (cf qs2 k)) := fun k => by
          rw [← hqs, cf_stripQ]
          by_cases hk : k < qs.length
          · rw [cf_lt hk]; exact ok2 _ (List.getElem_mem hk)
          · rw [cf_ge (by omega)]; exact ok0
        have z40 := ratok_z40 okq
        have hRL : RL H4 l qs2 := ⟨as', el, t4'⟩
        clear els sls t2 e2 ok2 t4' el
        refine gn_par_two ?_
        refine ⟨_, rfl, _, rfl, p, lc, l, _, qs2, rfl, hP4, by omega, hRL, lq, hs, okq, fun x H5 hP5 k5 hx => ?_⟩
        have hRL5 : RL H5 l qs2 := hRL.kp hP4 k5
        refine ⟨_, rfl, l, qs2, rfl, hRL5, lq, z40, fun H6 s6 => ?_⟩
        have hP6 := hP5.same s6
        have hx6 : PolyQ K CP H6 x qs2 := PolyAt.same hx s6
        have hRL6 : RL H6 l qs2 := hRL5.imp fun as h => ⟨s6 _ _ h.1, h.2.same s6⟩
        have dl := due_len z40 qs2.length lq
        have lfin : (finT (dueN qs2 qs2.length)).length ≤ 100000 := by
          unfold finT
          split
          · show 1 ≤ _; omega
          · omega
        -- the text
        refine ⟨_, rfl, x, qs2, rfl, hx6, lq, z40, fun H7 s7 => ?_⟩
        refine ⟨_, rfl, rfl, _, rfl, ?_⟩
        rw [show (!decide (V.str (Tx (finT (dueN qs2 qs2.length))) = V.str (Tx (finT (dueN qs2 qs2.length))))) = false from by rw [decide_eq_true rfl]; rfl]
        refine iteF ?_
        obtain ⟨L, hT, hL, hc, hsum⟩ := due_read z40 lq hs
        refine ⟨_, rfl, _, L, rfl, lfin, hT, hL, hc, fun y H8 ps s8 hy l13 hps => ?_⟩
        have ey := read_eq lq hs l13 hps hsum
        rw [ey] at hy
        have hx8 : PolyQ K CP H8 x qs2 := (PolyAt.same hx6 s7).same s8
        have hP8 := (hP6.same s7).same s8
        have hRL8 : RL H8 l qs2 := hRL6.imp fun as h => ⟨s8 _ _ (s7 _ _ h.1), (h.2.same s7).same s8⟩
        obtain ⟨dxy, ty, asy, gy1, gy2, gy3⟩ := id hy
        refine ⟨_, rfl, y, dxy, _, .ref CP, rfl, gy1, hx8.ty PM.C, PM.C.fs, y, qs2.map pq, .ref x, rfl, hy, .inl ⟨x, qs2.map pq, rfl, hx8, ?_⟩⟩
        rw [decide_eq_true rfl]
        refine ⟨_, rfl, ?_⟩
        refine iteF ?_
        -- the loose text
        refine ⟨_, rfl, _, rfl, p, lc, l, _, qs2, rfl, hP8, by omega, hRL8, lq, okq, fun t9 L9 H9 hP9 k9 hT9 lt9 hL9 hc9 hsum9 => ?_⟩
        have hRL9 : RL H9 l qs2 := hRL8.kp hP8 k9
        refine ⟨t9, L9, rfl, lt9, hT9, hL9, hc9, fun y2 H10 ps2 s10 hy2 l132 hps2 => ?_⟩
        have ey2 := read_eq lq hs l132 hps2 hsum9
        rw [ey2] at hy2
        have hP10 := hP9.same s10
        obtain ⟨as10, el10, tp10⟩ : RL H10 l qs2 := hRL9.imp fun as h => ⟨s10 _ _ h.1, h.2.same s10⟩
        obtain ⟨dx2, ty2, asy2, hy21, hy22, hy23⟩ := hy2
        refine ⟨y2, CP, dx2, _, .ref ty2, rfl, hy21, PM.C.cl, PM.C.nf, (by kernel_rfl), ?_⟩
        refine ⟨_, rfl, l, _, rfl, .inl ⟨SqL.of el10, fun tt ntt => ?_⟩⟩
        have s11 := same_upd (o := HO.tup (as10.map V.ref)) ntt
        refine ⟨.tuple ((qs2.map pq).map pairD), .tuple ((qs2.map pq).map pairD), .tup (SqT.of (s11 _ _ hy22)) (hy23.same s11).dts, .tup (SqT.of upd_same) (tp10.same s11).dts, (plain_row _).1, (plain_row _).1, (depth_row _).1, ?_⟩
        rw [eqv_row, decide_eq_true rfl]
        refine ⟨_, rfl, ?_⟩
        refine iteF ?_
        exact ⟨_, _, _, _, _, _, rfl, (hP10.same s11).more (by omega)⟩
    · rintro σ H ⟨v2, v3, v4, v5, v6, v7, rfl, hP0⟩
      -- the empty one
      refine ⟨(by show 0 ≤ sizeLine; decide), fun te nte => ?_⟩
      have ete : upd H te (HO.tup []) te = some (HO.tup []) := upd_same
      try dsimp only [tNil] at nte ⊢
      generalize upd H te (HO.tup []) = H2 at ete ⊢
      refine poly_made (CR := CR) (d := .tuple []) (.tup (SqT.of ete) .nil) (fun ds' h => by cases h; decide) (fun ps' h => ?_) (fun z => by cases z)
      cases h
      refine ⟨fun y hy => (by cases hy), fun x H3 s3 nx hx => ?_⟩
      refine ⟨x, [], rfl, hx, by decide, (fun k => ⟨by rw [cf_nil]; decide, by rw [cf_nil]; decide⟩), fun H4 s4 => ?_⟩
      refine ⟨rfl, ?_⟩
      refine ⟨_, rfl, ?_⟩
      have e0 : decide (V.str (Tx (finT (dueN ([] : List Rat) ([] : List Rat).length))) = V.str (Str.ofString "0")) = true := decide_eq_true (congrArg V.str (by decide +kernel))
      rw [e0]
      refine iteT ?_
      -- the minus and a zero
      have tn0 : Str.ofString "-0" = Tx [45, 48] := by decide +kernel
      refine ⟨[45, 48], [(-1, 0, 1, 0)], congrArg (fun s => [V.str s]) tn0, by decide, text_zero.2, by decide, cnt_one _, fun y H5 ps s5 hy l13 hps => ?_⟩
      have ey : stripQ ps = [] := read_eq (qs := []) (by decide) rfl l13 hps fun k => by rw [sum_zero, cf_nil]
      rw [ey] at hy
      obtain ⟨dy, ty, asy, hy1, hy2, hy3⟩ := hy
      refine ⟨y, CP, dy, _, .ref ty, rfl, hy1, PM.C.cl, PM.C.nf, (by kernel_rfl), ?_⟩
      refine ⟨(by show 0 ≤ sizeLine; decide), fun t2 nt2 => ?_⟩
      have et2 : upd H5 t2 (HO.tup []) t2 = some (HO.tup []) := upd_same
      have s6 : Same H5 (upd H5 t2 (HO.tup [])) := same_upd nt2
      try dsimp only [tNil] at nt2 ⊢
      generalize upd H5 t2 (HO.tup []) = H6 at et2 s6 ⊢
      refine ⟨.tuple (([] : List (Int × Int)).map pairD), .tuple [], .tup (SqT.of (s6 _ _ hy2)) (hy3.same s6).dts, .tup (SqT.of et2) .nil, (plain_row _).1, (by rfl), (depth_row _).1, ?_⟩
      refine ⟨_, rfl, ?_⟩
      refine iteT ?_
      -- the highest power
      refine ⟨(by show 1 ≤ sizeLine; decide), fun t3 nt3 => ?_⟩
      have et3 : upd H6 t3 (HO.tup [V.int 0]) t3 = some (HO.tup [V.int 0]) := upd_same
      try dsimp only [] at nt3 ⊢
      generalize upd H6 t3 (HO.tup [V.int 0]) = H7 at et3 ⊢
      refine ⟨t3, 12, [V.int 0], rfl, rfl, SqT.of et3, by simp, by omega, by omega, by decide, fun tz H8 s8 ez => ?_⟩
      refine ⟨(by show 1 ≤ sizeLine; decide), fun t4 nt4 => ?_⟩
      have et4 : upd H8 t4 (HO.tup [V.int 1]) t4 = some (HO.tup [V.int 1]) := upd_same
      have s9 : Same H8 (upd H8 t4 (HO.tup [V.int 1])) := same_upd nt4
      try dsimp only [] at nt4 ⊢
      generalize upd H8 t4 (HO.tup [V.int 1]) = H9 at et4 s9 ⊢
      refine ⟨tz, t4, _, _, rfl, rfl, same_sqT s9 ez, SqT.of et4, (by show 13 ≤ sizeLine; rw [sizeLine_eq]; omega), (fun h => absurd (congrArg List.length h) (by decide)), (fun _ h => by cases h), fun _ _ th nth => ?_⟩
      have eth : upd H9 th (HO.tup ((List.replicate 12 [V.int 0]).flatten ++ [V.int 1])) th = some (HO.tup (List.replicate 12 (V.int 0) ++ [V.int 1])) := upd_same
      try dsimp only [] at nth ⊢
      have nth' : upd H9 th (HO.tup ((List.replicate 12 [V.int 0]).flatten ++ [V.int 1])) = upd H9 th (HO.tup ((List.replicate 12 [V.int 0]).flatten ++ [V.int 1])) := rfl
      refine poly_made (CR := CR) (d := .tuple hi12D) (.tup (SqT.of eth) ?_) (fun ds' h => ?_) (fun ps' h => ?_) (fun z => by rw [hi12_row] at z; cases z)
      · exact .cons (.int 0) (.cons (.int 0) (.cons (.int 0) (.cons (.int 0) (.cons (.int 0) (.cons (.int 0) (.cons (.int 0) (.cons (.int 0) (.cons (.int 0) (.cons (.int 0) (.cons (.int 0) (.cons (.int 0) (.cons (.int 1) .nil))))))))))))
      · cases h
        decide
      rw [hi12_row] at h
      cases h
      refine ⟨fun y hy => ?_, fun hi H10 s10 nhi ph => ?_⟩
      · rcases List.mem_append.mp (show y ∈ List.replicate 12 ((0 : Int), (1 : Int)) ++ [(1, 1)] from hy) with h | h
        · rw [List.eq_of_mem_replicate h]
          decide
        · rw [List.mem_singleton.mp h]
          decide
      rw [hi12_strip, hi12_id] at ph
      refine ⟨hi, hi12, rfl, ph, by decide, hi12_z, fun H11 s11 => ?_⟩
      refine ⟨rfl, ?_⟩
      rw [show finT (dueN hi12 hi12.length) = _ from hi12_text]
      have e1 : decide (V.str (Tx [120, 94, 49, 50]) = V.str (Str.ofString "x^12")) = true := decide_eq_true (congrArg V.str (by decide +kernel))
      rw [e1]
      exact kend _
end

end Vf

set_option maxRecDepth 100000
set_option maxHeartbeats 8000000
namespace Vf
open PySem PySem.Spec PyProof.Rows L2
/-! ### what the top has written -/
def tyNames : List String := ["NoneType", "bool", "int", "str", "list", "tuple", "dict"]
def polyB (K : PySem.W.Frag) (CP : Addr) : Bool :=
  PySem.W.plainGet K CP Str.empty && (PySem.W.hasDictIn K CP && (PySem.W.plainOver K CP && (decide (PySem.W.findIn K (.ref CP) "__setattr__" = some (some (.builtin "object.__setattr__"))) && (decide (PySem.W.findIn K (.ref CP) "numbers" = some none) &&
  (decide (PySem.W.findIn K (.ref CP) "__class__" = some (some (.builtin "object.__class__"))) && (decide (PySem.W.specialIn K (.builtin "object.__class__") "__get__" = some (some (.builtin "getset_descriptor.__get__"))) &&
  (decide (PySem.W.takesIn K (.builtin "object.__class__") = some true) && (decide (PySem.W.mroIn K CP (.type "object") = some true) && (tyNames.all (fun t => decide (PySem.W.kitOne K (.type t) (.ref CP) = some false) && PySem.W.notFirst K CP (.type t)) &&
  (PySem.W.notFirst K CP (.ref CP) && (PySem.W.makesIn K CP && PySem.W.keepIn K (.ref CP))))))))))))
theorem tyD_mem (d : PyData) : tyD d ∈ tyNames := by
  cases d <;> simp [tyD, tyNames]
theorem polyC {K : PySem.W.Frag} {mg : Str → Option Value} {CP : Addr} (m : mg "Poly" = some (.ref CP)) (h : polyB K CP = true) : PoC K mg CP ∧ PySem.W.makesIn K CP = true ∧ PySem.W.keepIn K (.ref CP) = true := by
  obtain ⟨h1, h⟩ := Bool.and_eq_true_iff.mp h
  obtain ⟨h2, h⟩ := Bool.and_eq_true_iff.mp h
  obtain ⟨h3, h⟩ := Bool.and_eq_true_iff.mp h
  obtain ⟨h4, h⟩ := Bool.and_eq_true_iff.mp h
  obtain ⟨h5, h⟩ := Bool.and_eq_true_iff.mp h
  obtain ⟨h6, h⟩ := Bool.and_eq_true_iff.mp h
  obtain ⟨h7, h⟩ := Bool.and_eq_true_iff.mp h
  obtain ⟨h8, h⟩ := Bool.and_eq_true_iff.mp h
  obtain ⟨h9, h⟩ := Bool.and_eq_true_iff.mp h
  obtain ⟨h10, h⟩ := Bool.and_eq_true_iff.mp h
  obtain ⟨h11, h⟩ := Bool.and_eq_true_iff.mp h
  obtain ⟨h12, h13⟩ := Bool.and_eq_true_iff.mp h
  have z := fun d : PyData => Bool.and_eq_true_iff.mp (List.all_eq_true.mp h10 (tyD d) (tyD_mem d))
  exact ⟨⟨m, ⟨h1, h2, h3, of_decide_eq_true h4⟩, (of_decide_eq_true h5 : PySem.W.findIn K (.ref CP) "numbers" = some none), of_decide_eq_true h6, of_decide_eq_true h7, of_decide_eq_true h8, of_decide_eq_true h9, fun d => of_decide_eq_true (z d).1, h11, fun d => (z d).2⟩, h12, h13⟩
theorem fn_of_ty {K : PySem.W.Frag} {f : Addr} (h : PySem.W.typeIn K (.ref f) = some (.type "function")) : PySem.W.isFn K (.ref f) = true := by
  unfold PySem.W.isFn
  rw [h]
  decide +kernel
theorem all_mk {l : PySem.W.OpenLaw} {w : World} {K : PySem.W.Frag} {h : Heap} {mg : Str → Option Value} {fa : Addr}
    {C0 C1 C2 i0 i1 i2 f0 f1 f2 f3 f4 f5 f6 f7 f8 f9 f10 f11 f12 f13 f14 f15 f16 f17 f18 f19 f20 f21 f22 f23 f24 f25 f26 f27 f28 f29 f30 f31 f32 f33 f34 f35 f36 f37 f38 f39 f40 f41 Cg g0 g1 : Addr}
    {ocf0 kVf0 dcf0 pmf0 cdf0 ctf0 : Value} {odf0 anf0 : Option Addr} {slf0 : Array (Option Value)}
    {ocf1 kVf1 dcf1 pmf1 cdf1 ctf1 : Value} {odf1 anf1 : Option Addr} {slf1 : Array (Option Value)}
    {ocf2 kVf2 dcf2 pmf2 cdf2 ctf2 : Value} {odf2 anf2 : Option Addr} {slf2 : Array (Option Value)}
    {ocf3 kVf3 dcf3 pmf3 cdf3 ctf3 : Value} {odf3 anf3 : Option Addr} {slf3 : Array (Option Value)}
    {ocf4 kVf4 dcf4 pmf4 cdf4 ctf4 : Value} {odf4 anf4 : Option Addr} {slf4 : Array (Option Value)}
    {ocf5 kVf5 dcf5 pmf5 cdf5 ctf5 : Value} {odf5 anf5 : Option Addr} {slf5 : Array (Option Value)}
    {ocf6 kVf6 dcf6 pmf6 cdf6 ctf6 : Value} {odf6 anf6 : Option Addr} {slf6 : Array (Option Value)}
    {ocf7 kVf7 dcf7 pmf7 cdf7 ctf7 : Value} {odf7 anf7 : Option Addr} {slf7 : Array (Option Value)}
    {ocf8 kVf8 dcf8 pmf8 cdf8 ctf8 : Value} {odf8 anf8 : Option Addr} {slf8 : Array (Option Value)}
    {ocf9 kVf9 dcf9 pmf9 cdf9 ctf9 : Value} {odf9 anf9 : Option Addr} {slf9 : Array (Option Value)}
    {ocf10 kVf10 dcf10 pmf10 cdf10 ctf10 : Value} {odf10 anf10 : Option Addr} {slf10 : Array (Option Value)}
    {ocf11 kVf11 dcf11 pmf11 cdf11 ctf11 : Value} {odf11 anf11 : Option Addr} {slf11 : Array (Option Value)}
    {ocf12 kVf12 dcf12 pmf12 cdf12 ctf12 : Value} {odf12 anf12 : Option Addr} {slf12 : Array (Option Value)}
    {ocf13 kVf13 dcf13 pmf13 cdf13 ctf13 : Value} {odf13 anf13 : Option Addr} {slf13 : Array (Option Value)}
    {ocf14 kVf14 dcf14 pmf14 cdf14 ctf14 : Value} {odf14 anf14 : Option Addr} {slf14 : Array (Option Value)}
    {ocf15 kVf15 dcf15 pmf15 cdf15 ctf15 : Value} {odf15 anf15 : Option Addr} {slf15 : Array (Option Value)}
    {ocf16 kVf16 dcf16 pmf16 cdf16 ctf16 : Value} {odf16 anf16 : Option Addr} {slf16 : Array (Option Value)}
    {ocf17 kVf17 dcf17 pmf17 cdf17 ctf17 : Value} {odf17 anf17 : Option Addr} {slf17 : Array (Option Value)}
    {ocf18 kVf18 dcf18 pmf18 cdf18 ctf18 : Value} {odf18 anf18 : Option Addr} {slf18 : Array (Option Value)}
    {ocf19 kVf19 dcf19 pmf19 cdf19 ctf19 : Value} {odf19 anf19 : Option Addr} {slf19 : Array (Option Value)}
    {ocf20 kVf20 dcf20 pmf20 cdf20 ctf20 : Value} {odf20 anf20 : Option Addr} {slf20 : Array (Option Value)}
    {ocf21 kVf21 dcf21 pmf21 cdf21 ctf21 : Value} {odf21 anf21 : Option Addr} {slf21 : Array (Option Value)}
    {ocf22 kVf22 dcf22 pmf22 cdf22 ctf22 : Value} {odf22 anf22 : Option Addr} {slf22 : Array (Option Value)}
    {ocf23 kVf23 dcf23 pmf23 cdf23 ctf23 : Value} {odf23 anf23 : Option Addr} {slf23 : Array (Option Value)}
    {ocf24 kVf24 dcf24 pmf24 cdf24 ctf24 : Value} {odf24 anf24 : Option Addr} {slf24 : Array (Option Value)}
    {ocf25 kVf25 dcf25 pmf25 cdf25 ctf25 : Value} {odf25 anf25 : Option Addr} {slf25 : Array (Option Value)}
    {ocf26 kVf26 dcf26 pmf26 cdf26 ctf26 : Value} {odf26 anf26 : Option Addr} {slf26 : Array (Option Value)}
    {ocf27 kVf27 dcf27 pmf27 cdf27 ctf27 : Value} {odf27 anf27 : Option Addr} {slf27 : Array (Option Value)}
    {ocf28 kVf28 dcf28 pmf28 cdf28 ctf28 : Value} {odf28 anf28 : Option Addr} {slf28 : Array (Option Value)}
    {ocf29 kVf29 dcf29 pmf29 cdf29 ctf29 : Value} {odf29 anf29 : Option Addr} {slf29 : Array (Option Value)}
    {ocf30 kVf30 dcf30 pmf30 cdf30 ctf30 : Value} {odf30 anf30 : Option Addr} {slf30 : Array (Option Value)}
    {ocf31 kVf31 dcf31 pmf31 cdf31 ctf31 : Value} {odf31 anf31 : Option Addr} {slf31 : Array (Option Value)}
    {ocf32 kVf32 dcf32 pmf32 cdf32 ctf32 : Value} {odf32 anf32 : Option Addr} {slf32 : Array (Option Value)}
    {ocf33 kVf33 dcf33 pmf33 cdf33 ctf33 : Value} {odf33 anf33 : Option Addr} {slf33 : Array (Option Value)}
    {ocf34 kVf34 dcf34 pmf34 cdf34 ctf34 : Value} {odf34 anf34 : Option Addr} {slf34 : Array (Option Value)}
    {ocf35 kVf35 dcf35 pmf35 cdf35 ctf35 : Value} {odf35 anf35 : Option Addr} {slf35 : Array (Option Value)}
    {ocf36 kVf36 dcf36 pmf36 cdf36 ctf36 : Value} {odf36 anf36 : Option Addr} {slf36 : Array (Option Value)}
    {ocf37 kVf37 dcf37 pmf37 cdf37 ctf37 : Value} {odf37 anf37 : Option Addr} {slf37 : Array (Option Value)}
    {ocf38 kVf38 dcf38 pmf38 cdf38 ctf38 : Value} {odf38 anf38 : Option Addr} {slf38 : Array (Option Value)}
    {ocf39 kVf39 dcf39 pmf39 cdf39 ctf39 : Value} {odf39 anf39 : Option Addr} {slf39 : Array (Option Value)}
    {ocf40 kVf40 dcf40 pmf40 cdf40 ctf40 : Value} {odf40 anf40 : Option Addr} {slf40 : Array (Option Value)}
    {ocf41 kVf41 dcf41 pmf41 cdf41 ctf41 : Value} {odf41 anf41 : Option Addr} {slf41 : Array (Option Value)}
    {tkDIGITS : Tok}
    {tkMOST_DIGITS : Tok}
    {oci0 kVi0 dci0 pmi0 cdi0 cti0 : Value} {odi0 ani0 : Option Addr} {sli0 : Array (Option Value)}
    {nm0 qn0 : Str} {N0 : Addr} {bs0 bm0 sub0 : List Value} {sn0 : List Str} {ab0 : Bool} {col0 : Option Bool} {dd0 : Option Addr} {ka0 kb0 kc0 kd0 ke0 : Option Value}
    {oci1 kVi1 dci1 pmi1 cdi1 cti1 : Value} {odi1 ani1 : Option Addr} {sli1 : Array (Option Value)}
    {nm1 qn1 : Str} {N1 : Addr} {bs1 bm1 sub1 : List Value} {sn1 : List Str} {ab1 : Bool} {col1 : Option Bool} {dd1 : Option Addr} {ka1 kb1 kc1 kd1 ke1 : Option Value}
    {oci2 kVi2 dci2 pmi2 cdi2 cti2 : Value} {odi2 ani2 : Option Addr} {sli2 : Array (Option Value)}
    {nm2 qn2 : Str} {N2 : Addr} {bs2 bm2 sub2 : List Value} {sn2 : List Str} {ab2 : Bool} {col2 : Option Bool} {dd2 : Option Addr} {ka2 kb2 kc2 kd2 ke2 : Option Value}
    {ocg0 kVg0 dcg0 pmg0 cdg0 ctg0 : Value} {odg0 ang0 : Option Addr} {slg0 : Array (Option Value)}
    {ocg1 kVg1 dcg1 pmg1 cdg1 ctg1 : Value} {odg1 ang1 : Option Addr} {slg1 : Array (Option Value)}
    (X : K.In h) (G : h.Ns mainGlobals mg) (hfa : mg "law" = some (.ref fa))
    (a0 : PySem.W.nsIn K mainGlobals "_law_pen" = some (some (.ref f0)))
    (l0 : K.lookup f0 = some ⟨ocf0, odf0, .func (PySem.W.fnOf "_law_pen" "_law_pen" (defArgs sPen) (defBody sPen) (defScope sPen) .none kVf0 dcf0 pmf0 anf0 cdf0 ctf0), slf0⟩)
    (c0 : PySem.W.codeIn K cdf0 "_law_pen" = true)
    (k0 : PySem.W.keepIn K (.ref f0) = true)
    (a1 : PySem.W.nsIn K mainGlobals "_law_draw" = some (some (.ref f1)))
    (l1 : K.lookup f1 = some ⟨ocf1, odf1, .func (PySem.W.fnOf "_law_draw" "_law_draw" (defArgs sDraw) (defBody sDraw) (defScope sDraw) .none kVf1 dcf1 pmf1 anf1 cdf1 ctf1), slf1⟩)
    (c1 : PySem.W.codeIn K cdf1 "_law_draw" = true)
    (k1 : PySem.W.keepIn K (.ref f1) = true)
    (a2 : PySem.W.nsIn K mainGlobals "_law_pick" = some (some (.ref f2)))
    (l2 : K.lookup f2 = some ⟨ocf2, odf2, .func (PySem.W.fnOf "_law_pick" "_law_pick" (defArgs sPick) (defBody sPick) (defScope sPick) .none kVf2 dcf2 pmf2 anf2 cdf2 ctf2), slf2⟩)
    (c2 : PySem.W.codeIn K cdf2 "_law_pick" = true)
    (k2 : PySem.W.keepIn K (.ref f2) = true)
    (a3 : PySem.W.nsIn K mainGlobals "is_whole" = some (some (.ref f3)))
    (l3 : K.lookup f3 = some ⟨ocf3, odf3, .func (PySem.W.fnOf "is_whole" "is_whole" (defArgs sIsWhole) (defBody sIsWhole) (defScope sIsWhole) .none kVf3 dcf3 pmf3 anf3 cdf3 ctf3), slf3⟩)
    (c3 : PySem.W.codeIn K cdf3 "is_whole" = true)
    (k3 : PySem.W.keepIn K (.ref f3) = true)
    (a4 : PySem.W.nsIn K mainGlobals "is_ratio" = some (some (.ref f4)))
    (l4 : K.lookup f4 = some ⟨ocf4, odf4, .func (PySem.W.fnOf "is_ratio" "is_ratio" (defArgs sIsRatio) (defBody sIsRatio) (defScope sIsRatio) .none kVf4 dcf4 pmf4 anf4 cdf4 ctf4), slf4⟩)
    (c4 : PySem.W.codeIn K cdf4 "is_ratio" = true)
    (k4 : PySem.W.keepIn K (.ref f4) = true)
    (a5 : PySem.W.nsIn K mainGlobals "is_ratio_row" = some (some (.ref f5)))
    (l5 : K.lookup f5 = some ⟨ocf5, odf5, .func (PySem.W.fnOf "is_ratio_row" "is_ratio_row" (defArgs sIsRow) (defBody sIsRow) (defScope sIsRow) .none kVf5 dcf5 pmf5 anf5 cdf5 ctf5), slf5⟩)
    (c5 : PySem.W.codeIn K cdf5 "is_ratio_row" = true)
    (k5 : PySem.W.keepIn K (.ref f5) = true)
    (a6 : PySem.W.nsIn K mainGlobals "lowest" = some (some (.ref f6)))
    (l6 : K.lookup f6 = some ⟨ocf6, odf6, .func (PySem.W.fnOf "lowest" "lowest" (defArgs sLowest) (defBody sLowest) (defScope sLowest) .none kVf6 dcf6 pmf6 anf6 cdf6 ctf6), slf6⟩)
    (c6 : PySem.W.codeIn K cdf6 "lowest" = true)
    (k6 : PySem.W.keepIn K (.ref f6) = true)
    (a7 : PySem.W.nsIn K mainGlobals "parts_of" = some (some (.ref f7)))
    (l7 : K.lookup f7 = some ⟨ocf7, odf7, .func (PySem.W.fnOf "parts_of" "parts_of" (defArgs sParts) (defBody sParts) (defScope sParts) .none kVf7 dcf7 pmf7 anf7 cdf7 ctf7), slf7⟩)
    (c7 : PySem.W.codeIn K cdf7 "parts_of" = true)
    (k7 : PySem.W.keepIn K (.ref f7) = true)
    (a8 : PySem.W.nsIn K mainGlobals "told" = some (some (.ref f8)))
    (l8 : K.lookup f8 = some ⟨ocf8, odf8, .func (PySem.W.fnOf "told" "told" (defArgs sTold) (defBody sTold) (defScope sTold) .none kVf8 dcf8 pmf8 anf8 cdf8 ctf8), slf8⟩)
    (c8 : PySem.W.codeIn K cdf8 "told" = true)
    (k8 : PySem.W.keepIn K (.ref f8) = true)
    (a9 : PySem.W.nsIn K mainGlobals "plus" = some (some (.ref f9)))
    (l9 : K.lookup f9 = some ⟨ocf9, odf9, .func (PySem.W.fnOf "plus" "plus" (defArgs sPlus) (defBody sPlus) (defScope sPlus) .none kVf9 dcf9 pmf9 anf9 cdf9 ctf9), slf9⟩)
    (c9 : PySem.W.codeIn K cdf9 "plus" = true)
    (k9 : PySem.W.keepIn K (.ref f9) = true)
    (a10 : PySem.W.nsIn K mainGlobals "times" = some (some (.ref f10)))
    (l10 : K.lookup f10 = some ⟨ocf10, odf10, .func (PySem.W.fnOf "times" "times" (defArgs sTimes) (defBody sTimes) (defScope sTimes) .none kVf10 dcf10 pmf10 anf10 cdf10 ctf10), slf10⟩)
    (c10 : PySem.W.codeIn K cdf10 "times" = true)
    (k10 : PySem.W.keepIn K (.ref f10) = true)
    (a11 : PySem.W.nsIn K mainGlobals "behind_spaces" = some (some (.ref f11)))
    (l11 : K.lookup f11 = some ⟨ocf11, odf11, .func (PySem.W.fnOf "behind_spaces" "behind_spaces" (defArgs sBeh) (defBody sBeh) (defScope sBeh) .none kVf11 dcf11 pmf11 anf11 cdf11 ctf11), slf11⟩)
    (c11 : PySem.W.codeIn K cdf11 "behind_spaces" = true)
    (k11 : PySem.W.keepIn K (.ref f11) = true)
    (a12 : PySem.W.nsIn K mainGlobals "is_digit" = some (some (.ref f12)))
    (l12 : K.lookup f12 = some ⟨ocf12, odf12, .func (PySem.W.fnOf "is_digit" "is_digit" (defArgs sIsD) (defBody sIsD) (defScope sIsD) .none kVf12 dcf12 pmf12 anf12 cdf12 ctf12), slf12⟩)
    (c12 : PySem.W.codeIn K cdf12 "is_digit" = true)
    (k12 : PySem.W.keepIn K (.ref f12) = true)
    (a13 : PySem.W.nsIn K mainGlobals "read_whole" = some (some (.ref f13)))
    (l13 : K.lookup f13 = some ⟨ocf13, odf13, .func (PySem.W.fnOf "read_whole" "read_whole" (defArgs sRW) (defBody sRW) (defScope sRW) .none kVf13 dcf13 pmf13 anf13 cdf13 ctf13), slf13⟩)
    (c13 : PySem.W.codeIn K cdf13 "read_whole" = true)
    (k13 : PySem.W.keepIn K (.ref f13) = true)
    (a14 : PySem.W.nsIn K mainGlobals "read_number" = some (some (.ref f14)))
    (l14 : K.lookup f14 = some ⟨ocf14, odf14, .func (PySem.W.fnOf "read_number" "read_number" (defArgs sRN) (defBody sRN) (defScope sRN) .none kVf14 dcf14 pmf14 anf14 cdf14 ctf14), slf14⟩)
    (c14 : PySem.W.codeIn K cdf14 "read_number" = true)
    (k14 : PySem.W.keepIn K (.ref f14) = true)
    (a15 : PySem.W.nsIn K mainGlobals "read_power" = some (some (.ref f15)))
    (l15 : K.lookup f15 = some ⟨ocf15, odf15, .func (PySem.W.fnOf "read_power" "read_power" (defArgs sRP) (defBody sRP) (defScope sRP) .none kVf15 dcf15 pmf15 anf15 cdf15 ctf15), slf15⟩)
    (c15 : PySem.W.codeIn K cdf15 "read_power" = true)
    (k15 : PySem.W.keepIn K (.ref f15) = true)
    (a16 : PySem.W.nsIn K mainGlobals "read_term" = some (some (.ref f16)))
    (l16 : K.lookup f16 = some ⟨ocf16, odf16, .func (PySem.W.fnOf "read_term" "read_term" (defArgs sRT) (defBody sRT) (defScope sRT) .none kVf16 dcf16 pmf16 anf16 cdf16 ctf16), slf16⟩)
    (c16 : PySem.W.codeIn K cdf16 "read_term" = true)
    (k16 : PySem.W.keepIn K (.ref f16) = true)
    (a17 : PySem.W.nsIn K mainGlobals "sign_at" = some (some (.ref f17)))
    (l17 : K.lookup f17 = some ⟨ocf17, odf17, .func (PySem.W.fnOf "sign_at" "sign_at" (defArgs sSg) (defBody sSg) (defScope sSg) .none kVf17 dcf17 pmf17 anf17 cdf17 ctf17), slf17⟩)
    (c17 : PySem.W.codeIn K cdf17 "sign_at" = true)
    (k17 : PySem.W.keepIn K (.ref f17) = true)
    (a18 : PySem.W.nsIn K mainGlobals "read_terms" = some (some (.ref f18)))
    (l18 : K.lookup f18 = some ⟨ocf18, odf18, .func (PySem.W.fnOf "read_terms" "read_terms" (defArgs sRTs) (defBody sRTs) (defScope sRTs) .none kVf18 dcf18 pmf18 anf18 cdf18 ctf18), slf18⟩)
    (c18 : PySem.W.codeIn K cdf18 "read_terms" = true)
    (k18 : PySem.W.keepIn K (.ref f18) = true)
    (a19 : PySem.W.nsIn K mainGlobals "read_poly" = some (some (.ref f19)))
    (l19 : K.lookup f19 = some ⟨ocf19, odf19, .func (PySem.W.fnOf "read_poly" "read_poly" (defArgs sRPl) (defBody sRPl) (defScope sRPl) .none kVf19 dcf19 pmf19 anf19 cdf19 ctf19), slf19⟩)
    (c19 : PySem.W.codeIn K cdf19 "read_poly" = true)
    (k19 : PySem.W.keepIn K (.ref f19) = true)
    (a20 : PySem.W.nsIn K mainGlobals "poly_of" = some (some (.ref f20)))
    (l20 : K.lookup f20 = some ⟨ocf20, odf20, .func (PySem.W.fnOf "poly_of" "poly_of" (defArgs sPolyOf) (defBody sPolyOf) (defScope sPolyOf) .none kVf20 dcf20 pmf20 anf20 cdf20 ctf20), slf20⟩)
    (c20 : PySem.W.codeIn K cdf20 "poly_of" = true)
    (k20 : PySem.W.keepIn K (.ref f20) = true)
    (a21 : PySem.W.nsIn K mainGlobals "digits_of" = some (some (.ref f21)))
    (l21 : K.lookup f21 = some ⟨ocf21, odf21, .func (PySem.W.fnOf "digits_of" "digits_of" (defArgs sDigits) (defBody sDigits) (defScope sDigits) .none kVf21 dcf21 pmf21 anf21 cdf21 ctf21), slf21⟩)
    (c21 : PySem.W.codeIn K cdf21 "digits_of" = true)
    (k21 : PySem.W.keepIn K (.ref f21) = true)
    (a22 : PySem.W.nsIn K mainGlobals "ratio_text" = some (some (.ref f22)))
    (l22 : K.lookup f22 = some ⟨ocf22, odf22, .func (PySem.W.fnOf "ratio_text" "ratio_text" (defArgs sRText) (defBody sRText) (defScope sRText) .none kVf22 dcf22 pmf22 anf22 cdf22 ctf22), slf22⟩)
    (c22 : PySem.W.codeIn K cdf22 "ratio_text" = true)
    (k22 : PySem.W.keepIn K (.ref f22) = true)
    (a23 : PySem.W.nsIn K mainGlobals "sign_text" = some (some (.ref f23)))
    (l23 : K.lookup f23 = some ⟨ocf23, odf23, .func (PySem.W.fnOf "sign_text" "sign_text" (defArgs sSText) (defBody sSText) (defScope sSText) .none kVf23 dcf23 pmf23 anf23 cdf23 ctf23), slf23⟩)
    (c23 : PySem.W.codeIn K cdf23 "sign_text" = true)
    (k23 : PySem.W.keepIn K (.ref f23) = true)
    (a24 : PySem.W.nsIn K mainGlobals "term_text" = some (some (.ref f24)))
    (l24 : K.lookup f24 = some ⟨ocf24, odf24, .func (PySem.W.fnOf "term_text" "term_text" (defArgs sTText) (defBody sTText) (defScope sTText) .none kVf24 dcf24 pmf24 anf24 cdf24 ctf24), slf24⟩)
    (c24 : PySem.W.codeIn K cdf24 "term_text" = true)
    (k24 : PySem.W.keepIn K (.ref f24) = true)
    (a25 : PySem.W.nsIn K mainGlobals "poly_text" = some (some (.ref f25)))
    (l25 : K.lookup f25 = some ⟨ocf25, odf25, .func (PySem.W.fnOf "poly_text" "poly_text" (defArgs sPText) (defBody sPText) (defScope sPText) .none kVf25 dcf25 pmf25 anf25 cdf25 ctf25), slf25⟩)
    (c25 : PySem.W.codeIn K cdf25 "poly_text" = true)
    (k25 : PySem.W.keepIn K (.ref f25) = true)
    (a26 : PySem.W.nsIn K mainGlobals "_law_gcd" = some (some (.ref f26)))
    (l26 : K.lookup f26 = some ⟨ocf26, odf26, .func (PySem.W.fnOf "_law_gcd" "_law_gcd" (defArgs sLGcd) (defBody sLGcd) (defScope sLGcd) .none kVf26 dcf26 pmf26 anf26 cdf26 ctf26), slf26⟩)
    (c26 : PySem.W.codeIn K cdf26 "_law_gcd" = true)
    (k26 : PySem.W.keepIn K (.ref f26) = true)
    (a27 : PySem.W.nsIn K mainGlobals "_law_q" = some (some (.ref f27)))
    (l27 : K.lookup f27 = some ⟨ocf27, odf27, .func (PySem.W.fnOf "_law_q" "_law_q" (defArgs sLQ) (defBody sLQ) (defScope sLQ) .none kVf27 dcf27 pmf27 anf27 cdf27 ctf27), slf27⟩)
    (c27 : PySem.W.codeIn K cdf27 "_law_q" = true)
    (k27 : PySem.W.keepIn K (.ref f27) = true)
    (a28 : PySem.W.nsIn K mainGlobals "_law_minus" = some (some (.ref f28)))
    (l28 : K.lookup f28 = some ⟨ocf28, odf28, .func (PySem.W.fnOf "_law_minus" "_law_minus" (defArgs sLMinus) (defBody sLMinus) (defScope sLMinus) .none kVf28 dcf28 pmf28 anf28 cdf28 ctf28), slf28⟩)
    (c28 : PySem.W.codeIn K cdf28 "_law_minus" = true)
    (k28 : PySem.W.keepIn K (.ref f28) = true)
    (a29 : PySem.W.nsIn K mainGlobals "_law_abs" = some (some (.ref f29)))
    (l29 : K.lookup f29 = some ⟨ocf29, odf29, .func (PySem.W.fnOf "_law_abs" "_law_abs" (defArgs sLAbs) (defBody sLAbs) (defScope sLAbs) .none kVf29 dcf29 pmf29 anf29 cdf29 ctf29), slf29⟩)
    (c29 : PySem.W.codeIn K cdf29 "_law_abs" = true)
    (k29 : PySem.W.keepIn K (.ref f29) = true)
    (a30 : PySem.W.nsIn K mainGlobals "_law_passed" = some (some (.ref f30)))
    (l30 : K.lookup f30 = some ⟨ocf30, odf30, .func (PySem.W.fnOf "_law_passed" "_law_passed" (defArgs sPassed) (defBody sPassed) (defScope sPassed) .none kVf30 dcf30 pmf30 anf30 cdf30 ctf30), slf30⟩)
    (c30 : PySem.W.codeIn K cdf30 "_law_passed" = true)
    (k30 : PySem.W.keepIn K (.ref f30) = true)
    (a31 : PySem.W.nsIn K mainGlobals "_law_ratio" = some (some (.ref f31)))
    (l31 : K.lookup f31 = some ⟨ocf31, odf31, .func (PySem.W.fnOf "_law_ratio" "_law_ratio" (defArgs sLRatio) (defBody sLRatio) (defScope sLRatio) .none kVf31 dcf31 pmf31 anf31 cdf31 ctf31), slf31⟩)
    (c31 : PySem.W.codeIn K cdf31 "_law_ratio" = true)
    (k31 : PySem.W.keepIn K (.ref f31) = true)
    (a32 : PySem.W.nsIn K mainGlobals "_law_poly" = some (some (.ref f32)))
    (l32 : K.lookup f32 = some ⟨ocf32, odf32, .func (PySem.W.fnOf "_law_poly" "_law_poly" (defArgs sLPoly) (defBody sLPoly) (defScope sLPoly) .none kVf32 dcf32 pmf32 anf32 cdf32 ctf32), slf32⟩)
    (c32 : PySem.W.codeIn K cdf32 "_law_poly" = true)
    (k32 : PySem.W.keepIn K (.ref f32) = true)
    (a33 : PySem.W.nsIn K mainGlobals "_law_made_poly" = some (some (.ref f33)))
    (l33 : K.lookup f33 = some ⟨ocf33, odf33, .func (PySem.W.fnOf "_law_made_poly" "_law_made_poly" (defArgs sMade) (defBody sMade) (defScope sMade) .none kVf33 dcf33 pmf33 anf33 cdf33 ctf33), slf33⟩)
    (c33 : PySem.W.codeIn K cdf33 "_law_made_poly" = true)
    (k33 : PySem.W.keepIn K (.ref f33) = true)
    (a34 : PySem.W.nsIn K mainGlobals "_law_far" = some (some (.ref f34)))
    (l34 : K.lookup f34 = some ⟨ocf34, odf34, .func (PySem.W.fnOf "_law_far" "_law_far" (defArgs sFar) (defBody sFar) (defScope sFar) .none kVf34 dcf34 pmf34 anf34 cdf34 ctf34), slf34⟩)
    (c34 : PySem.W.codeIn K cdf34 "_law_far" = true)
    (k34 : PySem.W.keepIn K (.ref f34) = true)
    (a35 : PySem.W.nsIn K mainGlobals "_law_some_ratio" = some (some (.ref f35)))
    (l35 : K.lookup f35 = some ⟨ocf35, odf35, .func (PySem.W.fnOf "_law_some_ratio" "_law_some_ratio" (defArgs sSome) (defBody sSome) (defScope sSome) .none kVf35 dcf35 pmf35 anf35 cdf35 ctf35), slf35⟩)
    (c35 : PySem.W.codeIn K cdf35 "_law_some_ratio" = true)
    (k35 : PySem.W.keepIn K (.ref f35) = true)
    (a36 : PySem.W.nsIn K mainGlobals "_law_size" = some (some (.ref f36)))
    (l36 : K.lookup f36 = some ⟨ocf36, odf36, .func (PySem.W.fnOf "_law_size" "_law_size" (defArgs sLSize) (defBody sLSize) (defScope sLSize) .none kVf36 dcf36 pmf36 anf36 cdf36 ctf36), slf36⟩)
    (c36 : PySem.W.codeIn K cdf36 "_law_size" = true)
    (k36 : PySem.W.keepIn K (.ref f36) = true)
    (a37 : PySem.W.nsIn K mainGlobals "_law_due" = some (some (.ref f37)))
    (l37 : K.lookup f37 = some ⟨ocf37, odf37, .func (PySem.W.fnOf "_law_due" "_law_due" (defArgs sLDue) (defBody sLDue) (defScope sLDue) .none kVf37 dcf37 pmf37 anf37 cdf37 ctf37), slf37⟩)
    (c37 : PySem.W.codeIn K cdf37 "_law_due" = true)
    (k37 : PySem.W.keepIn K (.ref f37) = true)
    (a38 : PySem.W.nsIn K mainGlobals "_law_gap" = some (some (.ref f38)))
    (l38 : K.lookup f38 = some ⟨ocf38, odf38, .func (PySem.W.fnOf "_law_gap" "_law_gap" (defArgs sGap) (defBody sGap) (defScope sGap) .none kVf38 dcf38 pmf38 anf38 cdf38 ctf38), slf38⟩)
    (c38 : PySem.W.codeIn K cdf38 "_law_gap" = true)
    (k38 : PySem.W.keepIn K (.ref f38) = true)
    (a39 : PySem.W.nsIn K mainGlobals "_law_term" = some (some (.ref f39)))
    (l39 : K.lookup f39 = some ⟨ocf39, odf39, .func (PySem.W.fnOf "_law_term" "_law_term" (defArgs sLTerm) (defBody sLTerm) (defScope sLTerm) .none kVf39 dcf39 pmf39 anf39 cdf39 ctf39), slf39⟩)
    (c39 : PySem.W.codeIn K cdf39 "_law_term" = true)
    (k39 : PySem.W.keepIn K (.ref f39) = true)
    (a40 : PySem.W.nsIn K mainGlobals "_law_loose" = some (some (.ref f40)))
    (l40 : K.lookup f40 = some ⟨ocf40, odf40, .func (PySem.W.fnOf "_law_loose" "_law_loose" (defArgs sLoose) (defBody sLoose) (defScope sLoose) .none kVf40 dcf40 pmf40 anf40 cdf40 ctf40), slf40⟩)
    (c40 : PySem.W.codeIn K cdf40 "_law_loose" = true)
    (k40 : PySem.W.keepIn K (.ref f40) = true)
    (a41 : PySem.W.nsIn K mainGlobals "law" = some (some (.ref f41)))
    (l41 : K.lookup f41 = some ⟨ocf41, odf41, .func (PySem.W.fnOf "law" "law" (defArgs sLaw) (defBody sLaw) (defScope sLaw) .none kVf41 dcf41 pmf41 anf41 cdf41 ctf41), slf41⟩)
    (c41 : PySem.W.codeIn K cdf41 "law" = true)
    (k41 : PySem.W.keepIn K (.ref f41) = true)
    (aggcd : PySem.W.nsIn K mainGlobals "gcd" = some (some (.builtin "math.gcd")))
    (acDIGITS : PySem.W.nsIn K mainGlobals "DIGITS" = some (some (.str "0123456789" tkDIGITS)))
    (acMOST_DIGITS : PySem.W.nsIn K mainGlobals "MOST_DIGITS" = some (some (.int 40 tkMOST_DIGITS)))
    (m0 : PySem.W.nsIn K mainGlobals "BadText" = some (some (.ref C0)))
    (ei0 : PySem.W.findIn K (.ref C0) "__init__" = some (some (.ref i0)))
    (ti0 : PySem.W.typeIn K (.ref i0) = some (.type "function"))
    (li0 : K.lookup i0 = some ⟨oci0, odi0, .func (PySem.W.fnOf "__init__" "BadText.__init__" (defArgs (inClass (topS 7) 0)) (defBody (inClass (topS 7) 0)) (defScope (inClass (topS 7) 0)) .none kVi0 dci0 pmi0 ani0 cdi0 cti0), sli0⟩)
    (ci0 : PySem.W.codeIn K cdi0 "BadText.__init__" = true)
    (ki0 : PySem.W.keepIn K (.ref i0) = true)
    (lc0 : K.lookup C0 = some (excClassObj nm0 qn0 C0 N0 bs0 bm0 true sn0 sub0 ab0 col0 dd0 ka0 kb0 kc0 kd0 ke0 "ValueError.__new__"))
    (lb0 : PySem.HandSPX.refsVE bm0 = true)
    (big0 : (oexB K C0 && decide (PySem.W.findIn K (.ref C0) "column" = some none)) = true)
    (m1 : PySem.W.nsIn K mainGlobals "BadNumber" = some (some (.ref C1)))
    (ei1 : PySem.W.findIn K (.ref C1) "__init__" = some (some (.ref i1)))
    (ti1 : PySem.W.typeIn K (.ref i1) = some (.type "function"))
    (li1 : K.lookup i1 = some ⟨oci1, odi1, .func (PySem.W.fnOf "__init__" "BadNumber.__init__" (defArgs (inClass (topS 8) 0)) (defBody (inClass (topS 8) 0)) (defScope (inClass (topS 8) 0)) .none kVi1 dci1 pmi1 ani1 cdi1 cti1), sli1⟩)
    (ci1 : PySem.W.codeIn K cdi1 "BadNumber.__init__" = true)
    (ki1 : PySem.W.keepIn K (.ref i1) = true)
    (lc1 : K.lookup C1 = some (excClassObj nm1 qn1 C1 N1 bs1 bm1 true sn1 sub1 ab1 col1 dd1 ka1 kb1 kc1 kd1 ke1 "ValueError.__new__"))
    (lb1 : PySem.HandSPX.refsVE bm1 = true)
    (big1 : (oexB K C1 && decide (PySem.W.findIn K (.ref C1) "what" = some none) && decide (PySem.W.findIn K (.ref C1) "number" = some none)) = true)
    (m2 : PySem.W.nsIn K mainGlobals "BadRow" = some (some (.ref C2)))
    (ei2 : PySem.W.findIn K (.ref C2) "__init__" = some (some (.ref i2)))
    (ti2 : PySem.W.typeIn K (.ref i2) = some (.type "function"))
    (li2 : K.lookup i2 = some ⟨oci2, odi2, .func (PySem.W.fnOf "__init__" "BadRow.__init__" (defArgs (inClass (topS 9) 0)) (defBody (inClass (topS 9) 0)) (defScope (inClass (topS 9) 0)) .none kVi2 dci2 pmi2 ani2 cdi2 cti2), sli2⟩)
    (ci2 : PySem.W.codeIn K cdi2 "BadRow.__init__" = true)
    (ki2 : PySem.W.keepIn K (.ref i2) = true)
    (lc2 : K.lookup C2 = some (excClassObj nm2 qn2 C2 N2 bs2 bm2 true sn2 sub2 ab2 col2 dd2 ka2 kb2 kc2 kd2 ke2 "ValueError.__new__"))
    (lb2 : PySem.HandSPX.refsVE bm2 = true)
    (big2 : (oexB K C2 && decide (PySem.W.findIn K (.ref C2) "row" = some none)) = true)
    (mcg : PySem.W.nsIn K mainGlobals "Poly" = some (some (.ref Cg)))
    (eg0 : PySem.W.findIn K (.ref Cg) "__init__" = some (some (.ref g0)))
    (tg0 : PySem.W.typeIn K (.ref g0) = some (.type "function"))
    (lg0 : K.lookup g0 = some ⟨ocg0, odg0, .func (PySem.W.fnOf "__init__" "Poly.__init__" (defArgs (inClass (topS 33) 0)) (defBody (inClass (topS 33) 0)) (defScope (inClass (topS 33) 0)) .none kVg0 dcg0 pmg0 ang0 cdg0 ctg0), slg0⟩)
    (cg0 : PySem.W.codeIn K cdg0 "Poly.__init__" = true)
    (kg0 : PySem.W.keepIn K (.ref g0) = true)
    (eg1 : PySem.W.findIn K (.ref Cg) "__eq__" = some (some (.ref g1)))
    (tg1 : PySem.W.typeIn K (.ref g1) = some (.type "function"))
    (lg1 : K.lookup g1 = some ⟨ocg1, odg1, .func (PySem.W.fnOf "__eq__" "Poly.__eq__" (defArgs (inClass (topS 33) 1)) (defBody (inClass (topS 33) 1)) (defScope (inClass (topS 33) 1)) .none kVg1 dcg1 pmg1 ang1 cdg1 ctg1), slg1⟩)
    (cg1 : PySem.W.codeIn K cdg1 "Poly.__eq__" = true)
    (kg1 : PySem.W.keepIn K (.ref g1) = true)
    (zint : PySem.W.nsIn K mainGlobals "int" = some none)
    (zlist : PySem.W.nsIn K mainGlobals "list" = some none)
    (zlen : PySem.W.nsIn K mainGlobals "len" = some none)
    (zrange : PySem.W.nsIn K mainGlobals "range" = some none)
    (zstr : PySem.W.nsIn K mainGlobals "str" = some none)
    (zisinstance : PySem.W.nsIn K mainGlobals "isinstance" = some none)
    (zbool : PySem.W.nsIn K mainGlobals "bool" = some none)
    (ztuple : PySem.W.nsIn K mainGlobals "tuple" = some none)
    (zabs : PySem.W.nsIn K mainGlobals "abs" = some none)
    (zall : PySem.W.nsIn K mainGlobals "all" = some none)
    (zenumerate : PySem.W.nsIn K mainGlobals "enumerate" = some none)
    (bigP : polyB K Cg = true) :
    LawG l w K CX0 10 63 "_law_script" mg fa h := by
  have e := hfa.symm.trans (PySem.W.mg_of X G a41)
  cases e
  have mgo : ∀ {x : Str} {a : Value}, PySem.W.nsIn K mainGlobals x = some (some a) → mg x = some a := fun z => PySem.W.mg_of X G z
  have mgn : ∀ {x : Str}, PySem.W.nsIn K mainGlobals x = some none → mg x = none := fun z => PySem.W.mg_none_of X G z
  have F0 := fun_mk (st := sPen) l0 c0 k0
  have F1 := fun_mk (st := sDraw) l1 c1 k1
  have F2 := fun_mk (st := sPick) l2 c2 k2
  have F3 := fun_mk (st := sIsWhole) l3 c3 k3
  have F4 := fun_mk (st := sIsRatio) l4 c4 k4
  have F5 := fun_mk (st := sIsRow) l5 c5 k5
  have F6 := fun_mk (st := sLowest) l6 c6 k6
  have F7 := fun_mk (st := sParts) l7 c7 k7
  have F8 := fun_mk (st := sTold) l8 c8 k8
  have F9 := fun_mk (st := sPlus) l9 c9 k9
  have F10 := fun_mk (st := sTimes) l10 c10 k10
  have F11 := fun_mk (st := sBeh) l11 c11 k11
  have F12 := fun_mk (st := sIsD) l12 c12 k12
  have F13 := fun_mk (st := sRW) l13 c13 k13
  have F14 := fun_mk (st := sRN) l14 c14 k14
  have F15 := fun_mk (st := sRP) l15 c15 k15
  have F16 := fun_mk (st := sRT) l16 c16 k16
  have F17 := fun_mk (st := sSg) l17 c17 k17
  have F18 := fun_mk (st := sRTs) l18 c18 k18
  have F19 := fun_mk (st := sRPl) l19 c19 k19
  have F20 := fun_mk (st := sPolyOf) l20 c20 k20
  have F21 := fun_mk (st := sDigits) l21 c21 k21
  have F22 := fun_mk (st := sRText) l22 c22 k22
  have F23 := fun_mk (st := sSText) l23 c23 k23
  have F24 := fun_mk (st := sTText) l24 c24 k24
  have F25 := fun_mk (st := sPText) l25 c25 k25
  have F26 := fun_mk (st := sLGcd) l26 c26 k26
  have F27 := fun_mk (st := sLQ) l27 c27 k27
  have F28 := fun_mk (st := sLMinus) l28 c28 k28
  have F29 := fun_mk (st := sLAbs) l29 c29 k29
  have F30 := fun_mk (st := sPassed) l30 c30 k30
  have F31 := fun_mk (st := sLRatio) l31 c31 k31
  have F32 := fun_mk (st := sLPoly) l32 c32 k32
  have F33 := fun_mk (st := sMade) l33 c33 k33
  have F34 := fun_mk (st := sFar) l34 c34 k34
  have F35 := fun_mk (st := sSome) l35 c35 k35
  have F36 := fun_mk (st := sLSize) l36 c36 k36
  have F37 := fun_mk (st := sLDue) l37 c37 k37
  have F38 := fun_mk (st := sGap) l38 c38 k38
  have F39 := fun_mk (st := sLTerm) l39 c39 k39
  have F40 := fun_mk (st := sLoose) l40 c40 k40
  have F41 := fun_mk (st := sLaw) l41 c41 k41
  have b0 := F0.binds (ps := ["_law_script"]) fun _ _ _ _ _ _ us hl => match us, hl with | [_], _ => rfl
  have b1 := F1.binds (ps := ["_law_pen_here", "_law_many"]) fun _ _ _ _ _ _ us hl => match us, hl with | [_, _], _ => rfl
  have b2 := F2.binds (ps := ["_law_pen_here", "_law_some"]) fun _ _ _ _ _ _ us hl => match us, hl with | [_, _], _ => rfl
  have b3 := F3.binds (ps := ["value"]) fun _ _ _ _ _ _ us hl => match us, hl with | [_], _ => rfl
  have b4 := F4.binds (ps := ["value"]) fun _ _ _ _ _ _ us hl => match us, hl with | [_], _ => rfl
  have b5 := F5.binds (ps := ["value"]) fun _ _ _ _ _ _ us hl => match us, hl with | [_], _ => rfl
  have b6 := F6.binds (ps := ["top", "bottom"]) fun _ _ _ _ _ _ us hl => match us, hl with | [_, _], _ => rfl
  have b7 := F7.binds (ps := ["value", "what"]) fun _ _ _ _ _ _ us hl => match us, hl with | [_, _], _ => rfl
  have b8 := F8.binds (ps := ["value", "what"]) fun _ _ _ _ _ _ us hl => match us, hl with | [_, _], _ => rfl
  have b9 := F9.binds (ps := ["one", "other"]) fun _ _ _ _ _ _ us hl => match us, hl with | [_, _], _ => rfl
  have b10 := F10.binds (ps := ["one", "other"]) fun _ _ _ _ _ _ us hl => match us, hl with | [_, _], _ => rfl
  have b11 := F11.binds (ps := ["text", "at"]) fun _ _ _ _ _ _ us hl => match us, hl with | [_, _], _ => rfl
  have b12 := F12.binds (ps := ["text", "at"]) fun _ _ _ _ _ _ us hl => match us, hl with | [_, _], _ => rfl
  have b13 := F13.binds (ps := ["text", "at"]) fun _ _ _ _ _ _ us hl => match us, hl with | [_, _], _ => rfl
  have b14 := F14.binds (ps := ["text", "at"]) fun _ _ _ _ _ _ us hl => match us, hl with | [_, _], _ => rfl
  have b15 := F15.binds (ps := ["text", "at"]) fun _ _ _ _ _ _ us hl => match us, hl with | [_, _], _ => rfl
  have b16 := F16.binds (ps := ["text", "at"]) fun _ _ _ _ _ _ us hl => match us, hl with | [_, _], _ => rfl
  have b17 := F17.binds (ps := ["text", "at"]) fun _ _ _ _ _ _ us hl => match us, hl with | [_, _], _ => rfl
  have b18 := F18.binds (ps := ["text", "at"]) fun _ _ _ _ _ _ us hl => match us, hl with | [_, _], _ => rfl
  have b19 := F19.binds (ps := ["text", "at"]) fun _ _ _ _ _ _ us hl => match us, hl with | [_, _], _ => rfl
  have b20 := F20.binds (ps := ["text"]) fun _ _ _ _ _ _ us hl => match us, hl with | [_], _ => rfl
  have b21 := F21.binds (ps := ["number"]) fun _ _ _ _ _ _ us hl => match us, hl with | [_], _ => rfl
  have b22 := F22.binds (ps := ["value"]) fun _ _ _ _ _ _ us hl => match us, hl with | [_], _ => rfl
  have b23 := F23.binds (ps := ["top", "first"]) fun _ _ _ _ _ _ us hl => match us, hl with | [_, _], _ => rfl
  have b24 := F24.binds (ps := ["number", "power"]) fun _ _ _ _ _ _ us hl => match us, hl with | [_, _], _ => rfl
  have b25 := F25.binds (ps := ["poly"]) fun _ _ _ _ _ _ us hl => match us, hl with | [_], _ => rfl
  have b26 := F26.binds (ps := ["_law_one", "_law_two"]) fun _ _ _ _ _ _ us hl => match us, hl with | [_, _], _ => rfl
  have b27 := F27.binds (ps := ["_law_top", "_law_bottom"]) fun _ _ _ _ _ _ us hl => match us, hl with | [_, _], _ => rfl
  have b28 := F28.binds (ps := ["_law_one", "_law_two"]) fun _ _ _ _ _ _ us hl => match us, hl with | [_, _], _ => rfl
  have b29 := F29.binds (ps := ["_law_one"]) fun _ _ _ _ _ _ us hl => match us, hl with | [_], _ => rfl
  have b30 := F30.binds (ps := ["_law_pen_here", "_law_ratio_here"]) fun _ _ _ _ _ _ us hl => match us, hl with | [_, _], _ => rfl
  have b31 := F31.binds (ps := ["_law_pen_here", "_law_most"]) fun _ _ _ _ _ _ us hl => match us, hl with | [_, _], _ => rfl
  have b32 := F32.binds (ps := ["_law_numbers"]) fun _ _ _ _ _ _ us hl => match us, hl with | [_], _ => rfl
  have b33 := F33.binds (ps := ["_law_pen_here", "_law_one"]) fun _ _ _ _ _ _ us hl => match us, hl with | [_, _], _ => rfl
  have b34 := F34.binds (ps := ["_law_pen_here"]) fun _ _ _ _ _ _ us hl => match us, hl with | [_], _ => rfl
  have b35 := F35.binds (ps := ["_law_pen_here"]) fun _ _ _ _ _ _ us hl => match us, hl with | [_], _ => rfl
  have b36 := F36.binds (ps := ["_law_number"]) fun _ _ _ _ _ _ us hl => match us, hl with | [_], _ => rfl
  have b37 := F37.binds (ps := ["_law_numbers"]) fun _ _ _ _ _ _ us hl => match us, hl with | [_], _ => rfl
  have b38 := F38.binds (ps := ["_law_pen_here"]) fun _ _ _ _ _ _ us hl => match us, hl with | [_], _ => rfl
  have b39 := F39.binds (ps := ["_law_pen_here", "_law_k", "_law_number"]) fun _ _ _ _ _ _ us hl => match us, hl with | [_, _, _], _ => rfl
  have b40 := F40.binds (ps := ["_law_pen_here", "_law_numbers"]) fun _ _ _ _ _ _ us hl => match us, hl with | [_, _], _ => rfl
  have FI0 := fun_mk (st := inClass (topS 7) 0) li0 ci0 ki0
  have bI0 := FI0.binds (ps := ["self", "column"]) fun _ _ _ _ _ _ us hl => match us, hl with | [_, _], _ => rfl
  have oo0 : OexC K C0 := oexB_ok ((Bool.and_eq_true_iff.mp (big0)).1) ⟨nm0, qn0, N0, bs0, bm0, sn0, sub0, ab0, col0, dd0, ka0, kb0, kc0, kd0, ke0, lc0, lb0⟩
  have no0_0 := (of_decide_eq_true (Bool.and_eq_true_iff.mp (big0)).2 : PySem.W.findIn K (.ref C0) "column" = some none)
  have FI1 := fun_mk (st := inClass (topS 8) 0) li1 ci1 ki1
  have bI1 := FI1.binds (ps := ["self", "what", "number"]) fun _ _ _ _ _ _ us hl => match us, hl with | [_, _, _], _ => rfl
  have oo1 : OexC K C1 := oexB_ok ((Bool.and_eq_true_iff.mp ((Bool.and_eq_true_iff.mp (big1)).1)).1) ⟨nm1, qn1, N1, bs1, bm1, sn1, sub1, ab1, col1, dd1, ka1, kb1, kc1, kd1, ke1, lc1, lb1⟩
  have no1_0 := (of_decide_eq_true (Bool.and_eq_true_iff.mp ((Bool.and_eq_true_iff.mp (big1)).1)).2 : PySem.W.findIn K (.ref C1) "what" = some none)
  have no1_1 := (of_decide_eq_true (Bool.and_eq_true_iff.mp (big1)).2 : PySem.W.findIn K (.ref C1) "number" = some none)
  have FI2 := fun_mk (st := inClass (topS 9) 0) li2 ci2 ki2
  have bI2 := FI2.binds (ps := ["self", "row"]) fun _ _ _ _ _ _ us hl => match us, hl with | [_, _], _ => rfl
  have oo2 : OexC K C2 := oexB_ok ((Bool.and_eq_true_iff.mp (big2)).1) ⟨nm2, qn2, N2, bs2, bm2, sn2, sub2, ab2, col2, dd2, ka2, kb2, kc2, kd2, ke2, lc2, lb2⟩
  have no2_0 := (of_decide_eq_true (Bool.and_eq_true_iff.mp (big2)).2 : PySem.W.findIn K (.ref C2) "row" = some none)
  obtain ⟨PC, PMk, PKp⟩ := polyC (mg := mg) (mgo mcg) bigP
  have Fg0 := fun_mk (st := inClass (topS 33) 0) lg0 cg0 kg0
  have bg0 := Fg0.binds (ps := ["self", "numbers"]) fun _ _ _ _ _ _ us hl => match us, hl with | [_, _], _ => rfl
  have Fg1 := fun_mk (st := inClass (topS 33) 1) lg1 cg1 kg1
  have bg1 := Fg1.binds (ps := ["self", "other"]) fun _ _ _ _ _ _ us hl => match us, hl with | [_, _], _ => rfl
  have B : Bi mg := { int := mgn zint, list := mgn zlist, len := mgn zlen, range := mgn zrange }
  have T : Bk mg := { toBi := B, isinstance := mgn zisinstance, bool := mgn zbool, tuple := mgn ztuple, abs := mgn zabs, str := mgn zstr, gcd := mgo aggcd }
  have bl : ∀ (s : Shared) (u : Value), BindsTo s (PySem.W.fnOf "law" "law" (defArgs sLaw) (defBody sLaw) (defScope sLaw) .none kVf41 dcf41 pmf41 anf41 cdf41 ctf41) ⟨[u], []⟩ [("_law_script", u)] := fun s u => .of_eq rfl
  refine ⟨_, [], spLaw0 K, (fun p hp => nomatch hp), (fun p hp => nomatch hp), (fun p hp => nomatch hp), (fun s u => bl s u), (fun H a ns hl _ _ hS => ⟨a, ns, rfl, hS, hl, fun _ => rfl⟩), fun b _ _ mm1 _ => ?_⟩
  let NBadText : Ex l.prog w K mg b "BadText" C0 ["column"] := ⟨oo0, i0, _, mgo m0, ei0, ti0, bI0, iniBadText FI0 oo0 no0_0⟩
  let NBadNumber : Ex l.prog w K mg b "BadNumber" C1 ["what", "number"] := ⟨oo1, i1, _, mgo m1, ei1, ti1, bI1, iniBadNumber FI1 oo1 no1_0 no1_1⟩
  let NBadRow : Ex l.prog w K mg b "BadRow" C2 ["row"] := ⟨oo2, i2, _, mgo m2, ei2, ti2, bI2, iniBadRow FI2 oo2 no2_0⟩
  let G_law_draw : Df l.prog w K mg b "_law_draw" 1 ["_law_pen_here", "_law_many"] spDraw := ⟨f1, _, mgo a1, k1, b1, ok_draw F1 B⟩
  let G_law_pick : Df l.prog w K mg b "_law_pick" 2 ["_law_pen_here", "_law_some"] spPick := ⟨f2, _, mgo a2, k2, b2, ok_pick F2 B G_law_draw⟩
  let G_law_pen : Df l.prog w K mg b "_law_pen" 1 ["_law_script"] (spPen K) := ⟨f0, _, mgo a0, k0, b0, ok_pen F0 B⟩
  let Gis_whole : Df l.prog w K mg b "is_whole" 1 ["value"] (spWhole K) := ⟨f3, _, mgo a3, k3, b3, ok_is_whole F3 T⟩
  let Gis_ratio : Df l.prog w K mg b "is_ratio" 2 ["value"] (spIsRatio K) := ⟨f4, _, mgo a4, k4, b4, ok_is_ratio F4 T Gis_whole⟩
  let Gis_ratio_row : Df l.prog w K mg b "is_ratio_row" 3 ["value"] (spIsRow K) := ⟨f5, _, mgo a5, k5, b5, ok_is_row F5 T (mgn zall) Gis_ratio⟩
  let Glowest : Df l.prog w K mg b "lowest" 1 ["top", "bottom"] spLow := ⟨f6, _, mgo a6, k6, b6, ok_lowest F6 T⟩
  let Gparts_of : Dx l.prog w K mg b "parts_of" 3 ["value", "what"] (spParts K C1) := ⟨f7, _, mgo a7, k7, b7, ok_parts F7 T Gis_ratio NBadNumber⟩
  let Gtold : Dx l.prog w K mg b "told" 4 ["value", "what"] (spTold K C1) := ⟨f8, _, mgo a8, k8, b8, ok_told F8 Gparts_of Glowest⟩
  let Gplus : Dx l.prog w K mg b "plus" 4 ["one", "other"] (spTwo K C1 (okLow gPlus)) := ⟨f9, _, mgo a9, k9, b9, ok_plus F9 Gparts_of Glowest NBadNumber⟩
  let Gtimes : Dx l.prog w K mg b "times" 4 ["one", "other"] (spTwo K C1 (okLow gTimes)) := ⟨f10, _, mgo a10, k10, b10, ok_times F10 Gparts_of Glowest NBadNumber⟩
  let PM : PoM l.prog w K mg b Cg C2 := ⟨PC, g0, _, ⟨PMk, eg0, fn_of_ty tg0, PKp⟩, bg0, ok_poly_init Fg0 T PC NBadRow Gis_ratio_row Gtold, g1, _, eg1, fn_of_ty tg1, bg1, ok_poly_eq Fg1 T mm1 PC⟩
  let Gbehind_spaces : Df l.prog w K mg b "behind_spaces" 1 ["text", "at"] spBeh := ⟨f11, _, mgo a11, k11, b11, ok_beh F11⟩
  let Gis_digit : Df l.prog w K mg b "is_digit" 1 ["text", "at"] spIsD := ⟨f12, _, mgo a12, k12, b12, ok_isd F12 T (mgo acDIGITS)⟩
  let Gread_whole : Dx l.prog w K mg b "read_whole" 3 ["text", "at"] (spRW C0) := ⟨f13, _, mgo a13, k13, b13, ok_rw F13 T NBadText (mgo acMOST_DIGITS) Gis_digit⟩
  let Gread_number : Dx l.prog w K mg b "read_number" 4 ["text", "at"] spRN7 := ⟨f14, _, mgo a14, k14, b14, ok_rn F14 T NBadText Gread_whole⟩
  let Gread_power : Dx l.prog w K mg b "read_power" 3 ["text", "at"] spRP7 := ⟨f15, _, mgo a15, k15, b15, ok_rp F15 T NBadText Gis_digit⟩
  let Gsign_at : Df l.prog w K mg b "sign_at" 1 ["text", "at"] spSg := ⟨f17, _, mgo a17, k17, b17, ok_sg F17⟩
  let Gread_term : Dx l.prog w K mg b "read_term" 5 ["text", "at"] spRT7 := ⟨f16, _, mgo a16, k16, b16, ok_rt F16 T Gbehind_spaces Gread_number Gread_power⟩
  let Gread_terms : Dx l.prog w K mg b "read_terms" 6 ["text", "at"] spRTs7 := ⟨f18, _, mgo a18, k18, b18, ok_rts F18 T Gbehind_spaces Gread_term Gsign_at Gtimes⟩
  let Gread_poly : Dx l.prog w K mg b "read_poly" 7 ["text", "at"] (spRPl7 K Cg) := ⟨f19, _, mgo a19, k19, b19, ok_rpl F19 T PM Gread_terms Gplus⟩
  let Gpoly_of : Dx l.prog w K mg b "poly_of" 8 ["text"] (spPO7 K Cg) := ⟨f20, _, mgo a20, k20, b20, ok_polyof F20 T NBadText Gread_poly⟩
  let Gdigits_of : Df l.prog w K mg b "digits_of" 1 ["number"] spDigits := ⟨f21, _, mgo a21, k21, b21, ok_digits F21 T⟩
  let Gratio_text : Dx l.prog w K mg b "ratio_text" 5 ["value"] spRText := ⟨f22, _, mgo a22, k22, b22, ok_rtext F22 T Gtold Gdigits_of⟩
  let Gsign_text : Df l.prog w K mg b "sign_text" 1 ["top", "first"] spSText := ⟨f23, _, mgo a23, k23, b23, ok_stext F23⟩
  let Gterm_text : Dx l.prog w K mg b "term_text" 6 ["number", "power"] spTText := ⟨f24, _, mgo a24, k24, b24, ok_ttext F24 mm1 Gratio_text⟩
  let Gpoly_text : Dx l.prog w K mg b "poly_text" 7 ["poly"] (spPText K Cg) := ⟨f25, _, mgo a25, k25, b25, ok_ptext F25 T PC Gsign_text Gterm_text⟩
  let G_law_gcd : Df l.prog w K mg b "_law_gcd" 1 ["_law_one", "_law_two"] spGcd := ⟨f26, _, mgo a26, k26, b26, ok_lgcd F26 T⟩
  let G_law_q : Df l.prog w K mg b "_law_q" 2 ["_law_top", "_law_bottom"] spQ := ⟨f27, _, mgo a27, k27, b27, ok_lq F27 G_law_gcd⟩
  let G_law_minus : Df l.prog w K mg b "_law_minus" 3 ["_law_one", "_law_two"] (spL2 rSub) := ⟨f28, _, mgo a28, k28, b28, ok_lminus F28 G_law_q⟩
  let G_law_abs : Df l.prog w K mg b "_law_abs" 1 ["_law_one"] spAbs := ⟨f29, _, mgo a29, k29, b29, ok_labs F29 T⟩
  let G_law_passed : Df l.prog w K mg b "_law_passed" 3 ["_law_pen_here", "_law_ratio_here"] (spPassed K) := ⟨f30, _, mgo a30, k30, b30, ok_passed F30 G_law_draw G_law_pick⟩
  let G_law_ratio : Df l.prog w K mg b "_law_ratio" 3 ["_law_pen_here", "_law_most"] spRatio := ⟨f31, _, mgo a31, k31, b31, ok_lratio F31 G_law_draw G_law_pick G_law_q⟩
  let G_law_poly : Df l.prog w K mg b "_law_poly" 1 ["_law_numbers"] (spLPoly K) := ⟨f32, _, mgo a32, k32, b32, ok_lpoly F32 T mm1⟩
  let G_law_made_poly : Df l.prog w K mg b "_law_made_poly" 7 ["_law_pen_here", "_law_one"] (spMade K Cg) := ⟨f33, _, mgo a33, k33, b33, ok_made F33 T PM G_law_draw G_law_pick G_law_passed⟩
  let G_law_far : Df l.prog w K mg b "_law_far" 3 ["_law_pen_here"] spFar := ⟨f34, _, mgo a34, k34, b34, ok_far F34 B G_law_draw G_law_pick⟩
  let G_law_some_ratio : Df l.prog w K mg b "_law_some_ratio" 4 ["_law_pen_here"] spSome := ⟨f35, _, mgo a35, k35, b35, ok_some F35 T G_law_far G_law_q⟩
  let G_law_size : Df l.prog w K mg b "_law_size" 1 ["_law_number"] spLSize := ⟨f36, _, mgo a36, k36, b36, ok_lsize F36 T⟩
  let G_law_due : Df l.prog w K mg b "_law_due" 2 ["_law_numbers"] spLDue := ⟨f37, _, mgo a37, k37, b37, ok_ldue F37 T (mgn zenumerate) G_law_size⟩
  let G_law_gap : Df l.prog w K mg b "_law_gap" 3 ["_law_pen_here"] spGap := ⟨f38, _, mgo a38, k38, b38, ok_gap F38 G_law_pick⟩
  let G_law_term : Df l.prog w K mg b "_law_term" 4 ["_law_pen_here", "_law_k", "_law_number"] spLTerm := ⟨f39, _, mgo a39, k39, b39, ok_lterm F39 T mm1 G_law_draw G_law_pick G_law_gap⟩
  let G_law_loose : Df l.prog w K mg b "_law_loose" 5 ["_law_pen_here", "_law_numbers"] spLoose := ⟨f40, _, mgo a40, k40, b40, ok_loose F40 T mm1 (mgn zenumerate) G_law_draw G_law_ratio G_law_minus G_law_abs G_law_gap G_law_term⟩
  exact ok_law F41 T mm1 PM G_law_pen G_law_draw G_law_pick G_law_ratio G_law_some_ratio G_law_poly G_law_made_poly G_law_due G_law_loose Gpoly_text Gpoly_of
end Vf

open PySem PySem.W PyProof.Rows
set_option maxRecDepth 100000 in
set_option maxHeartbeats 0 in
theorem PySem.Challenge.cw_nearcurves_k07_whole_texts_of_polynomial_holds : PySem.Challenge.rw_nearcurves_k07_whole_texts_of_polynomial.Holds := by
  w_on; o_law; k_head; (case hw => w_witness2)
  k_fill
  refine Vf.walkG (l := PySem.Challenge.rw_nearcurves_k07_whole_texts_of_polynomial) (n := 63) (k := 10) (C := fun _ => L2.CX0) (x := "_law_script") rfl (by decide) rfl ⟨rfl, by decide, by decide⟩ (by decide +kernel) (fun w h Y => PySem.W.kIn_of Y) ?F (fun _ _ _ _ _ z => z)
  case F =>
    intro w mg fa h Y X G hmg
    refine' Vf.all_mk X G hmg ?a0 ?l0 ?c0 ?k0 ?a1 ?l1 ?c1 ?k1 ?a2 ?l2 ?c2 ?k2 ?a3 ?l3 ?c3 ?k3 ?a4 ?l4 ?c4 ?k4 ?a5 ?l5 ?c5 ?k5 ?a6 ?l6 ?c6 ?k6 ?a7 ?l7 ?c7 ?k7 ?a8 ?l8 ?c8 ?k8 ?a9 ?l9 ?c9 ?k9 ?a10 ?l10 ?c10 ?k10 ?a11 ?l11 ?c11 ?k11 ?a12 ?l12 ?c12 ?k12 ?a13 ?l13 ?c13 ?k13 ?a14 ?l14 ?c14 ?k14 ?a15 ?l15 ?c15 ?k15 ?a16 ?l16 ?c16 ?k16 ?a17 ?l17 ?c17 ?k17 ?a18 ?l18 ?c18 ?k18 ?a19 ?l19 ?c19 ?k19 ?a20 ?l20 ?c20 ?k20 ?a21 ?l21 ?c21 ?k21 ?a22 ?l22 ?c22 ?k22 ?a23 ?l23 ?c23 ?k23 ?a24 ?l24 ?c24 ?k24 ?a25 ?l25 ?c25 ?k25 ?a26 ?l26 ?c26 ?k26 ?a27 ?l27 ?c27 ?k27 ?a28 ?l28 ?c28 ?k28 ?a29 ?l29 ?c29 ?k29 ?a30 ?l30 ?c30 ?k30 ?a31 ?l31 ?c31 ?k31 ?a32 ?l32 ?c32 ?k32 ?a33 ?l33 ?c33 ?k33 ?a34 ?l34 ?c34 ?k34 ?a35 ?l35 ?c35 ?k35 ?a36 ?l36 ?c36 ?k36 ?a37 ?l37 ?c37 ?k37 ?a38 ?l38 ?c38 ?k38 ?a39 ?l39 ?c39 ?k39 ?a40 ?l40 ?c40 ?k40 ?a41 ?l41 ?c41 ?k41 ?aggcd ?acDIGITS ?acMOST_DIGITS ?m0 ?ei0 ?ti0 ?li0 ?ci0 ?ki0 ?lc0 ?lb0 ?big0 ?m1 ?ei1 ?ti1 ?li1 ?ci1 ?ki1 ?lc1 ?lb1 ?big1 ?m2 ?ei2 ?ti2 ?li2 ?ci2 ?ki2 ?lc2 ?lb2 ?big2 ?mcg ?eg0 ?tg0 ?lg0 ?cg0 ?kg0 ?eg1 ?tg1 ?lg1 ?cg1 ?kg1 ?zint ?zlist ?zlen ?zrange ?zstr ?zisinstance ?zbool ?ztuple ?zabs ?zall ?zenumerate ?bigP
    (case a0 => k_is)
    (case l0 => k_is)
    (case c0 => k_is)
    (case k0 => k_is)
    (case a1 => k_is)
    (case l1 => k_is)
    (case c1 => k_is)
    (case k1 => k_is)
    (case a2 => k_is)
    (case l2 => k_is)
    (case c2 => k_is)
    (case k2 => k_is)
    (case a3 => k_is)
    (case l3 => k_is)
    (case c3 => k_is)
    (case k3 => k_is)
    (case a4 => k_is)
    (case l4 => k_is)
    (case c4 => k_is)
    (case k4 => k_is)
    (case a5 => k_is)
    (case l5 => k_is)
    (case c5 => k_is)
    (case k5 => k_is)
    (case a6 => k_is)
    (case l6 => k_is)
    (case c6 => k_is)
    (case k6 => k_is)
    (case a7 => k_is)
    (case l7 => k_is)
    (case c7 => k_is)
    (case k7 => k_is)
    (case a8 => k_is)
    (case l8 => k_is)
    (case c8 => k_is)
    (case k8 => k_is)
    (case a9 => k_is)
    (case l9 => k_is)
    (case c9 => k_is)
    (case k9 => k_is)
    (case a10 => k_is)
    (case l10 => k_is)
    (case c10 => k_is)
    (case k10 => k_is)
    (case a11 => k_is)
    (case l11 => k_is)
    (case c11 => k_is)
    (case k11 => k_is)
    (case a12 => k_is)
    (case l12 => k_is)
    (case c12 => k_is)
    (case k12 => k_is)
    (case a13 => k_is)
    (case l13 => k_is)
    (case c13 => k_is)
    (case k13 => k_is)
    (case a14 => k_is)
    (case l14 => k_is)
    (case c14 => k_is)
    (case k14 => k_is)
    (case a15 => k_is)
    (case l15 => k_is)
    (case c15 => k_is)
    (case k15 => k_is)
    (case a16 => k_is)
    (case l16 => k_is)
    (case c16 => k_is)
    (case k16 => k_is)
    (case a17 => k_is)
    (case l17 => k_is)
    (case c17 => k_is)
    (case k17 => k_is)
    (case a18 => k_is)
    (case l18 => k_is)
    (case c18 => k_is)
    (case k18 => k_is)
    (case a19 => k_is)
    (case l19 => k_is)
    (case c19 => k_is)
    (case k19 => k_is)
    (case a20 => k_is)
    (case l20 => k_is)
    (case c20 => k_is)
    (case k20 => k_is)
    (case a21 => k_is)
    (case l21 => k_is)
    (case c21 => k_is)
    (case k21 => k_is)
    (case a22 => k_is)
    (case l22 => k_is)
    (case c22 => k_is)
    (case k22 => k_is)
    (case a23 => k_is)
    (case l23 => k_is)
    (case c23 => k_is)
    (case k23 => k_is)
    (case a24 => k_is)
    (case l24 => k_is)
    (case c24 => k_is)
    (case k24 => k_is)
    (case a25 => k_is)
    (case l25 => k_is)
    (case c25 => k_is)
    (case k25 => k_is)
    (case a26 => k_is)
    (case l26 => k_is)
    (case c26 => k_is)
    (case k26 => k_is)
    (case a27 => k_is)
    (case l27 => k_is)
    (case c27 => k_is)
    (case k27 => k_is)
    (case a28 => k_is)
    (case l28 => k_is)
    (case c28 => k_is)
    (case k28 => k_is)
    (case a29 => k_is)
    (case l29 => k_is)
    (case c29 => k_is)
    (case k29 => k_is)
    (case a30 => k_is)
    (case l30 => k_is)
    (case c30 => k_is)
    (case k30 => k_is)
    (case a31 => k_is)
    (case l31 => k_is)
    (case c31 => k_is)
    (case k31 => k_is)
    (case a32 => k_is)
    (case l32 => k_is)
    (case c32 => k_is)
    (case k32 => k_is)
    (case a33 => k_is)
    (case l33 => k_is)
    (case c33 => k_is)
    (case k33 => k_is)
    (case a34 => k_is)
    (case l34 => k_is)
    (case c34 => k_is)
    (case k34 => k_is)
    (case a35 => k_is)
    (case l35 => k_is)
    (case c35 => k_is)
    (case k35 => k_is)
    (case a36 => k_is)
    (case l36 => k_is)
    (case c36 => k_is)
    (case k36 => k_is)
    (case a37 => k_is)
    (case l37 => k_is)
    (case c37 => k_is)
    (case k37 => k_is)
    (case a38 => k_is)
    (case l38 => k_is)
    (case c38 => k_is)
    (case k38 => k_is)
    (case a39 => k_is)
    (case l39 => k_is)
    (case c39 => k_is)
    (case k39 => k_is)
    (case a40 => k_is)
    (case l40 => k_is)
    (case c40 => k_is)
    (case k40 => k_is)
    (case a41 => k_is)
    (case l41 => k_is)
    (case c41 => k_is)
    (case k41 => k_is)
    (case aggcd => k_is)
    (case acDIGITS => k_is)
    (case acMOST_DIGITS => k_is)
    (case m0 => k_is)
    (case ei0 => k_is)
    (case ti0 => k_is)
    (case li0 => k_is)
    (case ci0 => k_is)
    (case ki0 => k_is)
    (case lc0 => k_is)
    (case lb0 => decide +kernel)
    (case big0 => kernel_rfl)
    (case m1 => k_is)
    (case ei1 => k_is)
    (case ti1 => k_is)
    (case li1 => k_is)
    (case ci1 => k_is)
    (case ki1 => k_is)
    (case lc1 => k_is)
    (case lb1 => decide +kernel)
    (case big1 => kernel_rfl)
    (case m2 => k_is)
    (case ei2 => k_is)
    (case ti2 => k_is)
    (case li2 => k_is)
    (case ci2 => k_is)
    (case ki2 => k_is)
    (case lc2 => k_is)
    (case lb2 => decide +kernel)
    (case big2 => kernel_rfl)
    (case mcg => k_is)
    (case eg0 => k_is)
    (case tg0 => k_is)
    (case lg0 => k_is)
    (case cg0 => k_is)
    (case kg0 => k_is)
    (case eg1 => k_is)
    (case tg1 => k_is)
    (case lg1 => k_is)
    (case cg1 => k_is)
    (case kg1 => k_is)
    (case zint => k_is)
    (case zlist => k_is)
    (case zlen => k_is)
    (case zrange => k_is)
    (case zstr => k_is)
    (case zisinstance => k_is)
    (case zbool => k_is)
    (case ztuple => k_is)
    (case zabs => k_is)
    (case zall => k_is)
    (case zenumerate => k_is)
    (case bigP => kernel_rfl)
