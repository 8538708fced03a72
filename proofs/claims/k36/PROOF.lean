import PyProof.Rows.All
import Wide.All
import OpenK.AllK
import Wide.FinOn
import HandS.ForMost
import HandS.AnyAll
import HandS.IsInst
import HandS.Style
import HandS.Defaults
import HandS.Head0
import HandS.Head1
import HandS.Head2
import HandS.HeadEnd
import HandS.HeadHook1
import HandS.HeadHook2
import HandS.HeadHook3
import HandS.HeadHook4
import HandS.HeadWalk
import HandS.GenList
import HandS.GenOver
import HandS.Iter
import HandS.Exc
import HandS.ExcIs
import HandS.ExcOwn
import HandS.ExcValue
import HandS.SetFor
import HandS.Zip
import HandS.Walk
import HandS.SortKw
import KE.DatumOrd
import KE.GoesMore
import KE.GoesEnum
import HandS.TupMul
import HandS.TupAny
import HandS.Text
import HandS.Lambda
import HandS.Words
import PySem.Challenge.RW_mastershow_k36_groups_and_times
set_option Elab.async false
set_option linter.all false
set_option maxRecDepth 100000
set_option maxHeartbeats 2000000
/-! all(test of sign for sign in text), the test over the module's own names -/
namespace Gx
open PySem PySem.Spec PyProof.Rows L2 GxR

/-- the element, in any frame of the generator, over the module as it stands -/
def EltG (X : Cx) (scope : Scope) (x : Str) (elt : Expr) (pb : Nat → Bool) : Prop :=
  ∀ (ge : Env) (B : Around) (F : Value → Shared → Prop) (c : Nat) (tk : Tok) (z : Shared) (m : Str → Option Value),
    ge.scope = scope → ge.globals = X.env.globals → z.heap.Ns ge.locals m → m x = some (.str ⟨#[c]⟩ tk) →
    (∀ b o, X.base.get? b = some o → z.heap.get? b = some o) → z.heap.Ns ge.globals X.mg →
    wpAny (model X.prog X.w) B (eval elt ge) (fun y z' => y = .bool (pb c) ∧ Keeps z z') F z

/-- x in G, G a text of the module's -/
theorem elt_inG {X : Cx} {scope : Scope} {x g : Str} {zs : Str} {tz : Tok} {p1 p2 p3 : Pos} (hk : scope.kind = .function) (hl : scope.names.lookup x = some .local)
    (hg : scope.names.lookup g = some .globalImplicit) (hm : X.mg g = some (.str zs tz)) (hd : (x == ("__debug__" : Str)) = false := by decide) (hd2 : (g == ("__debug__" : Str)) = false := by decide) :
    EltG X scope x (.Compare (.Name x p1) [.In] [.Name g p2] p3) (fun c => decide (c ∈ zs.cps.toList)) := by
  intro ge B F c tk z m hs hgl hn hx hb hN
  have kd : ge.scope.kind = .function := by rw [hs]; exact hk
  have kx : ge.scope.names.lookup x = some .local := by rw [hs]; exact hl
  have kg : ge.kindOf g = some .globalImplicit := (show ge.scope.names.lookup g = some .globalImplicit by rw [hs]; exact hg)
  refine wpAny_Compare1 ?_
  refine wpAny_Name (wpAny_loadName_local kd kx hn hx ?_) hd
  refine Calls.Name_function_global kd kg (Calls.loadGlobal_global hN hm ?_) hd2
  refine PyProof.Rows.in_str ?_
  exact ⟨congrArg Value.bool (PySem.StrLaws.found_one zs c), keeps_tok z z.toks⟩

/-- a or b -/
theorem elt_or {X : Cx} {scope : Scope} {x : Str} {a b : Expr} {pa pb : Nat → Bool} {p : Pos} (ha : EltG X scope x a pa) (hb : EltG X scope x b pb) :
    EltG X scope x (.BoolOp .Or [a, b] p) (fun c => pa c || pb c) := by
  intro ge B F c tk z m hs hgl hn hx hbs hN
  refine BoolOp_or (wpAny_mono (ha ge B F c tk z m hs hgl hn hx hbs hN) (fun v z1 hv => ?_) fun _ _ e => e)
  obtain ⟨rfl, h', t', rfl, kp⟩ := hv
  refine wpAny_truthy_bool ?_
  cases hp : pa c with
  | true =>
    refine ⟨?_, h', t', rfl, kp⟩
    show Value.bool true = Value.bool (pa c || pb c)
    rw [hp] <;> rfl
  | false =>
    refine BoolOp_one (wpAny_mono (hb ge B F c tk { z with heap := h', toks := t' } m hs hgl (hn.keeps kp) hx (fun q o e => kp q o (hbs q o e)) (hN.keeps kp)) (fun v z1 hv => ?_) fun _ _ e => e)
    obtain ⟨rfl, h2, t2, rfl, kp2⟩ := hv
    refine ⟨?_, h2, t2, rfl, fun q o e => kp2 q o (kp q o e)⟩
    show Value.bool (pb c) = Value.bool (pa c || pb c)
    rw [hp] <;> rfl

section
variable {X : Cx} {pins : List (Addr × Obj)} {σ : L2.St} {H : Hp} {s : Shared}
theorem gen_G {c P : Addr} {elt iter : Expr} {x : Str} {px gpos : Pos} {scope : Scope} {pb : Nat → Bool} {te : TE} {k : Nat} {W : Value → Shared → Prop} {R : Str → Hp → Prop}
    (room : Room k X.A) (tb : TabB X.base X.mg c P) (code : X.env.code = .ref c) (gs : GenS X.env scope x) (it : PE X iter te) (el : EltG X scope x elt pb)
    (fold : ∀ v, genFold iter X.env v = pure v) (I : Inv X pins σ H s) (h : te σ H fun v H1 => ∃ a : Str, v = .str a ∧ TabG H1 P ∧ R a H1)
    (fin : ∀ a H1 g s5, R a H1 → Ready X pins σ H1 P a pb g s5 → W (.ref g) s5) :
    wpAny (model X.prog X.w) X.A (eval (.GeneratorExp elt [⟨.Name x px, iter, [], 0⟩] scope gpos) X.env) W X.xe s := by
  refine wpAny_GeneratorExp_walksQ room.hd gs.co (closure_ok gs.free) gs.cell gs.dot gs.loc gs.kind (Nat.lt_of_le_of_lt (Nat.le_add_right X.A.depth (3 * k + 5)) (by have := room.dp; omega)) ?_ fold
  refine thn (it.run pins s σ H _ I h) ?_
  rintro xv s1 ⟨v, H1, J, rv, a, rfl, ⟨ps, tP, trip⟩, r⟩
  obtain ⟨t, rfl⟩ := _root_.id rv
  refine wpAny_pyIter_str fun o St walks st0 => ?_
  have atP := J.hok P _ tP
  have atP : s1.heap.get? P = some { cls := .none, data := .fields ps } := atP
  have ltP := Heap.lt_size atP
  have atP' : (s1.heap.push o).get? P = some { cls := .none, data := .fields ps } := Heap.get?_push_of_some _ atP
  have head := tb.code.keeps (h' := s1.heap.push o) fun b u e => Heap.get?_push_of_some _ (J.bk b u e)
  have lim := J.nolimit.push o
  have baseP : ∀ b u, X.base.get? b = some u → b ≠ P := fun b u e q => by
    have n := (J.bs b u e).2
    rw [q, tP] at n
    cases n
  have after : ∀ (cd : Value) (h3 : Heap) (tk : Nat) (ps' : Array Value), Heap.ExtBut P (s1.heap.push o) h3 → (s1.heap.push o).objs.size ≤ h3.objs.size → h3.get? P = some { cls := .none, data := .fields ps' } → (∃ more, ps' = ps ++ more) → TriplesOk ps'.toList →
      wpAny (model X.prog X.w) X.A (builtinsFor X.env.globals X.env.builtins) (fun bi s₄ =>
        ∃ Ia fp wr n₀ Pf St₀ pz F, Value.ref s1.heap.objs.size = .ref Ia ∧ (∀ A' : Around, A'.handled = none → Walks X.prog X.w A' Ia fp wr n₀ Pf St₀) ∧ St₀ 0 s₄.heap ∧ (∀ b ∈ fp, b < s₄.heap.objs.size) ∧ s₄.heap.NoLimit ∧ cStatics ∉ wr ∧
          (∀ href : Heap, (∀ b o, s₄.heap.get? b = some o → href.get? b = some o) →
            QuietGen X.prog X.w (genEnv scope (cloFrom X.env.cells scope.names []) s₄.heap.objs.size cd bi X.env) x [] elt (List.range s₄.heap.objs.size) wr Pf pz F href) ∧
          (∀ a h₅ tk gs, gs.bare = true → s₄.heap.objs.size < a → h₅.objs.size = a + 1 → (∀ b o, s₄.heap.get? b = some o → h₅.get? b = some o) →
            WalksS X.prog X.w X.A.in4 a (a :: s₄.heap.objs.size :: List.range s₄.heap.objs.size) (s₄.heap.objs.size :: wr) (GenOnlyQ s₄.gens.size) (passing pz n₀ 0).length
              (fun j y => ∃ i, (passing pz n₀ 0)[j]? = some i ∧ F i y) (GenAt X.prog X.w X.A.in4 a s₄.gens.size s₄.heap.objs.size (List.range s₄.heap.objs.size) wr pz n₀ F) →
            GenAt X.prog X.w X.A.in4 a s₄.gens.size s₄.heap.objs.size (List.range s₄.heap.objs.size) wr pz n₀ F 0 { s₄ with gens := s₄.gens.push gs, toks := tk, heap := h₅ } →
            W (.ref a) { s₄ with gens := s₄.gens.push gs, toks := tk, heap := h₅ })) X.xe { s1 with heap := h3, toks := tk } := by
    intro cd h3 tk ps' ext size atP3 grown trip3
    obtain ⟨bm, ob, e1, e2, e3, e4, e5, e6, e7, e8⟩ := tb.bm
    have statP : cStatics ≠ P := fun e => by
      obtain ⟨_, hns, _⟩ := J.nolimit
      obtain ⟨o', es, ep, ho, hd, _⟩ := hns
      rw [e, atP] at ho
      cases ho
      cases hd
    have statLt : cStatics < s1.heap.objs.size := let ⟨_, hns, _⟩ := J.nolimit; hns.lt
    have sz2 : (s1.heap.push o).objs.size = s1.heap.objs.size + 1 := Heap.size_push ..
    have kept : ∀ b u, b ≠ P → s1.heap.get? b = some u → h3.get? b = some u := fun b u hb e => ext b u hb (Heap.get?_push_of_some _ e)
    have glob3 : h3.Ns X.env.globals X.mg := by
      rw [J.ok.glob]
      exact ((J.mod.glob.keeps J.bk).push o).extBut ext tb.gP
    refine wpAny_builtinsFor (m := X.mg) glob3 e1 e2 (kept _ _ e4 (J.bk _ _ e5)) e6 e7 e8 ?_
    refine ⟨s1.heap.objs.size, [s1.heap.objs.size], [s1.heap.objs.size], a.cps.size, SignAt a, St, (fun _ => true), (fun i y => ∃ cc, a.cps[i]? = some cc ∧ y = .bool (pb cc)), rfl, walks, ?_, ?_, lim.extBut ext statP, ?_, ?_, ?_⟩
    · refine (walks X.A room.hd).frame _ _ _ st0 fun b hb u e => ext b u (fun z => ?_) e
      have q := List.mem_singleton.mp hb
      exact Nat.ne_of_lt ltP (z.symm.trans q)
    · intro b hb
      rw [List.mem_singleton.mp hb]
      show s1.heap.objs.size < h3.objs.size
      omega
    · intro z
      exact Nat.ne_of_lt statLt (List.mem_singleton.mp z)
    · intro href hhref
      have seen : ∀ s₂ : Shared, (∀ b ∈ List.range h3.objs.size, b ∉ [s1.heap.objs.size] → ∀ o, href.get? b = some o → s₂.heap.get? b = some o) → ∀ b u, b ≠ P → s1.heap.get? b = some u → s₂.heap.get? b = some u := fun s₂ hk b u hb e => by
        have l1 := Heap.lt_size e
        refine hk b (List.mem_range.mpr (Nat.lt_of_lt_of_le l1 (by omega))) (fun q => Nat.ne_of_lt l1 (List.mem_singleton.mp q)) u (hhref b u (kept b u hb e))
      refine ⟨fun A' E' i v s₂ m₂ hA hPv hn hm hk => ?_, fun A' E' i v s₂ m₂ hA hPv hp hn hm hk => ?_⟩
      · simp only [List.forIn_nil]
        exact wpAny_pure ⟨rfl, keeps_refl _⟩
      · obtain ⟨cc, u, hcc, rfl⟩ := hPv
        have gl2 : s₂.heap.Ns X.env.globals X.mg := by
          obtain ⟨og, es, ep, eg, dg, rg⟩ := J.mod.glob
          rw [J.ok.glob]
          exact ⟨og, es, ep, seen s₂ hk _ _ tb.gP (J.bk _ _ eg), dg, rg⟩
        exact wpAny_mono (el _ A' E' cc u s₂ m₂ rfl rfl hn hm (fun b o e => seen s₂ hk b o (baseP b o e) (J.bk b o e)) gl2) (fun y s3 r => ⟨⟨cc, hcc, r.1⟩, r.2⟩) fun _ _ e => e
    · intro g h5 tk5 gst hgb hag hsz5 hk5 W5 hat
      have ep : passing (fun _ : Nat => true) a.cps.size 0 = List.range a.cps.size := GxR.passing_true a.cps.size
      simp only [ep, List.length_range] at W5
      refine fin a H1 g _ r ⟨_, _, _, _, _, W5.in4_1, hat, ?_, fun s' hm => ?_⟩
      · intro j y sj Qj Ej hy hQj
        obtain ⟨i, hij, cc, hcc, rfl⟩ := hy
        obtain ⟨hj, ej⟩ := List.getElem?_eq_some_iff.mp hij
        rw [List.getElem_range] at ej
        subst ej
        have e9 : a.cps.toList[j]? = some cc := by rw [Array.getElem?_toList]; exact hcc
        have hQ2 : Qj (trF pb a.cps.toList j) sj := hQj
        rw [trF_some e9] at hQ2
        exact wpAny_truthy_bool hQ2
      · obtain ⟨more, em⟩ := grown
        have nwr : ∀ b u, s1.heap.get? b = some u → b ∉ h3.objs.size :: [s1.heap.objs.size] := fun b u e hb => by
          have hl := Heap.lt_size e
          rcases List.mem_cons.mp hb with z | z
          · have h9 : (h3.objs.size : Nat) < s1.heap.objs.size := by rw [z] at hl; exact hl
            omega
          · exact Nat.ne_of_lt hl (List.mem_singleton.mp z)
        have after := inv_tab (more := more) (h' := s'.heap) (g' := s'.gens) (d' := s'.drawn) (t' := s'.toks) J tP (fun b u hb e => hm.heap b u (nwr b u e) (hk5 b u (kept b u hb e)))
          (by rw [← em]; exact hm.heap P _ (nwr P _ atP) (hk5 P _ atP3)) (AllBare.movedS (J.bare.push hgb) hm)
        rw [sh_eta s1 s' hm.os] at after
        exact ⟨upd H1 P (.tbl (ps ++ more)), ⟨⟨ps ++ more, upd_same, by rw [← em]; exact trip3⟩, fun b hb => upd_ne hb⟩, after⟩
  refine ⟨lim, ?_⟩
  cases hf : codeAmong gpos ps.toList with
  | none =>
    refine wpAny_genexprCodeX code (head.code atP' trip) (head.tab atP') hf fun c' h' tk hx hge hlt hco' _ htab' _ => ?_
    obtain ⟨o1, vs, f1, tf, fl, tg, inF, tx, tt, op, _, _, _, _, _, _, _, _, _, htr, _⟩ := hco'
    exact after _ h' tk _ hx (Nat.le_trans hge (Nat.le_of_lt hlt)) htab'.2 ⟨_, rfl⟩ htr
  | some cv =>
    refine wpAny_genexprCode_hit code (head.code atP' trip) hf ?_
    exact after cv (s1.heap.push o) s1.toks ps (Heap.ExtBut.refl _ _) (Nat.le_refl _) atP' ⟨#[], by simp⟩ trip
theorem pe_allG {c P : Addr} {elt iter : Expr} {x : Str} {px p pos gpos : Pos} {scope : Scope} {pb : Nat → Bool} {te : TE} {k : Nat}
    (room : Room k X.A) (hg : Gl X "all") (hm : X.mg "all" = none) (tb : TabB X.base X.mg c P) (code : X.env.code = .ref c) (gs : GenS X.env scope x) (it : PE X iter te) (el : EltG X scope x elt pb)
    (fold : ∀ v, genFold iter X.env v = pure v := by intro _; rfl)
    (he : starEach [.GeneratorExp elt [⟨.Name x px, iter, [], 0⟩] scope gpos] X.env = (false, eval (.GeneratorExp elt [⟨.Name x px, iter, [], 0⟩] scope gpos) X.env) :: starEach [] X.env := by rfl) :
    PE X (.Call (.Name "all" p) [.GeneratorExp elt [⟨.Name x px, iter, [], 0⟩] scope gpos] [] pos) (tAllS P pb te) := by
  refine ⟨fun pins s σ H Q I h => ?_⟩
  refine wpAny_Call_Name_kw (ld_blt (u := .builtin "all") I hg hm (by decide +kernel) ?_)
  refine PyProof.Rows.callWith_builtin1 ?_ he (by rfl)
  rw [he]
  show wpAny _ _ (spliced ((false, eval (.GeneratorExp elt [⟨.Name x px, iter, [], 0⟩] scope gpos) X.env) :: backTo pos (starEach [] X.env))) _ _ s
  refine Calls.spliced_cons (gen_G (R := fun a H1 => ∀ H2, Tabbed P H1 H2 → Q (.bl (a.cps.toList.all pb)) H2) room tb code gs it el fold I h fun a H1 g s5 hR hG => ?_)
  obtain ⟨fp, wr, G, F, St, W, hst, htr, hI⟩ := hG
  refine Calls.spliced_nil ?_
  refine call_all_walkS (W.self 0 _ _ _ hst ⟨g, fp, wr, G, _, F, St, _, rfl, W, hst, htr, fun s' hmv => ?_⟩)
  obtain ⟨H2, hT, J⟩ := hI s' hmv
  refine ⟨.bl _, H2, J, rfl, ?_⟩
  rw [all_signs a pb]
  exact hR H2 hT
end
end Gx

set_option Elab.async false
set_option linter.all false
set_option maxRecDepth 100000
set_option maxHeartbeats 2000000
/-! What all these proofs share: a def by its name, kinds of things, the pen that draws. -/
namespace Gx
open PySem PySem.Spec PyProof.Rows L2 GxR
/-! ### a def of the module, by its name -/
structure Dn (P : Program) (w : World) (K : PySem.W.Frag) (mg : Str → Option Value) (base : Heap) (k : Nat) (x : Str) (ps : List Str) (sp : Sp) : Prop where
  ex : ∃ (f : Addr) (fd : FuncData), mg x = some (.ref f) ∧ PySem.W.keepIn K (.ref f) = true ∧ Binds K fd ps [] ∧ FnOk P w K mg base CX0 k f fd ps sp
section
variable {X : Cx} {k : Nat} {x : Str} {ps : List Str} {sp : Sp} {p pos : Pos} {e : Expr} {es : List Expr} {t : TA}
theorem pe_dn (D : Dn X.prog X.w X.K X.mg X.base k x ps sp) (hr : Room k X.A) (hg : Gl X x) (ha : PA X (e :: es) t) (hdb : (x == ("__debug__" : Str)) = false := by decide)
    (he : starEach (e :: es) X.env = (false, eval e X.env) :: starEach es X.env := by rfl) (hpl : (backTo pos (starEach es X.env)).any (·.1) = false := by rfl) :
    PE X (.Call (.Name x p) (e :: es) [] pos) (tCall sp [] E0 t) := by
  obtain ⟨f, fd, hm, hk, hb, F⟩ := D.ex
  exact pe_call F hr hg hm hk hb .nil pass0 ha hdb he hpl
theorem pe_dn0 (D : Dn X.prog X.w X.K X.mg X.base k x ps sp) (hr : Room k X.A) (hg : Gl X x) (hdb : (x == ("__debug__" : Str)) = false := by decide) :
    PE X (.Call (.Name x p) [] [] pos) (tCall sp [] E0 tNil) := by
  obtain ⟨f, fd, hm, hk, hb, F⟩ := D.ex
  exact pe_call0 F hr hg hm hk hb .nil pass0 hdb
end
section
variable {P : Program} {w : World} {K : PySem.W.Frag} {mg : Str → Option Value} {base : Heap}
/-- a def whose code object is told -/
theorem okC {x qual : Str} {params : Arguments} {body : List Stmt} {scope : Scope} {dvs : List V} {kws : List (Str × V)} {d : He.Defn} {fd : FuncData} {CX : CXT} {N ps : List Str} {k : Nat} {sp : Sp}
    (F : FunD K x qual params body scope dvs kws (He.fAd K d) fd) (S : FnScope N ps scope) (len : ∀ vs H Q E, sp vs H Q E → vs.length = ps.length)
    (hbody : ∀ (c : Value) (A : Around) (outer : List Env) (s : Shared) (H : Hp) (vs : List V) (Q : VK) (E : XK), c = .ref (He.codeOf K d) → Room k (A.deeper (envOfC qual scope s.heap.objs.size (He.fAd K d) c)) → sp vs H Q E →
      ∃ t, PSs (cxOf CX P w K mg base N qual scope (He.fAd K d) c A outer s H E) body t ∧ t { nx := fun _ H' => Q .non H', rt := Q } (start N vs) H) : FnOk P w K mg base CX (k + 1) (He.fAd K d) fd ps sp := by
  obtain ⟨oc, od, dV, kV, doc, pm, an, cdv, ct, osl, rfl, lk, hcd, _, _⟩ := F.ex
  obtain ⟨c, rfl⟩ := He.codeIn_ref hcd
  exact fn_of lk hcd S len fun A outer s H vs Q E hr hsp => hbody _ A outer s H vs Q E (congrArg Value.ref (He.codeOf_eq lk rfl).symm) hr hsp
end
theorem iteNb {b : Bool} {A B : Prop} (h1 : b = false → A) (h2 : b = true → B) : if (!b) = true then A else B := by
  cases b with
  | false => exact h1 rfl
  | true => exact iteF (h2 rfl)
theorem iteB {b : Bool} {A B : Prop} (h1 : b = true → A) (h2 : b = false → B) : if b = true then A else B := by
  cases b with
  | true => exact h1 rfl
  | false => exact iteF (h2 rfl)
theorem at_any {α : Type} {xs : List α} {z : Int} {j : Nat} {v : α} (e : z = (j : Int)) (h : xs[j]? = some v) : atI xs z = some v := by
  rw [e]
  exact atI_nat h
/-- two ways that meet again with some number -/
theorem viaInt {A : Prop} {R : Int → Prop} (h : (∀ c, R c) → A) (r : ∀ c, R c) : A := h r
section
variable {P : Program} {w : World} {K : PySem.W.Frag} {mg : Str → Option Value} {base : Heap} {x qual : Str} {params : Arguments} {body : List Stmt} {scope : Scope} {dvs : List V} {kws : List (Str × V)} {N ps : List Str} {k : Nat} {sp : Sp}
/-- a def that raises nothing -/
theorem okN {f : Addr} {fd : FuncData} {CX : CXT} (F : FunD K x qual params body scope dvs kws f fd) (S : FnScope N ps scope) (len : ∀ vs H Q E, sp vs H Q E → vs.length = ps.length)
    (hbody : ∀ (c : Value) (A : Around) (outer : List Env) (s : Shared) (H : Hp) (vs : List V) (Q : VK) (E : XK), Room k (A.deeper (envOfC qual scope s.heap.objs.size f c)) → sp vs H Q E →
      ∃ t, PSs (cxOf CX P w K mg base N qual scope f c A outer s H E).nox body t ∧ t { nx := fun _ H' => Q .non H', rt := Q } (start N vs) H) : FnOk P w K mg base CX (k + 1) f fd ps sp :=
  F.ok S len fun c A outer s H vs Q E hr h => let ⟨t, ht, q⟩ := hbody c A outer s H vs Q E hr h; ⟨t, ht.nox, q⟩
theorem okCN {d : He.Defn} {fd : FuncData} {CX : CXT} (F : FunD K x qual params body scope dvs kws (He.fAd K d) fd) (S : FnScope N ps scope) (len : ∀ vs H Q E, sp vs H Q E → vs.length = ps.length)
    (hbody : ∀ (c : Value) (A : Around) (outer : List Env) (s : Shared) (H : Hp) (vs : List V) (Q : VK) (E : XK), c = .ref (He.codeOf K d) → Room k (A.deeper (envOfC qual scope s.heap.objs.size (He.fAd K d) c)) → sp vs H Q E →
      ∃ t, PSs (cxOf CX P w K mg base N qual scope (He.fAd K d) c A outer s H E).nox body t ∧ t { nx := fun _ H' => Q .non H', rt := Q } (start N vs) H) : FnOk P w K mg base CX (k + 1) (He.fAd K d) fd ps sp :=
  okC F S len fun c A outer s H vs Q E hc hr h => let ⟨t, ht, q⟩ := hbody c A outer s H vs Q E hc hr h; ⟨t, ht.nox, q⟩
end
/-- a generator's scope that takes nothing from the def around it -/
theorem gs_plain {env : Env} {scope : Scope} {x : Str} (h1 : scope.kind = .function) (h2 : scope.isCoroutine = false) (h3 : scope.names.lookup (".0" : Str) = some NameKind.local) (h4 : scope.names.lookup x = some .local)
    (h5 : (scope.names.all fun y => decide (y.2 ≠ .cell) && decide (y.2 ≠ .free)) = true) : GenS env scope x := by
  have h6 := List.all_eq_true.mp h5
  refine ⟨h1, h2, fun y hy => ?_, h3, h4, fun y hy e => ?_⟩
  · have h7 := h6 y hy
    rw [Bool.and_eq_true] at h7
    exact of_decide_eq_true h7.1
  · have h7 := h6 y hy
    rw [Bool.and_eq_true] at h7
    exact absurd e (of_decide_eq_true h7.2)
/-! ### text * number -/
theorem op_mul_str {X : Cx} : OpR X (binaryOp .Mult) (fun x y H Q => ∃ (z : Str) (n : Int), x = .str z ∧ y = .int n ∧ MulOk z n ∧ Q (.str (Txt.mul z n)) H) := by
  intro pins s σ H x y v u Q I rx ry h
  obtain ⟨z, n, rfl, rfl, ok, q⟩ := h
  obtain ⟨t, rfl⟩ := rx
  obtain ⟨t', rfl⟩ := ry
  exact SB.mul ok fun t2 k => ⟨.str _, H, I.tok k, ⟨_, rfl⟩, q⟩
theorem mulOk {z : Str} {n : Int} (h1 : z.length ≤ 1000) (h2 : 0 ≤ n) (h3 : n ≤ 1000) : MulOk z n := by
  refine ⟨?_, fun h4 _ => ?_, fun h4 _ => ?_⟩
  · have a1 : ¬ n < -(2 ^ 63 : Int) := by omega
    have a2 : ¬ n ≥ 2 ^ 63 := by omega
    rw [decide_eq_false a1, decide_eq_false a2] <;> rfl
  · have h6 : (z.length : Int) * n ≤ 1000 * 1000 := Int.mul_le_mul (by omega) h3 h2 (by decide)
    have h5 : (z.length : Int) ≤ (2 ^ 63 - 1) / n := Int.le_ediv_of_mul_le (by omega) (by omega)
    omega
  · have h6 : z.length * n.toNat ≤ 1000 * 1000 := Nat.mul_le_mul h1 (by omega)
    show decide (z.length * n.toNat > sizeLine) = false
    exact decide_eq_false (by rw [sizeLine_eq]; omega)
/-! ### kinds of things -/
/-- a thing that the laws hand in: its type is known -/
inductive Th (H : Hp) : V → Prop where
  | non : Th H .non
  | bl (b : Bool) : Th H (.bl b)
  | int (i : Int) : Th H (.int i)
  | str (z : Str) : Th H (.str z)
  | lst {a : Addr} {xs : List V} (e : H a = some (.lst xs)) : Th H (.ref a)
  | tup {a : Addr} {xs : List V} (e : H a = some (.tup xs)) : Th H (.ref a)
  | dK {a : Addr} {kvs : List (Key × V)} (e : H a = some (.dK kvs)) : Th H (.ref a)
def isStr : V → Bool
  | .str _ => true
  | _ => false
def isBl : V → Bool
  | .bl _ => true
  | _ => false
theorem Th.str_ {K : PySem.W.Frag} {H : Hp} {v : V} (h : Th H v) : ∃ t, TyX K H v t ∧ PySem.W.kitOne K t (.type "str") = some (isStr v) := by
  cases h with
  | non => exact ⟨_, .base .non, kit_ty (r := false) (by decide +kernel)⟩
  | bl b => exact ⟨_, .base (.bl b), kit_ty (r := false) (by decide +kernel)⟩
  | int i => exact ⟨_, .base (.int i), kit_ty (r := false) (by decide +kernel)⟩
  | str z => exact ⟨_, .base (.str z), kit_ty (r := true) (by decide +kernel)⟩
  | lst e => exact ⟨_, .base (.lst e), kit_ty (r := false) (by decide +kernel)⟩
  | tup e => exact ⟨_, .base (.tup e), kit_ty (r := false) (by decide +kernel)⟩
  | dK e => exact ⟨_, .base (.dK e), kit_ty (r := false) (by decide +kernel)⟩
/-! ### names -/
def LETS : Str := "abcdefghijklmnopqrstuvwxyz"
def FIGS : Str := "0123456789"
def isLet (c : Nat) : Bool := decide (c ∈ LETS.cps.toList)
def isFig (c : Nat) : Bool := decide (c ∈ FIGS.cps.toList)
def nameB (z : Str) : Bool := decide (1 ≤ (z.length : Int)) && (decide ((z.length : Int) ≤ 8) && ((match z.cps.toList with
  | [] => false
  | c :: _ => isLet c) && z.cps.toList.all fun c => isLet c || isFig c))
def nameV : V → Bool
  | .str z => nameB z
  | _ => false
theorem nameV_no {v : V} (h : isStr v = false) : nameV v = false := by
  cases v <;> first | rfl | cases h
theorem cps_len (z : Str) : z.cps.toList.length = z.length := by simp [Str.length]
theorem head_of {z : Str} (h : 1 ≤ (z.length : Int)) : ∃ c r, z.cps.toList = c :: r := by
  have hl := cps_len z
  cases e : z.cps.toList with
  | nil =>
    rw [e] at hl
    have h1 : (0 : Nat) = z.length := hl
    omega
  | cons c r => exact ⟨c, r, rfl⟩
theorem all_id {l : List Nat} {pb : Nat → Bool} : (l.map pb).all id = l.all pb := by
  rw [List.all_map] <;> rfl
theorem both_lets (c : Nat) : decide (c ∈ (LETS ++ FIGS).cps.toList) = (isLet c || isFig c) := by
  have e : (LETS ++ FIGS).cps.toList = LETS.cps.toList ++ FIGS.cps.toList := by
    show (LETS.cps ++ FIGS.cps).toList = _
    rw [Array.toList_append]
  unfold isLet isFig
  rw [e, Bool.eq_iff_iff, decide_eq_true_eq, List.mem_append, Bool.or_eq_true, decide_eq_true_eq, decide_eq_true_eq]
/-- a list over a text's signs -/
theorem lc_str {z : Str} {g : TG} {tt : TT} {te : TE} {vs : List Nat} {σ : L2.St} {H1 : Hp} {D : Addr} {Qd : Hp → Prop} (Pv : Nat → Hp → Prop) (h0 : Pv 0 (upd H1 D (.lst [])))
    (hs : ∀ i c H, z.cps.toList[i]? = some c → Pv i H → g (.str ⟨#[c]⟩) (wipe σ vs) H fun σ2 H2 => wipe σ2 vs = wipe σ vs ∧ tt σ2 H2 fun b H3 =>
      if b = true then te σ2 H3 fun y H4 => ∃ acc, H4 D = some (.lst acc) ∧ acc.length < sizeLine ∧ Pv (i + 1) (upd H4 D (.lst (acc ++ [y]))) else Pv (i + 1) H3) (hd : ∀ H, Pv z.cps.toList.length H → Qd H) :
    ∃ W : Nat → Nat → Hp → Prop, (∃ m, W 0 m (upd H1 D (.lst []))) ∧ ∀ i m H, W i m H →
      ((Its z).stop i H ∧ Qd H) ∨ ((Its z).go i H ∧ ∃ Nx : Hp → Prop, (∀ H', Nx H' → ∃ m', m' < m ∧ W (i + 1) m' H') ∧ ∀ x H', (Its z).yld i H x H' → g x (wipe σ vs) H' fun σ2 H2 => wipe σ2 vs = wipe σ vs ∧ tt σ2 H2 fun b H3 =>
        if b = true then te σ2 H3 fun y H4 => ∃ acc, H4 D = some (.lst acc) ∧ acc.length < sizeLine ∧ Nx (upd H4 D (.lst (acc ++ [y]))) else Nx H3) := by
  have el : z.cps.toList.length = z.cps.size := Array.length_toList
  refine ⟨fun i m H => m = z.cps.size - i ∧ i ≤ z.cps.size ∧ Pv i H, ⟨_, rfl, Nat.zero_le _, h0⟩, ?_⟩
  rintro i m H ⟨rfl, hi, pv⟩
  rcases Nat.lt_or_ge i z.cps.size with lt | ge
  · refine .inr ⟨lt, Pv (i + 1), fun H' q => ⟨_, Nat.sub_succ_lt_self _ _ lt, rfl, lt, q⟩, ?_⟩
    rintro x H' ⟨rfl, c, ec, rfl⟩
    exact hs i c _ (by rw [Array.getElem?_toList]; exact ec) pv
  · obtain rfl : i = z.cps.size := Nat.le_antisymm hi ge
    exact .inl ⟨Nat.le_refl _, hd H (by rw [el]; exact pv)⟩
theorem bls_take {l : List Nat} {pb : Nat → Bool} {i c : Nat} (h : l[i]? = some c) : (l.take (i + 1)).map pb = (l.take i).map pb ++ [pb c] := by
  rw [List.take_add_one, h, List.map_append] <;> rfl
/-! ### the pen -/
structure Pen (H : Hp) (p L : Addr) (ns : List Int) (n : Nat) : Prop where
  at_ : ∃ a r : Int, H p = some (.lst [.ref L, .int a, .int r]) ∧ 0 ≤ a ∧ a ≤ n
  ls : H L = some (.lst (ns.map V.int))
  few : ns.length ≤ 63
theorem Pen.ne {H : Hp} {p L : Addr} {ns : List Int} {n : Nat} (h : Pen H p L ns n) : p ≠ L := by
  intro e
  obtain ⟨a, r, h1, _⟩ := h.at_
  have h2 := h.ls
  rw [← e, h1] at h2
  have h3 := HO.lst.inj (Option.some.inj h2)
  cases ns with
  | nil => cases h3
  | cons z r => cases (List.cons.inj h3).1
theorem Pen.up {H : Hp} {p L : Addr} {ns : List Int} {n m : Nat} (h : Pen H p L ns n) (hm : n ≤ m) : Pen H p L ns m := by
  obtain ⟨⟨a, r, h1, h2, h3⟩, h4, h5⟩ := h
  exact ⟨⟨a, r, h1, h2, by omega⟩, h4, h5⟩
/-- set anew -/
theorem Pen.put {H : Hp} {p L : Addr} {ns : List Int} {n m : Nat} {a r : Int} (h : Pen H p L ns n) (h1 : 0 ≤ a) (h2 : a ≤ m) : Pen (upd H p (.lst [.ref L, .int a, .int r])) p L ns m :=
  ⟨⟨a, r, upd_same, h1, h2⟩, by rw [upd_ne h.ne.symm]; exact h.ls, h.few⟩
theorem Pen.keep {H H' : Hp} {p L : Addr} {ns : List Int} {n : Nat} (h : Pen H p L ns n) (hp : H' p = H p) (hl : H' L = H L) : Pen H' p L ns n := by
  obtain ⟨⟨a, r, h1, h2, h3⟩, h4, h5⟩ := h
  exact ⟨⟨a, r, by rw [hp]; exact h1, h2, h3⟩, by rw [hl]; exact h4, h5⟩
theorem Pen.keep' {H H' : Hp} {p L : Addr} {ns : List Int} {n : Nat} (h : Pen H p L ns n) (k : Same H H') : Pen H' p L ns n := by
  obtain ⟨⟨a, r, h1, h2, h3⟩, h4, h5⟩ := h
  exact ⟨⟨a, r, k _ _ h1, h2, h3⟩, k _ _ h4, h5⟩
/-- only the pen has changed -/
def But (p : Addr) (H H' : Hp) : Prop := ∀ b, b ≠ p → H' b = H b
theorem But.refl {p : Addr} {H : Hp} : But p H H := fun _ _ => rfl
theorem But.trans {p : Addr} {H H1 H2 : Hp} (a : But p H H1) (b : But p H1 H2) : But p H H2 := fun c h => (b c h).trans (a c h)
theorem But.upd {p : Addr} {H : Hp} {o : HO} : But p H (upd H p o) := fun _ h => upd_ne h
theorem strAt {z : Str} {k : Int} (h0 : 0 ≤ k) (h1 : k < (z.length : Int)) : ∃ c, atI z.cps.toList k = some c := by
  obtain ⟨j, rfl⟩ : ∃ j : Nat, k = (j : Int) := ⟨_, (Int.toNat_of_nonneg h0).symm⟩
  have hj : j < z.cps.toList.length := by rw [cps_len]; omega
  exact ⟨_, atI_nat (List.getElem?_eq_getElem hj)⟩
theorem listAt {xs : List V} {k : Int} (h0 : 0 ≤ k) (h1 : k < (xs.length : Int)) : ∃ v, atI xs k = some v ∧ v ∈ xs := by
  obtain ⟨j, rfl⟩ : ∃ j : Nat, k = (j : Int) := ⟨_, (Int.toNat_of_nonneg h0).symm⟩
  have hj : j < xs.length := by omega
  exact ⟨_, atI_nat (List.getElem?_eq_getElem hj), List.getElem_mem hj⟩
/-- what was tracked, but for the pen, is as it was -/
def Kp (p : Addr) (H H' : Hp) : Prop := ∀ b o, H b = some o → b ≠ p → H' b = some o
theorem Kp.refl {p : Addr} {H : Hp} : Kp p H H := fun _ _ h _ => h
theorem Kp.trans {p : Addr} {H H1 H2 : Hp} (a : Kp p H H1) (b : Kp p H1 H2) : Kp p H H2 := fun c o h n => b c o (a c o h n) n
theorem But.kp {p : Addr} {H H' : Hp} (a : But p H H') : Kp p H H' := fun b o h n => (a b n).trans h
theorem Kp.new {p D : Addr} {H : Hp} {o : HO} (h : H D = none) : Kp p H (upd H D o) := fun b u e _ => by rw [upd_ne (ne_of_none e h)]; exact e
theorem Pen.new {H : Hp} {p L D : Addr} {ns : List Int} {n : Nat} {o : HO} (h : Pen H p L ns n) (hD : H D = none) : Pen (upd H D o) p L ns n := by
  obtain ⟨a, r, h1, _⟩ := h.at_
  exact h.keep (upd_ne (ne_of_none h1 hD)) (upd_ne (ne_of_none h.ls hD))
theorem Pen.lt_new {H : Hp} {p L D : Addr} {ns : List Int} {n : Nat} (h : Pen H p L ns n) (hD : H D = none) : D ≠ p := by
  obtain ⟨a, r, h1, _⟩ := h.at_
  exact (ne_of_none h1 hD).symm
theorem cut63 {xs : List V} (h : xs.length ≤ 63) : cutV xs none (some 63) = xs := by
  unfold cutV
  rw [HT.sIx_none, show HT.sIx xs.length xs.length (some 63) = min 63 xs.length from HT.sIx_nat xs.length xs.length 63, Nat.min_eq_right h, Nat.sub_zero, List.drop_zero]
  exact List.take_length
theorem len_add (a b : Str) : (a ++ b).length = a.length + b.length := by
  show (a.cps ++ b.cps).size = _
  rw [Array.size_append] <;> rfl
theorem len_one (c : Nat) : (⟨#[c]⟩ : Str).length = 1 := rfl
theorem ones_sum : ∀ {ys : List Str}, (∀ y ∈ ys, y.length = 1) → (ys.map (·.length)).sum = ys.length
  | [], _ => rfl
  | y :: r, h => by
    have ih := ones_sum (ys := r) fun z hz => h z (List.mem_cons_of_mem _ hz)
    have h1 := h y List.mem_cons_self
    show (y.length :: r.map (·.length)).sum = r.length + 1
    rw [List.sum_cons, ih, h1]
    omega
theorem ones_join {ys : List Str} (h : ∀ y ∈ ys, y.length = 1) : (Txt.join ("" : Str) ys).length ≤ ys.length := by
  have h2 := StrLaws.join_length_le ("" : Str) ys
  rw [ones_sum h, show ("" : Str).length = 0 by decide +kernel, Nat.mul_zero, Nat.add_zero] at h2
  rw [show Txt.join ("" : Str) ys = Str.join ("" : Str) ys from StrLaws.glued_eq_join ("" : Str) ys]
  exact h2
theorem mul_len {z : Str} (h : z.length ≤ 20) : (Txt.mul z 2).length ≤ 40 := by
  unfold Txt.mul
  rw [if_neg (by decide)]
  split
  · omega
  · show ((List.replicate 2 z.cps).foldl (· ++ ·) #[]).size ≤ 40
    show ((#[] ++ z.cps) ++ z.cps).size ≤ 40
    rw [Array.size_append, Array.size_append]
    have h2 : z.cps.size ≤ 20 := h
    show 0 + z.cps.size + z.cps.size ≤ 40
    omega
/-- what was tracked, but for a table, is as it was -/
theorem Th.kt {H H' : Hp} {P' : Addr} {v : V} (h : Th H v) (g : TabG H P') (k : ∀ b o, H b = some o → b ≠ P' → H' b = some o) : Th H' v := by
  obtain ⟨ps, g, _⟩ := g
  cases h with
  | non => exact .non
  | bl b => exact .bl b
  | int i => exact .int i
  | str z => exact .str z
  | lst e => exact .lst (k _ _ e (ne_of e g (fun q => by cases q)))
  | tup e => exact .tup (k _ _ e (ne_of e g (fun q => by cases q)))
  | dK e => exact .dK (k _ _ e (ne_of e g (fun q => by cases q)))
theorem tabbedKt {P' : Addr} {H H' : Hp} (h : Tabbed P' H H') : ∀ b o, H b = some o → b ≠ P' → H' b = some o := fun b o e n => (h.2 b n).trans e
theorem Pen.kt {H H' : Hp} {p L P' : Addr} {ns : List Int} {n : Nat} (h : Pen H p L ns n) (g : TabG H P') (k : ∀ b o, H b = some o → b ≠ P' → H' b = some o) : Pen H' p L ns n := by
  obtain ⟨ps, g, _⟩ := g
  obtain ⟨⟨a, r, h1, h2, h3⟩, h4, h5⟩ := h
  exact ⟨⟨a, r, k _ _ h1 (ne_of h1 g (fun q => by cases q)), h2, h3⟩, k _ _ h4 (ne_of h4 g (fun q => by cases q)), h5⟩
theorem tabSame {P' : Addr} {H H' : Hp} (g : TabG H P') (k : Same H H') : TabG H' P' := by
  obtain ⟨ps, g, t⟩ := g
  exact ⟨ps, k _ _ g, t⟩
theorem tabKp {p P' : Addr} {H H' : Hp} {a : List V} (g : TabG H P') (hp : H p = some (.lst a)) (k : Kp p H H') : TabG H' P' := by
  obtain ⟨ps, g, t⟩ := g
  exact ⟨ps, k _ _ g (ne_of g hp (fun q => by cases q)), t⟩
theorem Pen.tab {H H' : Hp} {p L P' : Addr} {ns : List Int} {n : Nat} (h : Pen H p L ns n) (g : TabG H P') (k : Kp p H H') : TabG H' P' := by
  obtain ⟨a, r, h1, _⟩ := h.at_
  exact tabKp g h1 k
theorem same_new {D : Addr} {H : Hp} {o : HO} (h : H D = none) : Same H (upd H D o) := fun b u e => by rw [upd_ne (ne_of_none e h)]; exact e
theorem sameKp {p : Addr} {H H' : Hp} (h : Same H H') : Kp p H H' := fun b o e _ => h b o e
/-- a thing of known type, a text that is not too long -/
def Ok1 (H : Hp) (v : V) : Prop := Th H v ∧ ∀ z, v = .str z → z.length ≤ sizeLine
theorem Th.same {H H' : Hp} {v : V} (h : Th H v) (k : Same H H') : Th H' v := by
  cases h with
  | non => exact .non
  | bl b => exact .bl b
  | int i => exact .int i
  | str z => exact .str z
  | lst e => exact .lst (k _ _ e)
  | tup e => exact .tup (k _ _ e)
  | dK e => exact .dK (k _ _ e)
theorem ok_str {H : Hp} {z : Str} (h : z.length ≤ sizeLine) : Ok1 H (.str z) := ⟨.str z, fun _ e => by cases e; exact h⟩
theorem ok_ref {H : Hp} {a : Addr} (h : Th H (.ref a)) : Ok1 H (.ref a) := ⟨h, fun _ e => nomatch e⟩
def spDraw : Sp := fun vs H Q _ => ∃ (p L : Addr) (ns : List Int) (n : Nat) (many : Int), vs = [.ref p, .int many] ∧ Pen H p L ns n ∧ 0 < many ∧ many < 1000000 ∧ n < 1000000 ∧
  ∀ (k : Int) (H' : Hp), 0 ≤ k → k < many → Pen H' p L ns (n + 1) → But p H H' → Q (.int k) H'
end Gx

set_option Elab.async false
set_option linter.all false
set_option maxRecDepth 100000
set_option maxHeartbeats 2000000
/-! all(element for target in things): the element any expression, calls and generators in it too. -/
namespace Gq
open PySem PySem.Spec PyProof.Rows L2 GxR GenW

/-! ### the around of a running generator -/
/-- where the generator's code runs when all() asks it -/
abbrev B3 (A : Around) : Around := A.in1.in1
section
variable {A : Around} {elt iter tg : Expr} {scope : Scope} {pos : Pos} {it acc : Value} {ge : Env}
theorem over_frames {l : List Env} (h : A.frames = some l) : ((B3 A).over (.compLoop (.GeneratorExp elt [⟨tg, iter, [], 0⟩] scope pos) 0 it acc ge) []).frames = some (ge :: l) := by
  show pushEnvs (Code.envs (.compLoop (.GeneratorExp elt [⟨tg, iter, [], 0⟩] scope pos) 0 it acc ge)) (pushEnvs (envsOf []) A.frames) = _
  rw [h]
  rfl
theorem over_hd (h : A.handled = none) : ((B3 A).over (.compLoop (.GeneratorExp elt [⟨tg, iter, [], 0⟩] scope pos) 0 it acc ge) []).handled = none := h
theorem over_room {k : Nat} (h : Room (k + 1) A) : Room k ((B3 A).over (.compLoop (.GeneratorExp elt [⟨tg, iter, [], 0⟩] scope pos) 0 it acc ge) []) := by
  refine ⟨h.hd, ?_, ?_⟩
  · have := h.dp
    show A.depth + 0 + 1 + 3 * k + 5 < _
    omega
  · have := h.un
    show A.units + 1 + 1 + 0 + 3 + 16 * k + 200 < _
    omega
end

/-! ### the generator's context -/
abbrev gctx (X : Cx) (s : Shared) (H : Hp) (ge : Env) (A : Around) (fp : List Addr) : Cx :=
  { X with A := A, s_0 := s, H_0 := H, env := ge, outer := X.stack, stack := ge :: X.stack, ex := fp, fn := fun _ => false, pn := [], calm := true, xe := fun _ _ => False }
section
variable {X : Cx} {pins : List (Addr × Obj)} {σ : L2.St} {H : Hp} {s : Shared}
theorem gen_start {scope : Scope} {own : List (Str × Nat)} {fp : List Addr} {A : Around} {cd : Value} {h5 : Heap} {g5 : Array GenState} {t5 : Nat} {m5 : Str → Option Value}
    (I : L2.Inv X pins σ H s) (ok : BlkOk X.N X.env.scope scope own) (nocell : ∀ y ∈ scope.names, y.2 ≠ .cell) (hN : X.N.Nodup) (hfp : ∀ b ∈ fp, FpOk X pins H b ∧ b < s.heap.objs.size)
    (hA : A.handled = none) (hF : A.frames = some (genEnv scope (cloFrom X.env.cells scope.names []) s.heap.objs.size cd builtinsNs X.env :: X.stack))
    (kp : ∀ b o, s.heap.get? b = some o → h5.get? b = some o) (hns : h5.Ns s.heap.objs.size m5) (hg : AllBare g5) :
    L2.Inv (gctx X s H (genEnv scope (cloFrom X.env.cells scope.names []) s.heap.objs.size cd builtinsNs X.env) A fp) [] (wipe σ (own.map (·.2))) H { s with heap := h5, gens := g5, toks := t5 } := by
  have hfree : ∀ y ∈ scope.names, y.2 = .free → ∃ c, X.env.cells.lookup y.1 = some c := fun y hy e => by
    rcases ok.free y hy e with k | k
    · exact I.ok.has _ (.inl k)
    · exact I.ok.has _ (.inr k)
  have cm : ∀ {y c}, (y, c) ∈ cloFrom X.env.cells scope.names [] → X.env.cells.lookup y = some c ∧ c < s.heap.objs.size := fun {y c} hm => by
    rcases cloFrom_mem hm with hm | ⟨h1, rfl⟩
    · cases hm
    · obtain ⟨c, hc⟩ := hfree _ h1 rfl
      rw [hc]
      obtain ⟨w, z⟩ := I.cell _ _ hc
      exact ⟨rfl, z.lt⟩
  generalize hge : genEnv scope (cloFrom X.env.cells scope.names []) s.heap.objs.size cd builtinsNs X.env = ge at hF ⊢
  have hL : ge.locals = s.heap.objs.size := by rw [← hge] <;> rfl
  have hcl : ge.cells = cloFrom X.env.cells scope.names [] := by rw [← hge] <;> rfl
  have hsc : ge.scope = scope := by rw [← hge] <;> rfl
  have mem : ∀ {y c}, ge.cells.lookup y = some c → X.env.cells.lookup y = some c ∧ c < s.heap.objs.size := fun {y c} e => cm (by rw [hcl] at e; exact PySem.mem_of_lookup e)
  have look : ∀ {y}, scope.names.lookup y = some .free → ∃ c, ge.cells.lookup y = some c := fun {y} hl => by
    rw [hcl]
    exact L2.mem_lookup (cloFrom_has (cells := X.env.cells) (acc := []) (PySem.mem_of_lookup hl))
  have okG : (gctx X s H ge A fp).Ok := by
    refine ⟨I.ok.mod, by show ge.scope.kind = _; rw [hsc]; exact ok.kind, by show ge.globals = _; rw [← hge]; exact I.ok.glob, by show ge.builtins = _; rw [← hge] <;> rfl, by show s.heap.objs.size ≤ ge.locals; rw [hL]; exact Nat.le_refl _,
      fun y z c e1 e2 => I.ok.inj y z c (mem e1).1 (mem e2).1, fun y hy => ?_, fun y c z _ => absurd (show false = true from z) Bool.false_ne_true, fun _ => hA, hF, .inr ⟨rfl, by show ge.frame = some ge.locals; rw [← hge] <;> rfl⟩, fun b hb => ⟨?_, fun y c e z => ?_⟩, I.bs, Nat.le_trans I.ok.bsz I.sz, fun b o e hb => ?_, fun b hb z => ?_, I.stack, I.stkFree⟩
    · show ∃ c, ge.cells.lookup y = some c
      have hy : scope.names.lookup y = some .cell ∨ scope.names.lookup y = some .free := by
        have z : ge.scope.names.lookup y = some .cell ∨ ge.scope.names.lookup y = some .free := hy
        rw [hsc] at z
        exact z
      rcases hy with hy | hy
      · exact absurd rfl (nocell _ (PySem.mem_of_lookup hy))
      · exact look hy
    · show b ≠ ge.locals
      rw [hL]
      exact Nat.ne_of_lt (hfp b hb).2
    · exact (hfp b hb).1.2.2.2.2.1 y c (mem (show ge.cells.lookup y = some c from e)).1 z
    · rcases (hfp b hb).1.2.2.2.1 with z | z
      · exact I.ok.noex b o e z
      · exact absurd (Nat.lt_of_lt_of_le (Heap.lt_size e) (Nat.le_trans I.ok.bsz z)) (Nat.lt_irrefl _)
    · rcases List.mem_cons.mp (I.stkSub b z) with z | z
      · exact (hfp b hb).1.2.1 z
      · exact (hfp b hb).1.2.2.1 z
  refine ⟨okG, rfl, hg, Un.kept kp, ⟨m5, by show h5.Ns ge.locals m5; rw [hL]; exact hns, fun i y av e1 e2 e3 => ?_⟩, fun y c e => ?_, ?_, fun y c e => ?_, fun p hp => ?_, I.hok.kept kp, by rw [wipe_length]; exact I.len⟩
  · obtain ⟨e2, hne⟩ := wipe_some e2
    have e3 : Vis ge.scope y := e3
    rw [hsc] at e3
    have no : ¬ (scope.names.lookup y = some .local) := fun hh => by
      rcases ok.own _ (PySem.mem_of_lookup hh) (.inl rfl) with e' | e'
      · obtain ⟨p, hp, hpy⟩ := List.mem_map.mp e'
        have e4 := ok.ix p hp
        have hpy : p.1 = y := hpy
        rw [hpy] at e4
        exact hne (List.mem_map.mpr ⟨p, hp, nodup_ix hN e4 e1⟩)
      · exact e' (List.mem_of_getElem? e1)
    have hfr : scope.names.lookup y = some .free := by
      rcases e3 with e3 | e3 | e3
      · exact absurd e3 no
      · exact absurd rfl (nocell _ (PySem.mem_of_lookup e3))
      · exact e3
    obtain ⟨m, hn, hl⟩ := I.loc
    have hvis : Vis X.env.scope y := (ok.free _ (PySem.mem_of_lookup hfr) rfl).elim (fun k => .inr (.inl k)) (fun k => .inr (.inr k))
    obtain ⟨w, r, q⟩ := hl i y av e1 e2 hvis
    obtain ⟨c, h1⟩ := look hfr
    refine ⟨w, r, .inr ⟨.inr (by show ge.scope.names.lookup y = _; rw [hsc]; exact hfr), c, h1, ?_⟩⟩
    rcases q with ⟨k, _⟩ | ⟨_, c', e', z⟩
    · have k : X.env.scope.names.lookup y = some .local := k
      rcases ok.free _ (PySem.mem_of_lookup hfr) rfl with k' | k' <;> rw [show X.env.scope.names.lookup y = _ from k'] at k <;> cases k
    · have h2 := (mem h1).1
      rw [h2] at e'
      cases e'
      exact z.keeps kp
  · obtain ⟨w, z⟩ := I.cell y c (mem (show ge.cells.lookup y = some c from e)).1
    exact ⟨w, z.keeps kp⟩
  · show H ge.locals = none
    rw [hL]
    exact I.hok.fresh (Nat.le_refl _)
  · exact I.freeC y c (mem (show ge.cells.lookup y = some c from e)).1
  · exact absurd (show p ∈ ([] : List (Addr × Obj)) ++ [] from hp) (by simp)
end

/-- asleep between two items: the heap stands -/
def Awake (s s' : Shared) : Prop := s'.os = s.os ∧ AllBare s'.gens ∧ ∀ b o, s.heap.get? b = some o → s'.heap.get? b = some o
theorem awake {X : Cx} {pins : List (Addr × Obj)} {σ : L2.St} {H : Hp} {s s' : Shared} (I : L2.Inv X pins σ H s) (w : Awake s s') : L2.Inv X pins σ H s' := by
  obtain ⟨hp, g, d, t, os⟩ := s'
  obtain ⟨w1, w2, w3⟩ := w
  have w1 : os = s.os := w1
  subst w1
  refine I.step (h' := hp) (g' := g) (t' := t) (d' := d) (ch := []) (fun b hb => absurd hb (by simp)) (fun b o _ _ _ e _ => w3 b o e) (fun b o _ _ _ e _ => ⟨o.slots, w3 b o e⟩)
    (fun _ _ _ _ n => n) (fun b o _ e => ⟨o, w3 b o e⟩) (fun _ _ e => e) (fun _ _ _ e => e) (fun b ps e => ⟨#[], by rw [e]; simp⟩) (fun m hm => hm.keeps w3) (I.hok.kept w3) w2

/-- what an item's handing out means: go: the truth at which one goes on; else Qs -/
def GYp (X : Cx) (pins : List (Addr × Obj)) (σ : L2.St) (go : Bool) (Qs : Hp → Prop) (a : Addr) (g : Nat) : Protocol := fun n s₀ v s kap =>
  ∃ b : Bool, v = .bool b ∧ s.heap.IsGen a g ∧ s.heap.NoLimit ∧ AllBare s.gens ∧ (b = go → ∀ s', Awake s s' → kap (.send .none) s') ∧ (b ≠ go → ∃ H', L2.Inv X pins σ H' s ∧ Qs H')
/-- the end of the things -/
def GRp (X : Cx) (pins : List (Addr × Obj)) (σ : L2.St) (Qe : Hp → Prop) : Shared → Prop := fun s => ∃ H', L2.Inv X pins σ H' s ∧ Qe H'

def GEp (X : Cx) (pins : List (Addr × Obj)) (σ : L2.St) (Qe : Hp → Prop) : GenEnd := fun n s₀ r s₁ => ((r = .ok (.ret .none) ∨ r = .ok .next) ∧ GRp X pins σ Qe s₁) ∨ ∃ e, r = .error e ∧ False
theorem Awake.refl' {s : Shared} (h : AllBare s.gens) : Awake s s := ⟨rfl, h, fun _ _ e => e⟩
theorem rest_gen {X : Cx} {pins : List (Addr × Obj)} {σ : L2.St} {Q : Hp → Prop} {s s' : Shared} (h : GRp X pins σ Q s) (w : Awake s s') : GRp X pins σ Q s' := by
  obtain ⟨H, I, q⟩ := h
  exact ⟨H, awake I w, q⟩
section
variable {X : Cx} {pins : List (Addr × Obj)} {σ : L2.St} {a : Addr} {g : Nat} {A : Around} {Qs Qe : Hp → Prop} {R : Result → Shared → Prop}
/-- all() asks on -/
theorem all_loopQ (hh : A.handled = none) (hd : A.depth < recursionLimit) (hend : ∀ s', GRp X pins σ Qe s' → R (.ok (.ret (.bool true))) s') (hstop : ∀ s', GRp X pins σ Qs s' → R (.ok (.ret (.bool false))) s') :
    ∀ (n : Nat) (s : Shared) (gs : GenState), s.heap.IsGen a g → s.heap.NoLimit → s.gens[g]? = some gs → gs.Goes (model X.prog X.w) A.in1.in1 (GEp X pins σ Qe) (GYp X pins σ true Qs a g) n (.send .none) (s.setGen g .running) →
      codeAny (model X.prog X.w) A (.builtin "all.loop" ⟨[.ref a], []⟩) R s := by
  intro n
  induction n with
  | zero =>
    intro s gs hg hl hgs hgo
    refine codeAny_builtin F.entry_all_loop ?_
    rw [Around.under_plainId F.plain_all_loop _]
    show wpAny _ A.in1 (pyNext (.ref a) >>= _) _ _ s
    refine wpAny_bind (next_genG (Er := fun _ _ => False) (A := A.in1) hh hl hd hg hgs hgo (fun v s₁ gs' hb hv => ?_) (fun s₁ hp h' hk => ?_) fun e s₁ he => he.elim)
    · obtain ⟨b, rfl, hg1, hl1, hb1, hgo1, hst⟩ := hv
      refine wpAny_bind (wpAny_holding (wpAny_truthy_bool ?_))
      refine wpAny_bind (wpAny_letGo ?_)
      cases b with
      | true => exact (hgo1 rfl s₁ (Awake.refl' hb1)).elim
      | false =>
        simp only [Bool.false_eq_true, if_false]
        exact wpAny_bind (wpAny_rule (wpAny_pure (hstop _ (rest_gen (hst (by decide)) ⟨rfl, allBare_setGen hb1 hb, fun _ _ e => e⟩))))
    · refine wpAny_bind (wpAny_rule (wpAny_pure ?_))
      obtain ⟨H', I', q⟩ := hp
      exact hend _ ⟨H', awake I' ⟨rfl, allBare_setGen I'.bare rfl, hk⟩, q⟩
  | succ n ih =>
    intro s gs hg hl hgs hgo
    have hgl : g < s.gens.size := (Array.getElem?_eq_some_iff.mp hgs).1
    refine codeAny_builtin F.entry_all_loop ?_
    rw [Around.under_plainId F.plain_all_loop _]
    show wpAny _ A.in1 (pyNext (.ref a) >>= _) _ _ s
    refine wpAny_bind (wpAny_gsz (n := g + 1) hgl (next_genG (Er := fun _ _ => False) (A := A.in1) hh hl hd hg hgs hgo (fun v s₁ gs' hb hv => ?_) (fun s₁ hp h' hk => ?_) fun e s₁ he => he.elim))
    · intro hsz
      obtain ⟨b, rfl, hg1, hl1, hb1, hgo1, hst⟩ := hv
      refine wpAny_bind (wpAny_holding (wpAny_truthy_bool ?_))
      refine wpAny_bind (wpAny_letGo ?_)
      cases b with
      | true =>
        simp only [if_true]
        have hsz1 : g < s₁.gens.size := by
          have z : (s₁.setGen g gs').gens.size = s₁.gens.size := setGen_size _ _ _
          rw [z] at hsz
          omega
        refine wpAny_pure ⟨plainId_quiet F.plain_all_loop _, ih _ gs' hg1 hl1 (setGen_at hsz1) ?_⟩
        exact hgo1 rfl _ ⟨rfl, allBare_setGen (allBare_setGen hb1 hb) rfl, fun _ _ e => e⟩
      | false =>
        simp only [Bool.false_eq_true, if_false]
        exact wpAny_bind (wpAny_rule (wpAny_pure (hstop _ (rest_gen (hst (by decide)) ⟨rfl, allBare_setGen hb1 hb, fun _ _ e => e⟩))))
    · intro _
      refine wpAny_bind (wpAny_rule (wpAny_pure ?_))
      obtain ⟨H', I', q⟩ := hp
      exact hend _ ⟨H', awake I' ⟨rfl, allBare_setGen I'.bare rfl, hk⟩, q⟩
/-- any() asks on -/
theorem any_loopQ (hh : A.handled = none) (hd : A.depth < recursionLimit) (hend : ∀ s', GRp X pins σ Qe s' → R (.ok (.ret (.bool false))) s') (hstop : ∀ s', GRp X pins σ Qs s' → R (.ok (.ret (.bool true))) s') :
    ∀ (n : Nat) (s : Shared) (gs : GenState), s.heap.IsGen a g → s.heap.NoLimit → s.gens[g]? = some gs → gs.Goes (model X.prog X.w) A.in1.in1 (GEp X pins σ Qe) (GYp X pins σ false Qs a g) n (.send .none) (s.setGen g .running) →
      codeAny (model X.prog X.w) A (.builtin "any.loop" ⟨[.ref a], []⟩) R s := by
  intro n
  induction n with
  | zero =>
    intro s gs hg hl hgs hgo
    refine codeAny_builtin F.entry_any_loop ?_
    rw [Around.under_plainId F.plain_any_loop _]
    show wpAny _ A.in1 (pyNext (.ref a) >>= _) _ _ s
    refine wpAny_bind (next_genG (Er := fun _ _ => False) (A := A.in1) hh hl hd hg hgs hgo (fun v s₁ gs' hb hv => ?_) (fun s₁ hp h' hk => ?_) fun e s₁ he => he.elim)
    · obtain ⟨b, rfl, hg1, hl1, hb1, hgo1, hst⟩ := hv
      refine wpAny_bind (wpAny_holding (wpAny_truthy_bool ?_))
      refine wpAny_bind (wpAny_letGo ?_)
      cases b with
      | false => exact (hgo1 rfl s₁ (Awake.refl' hb1)).elim
      | true =>
        simp only [if_true]
        exact wpAny_bind (wpAny_rule (wpAny_pure (hstop _ (rest_gen (hst (by decide)) ⟨rfl, allBare_setGen hb1 hb, fun _ _ e => e⟩))))
    · refine wpAny_bind (wpAny_rule (wpAny_pure ?_))
      obtain ⟨H', I', q⟩ := hp
      exact hend _ ⟨H', awake I' ⟨rfl, allBare_setGen I'.bare rfl, hk⟩, q⟩
  | succ n ih =>
    intro s gs hg hl hgs hgo
    have hgl : g < s.gens.size := (Array.getElem?_eq_some_iff.mp hgs).1
    refine codeAny_builtin F.entry_any_loop ?_
    rw [Around.under_plainId F.plain_any_loop _]
    show wpAny _ A.in1 (pyNext (.ref a) >>= _) _ _ s
    refine wpAny_bind (wpAny_gsz (n := g + 1) hgl (next_genG (Er := fun _ _ => False) (A := A.in1) hh hl hd hg hgs hgo (fun v s₁ gs' hb hv => ?_) (fun s₁ hp h' hk => ?_) fun e s₁ he => he.elim))
    · intro hsz
      obtain ⟨b, rfl, hg1, hl1, hb1, hgo1, hst⟩ := hv
      refine wpAny_bind (wpAny_holding (wpAny_truthy_bool ?_))
      refine wpAny_bind (wpAny_letGo ?_)
      cases b with
      | false =>
        simp only [Bool.false_eq_true, if_false]
        have hsz1 : g < s₁.gens.size := by
          have z : (s₁.setGen g gs').gens.size = s₁.gens.size := setGen_size _ _ _
          rw [z] at hsz
          omega
        refine wpAny_pure ⟨plainId_quiet F.plain_any_loop _, ih _ gs' hg1 hl1 (setGen_at hsz1) ?_⟩
        exact hgo1 rfl _ ⟨rfl, allBare_setGen (allBare_setGen hb1 hb) rfl, fun _ _ e => e⟩
      | true =>
        simp only [if_true]
        exact wpAny_bind (wpAny_rule (wpAny_pure (hstop _ (rest_gen (hst (by decide)) ⟨rfl, allBare_setGen hb1 hb, fun _ _ e => e⟩))))
    · intro _
      refine wpAny_bind (wpAny_rule (wpAny_pure ?_))
      obtain ⟨H', I', q⟩ := hp
      exact hend _ ⟨H', awake I' ⟨rfl, allBare_setGen I'.bare rfl, hk⟩, q⟩
end

section
variable {X : Cx} {pins : List (Addr × Obj)} {σ : L2.St} {H3 : Hp} {s3 : Shared}
theorem gen_loop {elt iter tg : Expr} {scope : Scope} {own : List (Str × Nat)} {gpos : Pos} {fp : List Addr} {A : Around} {J : It} {it a : Addr} {oa : Obj} {g : Nat} {tn : Nat → Heap → Prop} {go : Bool} {Qs Qe : Hp → Prop} {gT : TG} {te : TE} {W : Nat → Nat → Hp → Prop} {ge : Env} {XG : Cx}
    (I3 : L2.Inv X pins σ H3 s3) (f3 : ∀ b ∈ fp, FpOk X pins H3 b ∧ b < s3.heap.objs.size) (hco : scope.isCoroutine = false) (egs : ge.scope = scope)
    (eXG : XG = gctx X s3 H3 ge (A.over (.compLoop (.GeneratorExp elt [⟨tg, iter, [], 0⟩] scope gpos) 0 (.ref it) .none ge) []) fp)
    (ga : s3.heap.objs.size ≤ a) (isg : ∀ h : Heap, h.get? a = some oa → h.IsGen a g) (T : Turn X.prog X.w X.K tg J fp it tn)
    (pg : PG XG tg gT) (pe : PE XG elt te)
    (turn : ∀ i m H, W i m H → (J.stop i H ∧ Qe H) ∨ (J.go i H ∧ ∃ Nx : Hp → Prop, (∀ H', Nx H' → ∃ m', m' < m ∧ W (i + 1) m' H') ∧ ∀ x H', J.yld i H x H' → gT x (wipe σ (own.map (·.2))) H' fun σ2 H2 => wipe σ2 (own.map (·.2)) = wipe σ (own.map (·.2)) ∧
      te σ2 H2 fun y H3 => ∃ b : Bool, y = .bl b ∧ (b = go → Nx H3) ∧ (b ≠ go → Qs H3))) :
    ∀ (m n i : Nat) (s₀ s : Shared) (H : Hp), m < n → L2.Inv XG [(a, oa)] (wipe σ (own.map (·.2))) H s → tn i s.heap → (∀ b ∈ fp, H b = none) → W i m H →
      Seg (model X.prog X.w) A (GEp X pins σ Qe) (GYp X pins σ go Qs a g) n s₀ (.compLoop (.GeneratorExp elt [⟨tg, iter, [], 0⟩] scope gpos) 0 (.ref it) .none ge)
        ((model X.prog X.w).den (.compLoop (.GeneratorExp elt [⟨tg, iter, [], 0⟩] scope gpos) 0 (.ref it) .none ge)) [] s := by
  subst eXG
  -- back in the def
  have back : ∀ {pn : List (Addr × Obj)} {σ' : L2.St} {H' : Hp} {s' : Shared}, L2.Inv (gctx X s3 H3 ge (A.over (.compLoop (.GeneratorExp elt [⟨tg, iter, [], 0⟩] scope gpos) 0 (.ref it) .none ge) []) fp) pn σ' H' s' → L2.Inv X pins σ H' s' := fun I6 =>
    I3.call' (ch := fp) I6.os I6.base I6.hok I6.bare fun b hb => ⟨(f3 b hb).1.2.2.2.1, (f3 b hb).1.2.1, (f3 b hb).1.2.2.2.2.1, (f3 b hb).1.2.2.2.2.2⟩
  have nfa : ∀ b ∈ fp, a ≠ b := fun b hb z => by
    have lt := (f3 b hb).2
    rw [← z] at lt
    exact absurd (Nat.lt_of_lt_of_le lt ga) (Nat.lt_irrefl _)
  have stat : ∀ {σ' : L2.St} {H' : Hp} {s' : Shared}, L2.Inv (gctx X s3 H3 ge (A.over (.compLoop (.GeneratorExp elt [⟨tg, iter, [], 0⟩] scope gpos) 0 (.ref it) .none ge) []) fp) [(a, oa)] σ' H' s' → (∀ b ∈ fp, H' b = none) →
      ∀ b ∈ fp, FpOk (gctx X s3 H3 ge (A.over (.compLoop (.GeneratorExp elt [⟨tg, iter, [], 0⟩] scope gpos) 0 (.ref it) .none ge) []) fp) [(a, oa)] H' b := fun {σ' H' s'} I' hn b hb =>
    ⟨hn b hb, (I'.ok.exf b hb).1, I'.ok.exfs b hb, .inl hb, fun x c e => (I'.ok.exf b hb).2 x c e, fun p hp => by
      have e : p = (a, oa) := List.mem_singleton.mp (show p ∈ [(a, oa)] from hp)
      rw [e]
      exact nfa b hb⟩
  intro m
  induction m using Nat.strongRecOn with
  | ind m ih =>
    intro n i s₀ s H hmn I st nf w
    show Seg _ A _ _ _ s₀ _ ((compTurn (.GeneratorExp elt [⟨tg, iter, [], 0⟩] scope gpos) 0 (.ref it) .none ge).onRaise (leaving ge)) [] s
    rw [compTurn_gen, Sem.onRaise_eq_wrap]
    refine seg_bind_wrap (wpAny_standAt ?_)
    rcases turn i m H w with ⟨stop, q⟩ | ⟨goes, Nx, hNx, step⟩
    · refine seg_bind_wrap (thnF (T.done (gctx X s3 H3 ge (A.over (.compLoop (.GeneratorExp elt [⟨tg, iter, [], 0⟩] scope gpos) 0 (.ref it) .none ge) []) fp) rfl rfl rfl rfl i _ s _ H (fun _ _ => False) I (stat I nf) st stop) fun r s6 ⟨hr, I6⟩ => ?_)
      subst hr
      exact seg_end (.ok .next) (.inl ⟨.inr rfl, H, back I6, q⟩)
    · refine seg_bind_wrap (thnF (T.item (gctx X s3 H3 ge (A.over (.compLoop (.GeneratorExp elt [⟨tg, iter, [], 0⟩] scope gpos) 0 (.ref it) .none ge) []) fp) rfl rfl rfl rfl i _ s _ H (fun _ _ => False) I (stat I nf) st goes) fun r s6 ⟨u, hr, h6⟩ => ?_)
      subst hr
      refine seg_bind_wrap (thnF h6 fun _ s7 ⟨x, H7, I7, r7, y7, st7, n7⟩ => ?_)
      have I7' := I7.pinned (stat I7 n7) (T.obj _ _ st7)
      refine seg_bind_wrap (thnF (pg.run _ s7 _ H7 x u _ I7' r7 (step x H7 y7)) fun _ s8 ⟨σ8, H8, I8, hw8, q8⟩ => ?_)
      refine seg_bind_wrap (by
        simp only [List.forIn_nil]
        refine wpAny_pure ?_
        have hco' : ge.scope.isCoroutine = false := by rw [egs]; exact hco
        have hy : ∀ v, yieldOut ge v = yieldValue v := fun v => by simp only [yieldOut, hco', Bool.false_eq_true, if_false]
        simp only [if_true, hy]
        rw [Sem.bind_eq_wrap', Sem.bind_eq_wrap', Sem.wrap_wrap, Sem.wrap_wrap]
        refine seg_wrap (thnF (pe.run _ s8 σ8 H8 _ I8 q8) fun z s9 ⟨yv, H9, I9, r9, b, eb, qgo, qno⟩ => ?_)
        subst eb
        cases r9
        obtain ⟨n', rfl⟩ : ∃ n', n = n' + 1 := ⟨n - 1, by omega⟩
        have pin' : ∀ b ∈ fp, ∀ o, s7.heap.get? b = some o → s9.heap.get? b = some o ∧ H9 b = none := fun b hb o e =>
          let z := I9.pin (b, o) (List.mem_append_right _ (List.mem_append_right _ (mem_pinsAt hb e)))
          ⟨z.1, z.2.1⟩
        have ea : s9.heap.get? a = some oa := (I9.pin (a, oa) (List.mem_append_right _ (List.mem_append_left _ (List.mem_singleton.mpr rfl)))).1
        refine seg_at (seg_yield rfl rfl rfl ⟨b, rfl, isg _ ea, I9.nolimit, I9.bare, fun e s'' aw => ?_, fun e => ⟨H9, back I9, qno e⟩⟩)
        obtain ⟨m', hm, w'⟩ := hNx H9 (qgo e)
        have hl : (wipe σ (own.map (·.2))).length = σ8.length := by rw [← hw8, wipe_length]
        have If := awake (((I9.unpinned (pins := [(a, oa)])).weak hl (fun j v e => by
          rw [← hw8] at e
          exact (wipe_some e).1))) aw
        refine seg_again rfl (ih m' hm n' (i + 1) s'' s'' H9 (by omega) If (T.keep _ _ _ st7 fun b hb o e => aw.2.2 b o (pin' b hb o e).1) (fun b hb => ?_) w')
        obtain ⟨o, e, _⟩ := T.obj _ _ st7 b hb
        exact (pin' b hb o e).2)
end

/-! ### the rules -/
/-- all(element for target in things) (go := true), any(..) (go := false); P: the table of the def's code object -/
def tQuant (go : Bool) (P : Addr) (wi : TI) (gT : TG) (te : TE) (vs : List Nat) : TE := fun σ H Q => wi σ H fun J H1 => TabG H1 P ∧ ∀ H2, Tabbed P H1 H2 → ∃ W : Nat → Nat → Hp → Prop, (∃ m, W 0 m H2) ∧ ∀ i m H, W i m H →
  (J.stop i H ∧ Q (.bl go) H) ∨ (J.go i H ∧ ∃ Nx : Hp → Prop, (∀ H', Nx H' → ∃ m', m' < m ∧ W (i + 1) m' H') ∧ ∀ x H', J.yld i H x H' → gT x (wipe σ vs) H' fun σ2 H2 => wipe σ2 vs = wipe σ vs ∧
    te σ2 H2 fun y H3 => ∃ b : Bool, y = .bl b ∧ (b = go → Nx H3) ∧ (b ≠ go → Q (.bl (!go)) H3))
/-- a generator that is ready to be asked -/
def ReadyQ (X : Cx) (pins : List (Addr × Obj)) (σ : L2.St) (go : Bool) (Qs Qe : Hp → Prop) (a : Addr) (s : Shared) : Prop :=
  ∃ (g n : Nat) (gs : GenState), s.heap.IsGen a g ∧ s.heap.NoLimit ∧ s.gens[g]? = some gs ∧ gs.Goes (model X.prog X.w) (B3 X.A) (GEp X pins σ Qe) (GYp X pins σ go Qs a g) n (.send .none) (s.setGen g .running)
section
variable {X : Cx} {pins : List (Addr × Obj)} {σ : L2.St} {H : Hp} {s : Shared}
theorem gen_Q {c P : Addr} {elt iter tg : Expr} {gpos : Pos} {scope : Scope} {own : List (Str × Nat)} {wi : TI} {gT : TG} {te : TE} {k : Nat} {go : Bool} {Qb : VK} {U : Value → Shared → Prop}
    (room : Room (k + 1) X.A) (hN : X.N.Nodup) (tb : TabB X.base X.mg c P) (code : X.env.code = .ref c) (ok : BlkOk X.N X.env.scope scope own) (nocell : ∀ y ∈ scope.names, y.2 ≠ .cell) (hco : scope.isCoroutine = false) (hdot : scope.names.lookup (".0" : Str) = some NameKind.local) (hi : PI X tg iter wi)
    (pg : ∀ (s : Shared) (H : Hp) (C : Addr) (cl : List (Str × Addr)) (cd : Value) (A : Around) (fp : List Addr), PG (gctx X s H (genEnv scope cl C cd builtinsNs X.env) A fp) tg gT)
    (pe : ∀ (s : Shared) (H : Hp) (C : Addr) (cl : List (Str × Addr)) (cd : Value) (A : Around) (fp : List Addr), Room k A → PE (gctx X s H (genEnv scope cl C cd builtinsNs X.env) A fp) elt te)
    (fold : ∀ v, genFold iter X.env v = pure v) (I : L2.Inv X pins σ H s) (h : tQuant go P wi gT te (own.map (·.2)) σ H Qb)
    (fin : ∀ a s', ReadyQ X pins σ go (Qb (.bl (!go))) (Qb (.bl go)) a s' → U (.ref a) s') :
    wpAny (model X.prog X.w) X.A (eval (.GeneratorExp elt [⟨tg, iter, [], 0⟩] scope gpos) X.env) U X.xe s := by
  have hfree : ∀ y ∈ scope.names, y.2 = .free → ∃ c, X.env.cells.lookup y.1 = some c := fun y hy e => by
    rcases ok.free y hy e with k | k
    · exact I.ok.has _ (.inl k)
    · exact I.ok.has _ (.inr k)
  refine wpAny_GeneratorExp_make hco (closure_ok hfree) nocell hdot ok.kind (by have := room.dp; omega) ?_ fold
  refine thn (hi.run pins s σ H _ I h) fun xv s1 hx => thn hx fun itv s2 hh2 => ?_
  obtain ⟨it, fp, tn, J, H2, e, I2, T, st2, f2, ⟨ps, tP, trip⟩, q⟩ := hh2
  subst e
  have atP : s2.heap.get? P = some { cls := .none, data := .fields ps } := I2.hok P _ tP
  have head := tb.code.keeps (h' := s2.heap) I2.bk
  have nfP : ∀ b ∈ fp, b ≠ P := fun b hb e => by
    have n := (f2 b hb).1
    rw [e, tP] at n
    cases n
  refine ⟨I2.nolimit, ?_⟩
  have after : ∀ (cd : Value) (h3 : Heap) (tk : Nat) (more : Array Value), Heap.ExtBut P s2.heap h3 → h3.get? P = some { cls := .none, data := .fields (ps ++ more) } → TriplesOk (ps ++ more).toList →
      wpAny (model X.prog X.w) X.A (builtinsFor X.env.globals X.env.builtins) (fun bi s₄ =>
        ∀ h', h'.Ns s₄.heap.objs.size (fun y => if y = ".0" then some (.ref it) else none) → Heap.SameBut s₄.heap.objs.size (s₄.heap.push { cls := .type "frame", data := .dict #[] }) h' →
          U (.ref h'.objs.size) { s₄ with
            gens := s₄.gens.push (.fresh (.compStart (.GeneratorExp elt [⟨tg, iter, [], 0⟩] scope gpos) 0 (.ref it) .none (genEnv scope (cloFrom X.env.cells scope.names []) s₄.heap.objs.size cd bi X.env))),
            toks := s₄.toks + 1 + 1 + 1,
            heap := h'.push { cls := .type "generator", data := .fields #[.int s₄.gens.size 0, .str "<genexpr>" (s₄.toks + 1), .str (X.env.qual ++ "<genexpr>") (s₄.toks + 1 + 1)] } }) X.xe { s2 with heap := h3, toks := tk } := by
    intro cd h3 tk more ext atP3 trip3
    obtain ⟨bm, ob, e1, e2, e3, e4, e5, e6, e7, e8⟩ := tb.bm
    have kept : ∀ b u, b ≠ P → s2.heap.get? b = some u → h3.get? b = some u := fun b u hb e => ext b u hb e
    have glob3 : h3.Ns X.env.globals X.mg := by
      rw [I2.ok.glob]
      exact (I2.mod.glob.keeps I2.bk).extBut ext tb.gP
    refine wpAny_builtinsFor (m := X.mg) glob3 e1 e2 (kept _ _ e4 (I2.bk _ _ e5)) e6 e7 e8 ?_
    have I3 := inv_tab (more := more) (h' := h3) (g' := s2.gens) (d' := s2.drawn) (t' := tk) I2 tP kept atP3 I2.bare
    intro h' hns hsb
    obtain ⟨W, ⟨m0, w0⟩, turn⟩ := q (upd H2 P (.tbl (ps ++ more))) ⟨⟨_, upd_same, trip3⟩, fun b hb => upd_ne hb⟩
    generalize eH3 : upd H2 P (.tbl (ps ++ more)) = H3 at I3 w0
    generalize es3 : ({ s2 with heap := h3, gens := s2.gens, drawn := s2.drawn, toks := tk } : Shared) = s3 at I3
    have s3h : s3.heap = h3 := by rw [← es3]
    have s3g : s3.gens = s2.gens := by rw [← es3]
    have es3' : ({ s2 with heap := h3, toks := tk } : Shared) = s3 := es3
    try rw [es3'] at hns
    try rw [es3'] at hsb
    try rw [es3']
    have n3 : ∀ b, b ≠ P → H2 b = none → H3 b = none := fun b hb e => by rw [← eH3, upd_ne hb]; exact e
    have f3 : ∀ b ∈ fp, FpOk X pins H3 b ∧ b < s3.heap.objs.size := fun b hb => by
      obtain ⟨o, eo, _⟩ := T.obj _ _ st2 b hb
      have lt : b < s3.heap.objs.size := by
        rw [s3h]
        exact Heap.lt_size (kept b o (nfP b hb) eo)
      exact ⟨⟨n3 b (nfP b hb) (f2 b hb).1, (f2 b hb).2⟩, lt⟩
    have st3 : tn 0 s3.heap := T.keep _ _ _ st2 fun b hb o e => by rw [s3h]; exact kept b o (nfP b hb) e
    have sz' : h'.objs.size = s3.heap.objs.size + 1 := by rw [hsb.1, Heap.size_push]
    have kp' : ∀ b o, s3.heap.get? b = some o → h'.get? b = some o := fun b o e => by
      rw [hsb.2 b (Nat.ne_of_lt (Heap.lt_size e))]
      exact Heap.get?_push_of_some _ e
    generalize eoa : ({ cls := .type "generator", data := .fields #[.int s3.gens.size 0, .str "<genexpr>" (s3.toks + 1), .str (X.env.qual ++ "<genexpr>") (s3.toks + 1 + 1)] } : Obj) = oa
    have isg : ∀ hp : Heap, hp.get? h'.objs.size = some oa → hp.IsGen h'.objs.size s3.gens.size := fun hp e => ⟨oa, _, _, e, by rw [← eoa], by rw [← eoa], by rw [← eoa]⟩
    have kp5 : ∀ b o, s3.heap.get? b = some o → (h'.push oa).get? b = some o := fun b o e => Heap.get?_push_of_some _ (kp' b o e)
    have ea5 : (h'.push oa).get? h'.objs.size = some oa := Heap.get?_push_size _ (by rw [← eoa] <;> rfl)
    have hns5 : (h'.push oa).Ns s3.heap.objs.size (fun y => if y = ".0" then some (.ref it) else none) := hns.push oa
    generalize ecl : cloFrom X.env.cells scope.names [] = cl
    have room3 : Room k ((B3 X.A).over (.compLoop (.GeneratorExp elt [⟨tg, iter, [], 0⟩] scope gpos) 0 (.ref it) .none (genEnv scope cl s3.heap.objs.size cd builtinsNs X.env)) []) := over_room room
    have start := fun (g5 : Array GenState) (t5 : Nat) (hg : AllBare g5) => gen_start (A := (B3 X.A).over (.compLoop (.GeneratorExp elt [⟨tg, iter, [], 0⟩] scope gpos) 0 (.ref it) .none (genEnv scope cl s3.heap.objs.size cd builtinsNs X.env)) []) (cd := cd) (h5 := h'.push oa) (g5 := g5) (t5 := t5) I3 ok nocell hN f3
      (over_hd room.hd) (by rw [ecl]; exact over_frames I3.ok.frames) kp5 hns5 hg
    rw [ecl] at start
    refine fin _ _ ⟨s3.gens.size, m0 + 1, .fresh (.compStart (.GeneratorExp elt [⟨tg, iter, [], 0⟩] scope gpos) 0 (.ref it) .none (genEnv scope cl s3.heap.objs.size cd builtinsNs X.env)), isg _ ea5, I3.nolimit.keeps kp5, by show (s3.gens.push _)[s3.gens.size]? = _; exact Array.getElem?_push_size .., rfl, ?_⟩
    have bare5 : AllBare (s3.gens.push (.fresh (.compStart (.GeneratorExp elt [⟨tg, iter, [], 0⟩] scope gpos) 0 (.ref it) .none (genEnv scope cl s3.heap.objs.size cd builtinsNs X.env)))) := I3.bare.push rfl
    generalize es5 : ({ s3 with gens := s3.gens.push (.fresh (.compStart (.GeneratorExp elt [⟨tg, iter, [], 0⟩] scope gpos) 0 (.ref it) .none (genEnv scope cl s3.heap.objs.size cd builtinsNs X.env))), toks := s3.toks + 1 + 1 + 1, heap := h'.push oa } : Shared) = s5
    have s5g : AllBare s5.gens := by rw [← es5]; exact bare5
    have I5 : L2.Inv (gctx X s3 H3 (genEnv scope cl s3.heap.objs.size cd builtinsNs X.env) ((B3 X.A).over (.compLoop (.GeneratorExp elt [⟨tg, iter, [], 0⟩] scope gpos) 0 (.ref it) .none (genEnv scope cl s3.heap.objs.size cd builtinsNs X.env)) []) fp) [(h'.objs.size, oa)] (wipe σ (own.map (·.2))) H3 (s5.setGen s3.gens.size .running) := by
      have I5 := start (s5.setGen s3.gens.size .running).gens (s3.toks + 1 + 1 + 1) (allBare_setGen s5g rfl)
      rw [← es5] at I5 ⊢
      refine I5.pins_of fun p hp => ?_
      have e : p = (h'.objs.size, oa) := List.mem_singleton.mp hp
      rw [e]
      refine ⟨ea5, I3.hok.fresh (by rw [sz']; exact Nat.le_succ _), ?_, fun hm => ?_, fun v z => ?_⟩
      · show h'.objs.size ≠ s3.heap.objs.size
        rw [sz']
        exact Nat.succ_ne_self _
      · obtain ⟨_, o', e', _⟩ := I3.stack.mem hm
        have lt := Heap.lt_size e'
        have lt : h'.objs.size < s3.heap.objs.size := lt
        omega
      · have z : oa.data = .cell v := z
        rw [← eoa] at z
        cases z
    have st5 : tn 0 (s5.setGen s3.gens.size .running).heap := T.keep _ _ _ st3 fun b hb o e => by
      rw [← es5]
      exact kp5 b o e
    have loop := fun s₀ => gen_loop (own := own) I3 f3 hco rfl rfl (by rw [sz']; exact Nat.le_succ _) isg T (pg s3 H3 s3.heap.objs.size cl cd _ fp) (pe s3 H3 s3.heap.objs.size cl cd _ fp room3) turn m0 (m0 + 1) 0 s₀ _ H3 (Nat.lt_succ_self _) I5 st5 (fun b hb => (f3 b hb).1.1) w0
    show Seg _ _ _ _ _ _ _ ((compStart (.GeneratorExp elt [⟨tg, iter, [], 0⟩] scope gpos) 0 (.ref it) .none (genEnv scope cl s3.heap.objs.size cd builtinsNs X.env)).onRaise (leaving _)) [] _
    unfold compStart
    rw [Sem.onRaise_eq_wrap]
    show Seg _ _ _ _ _ _ _ ((ask >>= _).wrap _ _ _ _) [] _
    refine seg_bind_wrap (wpAny_askSetting ?_)
    split
    · exact seg_again rfl (loop _)
    · first
        | exact seg_bind_wrap (wpAny_rule (seg_bind_wrap (wpAny_standAt (seg_bind_wrap (T.self _ 0 _ _ _ st5 (seg_again rfl (loop _)))))))
        | (refine seg_bind_wrap (wpAny_rule ?_)
           show Seg _ _ _ _ _ _ _ ((standAt iter.pos >>= _).wrap _ _ _ _) [] _
           exact seg_bind_wrap (wpAny_standAt (seg_bind_wrap (T.self _ 0 _ _ _ st5 (seg_again rfl (loop _))))))
  cases hf : codeAmong gpos ps.toList with
  | none =>
    refine wpAny_genexprCodeX code (head.code atP trip) (head.tab atP) hf fun c' h' tk hx hge hlt hco' _ htab' _ => ?_
    obtain ⟨o1, vs, f1, tf, fl, tg, inF, tx, tt, op, _, _, _, _, _, _, _, _, _, htr, _⟩ := hco'
    exact after _ h' tk _ hx htab'.2 htr
  | some cv =>
    refine wpAny_genexprCode_hit code (head.code atP trip) hf ?_
    have z := after cv s2.heap s2.toks #[] (Heap.ExtBut.refl _ _) (by rw [Array.append_empty]; exact atP) (by rw [Array.append_empty]; exact trip)
    exact z

/-- all(element for target in things) -/
theorem pe_allQ {c P : Addr} {elt iter tg : Expr} {p pos gpos : Pos} {scope : Scope} {own : List (Str × Nat)} {wi : TI} {gT : TG} {te : TE} {k : Nat}
    (room : Room (k + 1) X.A) (hN : X.N.Nodup) (hg : Gl X "all") (hm : X.mg "all" = none) (tb : TabB X.base X.mg c P) (code : X.env.code = .ref c) (hi : PI X tg iter wi) (ok : BlkOk X.N X.env.scope scope own) (nocell : (scope.names.all fun y => decide (y.2 ≠ .cell)) = true) (hco : scope.isCoroutine = false) (hdot : scope.names.lookup (".0" : Str) = some NameKind.local)
    (pg : ∀ (s : Shared) (H : Hp) (C : Addr) (cl : List (Str × Addr)) (cd : Value) (A : Around) (fp : List Addr), PG (gctx X s H (genEnv scope cl C cd builtinsNs X.env) A fp) tg gT)
    (pe : ∀ (s : Shared) (H : Hp) (C : Addr) (cl : List (Str × Addr)) (cd : Value) (A : Around) (fp : List Addr), Room k A → PE (gctx X s H (genEnv scope cl C cd builtinsNs X.env) A fp) elt te)
    (fold : ∀ v, genFold iter X.env v = pure v := by intro _; rfl)
    (he : starEach [.GeneratorExp elt [⟨tg, iter, [], 0⟩] scope gpos] X.env = (false, eval (.GeneratorExp elt [⟨tg, iter, [], 0⟩] scope gpos) X.env) :: starEach [] X.env := by rfl) :
    PE X (.Call (.Name "all" p) [.GeneratorExp elt [⟨tg, iter, [], 0⟩] scope gpos] [] pos) (tQuant true P wi gT te (own.map (·.2))) := by
  refine ⟨fun pins s σ H Q I h => ?_⟩
  refine wpAny_Call_Name_kw (ld_blt (u := .builtin "all") I hg hm (by decide +kernel) ?_)
  refine PyProof.Rows.callWith_builtin1 ?_ he (by rfl)
  rw [he]
  show wpAny _ _ (spliced ((false, eval (.GeneratorExp elt [⟨tg, iter, [], 0⟩] scope gpos) X.env) :: backTo pos (starEach [] X.env))) _ _ s
  refine Calls.spliced_cons (gen_Q room hN tb code ok (fun y hy => of_decide_eq_true (List.all_eq_true.mp nocell y hy)) hco hdot hi pg pe fold I h fun a s5 hR => ?_)
  obtain ⟨g, n, gs, hgen, hl, hgs, hgo⟩ := hR
  refine Calls.spliced_nil ?_
  refine call_function_tree F.kind_all F.plain_all F.entry_all (F.args_all1 _) ?_
  unfold Builtin.«all»
  refine wpAny_bind (m := oneArg "all" _) (wpAny_pure ?_)
  refine wpAny_bind (wpAny_pyIter_gen hgen ?_)
  refine wpAny_pure ⟨plainId_quiet F.plain_all_loop _, all_loopQ (A := X.A) room.hd (by have := room.dp; show X.A.depth < _; omega) (fun s' hs => ?_) (fun s' hs => ?_) n s5 gs hgen hl hgs hgo⟩
  · obtain ⟨H', I', q⟩ := hs
    exact ⟨.bl true, H', I', rfl, q⟩
  · obtain ⟨H', I', q⟩ := hs
    exact ⟨.bl false, H', I', rfl, q⟩
/-- any(element for target in things) -/
theorem pe_anyQ {c P : Addr} {elt iter tg : Expr} {p pos gpos : Pos} {scope : Scope} {own : List (Str × Nat)} {wi : TI} {gT : TG} {te : TE} {k : Nat}
    (room : Room (k + 1) X.A) (hN : X.N.Nodup) (hg : Gl X "any") (hm : X.mg "any" = none) (tb : TabB X.base X.mg c P) (code : X.env.code = .ref c) (hi : PI X tg iter wi) (ok : BlkOk X.N X.env.scope scope own) (nocell : (scope.names.all fun y => decide (y.2 ≠ .cell)) = true) (hco : scope.isCoroutine = false) (hdot : scope.names.lookup (".0" : Str) = some NameKind.local)
    (pg : ∀ (s : Shared) (H : Hp) (C : Addr) (cl : List (Str × Addr)) (cd : Value) (A : Around) (fp : List Addr), PG (gctx X s H (genEnv scope cl C cd builtinsNs X.env) A fp) tg gT)
    (pe : ∀ (s : Shared) (H : Hp) (C : Addr) (cl : List (Str × Addr)) (cd : Value) (A : Around) (fp : List Addr), Room k A → PE (gctx X s H (genEnv scope cl C cd builtinsNs X.env) A fp) elt te)
    (fold : ∀ v, genFold iter X.env v = pure v := by intro _; rfl)
    (he : starEach [.GeneratorExp elt [⟨tg, iter, [], 0⟩] scope gpos] X.env = (false, eval (.GeneratorExp elt [⟨tg, iter, [], 0⟩] scope gpos) X.env) :: starEach [] X.env := by rfl) :
    PE X (.Call (.Name "any" p) [.GeneratorExp elt [⟨tg, iter, [], 0⟩] scope gpos] [] pos) (tQuant false P wi gT te (own.map (·.2))) := by
  refine ⟨fun pins s σ H Q I h => ?_⟩
  refine wpAny_Call_Name_kw (ld_blt (u := .builtin "any") I hg hm (by decide +kernel) ?_)
  refine PyProof.Rows.callWith_builtin1 ?_ he (by rfl)
  rw [he]
  show wpAny _ _ (spliced ((false, eval (.GeneratorExp elt [⟨tg, iter, [], 0⟩] scope gpos) X.env) :: backTo pos (starEach [] X.env))) _ _ s
  refine Calls.spliced_cons (gen_Q room hN tb code ok (fun y hy => of_decide_eq_true (List.all_eq_true.mp nocell y hy)) hco hdot hi pg pe fold I h fun a s5 hR => ?_)
  obtain ⟨g, n, gs, hgen, hl, hgs, hgo⟩ := hR
  refine Calls.spliced_nil ?_
  refine call_function_tree F.kind_any F.plain_any F.entry_any (F.args_any1 _) ?_
  unfold Builtin.«any»
  refine wpAny_bind (m := oneArg "any" _) (wpAny_pure ?_)
  refine wpAny_bind (wpAny_pyIter_gen hgen ?_)
  refine wpAny_pure ⟨plainId_quiet F.plain_any_loop _, any_loopQ (A := X.A) room.hd (by have := room.dp; show X.A.depth < _; omega) (fun s' hs => ?_) (fun s' hs => ?_) n s5 gs hgen hl hgs hgo⟩
  · obtain ⟨H', I', q⟩ := hs
    exact ⟨.bl false, H', I', rfl, q⟩
  · obtain ⟨H', I', q⟩ := hs
    exact ⟨.bl true, H', I', rfl, q⟩
end
end Gq

set_option Elab.async false
set_option linter.all false
set_option maxRecDepth 100000
set_option maxHeartbeats 2000000
/-! all(..) over a text's signs, over a tuple's things: by an invariant of the heap. -/
namespace Gq
open PySem PySem.Spec PyProof.Rows L2 GxR Gx
theorem all_at {α : Type} {l : List α} {pb : α → Bool} {i : Nat} {x : α} (h : l[i]? = some x) : (l.take (i + 1)).all pb = ((l.take i).all pb && pb x) := by
  rw [List.take_add_one, h, List.all_append] <;> simp
theorem all_no {α : Type} {l : List α} {pb : α → Bool} {x : α} (h : x ∈ l) (hp : pb x = false) : l.all pb = false := by
  cases e : l.all pb with
  | false => rfl
  | true =>
    rw [List.all_eq_true.mp e x h] at hp
    cases hp
theorem q_str {z : Str} {gT : TG} {te : TE} {vs : List Nat} {σ : L2.St} {H2 : Hp} {Q : VK} {pb : Nat → Bool} (Iv : Hp → Prop) (h0 : Iv H2)
    (hs : ∀ c H (R : VK), c ∈ z.cps.toList → Iv H → (∀ H3, Iv H3 → R (.bl (pb c)) H3) → gT (.str ⟨#[c]⟩) (wipe σ vs) H fun σ2 H' => wipe σ2 vs = wipe σ vs ∧ te σ2 H' R) (hQ : ∀ H, Iv H → Q (.bl (z.cps.toList.all pb)) H) :
    ∃ W : Nat → Nat → Hp → Prop, (∃ m, W 0 m H2) ∧ ∀ i m H, W i m H → ((Its z).stop i H ∧ Q (.bl true) H) ∨ ((Its z).go i H ∧ ∃ Nx : Hp → Prop, (∀ H', Nx H' → ∃ m', m' < m ∧ W (i + 1) m' H') ∧ ∀ x H', (Its z).yld i H x H' → gT x (wipe σ vs) H' fun σ2 H2 => wipe σ2 vs = wipe σ vs ∧
      te σ2 H2 fun y H3 => ∃ b : Bool, y = .bl b ∧ (b = true → Nx H3) ∧ (b ≠ true → Q (.bl (!true)) H3)) := by
  have el : z.cps.toList.length = z.cps.size := Array.length_toList
  refine ⟨fun i m H => m = z.cps.size - i ∧ i ≤ z.cps.size ∧ Iv H ∧ (z.cps.toList.take i).all pb = true, ⟨_, rfl, Nat.zero_le _, h0, rfl⟩, ?_⟩
  rintro i m H ⟨rfl, hi, iv, hp⟩
  rcases Nat.lt_or_ge i z.cps.size with lt | ge
  · refine .inr ⟨lt, fun H' => Iv H' ∧ (z.cps.toList.take (i + 1)).all pb = true, fun H' q => ⟨_, Nat.sub_succ_lt_self _ _ lt, rfl, lt, q⟩, ?_⟩
    rintro x H' ⟨rfl, c, ec, rfl⟩
    have ec' : z.cps.toList[i]? = some c := by rw [Array.getElem?_toList]; exact ec
    have mc := List.mem_of_getElem? ec'
    refine hs c _ _ mc iv fun H3 iv3 => ⟨pb c, rfl, fun e => ⟨iv3, by rw [all_at ec', hp, e] <;> rfl⟩, fun e => ?_⟩
    have e' : pb c = false := by cases q : pb c with
      | false => rfl
      | true => exact absurd q e
    have q := hQ H3 iv3
    rw [all_no mc e'] at q
    exact q
  · obtain rfl : i = z.cps.size := Nat.le_antisymm hi ge
    refine .inl ⟨Nat.le_refl _, ?_⟩
    have q := hQ H iv
    rw [← el, List.take_length] at hp
    rw [hp] at q
    exact q
theorem q_tup {K : PySem.W.Frag} {a : Addr} {xs : List V} {gT : TG} {te : TE} {vs : List Nat} {σ : L2.St} {H2 : Hp} {Q : VK} {pb : V → Bool} (Iv : Hp → Prop) (h0 : Iv H2) (hl : ∀ H, Iv H → SqT K H a xs)
    (hs : ∀ x H (R : VK), x ∈ xs → Iv H → (∀ H3, Iv H3 → R (.bl (pb x)) H3) → gT x (wipe σ vs) H fun σ2 H' => wipe σ2 vs = wipe σ vs ∧ te σ2 H' R) (hQ : ∀ H, Iv H → Q (.bl (xs.all pb)) H) :
    ∃ W : Nat → Nat → Hp → Prop, (∃ m, W 0 m H2) ∧ ∀ i m H, W i m H → ((Itt K a).stop i H ∧ Q (.bl true) H) ∨ ((Itt K a).go i H ∧ ∃ Nx : Hp → Prop, (∀ H', Nx H' → ∃ m', m' < m ∧ W (i + 1) m' H') ∧ ∀ x H', (Itt K a).yld i H x H' → gT x (wipe σ vs) H' fun σ2 H2 => wipe σ2 vs = wipe σ vs ∧
      te σ2 H2 fun y H3 => ∃ b : Bool, y = .bl b ∧ (b = true → Nx H3) ∧ (b ≠ true → Q (.bl (!true)) H3)) := by
  refine ⟨fun i m H => m = xs.length - i ∧ i ≤ xs.length ∧ Iv H ∧ (xs.take i).all pb = true, ⟨_, rfl, Nat.zero_le _, h0, rfl⟩, ?_⟩
  rintro i m H ⟨rfl, hi, iv, hp⟩
  rcases Nat.lt_or_ge i xs.length with lt | ge
  · refine .inr ⟨?_, fun H' => Iv H' ∧ (xs.take (i + 1)).all pb = true, fun H' q => ⟨_, Nat.sub_succ_lt_self _ _ lt, rfl, lt, q⟩, ?_⟩
    · exact ⟨xs, xs[i], hl H iv, List.getElem?_eq_getElem lt⟩
    · rintro x H' ⟨rfl, y⟩
      have ex := y xs (hl _ iv)
      have mx := List.mem_of_getElem? ex
      refine hs x _ _ mx iv fun H3 iv3 => ⟨pb x, rfl, fun e => ⟨iv3, by rw [all_at ex, hp, e] <;> rfl⟩, fun e => ?_⟩
      have e' : pb x = false := by cases q : pb x with
        | false => rfl
        | true => exact absurd q e
      have q := hQ H3 iv3
      rw [all_no mx e'] at q
      exact q
  · obtain rfl : i = xs.length := Nat.le_antisymm hi ge
    refine .inl ⟨?_, ?_⟩
    · exact ⟨xs, hl H iv, Nat.le_refl _⟩
    have q := hQ H iv
    rw [List.take_length] at hp
    rw [hp] at q
    exact q
end Gq

set_option Elab.async false
set_option linter.all false
set_option maxRecDepth 100000
set_option maxHeartbeats 2000000
/-! Errors that are caught and kept behind the suite: isinstance of them. -/
namespace Gc
open PySem PySem.Spec PyProof.Rows L2 GxR Gx
/-- a caught error, kept as a value -/
def ExK (cls : Value) (d : Option Addr) (a : Addr) : HO := .ext fun h => ∃ (oe : Obj) (vs : Array Value), h.get? a = some oe ∧ Zc cls d oe ∧ oe.data = .fields vs
section
variable {X : Cx} {pins : List (Addr × Obj)} {σ : L2.St} {H : Hp} {s : Shared}
/-- an object that the def's entry didn't know may be tracked from now on -/
theorem track {a : Addr} {oe : Obj} {vs : Array Value} {cls : Value} {d : Option Addr} (I : Inv X pins σ H s) (ho : s.heap.get? a = some oe) (hz : Zc cls d oe) (hd : oe.data = .fields vs) (hn : H a = none) (h0 : X.s_0.heap.get? a = none)
    (nL : a ≠ X.env.locals) (nP : ∀ p ∈ X.pn ++ pins, p.1 ≠ a) : Inv X pins σ (upd H a (ExK cls d a)) s := by
  have other : ∀ {b : Addr} {u : HO}, H b = some u → upd H a (ExK cls d a) b = some u := fun {b u} e => by rw [upd_ne (ne_of_none e hn)]; exact e
  have away : ∀ {b : Addr}, b ≠ a → H b = none → upd H a (ExK cls d a) b = none := fun {b} n e => by rw [upd_ne n]; exact e
  refine ⟨I.ok, I.os, I.bare, ⟨I.base.keep, I.base.slot, fun b o e n hx => ?_, I.base.there, fun b xs e => other (I.base.tups b xs e), fun b o u e => other (I.base.frzs b o u e), fun b ps e => ?_⟩, I.loc, I.cell, away nL.symm I.free, fun x c e => ?_, fun p hp => ?_, fun b u e => ?_, I.len⟩
  · refine away (fun z => ?_) (I.base.free b o e n hx)
    rw [z, h0] at e
    cases e
  · obtain ⟨m, q⟩ := I.base.tbls b ps e
    exact ⟨m, other q⟩
  · refine away (fun z => ?_) (I.freeC x c e)
    obtain ⟨v, o, q, dc⟩ := I.cell x c e
    rw [z, ho] at q
    cases q
    rw [hd] at dc
    cases dc
  · obtain ⟨e, n, r⟩ := I.pin p hp
    exact ⟨e, away (nP p hp) n, r⟩
  · by_cases hb : b = a
    · rw [hb, upd_same] at e
      cases e
      rw [hb]
      exact ⟨⟨oe, vs, ho, hz, hd⟩, ⟨oe, ho⟩, fun h1 h2 ⟨o, v, q, r⟩ k => ⟨o, v, k o q, r⟩⟩
    · rw [upd_ne hb] at e
      exact (I.hok b u e).stay (fun c v _ q => q) (fun c q => other q) fun c xs q => other q
/-- what 'except x as n' wishes, the error kept -/
def wHold (K : PySem.W.Frag) (c : Value) (i : Nat) (ts : Addr → Value → Option Addr → TS) (Wout : WX) (D : Ends) : WX := fun cls d σ H =>
  ∃ b, PySem.W.exmOne K cls c = some b ∧ (b = true → ∀ a, H a = none → ts a cls d { nx := fun σ' H' => D.nx (σ'.set i none) (upd H' a (ExK cls d a)), rt := D.rt, bk := fun σ' H' => D.bk (σ'.set i none) (upd H' a (ExK cls d a)), ct := fun σ' H' => D.ct (σ'.set i none) (upd H' a (ExK cls d a)) } (σ.set i (some (.ref a))) H) ∧
    (b = false → Wout cls d σ H)
end
section
variable {X : Cx} {x n : Str} {c : Value} {i : Nat} {body suite : List Stmt} {b₀ : Stmt} {np pos pos' : Pos} {tb : WX → TS} {ts : Addr → Value → Option Addr → TS} {Wout : WX}
theorem ps_try_hold (hex : X.ex = []) (hs : X.stack = X.env :: X.outer) (hf : X.env.frame = some X.env.locals) (hN : X.N.Nodup) (hi : X.N[i]? = some n) (hln : X.env.kindOf n = some .local) (hc : Names X x c) (tk : Takes X Wout)
    (hb : ∀ (W : WX) (pn : List (Addr × Obj)) (xe : Value → Shared → Prop), Takes (X.tr pn xe) W → PassesOwn (model X.prog X.w) X.A X.env xe → PSs (X.tr pn xe) body (tb W))
    (hsu : ∀ (a : Addr) (oe : Obj) (cls : Value) (d : Option Addr) (pn : List (Addr × Obj)), Zc cls d oe → (∃ vs, oe.data = .fields vs) → PSs (X.suite a ((a, oe) :: pn)) (b₀ :: suite) (ts a cls d)) :
    PS X (.Try body [.ExceptHandler (some (.Name x np)) (some n) (b₀ :: suite) pos'] [] [] pos) (fun D σ H => tb (wHold X.K c i ts Wout D) D σ H) := by
  refine ⟨fun pins s σ H D I h => wpAny_Try_except (wpAny_mono ((hb (wHold X.K c i ts Wout D) (X.pn ++ pins) (fun e s₁ => wpAny (model X.prog X.w) X.A (noteFrame e X.env) (fun _ s₂ => wpAny (model X.prog X.w) X.A (setFlight e none) (fun _ s₃ =>
    wpAny (model X.prog X.w) X.A (handleBy e X.env [.ExceptHandler (some (.Name x np)) (some n) (b₀ :: suite) pos']) (SP X pins D) X.xe s₃) X.xe s₂) X.xe s₁) (fun u s' z => ?_) PassesOwn.looking).run [] s σ H D (I.toTry _) h) (fun f s1 q => ?_) fun _ _ z => z)⟩
  · have ok := I.ok
    have hfr : X.A.frames = some (X.env :: X.outer) := by rw [ok.frames, hs]
    obtain ⟨a, B, sI, pins', σ', H', cls, d, rfl, J', nb, up, sky, na, os, ag, b, hb1, hyes, hno⟩ := z
    have J : Inv X pins σ' H' sI := J'.ofTry ok
    rw [show (X.tr (X.pn ++ pins) _).stack = X.env :: X.outer from hs] at sky
    show wpAny (model X.prog X.w) X.A (noteFrame (.ref a) X.env) _ _ _
    refine Sky.land Zc.steady hfr hf sky fun h3 fl up3 => ?_
    have J3 : Inv X pins σ' H' { s' with heap := h3 } := J.landed nb fl.1 (up.trans up3) os ag
    obtain ⟨oe, vs, he, hz, hd⟩ := fl.there
    have nfr : a ∉ frs (X.env :: X.outer) := fun hm => by
      obtain ⟨_, o, e, hnf⟩ := fl.2.2.1.mem hm
      cases he.symm.trans e
      exact hnf _ hd
    have nL : a ≠ X.env.locals := fun z => nfr (List.mem_filterMap.mpr ⟨X.env, List.mem_cons_self, by rw [hf, z]⟩)
    have nF : a ∉ X.fs := fun hm => by
      obtain ⟨e, he, q⟩ := List.mem_filterMap.mp hm
      exact nfr (List.mem_filterMap.mpr ⟨e, List.mem_cons_of_mem _ he, q⟩)
    -- the error's object is new since the def's entry
    have nI : sI.heap.get? a = none := by
      cases q : sI.heap.get? a with
      | none => rfl
      | some o =>
        have z := nb a o q (by show a ∉ frs X.stack; rw [hs]; exact nfr)
        rw [fl.2.1] at z
        cases z
    have n0 : X.s_0.heap.get? a = none := by
      cases q : X.s_0.heap.get? a with
      | none => rfl
      | some o =>
        obtain ⟨o', z⟩ := J.base.there a o q (by rw [hex]; exact fun z => nomatch z)
        cases nI.symm.trans z
    have nP : ∀ p ∈ X.pn ++ pins, p.1 ≠ a := fun p hp z => by
      have e := (J.pin p hp).1
      rw [z, nI] at e
      cases e
    have S3 := J3.suite he hd na nL nF
    refine wpAny_handleBy_cons (codeAny_handlers_test ?_) (by intro q; cases q)
    have LT : PySem.W.Looks (model X.prog X.w) h3 (typeOf (.ref a)) cls := fun A Q E s k q => wpAny_typeOf_ref (k _ _ he) (by rw [hz.1]; exact q)
    have LM := PySem.W.exm_one (M := model X.prog X.w) J3.kIn LT hb1
    have test : ∀ {Q : Value → Shared → Prop} {E : Value → Shared → Prop}, Q c { s' with heap := h3 } → wpAny (model X.prog X.w) (X.A.mark (some (.ref a))) (eval (.Name x np) X.env) Q E { s' with heap := h3 } := fun {Q E} q => by
      obtain ⟨hg, hdbg, hm | ⟨hm, hv, hnn⟩⟩ := hc
      · exact ld_glob (X := X.suite a ((a, oe) :: (X.pn ++ pins))) S3 hg hm q hdbg
      · exact ld_blt (X := X.suite a ((a, oe) :: (X.pn ++ pins))) S3 hg hm hv q hnn hdbg
    refine test (LM.here ?_)
    cases b with
    | false =>
      -- it goes on
      refine wpAny_handleBy_nil ?_
      obtain ⟨_, _, _, o1, w1, T, _, _, e1, _, d1, t1, _⟩ := id fl
      unfold PySem.passOn
      refine wpAny_bind (wpAny_field e1 d1 t1 ?_)
      rw [if_neg (show ¬ ((Value.ref T == Value.none) = true) from by simp)]
      have fin : wpAny (model X.prog X.w) X.A (setFlight (.ref a) X.env.frame) (fun _ s4 => wpAny (model X.prog X.w) X.A (throw (.ref a) : Sem Flow) (SP X pins D) X.xe s4) X.xe { s' with heap := h3 } := by
        rw [hf]
        exact HandSPX.setFlight_upZ fl fun h4 hh up4 => wpAny_throw (tk _ _ ⟨a, B, sI, pins, σ', H', cls, d, rfl, J, nb, (up.trans up3).trans up4, .inr (.inr (by rw [hs]; exact hh)), na, os, ag, hno rfl⟩)
      first
        | exact wpAny_bind (wpAny_pure (wpAny_bind fin))
        | exact wpAny_bind fin
    | true =>
      -- it is held in the suite, and tracked behind it
      refine codeAny_handlers_suite_as (HandSPX.lands_againZ fl fun h4 fl4 up4 => ?_)
      have J4 : Inv X pins σ' H' { s' with heap := h4 } := J.landed nb fl4.1 ((up.trans up3).trans up4) os ag
      obtain ⟨o4, v4, e4, z4, d4⟩ := fl4.there
      refine store_ok (X := X.suite a ((a, o4) :: (X.pn ++ pins))) (v := .ref a) (J4.suite e4 d4 na nL nF) hN hi (.inl hln) rfl (fun s5 S5 => ?_) (.inr hln)
      refine wpAny_mono ((hsu a o4 cls d (X.pn ++ pins) z4 ⟨_, d4⟩).run [] s5 _ H' _ S5 (hyes rfl a na)) (fun f s6 hsp => ?_) (fun _ _ z => False.elim z)
      have done : ∀ {σ6 : L2.St} {H6 : Hp} {Q : Shared → Prop}, Inv (X.suite a ((a, o4) :: (X.pn ++ pins))) [] σ6 H6 s6 → (∀ s7, Inv X pins (σ6.set i none) H6 s7 → Inv X pins (σ6.set i none) (upd H6 a (ExK cls d a)) s7 → Q s7) →
          wpAny (model X.prog X.w) X.A (do bindName X.env n .none; unbindBehindTheSuite X.env n pos') (fun _ s7 => Q s7) X.xe s6 := fun {σ6 H6 Q} S6 hq =>
        gone_ok (X := X.suite a ((a, o4) :: (X.pn ++ pins))) S6 hN hi hln fun s7 S7 => by
          obtain ⟨e7, n7, _⟩ := S7.pin (a, o4) (List.mem_append_left _ List.mem_cons_self)
          have J7 : Inv X pins (σ6.set i none) H6 s7 := S7.unsuite ok
          exact hq s7 J7 (track J7 e7 z4 d4 n7 n0 nL nP)
      cases f with
      | next =>
        obtain ⟨σ6, H6, S6, q6⟩ := hsp
        exact done S6 fun s7 _ J7 => ⟨_, _, J7, q6⟩
      | brk =>
        obtain ⟨σ6, H6, S6, q6⟩ := hsp
        exact done S6 fun s7 _ J7 => ⟨_, _, J7, q6⟩
      | cont =>
        obtain ⟨σ6, H6, S6, q6⟩ := hsp
        exact done S6 fun s7 _ J7 => ⟨_, _, J7, q6⟩
      | ret u =>
        obtain ⟨v6, σ6, H6, S6, r6, q6⟩ := hsp
        exact done S6 fun s7 J7 _ => ⟨_, _, _, J7, r6, q6⟩
  · cases f with
    | next =>
      obtain ⟨σ', H', J', q⟩ := q
      exact wpAny_execs_nil ⟨σ', H', J'.ofTry I.ok, q⟩
    | brk =>
      obtain ⟨σ', H', J', q⟩ := q
      exact ⟨σ', H', J'.ofTry I.ok, q⟩
    | cont =>
      obtain ⟨σ', H', J', q⟩ := q
      exact ⟨σ', H', J'.ofTry I.ok, q⟩
    | ret u =>
      obtain ⟨v, σ', H', J', r, q⟩ := q
      exact ⟨v, σ', H', J'.ofTry I.ok, r, q⟩
end
/-- isinstance of a kept error -/
def rIsK (K : PySem.W.Frag) : List V → Hp → VK → Prop := fun xs H Q => ∃ (a D : Addr) (c : V) (cv : Value) (b : Bool), xs = [.ref a, c] ∧ H a = some (ExK (.ref D) none a) ∧ ExcC K D ∧ (∀ u, RelV c u → u = cv) ∧ PySem.W.kitOne K (.ref D) cv = some b ∧ Q (.bl b) H
theorem call_isK {X : Cx} : CallR X (.builtin "isinstance") (rIsK X.K) := by
  intro pins s σ H xs us Q I r h
  obtain ⟨a, D, c, cv, b, rfl, ha, C, hcv, e, q⟩ := h
  obtain ⟨u1, u2, rfl, r1, r2⟩ := vals2 r
  cases (show u1 = Value.ref a from r1)
  cases hcv _ r2
  obtain ⟨⟨oe, vs, ho, hz, hd⟩, _⟩ := I.hok a _ ha
  obtain ⟨oc, od, oda, osl⟩ := oe
  obtain ⟨h1, h2⟩ := hz
  dsimp only at h1 h2 hd
  subst h1 h2 hd
  exact PySem.W.kia_one (PySem.W.handS_kitx_exc C.hg C.hk C.hs C.hd C.ha C.hn C.ht C.hm) I.kIn ⟨ho, rfl, rfl, trivial⟩ e (fun z => nomatch z) fun tk => ⟨.bl b, H, I.kept (t' := tk) fun _ _ z => z, rfl, q⟩
/-! ### defs that raise, by their names -/
structure DnS (P : Program) (w : World) (K : PySem.W.Frag) (mg : Str → Option Value) (base : Heap) (k : Nat) (x : Str) (ps : List Str) (sp : Sp) : Prop where
  ex : ∃ (f : Addr) (fd : FuncData), mg x = some (.ref f) ∧ PySem.W.keepIn K (.ref f) = true ∧ Binds K fd ps [] ∧ FnOk P w K mg base (L2.CX P w) k f fd ps sp
section
variable {X : Cx} {k : Nat} {x : Str} {ps : List Str} {sp : Sp} {p pos : Pos} {e : Expr} {es : List Expr} {t : TA}
theorem pe_dnS {E : L2.St → XK} (D : DnS X.prog X.w X.K X.mg X.base k x ps sp) (hr : Room k X.A) (hg : Gl X x) (hx : ∀ σ, PassesAt (L2.CX X.prog X.w) X σ (E σ)) (ha : PA X (e :: es) t) (hdb : (x == ("__debug__" : Str)) = false := by decide)
    (he : starEach (e :: es) X.env = (false, eval e X.env) :: starEach es X.env := by rfl) (hpl : (backTo pos (starEach es X.env)).any (·.1) = false := by rfl) :
    PE X (.Call (.Name x p) (e :: es) [] pos) (tCallS sp E t) := by
  obtain ⟨f, fd, hm, hk, hb, F⟩ := D.ex
  exact pe_callS F hr hg hm hk hb hx ha hdb he hpl
end
section
variable {P : Program} {w : World} {K : PySem.W.Frag} {mg : Str → Option Value} {base : Heap} {x qual : Str} {params : Arguments} {body : List Stmt} {scope : Scope} {dvs : List V} {kws : List (Str × V)} {N ps : List Str} {k : Nat} {sp : Sp}
/-- a def that may raise -/
theorem okS {f : Addr} {fd : FuncData} (F : FunD K x qual params body scope dvs kws f fd) (S : FnScope N ps scope) (len : ∀ vs H Q E, sp vs H Q E → vs.length = ps.length)
    (hbody : ∀ (c : Value) (A : Around) (outer : List Env) (s : Shared) (H : Hp) (vs : List V) (Q : VK) (E : XK), Room k (A.deeper (envOfC qual scope s.heap.objs.size f c)) → sp vs H Q E →
      ∃ t, PSs (cxOf (L2.CX P w) P w K mg base N qual scope f c A outer s H E) body t ∧ t { nx := fun _ H' => Q .non H', rt := Q } (start N vs) H) : FnOk P w K mg base (L2.CX P w) (k + 1) f fd ps sp := by
  obtain ⟨oc, od, dV, kV, doc, pm, an, cdv, ct, osl, rfl, lk, hcd, _, _⟩ := F.ex
  exact fn_of lk hcd S len fun A outer s H vs Q E hr hsp => hbody _ A outer s H vs Q E hr hsp
end
/-! ### xs.count(y), flat items -/
theorem count_vals {y : V} : ∀ {ys : List V} {us : List Value}, Vals ys us → ys.all flatV = true → us.countP (eqU y) = ys.countP fun z => eqV z y
  | [], _, .nil, _ => rfl
  | z :: r, _, .cons h t, f => by
    rw [List.all_cons, Bool.and_eq_true] at f
    rw [List.countP_cons, List.countP_cons, count_vals t f.2, eqU_of h f.1]
def rCntV (K : PySem.W.Frag) : V → List V → Hp → VK → Prop := fun x xs H Q => ∃ (a : Addr) (ys : List V) (y : V), x = .ref a ∧ xs = [y] ∧ SqL K H a ys ∧ flatV y = true ∧ ys.all flatV = true ∧ Q (.int (ys.countP fun z => eqV z y : Nat)) H
theorem mt_lcountV {X : Cx} : MtR X "list.count" (rCntV X.K) := by
  intro pins s σ H x xs v us Q I rx rxs h
  obtain ⟨a, ys, y, rfl, rfl, hs, fy, fys, q⟩ := h
  cases (show v = Value.ref a from rx)
  obtain ⟨u, rfl, ru⟩ := rxs.one
  obtain ⟨its, rv, ⟨⟨cls, dd, data, sl⟩, n, ho, hc, hdn, hd⟩, hlen⟩ := I.list hs
  simp only at hc hd
  subst hc hd
  refine call_meets PySem.F.slot_list_count ⟨_, ho, rfl⟩ PySem.F.entry_list_count (PySem.F.args_list_count_2 _ _)
    (SeqAt.list_countAt a its.toArray n dd sl u (eqU y)) ⟨ho, fun u' hu' => mem_eqAt ru fy rv fys u' (by simpa using hu'), ?_⟩
  have ec : its.toArray.toList.countP (eqU y) = ys.countP fun z => eqV z y := by
    rw [List.toList_toArray]
    exact count_vals rv fys
  refine ⟨.int (ys.countP fun z => eqV z y : Nat), H, I.tok _, ⟨s.toks, ?_⟩, q⟩
  show Value.int ((its.toArray.toList.countP (eqU y) : Nat) : Int) s.toks = _
  rw [ec]
/-! ### facts of an error's class -/
/-- what the head tells of the class at C -/
def excB (K : PySem.W.Frag) (C : Addr) : Bool := PySem.W.excIn K C He.veBase "ValueError.__new__" && (PySem.W.keepIn K (.ref C) && (decide (PySem.W.subIn K (.ref C) (.type "BaseException") = some true) && (decide (PySem.W.typeIn K (.ref C) = some (.type "type")) &&
  (decide (PySem.W.findIn K (.ref C) "__getattribute__" = some (some (.builtin "BaseException.__getattribute__"))) && (decide (PySem.W.findIn K (.ref C) "__getattr__" = some none) && (PySem.W.hasDictIn K C && (decide (PySem.W.findIn K (.ref C) "__class__" = some (some (.builtin "object.__class__"))) &&
  (decide (PySem.W.specialIn K (.builtin "object.__class__") "__get__" = some (some (.builtin "getset_descriptor.__get__"))) && (decide (PySem.W.takesIn K (.builtin "object.__class__") = some true) && decide (PySem.W.mroIn K C (.type "object") = some true))))))))))
structure ExF (K : PySem.W.Frag) (C : Addr) : Prop where
  x : PySem.W.excIn K C He.veBase "ValueError.__new__" = true
  k : PySem.W.keepIn K (.ref C) = true
  b : PySem.W.subIn K (.ref C) (.type "BaseException") = some true
  t : PySem.W.typeIn K (.ref C) = some (.type "type")
  c : ExcC K C
theorem excB_ok {K : PySem.W.Frag} {C : Addr} (h : excB K C = true) : ExF K C := by
  unfold excB at h
  simp only [Bool.and_eq_true, decide_eq_true_eq] at h
  obtain ⟨h1, h2, h3, h4, h5, h6, h7, h8, h9, h10, h11⟩ := h
  exact ⟨h1, h2, h3, h4, ⟨h5, h6, h3, h7, h8, h9, h10, h11⟩⟩
/-- of an error of the class at C: which of the classes named it is -/
def kitB (K : PySem.W.Frag) (C : Addr) (one : Str) (xs : List Str) : Bool := xs.all fun x => decide (PySem.W.kitOne K (.ref C) (.ref (He.ga K x)) = some (decide (x = one)))
theorem kitB_ok {K : PySem.W.Frag} {C : Addr} {one : Str} {xs : List Str} (h : kitB K C one xs = true) {x : Str} (hx : x ∈ xs) : PySem.W.kitOne K (.ref C) (.ref (He.ga K x)) = some (decide (x = one)) := of_decide_eq_true (List.all_eq_true.mp h x hx)
/-! ### new objects, their heaps not spelt out -/
theorem lst_any {H : Hp} {xs : List V} {Q : VK} (hz : xs.length ≤ sizeLine) (q : ∀ p H', H' p = some (.lst xs) → Same H H' → H p = none → Q (.ref p) H') : xs.length ≤ sizeLine ∧ ∀ p, H p = none → Q (.ref p) (upd H p (.lst xs)) :=
  ⟨hz, fun p hp => q p _ upd_same (same_new hp) hp⟩
theorem tup_any {H : Hp} {xs : List V} {Q : VK} (hz : xs.length ≤ sizeLine) (q : ∀ p H', H' p = some (.tup xs) → Same H H' → H p = none → Q (.ref p) H') : xs.length ≤ sizeLine ∧ ∀ p, H p = none → Q (.ref p) (upd H p (.tup xs)) :=
  ⟨hz, fun p hp => q p _ upd_same (same_new hp) hp⟩
theorem catL_any {H : Hp} {l b : Addr} {xs ys : List V} {Q : VK} (hl : H l = some (.lst xs)) (hb : H b = some (.lst ys)) (hz : xs.length + ys.length ≤ sizeLine) (q : ∀ p H', H' p = some (.lst (xs ++ ys)) → Same H H' → H p = none → Q (.ref p) H') : rCat (.ref l) (.ref b) H Q :=
  ⟨l, b, xs, ys, rfl, rfl, hl, hb, hz, fun p hp => q p _ upd_same (same_new hp) hp⟩
end Gc

set_option Elab.async false
set_option linter.all false
set_option maxRecDepth 100000
set_option maxHeartbeats 2000000
/-! Data of tuples alone: masters as the laws draw them, told by records. -/
namespace Gd
open PySem PySem.Spec PyProof.Rows L2 GxR Gx
mutual
/-- no list, no dict in it: nothing in it can change -/
def noL : PyData → Bool
  | .tuple ds => noLAll ds
  | .list _ => false
  | .dict _ => false
  | _ => true
def noLAll : List PyData → Bool
  | [] => true
  | d :: r => noL d && noLAll r
end
mutual
theorem dpT_keep {K : PySem.W.Frag} {H H' : Hp} (kt : ∀ a xs, SqT K H a xs → SqT K H' a xs) : ∀ {v : V} {d : PyData}, Dp K H v d → noL d = true → Dp K H' v d
  | _, _, .non, _ => .non
  | _, _, .bl b, _ => .bl b
  | _, _, .int i, _ => .int i
  | _, _, .str x, _ => .str x
  | _, _, .lst s h, n => by
    simp only [noL] at n
    cases n
  | _, _, .tup s h, n => by
    simp only [noL] at n
    exact .tup (kt _ _ s) (dpTAll_keep kt h n)
theorem dpTAll_keep {K : PySem.W.Frag} {H H' : Hp} (kt : ∀ a xs, SqT K H a xs → SqT K H' a xs) : ∀ {vs : List V} {ds : List PyData}, DpAll K H vs ds → noLAll ds = true → DpAll K H' vs ds
  | _, _, .nil, _ => .nil
  | _, _, .cons h t, n => by
    simp only [noLAll, Bool.and_eq_true] at n
    exact .cons (dpT_keep kt h n.1) (dpTAll_keep kt t n.2)
end
theorem noL_all : ∀ {ds : List PyData}, (∀ d ∈ ds, noL d = true) → noLAll ds = true
  | [], _ => by simp only [noLAll]
  | d :: r, h => by simp only [noLAll, h d List.mem_cons_self, noL_all fun x hx => h x (List.mem_cons_of_mem _ hx), Bool.and_self]
section
variable {K : PySem.W.Frag} {H : Hp}
theorem dp_tup {v : V} {ds : List PyData} (h : Dp K H v (.tuple ds)) : ∃ a xs, v = .ref a ∧ SqT K H a xs ∧ DpAll K H xs ds := by
  cases h with
  | tup s h => exact ⟨_, _, rfl, s, h⟩
theorem dp_str {v : V} {z : Str} (h : Dp K H v (.str z)) : v = .str z := by
  cases h
  rfl
theorem dp_int {v : V} {i : Int} (h : Dp K H v (.int i)) : v = .int i := by
  cases h
  rfl
theorem dp_non {v : V} (h : Dp K H v .none) : v = .non := by
  cases h
  rfl
theorem dpAll_len : ∀ {xs : List V} {ds : List PyData}, DpAll K H xs ds → xs.length = ds.length
  | _, _, .nil => rfl
  | _, _, .cons _ t => congrArg (· + 1) (dpAll_len t)
theorem dpAll_get : ∀ {xs : List V} {ds : List PyData} {i : Nat} {d : PyData}, DpAll K H xs ds → ds[i]? = some d → ∃ x, xs[i]? = some x ∧ Dp K H x d
  | _, _, 0, _, .cons h _, e => ⟨_, rfl, by cases e; exact h⟩
  | _, _, i + 1, _, .cons _ t, e => dpAll_get (i := i) t e
  | _, _, _, _, .nil, e => by cases e
theorem dpAll_of : ∀ {xs : List V} {ds : List PyData} {i : Nat} {x : V}, DpAll K H xs ds → xs[i]? = some x → ∃ d, ds[i]? = some d ∧ Dp K H x d
  | _, _, 0, _, .cons h _, e => ⟨_, rfl, by cases e; exact h⟩
  | _, _, i + 1, _, .cons _ t, e => dpAll_of (i := i) t e
  | _, _, _, _, .nil, e => by cases e
theorem dpAll_app : ∀ {xs ys : List V} {ds es : List PyData}, DpAll K H xs ds → DpAll K H ys es → DpAll K H (xs ++ ys) (ds ++ es)
  | _, _, _, _, .nil, h => h
  | _, _, _, _, .cons h t, h2 => .cons h (dpAll_app t h2)
theorem dpAll_take : ∀ {xs : List V} {ds : List PyData} (n : Nat), DpAll K H xs ds → DpAll K H (xs.take n) (ds.take n)
  | _, _, 0, _ => .nil
  | _, _, _ + 1, .nil => .nil
  | _, _, n + 1, .cons h t => .cons h (dpAll_take n t)
theorem dpAll_drop : ∀ {xs : List V} {ds : List PyData} (n : Nat), DpAll K H xs ds → DpAll K H (xs.drop n) (ds.drop n)
  | _, _, 0, h => h
  | _, _, _ + 1, .nil => .nil
  | _, _, n + 1, .cons _ t => dpAll_drop n t
theorem dpAll_strs : ∀ l : List Str, DpAll K H (l.map V.str) (l.map PyData.str)
  | [] => .nil
  | z :: r => .cons (.str z) (dpAll_strs r)
end
/-! ### records -/
structure PlM where
  name : Str
  sets : List (Str × PyData)
  text : Option (List Str)
def PlM.d (p : PlM) : PyData := .tuple [.str p.name, .tuple (p.sets.map fun s => .tuple [.str s.1, s.2]), match p.text with
  | none => .none
  | some l => .tuple (l.map .str)]
structure MaM where
  name : Str
  over : Option Str
  own : List PlM
def MaM.d (m : MaM) : PyData := .tuple [.str m.name, match m.over with
  | none => .none
  | some z => .str z, .tuple (m.own.map PlM.d)]
/-- worths are whole numbers or texts -/
def flatW : PyData → Bool
  | .int _ => true
  | .str _ => true
  | _ => false
theorem flat_noL {d : PyData} (h : flatW d = true) : noL d = true := by
  cases d with
  | int i => simp only [noL]
  | str z => simp only [noL]
  | _ => cases h
theorem PlM.noL {p : PlM} (h : ∀ s ∈ p.sets, flatW s.2 = true) : Gd.noL p.d = true := by
  unfold PlM.d
  have h1 : noLAll (p.sets.map fun s => PyData.tuple [.str s.1, s.2]) = true := noL_all fun d hd => by
    obtain ⟨s, hs, rfl⟩ := List.mem_map.mp hd
    simp only [Gd.noL, noLAll, flat_noL (h s hs), Bool.and_self]
  have h2 : ∀ l : List Str, noLAll (l.map PyData.str) = true := fun l => noL_all fun d hd => by
    obtain ⟨z, _, rfl⟩ := List.mem_map.mp hd
    simp only [Gd.noL]
  cases p.text with
  | none => simp only [Gd.noL, noLAll, h1, Bool.and_self]
  | some l => simp only [Gd.noL, noLAll, h1, h2 l, Bool.and_self]
theorem MaM.noL {m : MaM} (h : ∀ p ∈ m.own, ∀ s ∈ p.sets, flatW s.2 = true) : Gd.noL m.d = true := by
  unfold MaM.d
  have h1 : noLAll (m.own.map PlM.d) = true := noL_all fun d hd => by
    obtain ⟨p, hp, rfl⟩ := List.mem_map.mp hd
    exact PlM.noL (h p hp)
  cases m.over with
  | none => simp only [Gd.noL, noLAll, h1, Bool.and_self]
  | some z => simp only [Gd.noL, noLAll, h1, Bool.and_self]
/-! ### traits and worths -/
def TRS : List Str := ["left", "top", "wide", "high", "size", "ink"]
def bnd (z : Str) : Int × Int := if z = "left" then (-999, 999) else if z = "top" then (-999, 999) else if z = "size" then (1, 99) else (1, 999)
/-- a right worth of the trait z -/
def wOk (z : Str) : PyData → Bool
  | .int i => !decide (z = "ink") && (decide ((bnd z).1 ≤ i) && decide (i ≤ (bnd z).2))
  | .str s => decide (z = "ink") && nameB s
  | _ => false
theorem wOk_flat {z : Str} {d : PyData} (h : wOk z d = true) : flatW d = true := by
  cases d with
  | int i => rfl
  | str s => rfl
  | _ => cases h
theorem wOk_int {z : Str} {i : Int} (n : z ≠ "ink") (h1 : (bnd z).1 ≤ i) (h2 : i ≤ (bnd z).2) : wOk z (.int i) = true := by
  show (!decide (z = "ink") && (decide ((bnd z).1 ≤ i) && decide (i ≤ (bnd z).2))) = true
  rw [decide_eq_false n, decide_eq_true h1, decide_eq_true h2] <;> rfl
/-! ### lines -/
def gSign (c : Nat) : Bool := !decide (c < 32) && (!decide (126 < c) && (!decide (c = 37) && !decide (c = 92)))
/-- signs that may stand in a line -/
def okS (z : Str) : Prop := ∀ c ∈ z.cps.toList, gSign c = true
instance (z : Str) : Decidable (okS z) := inferInstanceAs (Decidable (∀ c ∈ z.cps.toList, gSign c = true))
theorem okS_add {a b : Str} (ha : okS a) (hb : okS b) : okS (a ++ b) := fun c hc => by
  have hc : c ∈ (a.cps ++ b.cps).toList := hc
  rw [Array.toList_append] at hc
  exact (List.mem_append.mp hc).elim (ha c) (hb c)
theorem okS_cut {z : Str} {lo hi : Option Int} (h : okS z) : okS (cutS z lo hi) := fun c hc => by
  have hc : c ∈ ((z.cps.toList.drop (HT.sIx z.length 0 lo)).take (HT.sIx z.length z.length hi - HT.sIx z.length 0 lo)).toArray.toList := hc
  rw [List.toList_toArray] at hc
  exact h c (List.mem_of_mem_drop (List.mem_of_mem_take hc))
theorem okS_joinS {sep : Str} (hs : okS sep) : ∀ {ys : List Str}, (∀ y ∈ ys, okS y) → okS (Str.join sep ys)
  | [], _ => fun c hc => nomatch hc
  | [y], h => h y List.mem_cons_self
  | y :: z :: r, h => okS_add (okS_add (h y List.mem_cons_self) hs) (okS_joinS hs fun x hx => h x (List.mem_cons_of_mem _ hx))
theorem okS_join {sep : Str} (hs : okS sep) {ys : List Str} (h : ∀ y ∈ ys, okS y) : okS (Txt.join sep ys) := by
  rw [show Txt.join sep ys = Str.join sep ys from StrLaws.glued_eq_join sep ys]
  exact okS_joinS hs h
theorem sum_le {m : Nat} : ∀ {ys : List Str}, (∀ y ∈ ys, y.length ≤ m) → (ys.map (·.length)).sum ≤ ys.length * m
  | [], _ => Nat.zero_le _
  | y :: r, h => by
    have ih := sum_le (ys := r) fun z hz => h z (List.mem_cons_of_mem _ hz)
    have h1 := h y List.mem_cons_self
    rw [List.map_cons, List.sum_cons, List.length_cons, Nat.succ_mul]
    omega
theorem cut_le {z : Str} {k : Nat} : (cutS z none (some (k : Int))).length ≤ k := by
  show (((z.cps.toList.drop (HT.sIx z.length 0 none)).take (HT.sIx z.length z.length (some (k : Int)) - HT.sIx z.length 0 none)).toArray).size ≤ k
  rw [List.size_toArray, List.length_take, show HT.sIx z.length z.length (some (k : Int)) = min k z.length from HT.sIx_nat z.length z.length k]
  omega
/-! ### tuples stay -/
section
variable {K : PySem.W.Frag} {H H' : Hp}
theorem sqT_by {a : Addr} {xs : List V} (h : SqT K H a xs) (k1 : ∀ o, H a = some (.tup o) → H' a = some (.tup o)) (k2 : ∀ o u, H a = some (.frz o u) → H' a = some (.frz o u)) : SqT K H' a xs := by
  rcases h with (h | ⟨o, h⟩) | h
  · exact .inl (.inl (k1 _ h))
  · exact .inl (.inr ⟨o, k2 _ _ h⟩)
  · exact .inr h
theorem sqT_same {a : Addr} {xs : List V} (s : Same H H') (h : SqT K H a xs) : SqT K H' a xs := sqT_by h (fun _ e => s _ _ e) fun _ _ e => s _ _ e
theorem sqT_kp {p a : Addr} {xs ys : List V} (hp : H p = some (.lst ys)) (s : Kp p H H') (h : SqT K H a xs) : SqT K H' a xs :=
  sqT_by h (fun _ e => s _ _ e (ne_of e hp fun q => nomatch q)) fun o u e => s _ _ e (ne_of e hp fun q => nomatch q)
/-- tuples that stand at H stand at H' -/
def KT (K : PySem.W.Frag) (H H' : Hp) : Prop := ∀ a xs, SqT K H a xs → SqT K H' a xs
theorem KT.refl : KT K H H := fun _ _ h => h
theorem KT.trans {H2 : Hp} (a : KT K H H') (b : KT K H' H2) : KT K H H2 := fun _ _ h => b _ _ (a _ _ h)
theorem KT.same (s : Same H H') : KT K H H' := fun _ _ h => sqT_same s h
theorem KT.kp {p : Addr} {ys : List V} (hp : H p = some (.lst ys)) (s : Kp p H H') : KT K H H' := fun _ _ h => sqT_kp hp s h
theorem KT.pen {p L : Addr} {ns : List Int} {n : Nat} (hP : Pen H p L ns n) (s : Kp p H H') : KT K H H' := by
  obtain ⟨a, r, hp, _⟩ := hP.at_
  exact KT.kp hp s
theorem KT.put {D : Addr} {ys zs : List V} (hD : H D = some (.lst ys)) : KT K H (upd H D (.lst zs)) := KT.kp hD fun b o e n => (upd_ne n).trans e
end
/-! ### right records -/
def goodL (ls : List Str) : Prop := ls.length ≤ 12 ∧ ∀ z ∈ ls, z.length ≤ 60 ∧ okS z
structure OkPl (p : PlM) : Prop where
  right : ∀ s ∈ p.sets, s.1 ∈ TRS ∧ wOk s.1 s.2 = true
  once : (p.sets.map (·.1)).Nodup
  text : ∀ ls, p.text = some ls → goodL ls
theorem OkPl.noL {p : PlM} (h : OkPl p) : Gd.noL p.d = true := PlM.noL fun s hs => wOk_flat (h.right s hs).2
theorem take_more {α : Type} {l : List α} {i : Nat} {x : α} (h : l[i]? = some x) : l.take (i + 1) = l.take i ++ [x] := by
  rw [List.take_add_one, h] <;> rfl
end Gd

set_option Elab.async false
set_option linter.all false
set_option maxRecDepth 100000
set_option maxHeartbeats 2000000
/-! Names as the laws draw them: right ones, each once. -/
namespace Gn
open PySem PySem.Spec PyProof.Rows L2 GxR Gx Gd
def BEG : List Str := ["", "", "a", "z9", "title", "m0m0m0", "b"]
/-- what the last two letters of a name tell -/
def code2 (z : Str) : Nat := match z.cps.toList.reverse with
  | y :: x :: _ => (x - 97) * 26 + (y - 97)
  | _ => 0
theorem toL (b : Str) (x y : Nat) : ((b ++ ⟨#[x]⟩) ++ ⟨#[y]⟩ : Str).cps.toList = b.cps.toList ++ [x] ++ [y] := by
  show ((b.cps ++ #[x]) ++ #[y]).toList = _
  rw [Array.toList_append, Array.toList_append]
theorem code2_of (b : Str) {m : Nat} (h : m < 676) : code2 ((b ++ ⟨#[97 + m / 26]⟩) ++ ⟨#[97 + m % 26]⟩) = m := by
  unfold code2
  rw [toL, List.reverse_append, List.reverse_append]
  show (97 + m / 26 - 97) * 26 + (97 + m % 26 - 97) = m
  omega
theorem let_at (k : Fin 26) : LETS.cps.toList[k.val]? = some (97 + k.val) := by
  revert k
  decide +kernel
theorem let_is (k : Fin 26) : isLet (97 + k.val) = true := by
  revert k
  decide +kernel
theorem nameB_by {z : Str} {c : Nat} {r : List Nat} (e : z.cps.toList = c :: r) (l : (c :: r).length ≤ 8) (h1 : isLet c = true) (h2 : (c :: r).all (fun c => isLet c || isFig c) = true) : nameB z = true := by
  have hl := cps_len z
  rw [e] at hl
  unfold nameB
  rw [e, decide_eq_true (show 1 ≤ (z.length : Int) by rw [← hl, List.length_cons]; omega), decide_eq_true (show (z.length : Int) ≤ 8 by omega), h2]
  show (true && (true && (isLet c && true))) = true
  rw [h1] <;> rfl
theorem name_of {b : Str} (hb : b ∈ BEG) {x y : Nat} (hx : isLet x = true) (hy : isLet y = true) : nameB ((b ++ ⟨#[x]⟩) ++ ⟨#[y]⟩) = true := by
  have e := toL b x y
  have tail : ∀ l : List Nat, l.all (fun c => isLet c || isFig c) = true → (l ++ [x] ++ [y]).all (fun c => isLet c || isFig c) = true := fun l hl => by
    rw [List.all_append, List.all_append, hl, List.all_cons, List.all_cons, hx, hy] <;> rfl
  simp only [BEG, List.mem_cons, List.not_mem_nil, or_false] at hb
  rcases hb with rfl | rfl | rfl | rfl | rfl | rfl | rfl
  · exact nameB_by (c := x) (r := [y]) e (by simp) hx (tail [] rfl)
  · exact nameB_by (c := x) (r := [y]) e (by simp) hx (tail [] rfl)
  · exact nameB_by (c := 97) (r := [x, y]) e (by simp) (by decide +kernel) (tail [97] (by decide +kernel))
  · exact nameB_by (c := 122) (r := [57, x, y]) e (by simp) (by decide +kernel) (tail [122, 57] (by decide +kernel))
  · exact nameB_by (c := 116) (r := [105, 116, 108, 101, x, y]) e (by simp) (by decide +kernel) (tail [116, 105, 116, 108, 101] (by decide +kernel))
  · exact nameB_by (c := 109) (r := [48, 109, 48, 109, 48, x, y]) e (by simp) (by decide +kernel) (tail [109, 48, 109, 48, 109, 48] (by decide +kernel))
  · exact nameB_by (c := 98) (r := [x, y]) e (by simp) (by decide +kernel) (tail [98] (by decide +kernel))
theorem one_of {x : Nat} (hx : isLet x = true) : nameB ⟨#[x]⟩ = true := nameB_by (c := x) (r := []) rfl (by simp) hx (by rw [List.all_cons, hx] <;> rfl)
/-- the steps from name to name -/
def STP : List Nat := [1, 3, 5, 7, 9, 11, 15, 17]
theorem step_ok : ∀ a ∈ STP, ∀ b : Fin 13, ∀ d : Fin 40, d.val = 0 ∨ (d.val * (a + 26 * b.val)) % 676 ≠ 0 := by decide +kernel
def nth (c s j : Nat) : Nat := (c + j * s) % 676
theorem nth_inj {a b c : Nat} (ha : a ∈ STP) (hb : b < 13) {i j : Nat} (hi : i < j) (hj : j < 40) : nth c (a + 26 * b) i ≠ nth c (a + 26 * b) j := by
  intro e
  unfold nth at e
  have h := step_ok a ha ⟨b, hb⟩ ⟨j - i, by omega⟩
  have hd : j * (a + 26 * b) = i * (a + 26 * b) + (j - i) * (a + 26 * b) := by
    rw [← Nat.add_mul]
    congr 1
    omega
  generalize (j - i) * (a + 26 * b) = D at hd h
  generalize i * (a + 26 * b) = A at hd e
  rw [hd] at e
  rcases h with h | h
  · have h : j - i = 0 := h
    omega
  · have h : D % 676 ≠ 0 := h
    omega
theorem nth_nodup {a b c : Nat} (ha : a ∈ STP) (hb : b < 13) : ∀ {n : Nat}, n ≤ 40 → ((List.range n).map (nth c (a + 26 * b))).Nodup
  | 0, _ => List.nodup_nil
  | n + 1, h => by
    rw [List.range_succ, List.map_append]
    refine List.nodup_append.mpr ⟨nth_nodup ha hb (by omega), by simp, ?_⟩
    intro x hx y hy
    obtain ⟨i, hi, rfl⟩ := List.mem_map.mp hx
    rw [List.map_cons, List.map_nil, List.mem_singleton] at hy
    rw [hy]
    exact nth_inj ha hb (List.mem_range.mp hi) (by omega)
theorem nodup_set {α : Type} : ∀ {l : List α} {j : Nat} {x : α}, l.Nodup → x ∉ l → (l.set j x).Nodup
  | [], _, _, _, _ => List.nodup_nil
  | a :: r, 0, x, h, n => List.nodup_cons.mpr ⟨fun m => n (List.mem_cons_of_mem _ m), (List.nodup_cons.mp h).2⟩
  | a :: r, j + 1, x, h, n => by
    obtain ⟨h1, h2⟩ := List.nodup_cons.mp h
    refine List.nodup_cons.mpr ⟨fun m => ?_, nodup_set h2 fun m => n (List.mem_cons_of_mem _ m)⟩
    rcases List.mem_or_eq_of_mem_set m with m | e
    · exact h1 m
    · exact n (by rw [← e]; exact List.mem_cons_self)
theorem nodup_of_map {α β : Type} {f : α → β} : ∀ {l : List α}, (l.map f).Nodup → l.Nodup
  | [], _ => List.nodup_nil
  | a :: r, h => by
    obtain ⟨h1, h2⟩ := List.nodup_cons.mp h
    exact List.nodup_cons.mpr ⟨fun m => h1 (List.mem_map_of_mem m), nodup_of_map h2⟩
theorem ixN_at {n j : Nat} (hj : j < n) : ixN n (j : Int) = some j := by
  unfold ixN
  rw [if_pos (by omega), if_pos (by omega)]
  simp
/-! ### right masters -/
structure OkMa (m : MaM) : Prop where
  name : nameB m.name = true
  own : ∀ p ∈ m.own, OkPl p ∧ nameB p.name = true
  once : (m.own.map (·.name)).Nodup
  few : m.own.length ≤ 8
theorem OkMa.noL {m : MaM} (h : OkMa m) : Gd.noL m.d = true := MaM.noL fun p hp s hs => wOk_flat ((h.own p hp).1.right s hs).2
/-- masters of names all unlike, what is over each stands among them, no ring: each name has a height -/
structure OkMs (ms : List MaM) : Prop where
  all : ∀ m ∈ ms, OkMa m
  once : (ms.map (·.name)).Nodup
  over : ∃ f : Str → Nat, (∀ z, f z ≤ 12) ∧ ∀ m ∈ ms, ∀ z, m.over = some z → (∃ o ∈ ms, o.name = z) ∧ f z < f m.name
  few : ms.length ≤ 12
  some : 0 < ms.length
theorem OkMs.noL {ms : List MaM} (h : OkMs ms) : Gd.noL (.tuple (ms.map MaM.d)) = true := by
  simp only [Gd.noL]
  refine noL_all fun d hd => ?_
  obtain ⟨m, hm, rfl⟩ := List.mem_map.mp hd
  exact (h.all m hm).noL
/-! ### an item put in -/
def ins {α : Type} (l : List α) (i : Nat) (x : α) : List α := l.take i ++ x :: l.drop i
theorem ins_map {α β : Type} {f : α → β} {l : List α} {i : Nat} {x : α} : (ins l i x).map f = ins (l.map f) i (f x) := by
  unfold ins
  rw [List.map_append, List.map_cons, List.map_take, List.map_drop]
theorem ins_mem {α : Type} {l : List α} {i : Nat} {x y : α} : y ∈ ins l i x ↔ y = x ∨ y ∈ l := by
  unfold ins
  rw [List.mem_append, List.mem_cons]
  constructor
  · rintro (h | h | h)
    · exact .inr (List.mem_of_mem_take h)
    · exact .inl h
    · exact .inr (List.mem_of_mem_drop h)
  · rintro (h | h)
    · exact .inr (.inl h)
    · have e := List.take_append_drop i l
      rw [← e] at h
      rcases List.mem_append.mp h with h | h
      · exact .inl h
      · exact .inr (.inr h)
theorem ins_len {α : Type} {l : List α} {i : Nat} {x : α} : (ins l i x).length = l.length + 1 := by
  have e := congrArg List.length (List.take_append_drop i l)
  rw [List.length_append] at e
  unfold ins
  rw [List.length_append, List.length_cons]
  omega
theorem ins_perm {α : Type} {l : List α} {i : Nat} {x : α} : (ins l i x).Perm (x :: l) := by
  unfold ins
  refine (List.perm_middle).trans ?_
  rw [List.take_append_drop]
theorem ins_nodup {α : Type} {l : List α} {i : Nat} {x : α} (h : l.Nodup) (n : x ∉ l) : (ins l i x).Nodup := ins_perm.nodup_iff.mpr (List.nodup_cons.mpr ⟨n, h⟩)
theorem ins_dp {K : PySem.W.Frag} {H : Hp} {xs : List V} {ds : List PyData} {v : V} {d : PyData} (i : Nat) (h : DpAll K H xs ds) (hv : Dp K H v d) : DpAll K H (ins xs i v) (ins ds i d) := by
  unfold ins
  exact dpAll_app (dpAll_take i h) (.cons hv (dpAll_drop i h))
/-! ### where a name stands -/
def pos (z : Str) : List Str → Nat
  | [] => 0
  | y :: r => if y = z then 0 else pos z r + 1
theorem pos_get : ∀ {l : List Str} {j : Nat} {z : Str}, l.Nodup → l[j]? = some z → pos z l = j
  | [], _, _, _, e => by cases e
  | y :: r, 0, z, _, e => by
    cases e
    exact if_pos rfl
  | y :: r, j + 1, z, h, e => by
    obtain ⟨h1, h2⟩ := List.nodup_cons.mp h
    have e : r[j]? = some z := e
    have n : y ≠ z := fun q => h1 (by rw [q]; exact List.mem_of_getElem? e)
    show (if y = z then 0 else pos z r + 1) = j + 1
    rw [if_neg n, pos_get h2 e]
theorem pos_le (z : Str) : ∀ l : List Str, pos z l ≤ l.length
  | [] => Nat.le_refl _
  | y :: r => by
    show (if y = z then 0 else pos z r + 1) ≤ r.length + 1
    have := pos_le z r
    split <;> omega
theorem not_take {α : Type} : ∀ {l : List α} {j : Nat} {z : α}, l.Nodup → l[j]? = some z → z ∉ l.take j
  | [], _, _, _, e => by cases e
  | y :: r, 0, z, _, _ => fun m => nomatch m
  | y :: r, j + 1, z, h, e => fun m => by
    obtain ⟨h1, h2⟩ := List.nodup_cons.mp h
    have e : r[j]? = some z := e
    rcases List.mem_cons.mp (show z ∈ y :: r.take j from m) with q | q
    · exact h1 (by rw [← q]; exact List.mem_of_getElem? e)
    · exact not_take h2 e q
theorem ins_eq {α : Type} {l : List α} {i : Nat} {x : α} : l.take i ++ [x] ++ l.drop i = ins l i x := by
  unfold ins
  rw [List.append_assoc] <;> rfl
end Gn

set_option Elab.async false
set_option linter.all false
set_option maxRecDepth 100000
set_option maxHeartbeats 2000000
/-! Masters: chains, places; tables that grow. -/
namespace Gm
open PySem PySem.Spec PyProof.Rows L2 GxR Gx Gd Gn
/-- two ways that meet again -/
theorem seq_via {a b : TS} {D : Ends} {σ : L2.St} {H : Hp} (Mid : L2.St → Hp → Prop) (h1 : ∀ nx' : L2.St → Hp → Prop, (∀ σ' H', Mid σ' H' → nx' σ' H') → a { D with nx := nx' } σ H) (h2 : ∀ σ' H', Mid σ' H' → b D σ' H') : tSeq a b D σ H := h1 (b D) h2
def setD (s : Str × PyData) : PyData := .tuple [.str s.1, s.2]
def ovD : Option Str → V
  | none => .non
  | some z => .str z
def textD : Option (List Str) → PyData
  | none => .none
  | some l => .tuple (l.map .str)
theorem own_noL {own : List PlM} (h : ∀ q ∈ own, OkPl q ∧ nameB q.name = true) : noLAll (own.map PlM.d) = true := noL_all fun d hd => by
  obtain ⟨m, hm, rfl⟩ := List.mem_map.mp hd
  exact (h m hm).1.noL
theorem mas_noL {ms : List MaM} (h : ∀ q ∈ ms, OkMa q) : noLAll (ms.map MaM.d) = true := noL_all fun d hd => by
  obtain ⟨m, hm, rfl⟩ := List.mem_map.mp hd
  exact (h m hm).noL
/-- each over stands ahead of its master in zs -/
def Ahead (zs : List Str) (i : Nat) (ms : List MaM) : Prop := ∀ m ∈ ms, ∀ z, m.over = some z → ∃ j k, zs[j]? = some z ∧ zs[k]? = some m.name ∧ j < k ∧ k < i
theorem made_ok {zs : List Str} {ms : List MaM} (nd : zs.Nodup) (l : zs.length ≤ 12) (l0 : 0 < zs.length) (ok4 : ∀ m ∈ ms, OkMa m) (pm4 : (ms.map (·.name)).Perm zs) (ah4 : Ahead zs zs.length ms) : OkMs ms := by
  refine ⟨ok4, pm4.nodup_iff.mpr nd, ⟨fun z => pos z zs, fun z => Nat.le_trans (pos_le z zs) l, fun m mm z ez => ?_⟩, ?_, ?_⟩
  · obtain ⟨j, k, ej, ek, jk, _⟩ := ah4 m mm z ez
    refine ⟨?_, ?_⟩
    · have h1 : z ∈ ms.map (·.name) := pm4.mem_iff.mpr (List.mem_of_getElem? ej)
      obtain ⟨o, ho, e⟩ := List.mem_map.mp h1
      exact ⟨o, ho, e⟩
    · show pos z zs < pos m.name zs
      rw [pos_get nd ej, pos_get nd ek]
      exact jk
  · have h1 := pm4.length_eq
    rw [List.length_map] at h1
    omega
  · have h1 := pm4.length_eq
    rw [List.length_map] at h1
    omega
section
variable {K : PySem.W.Frag} {H : Hp}
theorem ma_at {v : V} {m : MaM} (h : Dp K H v m.d) : ∃ a g ps, v = .ref a ∧ SqT K H a [.str m.name, ovD m.over, .ref g] ∧ SqT K H g ps ∧ DpAll K H ps (m.own.map PlM.d) := by
  unfold MaM.d at h
  obtain ⟨a, xs, rfl, st, hx⟩ := dp_tup h
  cases hx with
  | cons h1 t1 =>
    cases t1 with
    | cons h2 t2 =>
      cases t2 with
      | cons h3 t3 =>
        cases t3
        obtain rfl := dp_str h1
        obtain ⟨g, ps, rfl, sg, hp⟩ := dp_tup h3
        refine ⟨a, g, ps, rfl, ?_, sg, hp⟩
        cases e : m.over with
        | none =>
          rw [e] at h2
          obtain rfl := dp_non h2
          exact st
        | some z =>
          rw [e] at h2
          obtain rfl := dp_str h2
          exact st
theorem pl_at {v : V} {p : PlM} (h : Dp K H v p.d) : ∃ a g ss u, v = .ref a ∧ SqT K H a [.str p.name, .ref g, u] ∧ SqT K H g ss ∧ DpAll K H ss (p.sets.map setD) ∧ Dp K H u (textD p.text) := by
  unfold PlM.d at h
  obtain ⟨a, xs, rfl, st, hx⟩ := dp_tup h
  cases hx with
  | cons h1 t1 =>
    cases t1 with
    | cons h2 t2 =>
      cases t2 with
      | cons h3 t3 =>
        cases t3
        obtain rfl := dp_str h1
        obtain ⟨g, ps, rfl, sg, hp⟩ := dp_tup h2
        refine ⟨a, g, ps, _, rfl, st, sg, hp, ?_⟩
        cases e : p.text with
        | none =>
          rw [e] at h3
          exact h3
        | some z =>
          rw [e] at h3
          exact h3
theorem set_at {v : V} {s : Str × PyData} (h : Dp K H v (setD s)) : ∃ a u, v = .ref a ∧ SqT K H a [.str s.1, u] ∧ Dp K H u s.2 := by
  unfold setD at h
  obtain ⟨a, xs, rfl, st, hx⟩ := dp_tup h
  cases hx with
  | cons h1 t1 =>
    cases t1 with
    | cons h2 t2 =>
      cases t2
      obtain rfl := dp_str h1
      exact ⟨a, _, rfl, st, h2⟩
end
/-- what stands at a place of a list of records -/
theorem at_rec {K : PySem.W.Frag} {H : Hp} {α : Type} {f : α → PyData} {xs : List V} {l : List α} {i : Nat} {x : V} (h : DpAll K H xs (l.map f)) (e : xs[i]? = some x) : ∃ r, l[i]? = some r ∧ Dp K H x (f r) := by
  obtain ⟨d, ed, hd⟩ := dpAll_of h e
  rw [List.getElem?_map] at ed
  cases q : l[i]? with
  | none =>
    rw [q] at ed
    cases ed
  | some r =>
    rw [q] at ed
    exact ⟨r, rfl, by cases ed; exact hd⟩
theorem str_at {zs : List Str} {i : Nat} {x : V} (e : (zs.map V.str)[i]? = some x) : ∃ z, zs[i]? = some z ∧ x = .str z := by
  rw [List.getElem?_map] at e
  cases q : zs[i]? with
  | none =>
    rw [q] at e
    cases e
  | some z =>
    rw [q] at e
    exact ⟨z, rfl, (Option.some.inj e).symm⟩
/-! ### the chain of a master -/
def fnd (ms : List MaM) (z : Str) : Option MaM := ms.find? fun m => decide (m.name = z)
theorem fnd_some {ms : List MaM} {z : Str} {m : MaM} (h : fnd ms z = some m) : m ∈ ms ∧ m.name = z := ⟨List.mem_of_find?_eq_some h, of_decide_eq_true (List.find?_some (p := fun m : MaM => decide (m.name = z)) h)⟩
theorem fnd_of {ms : List MaM} {z : Str} (h : ∃ m ∈ ms, m.name = z) : ∃ m, fnd ms z = some m := by
  cases e : fnd ms z with
  | some m => exact ⟨m, rfl⟩
  | none =>
    obtain ⟨m, hm, q⟩ := h
    exact absurd (decide_eq_true q) (List.find?_eq_none.mp e m hm)
theorem fnd_self : ∀ {ms : List MaM} {m : MaM}, (ms.map (·.name)).Nodup → m ∈ ms → fnd ms m.name = some m
  | [], _, _, h => nomatch h
  | a :: r, m, nd, h => by
    have nd' := List.nodup_cons.mp nd
    unfold fnd
    rw [List.find?_cons]
    rcases List.mem_cons.mp h with rfl | h
    · rw [decide_eq_true rfl]
    · have n : a.name ≠ m.name := fun e => nd'.1 (List.mem_map.mpr ⟨m, h, e.symm⟩)
      rw [decide_eq_false n]
      exact fnd_self nd'.2 h
def chnN (ms : List MaM) : Nat → Str → List MaM
  | 0, _ => []
  | n + 1, z => match fnd ms z with
    | none => []
    | some m => m :: (match m.over with
      | none => []
      | some y => chnN ms n y)
def chn (ms : List MaM) (z : Str) : List MaM := chnN ms 20 z
theorem chnN_len (ms : List MaM) : ∀ n z, (chnN ms n z).length ≤ n
  | 0, _ => Nat.le_refl _
  | n + 1, z => by
    unfold chnN
    cases fnd ms z with
    | none => exact Nat.zero_le _
    | some m =>
      cases e : m.over with
      | none => simp [e]
      | some y =>
        simp only [e, List.length_cons]
        exact Nat.succ_le_succ (chnN_len ms n y)
theorem chn_len (ms : List MaM) (z : Str) : (chn ms z).length ≤ 20 := chnN_len ms 20 z
theorem chnN_mem (ms : List MaM) : ∀ n z m, m ∈ chnN ms n z → m ∈ ms
  | 0, _, _, h => nomatch h
  | n + 1, z, m, h => by
    unfold chnN at h
    cases e : fnd ms z with
    | none =>
      rw [e] at h
      cases h
    | some o =>
      simp only [e] at h
      rcases List.mem_cons.mp h with rfl | h
      · exact (fnd_some e).1
      · cases eo : o.over with
        | none =>
          simp only [eo] at h
          cases h
        | some y =>
          simp only [eo] at h
          exact chnN_mem ms n y m h
theorem chn_mem {ms : List MaM} {z : Str} {m : MaM} (h : m ∈ chn ms z) : m ∈ ms := chnN_mem ms 20 z m h
theorem chnN_more {ms : List MaM} {f : Str → Nat} (hf : ∀ m ∈ ms, ∀ z, m.over = some z → (∃ o ∈ ms, o.name = z) ∧ f z < f m.name) : ∀ n k z, f z < n → n ≤ k → chnN ms n z = chnN ms k z
  | 0, _, _, h, _ => absurd h (Nat.not_lt_zero _)
  | n + 1, 0, _, _, h => absurd h (Nat.not_succ_le_zero _)
  | n + 1, k + 1, z, h, l => by
    unfold chnN
    cases e : fnd ms z with
    | none => rfl
    | some o =>
      cases eo : o.over with
      | none => simp only [eo]
      | some y =>
        obtain ⟨mo, no⟩ := fnd_some e
        have h2 := (hf o mo y eo).2
        rw [no] at h2
        simp only [eo]
        rw [chnN_more hf n k y (by omega) (by omega)]
theorem chn_step {ms : List MaM} (ok : OkMs ms) {z : Str} {m : MaM} (h : fnd ms z = some m) : chn ms z = m :: (match m.over with
    | none => []
    | some y => chn ms y) := by
  obtain ⟨f, fl, hf⟩ := ok.over
  show chnN ms (19 + 1) z = _
  unfold chnN
  rw [h]
  cases e : m.over with
  | none => simp only [e]
  | some y =>
    simp only [e]
    rw [show chn ms y = chnN ms 20 y from rfl, chnN_more hf 19 20 y (by have := fl y; omega) (by decide)]
/-- the height of a name, for loops along a chain -/
def chnL (ms : List MaM) (z : Str) : Nat := (chn ms z).length
/-! ### places -/
def addN (acc : List Str) (z : Str) : List Str := if z ∈ acc then acc else acc ++ [z]
def plN (l : List MaM) : List Str := l.flatMap fun m => m.own.map (·.name)
def there (ms : List MaM) (z : Str) : List Str := (plN (chn ms z).reverse).foldl addN []
theorem addN_len {acc : List Str} {z : Str} : (addN acc z).length ≤ acc.length + 1 := by
  unfold addN
  split
  · omega
  · rw [List.length_append]
    exact Nat.le_refl _
theorem fold_len : ∀ {l acc : List Str}, (l.foldl addN acc).length ≤ acc.length + l.length
  | [], acc => Nat.le_refl _
  | z :: r, acc => by
    have h := fold_len (l := r) (acc := addN acc z)
    have h2 := addN_len (acc := acc) (z := z)
    rw [List.foldl_cons, List.length_cons]
    omega
theorem plN_app (l : List MaM) (m : MaM) : plN (l ++ [m]) = plN l ++ m.own.map (·.name) := by
  unfold plN
  rw [List.flatMap_append]
  simp
theorem plN_len : ∀ {l : List MaM}, (∀ m ∈ l, m.own.length ≤ 8) → (plN l).length ≤ 8 * l.length
  | [], _ => Nat.zero_le _
  | m :: r, h => by
    have ih := plN_len (l := r) fun x hx => h x (List.mem_cons_of_mem _ hx)
    have h1 := h m List.mem_cons_self
    show (m.own.map (·.name) ++ plN r).length ≤ _
    rw [List.length_append, List.length_map, List.length_cons]
    omega
theorem inV_strs (z : Str) (l : List Str) : inV (.str z) (l.map V.str) = decide (z ∈ l) := by
  rw [Bool.eq_iff_iff, decide_eq_true_eq]
  show (((l.map V.str).any fun y => eqV y (.str z)) = true) ↔ _
  rw [List.any_eq_true]
  constructor
  · rintro ⟨x, hx, e⟩
    obtain ⟨y, hy, rfl⟩ := List.mem_map.mp hx
    rw [← (beq_iff_eq.mp (show (y == z) = true from e))]
    exact hy
  · intro h
    exact ⟨.str z, List.mem_map_of_mem h, beq_iff_eq.mpr rfl⟩
theorem flat_strs (l : List Str) : (l.map V.str).all flatV = true := by
  rw [List.all_map]
  exact List.all_eq_true.mpr fun _ _ => rfl
/-! ### tables that grow, all else kept -/
def Tk (P' : Addr) (H H' : Hp) : Prop := TabG H' P' ∧ ∀ b o, H b = some o → b ≠ P' → H' b = some o
section
variable {K : PySem.W.Frag} {P' : Addr} {H H' H2 : Hp}
theorem Tk.same (g : TabG H P') (s : Same H H') : Tk P' H H' := ⟨tabSame g s, fun b o e _ => s b o e⟩
theorem Tk.refl (g : TabG H P') : Tk P' H H := Tk.same g (Same.refl H)
theorem Tk.tabbed (h : Tabbed P' H H') : Tk P' H H' := ⟨h.1, tabbedKt h⟩
theorem Tk.trans (a : Tk P' H H') (b : Tk P' H' H2) : Tk P' H H2 := ⟨b.1, fun c o e n => b.2 c o (a.2 c o e n) n⟩
theorem tab_ne {o : HO} {b : Addr} (g : TabG H P') (e : H b = some o) (n : ∀ ps, o ≠ .tbl ps) : b ≠ P' := by
  obtain ⟨ps, q, _⟩ := g
  intro z
  rw [z, q] at e
  exact n ps (Option.some.inj e).symm
theorem Tk.lst {D : Addr} {xs : List V} (g : TabG H P') (k : Tk P' H H') (e : H D = some (.lst xs)) : H' D = some (.lst xs) := k.2 _ _ e (tab_ne g e fun _ q => nomatch q)
theorem KT.tk (g : TabG H P') (k : Tk P' H H') : KT K H H' := fun _ _ h => sqT_by h (fun _ e => k.2 _ _ e (tab_ne g e fun _ q => nomatch q)) fun _ _ e => k.2 _ _ e (tab_ne g e fun _ q => nomatch q)
theorem Tk.ne {b D : Addr} {o : HO} (g : TabG H P') (k : Tk P' H H') (e : H b = some o) (n : H' D = none) : b ≠ D := by
  intro z
  by_cases hb : b = P'
  · obtain ⟨ps, q, _⟩ := k.1
    rw [← z, hb, q] at n
    cases n
  · rw [← z, k.2 b o e hb] at n
    cases n
theorem Tk.free {D : Addr} (g : TabG H P') (k : Tk P' H H') (n : H' D = none) : H D = none := by
  cases e : H D with
  | none => rfl
  | some o => exact absurd rfl (k.ne g e n)
/-- a new list may change -/
theorem Tk.put {D : Addr} {o : HO} (g : TabG H P') (h : H D = none) (k : Tk P' H H') (hD : TabG (upd H' D o) P') : Tk P' H (upd H' D o) := ⟨hD, fun b u e n => by
  rw [upd_ne (ne_of_none e h)]
  exact k.2 b u e n⟩
theorem tab_put {D : Addr} {xs : List V} {o : HO} (g : TabG H P') (e : H D = some (.lst xs)) : TabG (upd H D o) P' := by
  have n := tab_ne g e fun _ q => nomatch q
  obtain ⟨ps, q, t⟩ := g
  exact ⟨ps, (upd_ne n.symm).trans q, t⟩
theorem Pen.tk {p L : Addr} {ns : List Int} {n : Nat} (h : Pen H p L ns n) (g : TabG H P') (k : Tk P' H H') : Pen H' p L ns n := h.kt g k.2
end
/-! ### lists of records read along -/
/-- promises of what is told of masters and a name -/
def spMsL (K : PySem.W.Frag) (R : List MaM → Str → Hp → Addr → Prop) : Sp := fun vs H Q _ => ∃ (v : V) (z : Str) (ms : List MaM), vs = [v, .str z] ∧ Dp K H v (.tuple (ms.map MaM.d)) ∧ OkMs ms ∧ (∃ m ∈ ms, m.name = z) ∧
  ∀ (D : Addr) (H' : Hp), Same H H' → H D = none → R ms z H' D → Q (.ref D) H'
def spMsT (K : PySem.W.Frag) (P' : Addr) (R : List MaM → Str → Hp → Addr → Prop) : Sp := fun vs H Q _ => ∃ (v : V) (z : Str) (ms : List MaM), vs = [v, .str z] ∧ Dp K H v (.tuple (ms.map MaM.d)) ∧ OkMs ms ∧ (∃ m ∈ ms, m.name = z) ∧ TabG H P' ∧
  ∀ (D : Addr) (H' : Hp), Tk P' H H' → H D = none → R ms z H' D → Q (.ref D) H'
def RChn (K : PySem.W.Frag) : List MaM → Str → Hp → Addr → Prop := fun ms z H' D => ∃ xs, H' D = some (.lst xs) ∧ DpAll K H' xs ((chn ms z).map MaM.d)
def RNms : List MaM → Str → Hp → Addr → Prop := fun ms z H' D => H' D = some (.lst (((chn ms z).map (·.name)).map V.str))
def RThere : List MaM → Str → Hp → Addr → Prop := fun ms z H' D => H' D = some (.lst ((there ms z).map V.str))
theorem small_big {n : Nat} (h : n ≤ 100000) : n < sizeLine := by
  rw [sizeLine_eq]
  omega
/-! ### data all the same -/
mutual
def slim : PyData → Bool
  | .tuple ds => decide (ds.length ≤ 100000) && slimAll ds
  | .list ds => decide (ds.length ≤ 100000) && slimAll ds
  | _ => true
def slimAll : List PyData → Bool
  | [] => true
  | d :: r => slim d && slimAll r
end
mutual
def dep : PyData → Nat
  | .tuple ds => depAll ds + 1
  | .list ds => depAll ds + 1
  | _ => 0
def depAll : List PyData → Nat
  | [] => 0
  | d :: r => max (dep d) (depAll r)
end
theorem slim_at : ∀ {ds : List PyData} {d : PyData}, slimAll ds = true → d ∈ ds → slim d = true
  | [], _, _, h => nomatch h
  | a :: r, d, s, h => by
    simp only [slimAll, Bool.and_eq_true] at s
    rcases List.mem_cons.mp h with rfl | h
    · exact s.1
    · exact slim_at s.2 h
theorem slim_all : ∀ {ds : List PyData}, (∀ d ∈ ds, slim d = true) → slimAll ds = true
  | [], _ => by simp only [slimAll]
  | d :: r, h => by simp only [slimAll, h d List.mem_cons_self, slim_all fun x hx => h x (List.mem_cons_of_mem _ hx), Bool.and_self]
theorem dep_at : ∀ {ds : List PyData} {d : PyData}, d ∈ ds → dep d ≤ depAll ds
  | [], _, h => nomatch h
  | a :: r, d, h => by
    simp only [depAll]
    rcases List.mem_cons.mp h with rfl | h
    · omega
    · have := dep_at h
      omega
theorem dep_all : ∀ {ds : List PyData} {n : Nat}, (∀ d ∈ ds, dep d ≤ n) → depAll ds ≤ n
  | [], _, _ => by simp only [depAll]; omega
  | d :: r, n, h => by
    have h1 := h d List.mem_cons_self
    have h2 := dep_all fun x hx => h x (List.mem_cons_of_mem _ hx)
    simp only [depAll]
    omega
def tyN : PyData → String
  | .none => "NoneType"
  | .bool _ => "bool"
  | .int _ => "int"
  | .str _ => "str"
  | .list _ => "list"
  | .tuple _ => "tuple"
  | _ => "dict"
theorem sqL_ty {K : PySem.W.Frag} {H : Hp} {a : Addr} {xs : List V} (e : SqL K H a xs) : TyX K H (.ref a) (.type "list") := by
  rcases e with (e | ⟨o, e⟩) | ⟨o, its, n, e, c, _⟩
  · exact .base (.lst e)
  · exact .base (.frz e)
  · exact .kList e c
theorem sqT_ty {K : PySem.W.Frag} {H : Hp} {a : Addr} {xs : List V} (e : SqT K H a xs) : TyX K H (.ref a) (.type "tuple") := by
  rcases e with (e | ⟨o, e⟩) | ⟨o, its, n, e, c, _⟩
  · exact .base (.tup e)
  · exact .fTuple e
  · exact .kTuple e c
theorem dp_ty {K : PySem.W.Frag} {H : Hp} {v : V} {d : PyData} (h : Dp K H v d) : TyX K H v (.type (tyN d)) := by
  cases h with
  | non => exact .base .non
  | bl b => exact .base (.bl b)
  | int i => exact .base (.int i)
  | str x => exact .base (.str x)
  | lst s _ => exact sqL_ty s
  | tup s _ => exact sqT_ty s
/-- zip of two tuples, as a walk -/
theorem walk_zipT {K : PySem.W.Frag} {a b : Addr} {xs ys : List V} {n : Nat} (hn : n = min xs.length ys.length) : Walk (RZ.ItzT K a b) n (fun H => SqT K H a xs ∧ SqT K H b ys) (YPair (fun i => xs[i]?) (fun i => ys[i]?)) := by
  subst hn
  refine ⟨fun i _ hi q => ?_, fun _ q => ⟨xs, ys, q.1, q.2, by omega⟩, fun i H v H' _ q y => ?_⟩
  · have h1 : i < xs.length := by omega
    have h2 : i < ys.length := by omega
    exact ⟨xs, ys, xs[i], ys[i], q.1, q.2, by simp [h1], by simp [h2]⟩
  · obtain ⟨T, x, z, h1, h2, h3, h4, h5⟩ := y
    exact ⟨T, x, z, h1, h2, h3, h4 xs q.1, h5 ys q.2⟩
/-! ### data stays -/
theorem dp_lst {K : PySem.W.Frag} {H : Hp} {v : V} {ds : List PyData} (h : Dp K H v (.list ds)) : ∃ a xs, v = .ref a ∧ SqL K H a xs ∧ DpAll K H xs ds := by
  cases h with
  | lst s h => exact ⟨_, _, rfl, s, h⟩
theorem dp_bl {K : PySem.W.Frag} {H : Hp} {v : V} {b : Bool} (h : Dp K H v (.bool b)) : v = .bl b := by
  cases h
  rfl
mutual
theorem dp_same {K : PySem.W.Frag} {H H' : Hp} (s : Same H H') : ∀ {v : V} {d : PyData}, Dp K H v d → Dp K H' v d
  | _, _, .non => .non
  | _, _, .bl b => .bl b
  | _, _, .int i => .int i
  | _, _, .str x => .str x
  | _, _, .lst q h => .lst (s.seq q) (dpAll_same s h)
  | _, _, .tup q h => .tup (sqT_same s q) (dpAll_same s h)
theorem dpAll_same {K : PySem.W.Frag} {H H' : Hp} (s : Same H H') : ∀ {vs : List V} {ds : List PyData}, DpAll K H vs ds → DpAll K H' vs ds
  | _, _, .nil => .nil
  | _, _, .cons h t => .cons (dp_same s h) (dpAll_same s t)
end
def isSeq : PyData → Bool
  | .tuple _ => true
  | .list _ => true
  | _ => false
theorem any2 {K : PySem.W.Frag} {v : V} {H : Hp} {d : PyData} (h : Dp K H v d) : PySem.W.kitAny K (.type (tyN d)) [.type "tuple", .type "list"] = some (isSeq d) := by
  cases h with
  | non => exact kitAny_cons (kit_ty (a := "NoneType") (r := false) (by decide +kernel)) (fun _ => kitAny_cons (kit_ty (a := "NoneType") (r := false) (by decide +kernel)) (fun _ => kitAny_nil) (fun z => nomatch z)) (fun z => nomatch z)
  | bl b => exact kitAny_cons (kit_ty (a := "bool") (r := false) (by decide +kernel)) (fun _ => kitAny_cons (kit_ty (a := "bool") (r := false) (by decide +kernel)) (fun _ => kitAny_nil) (fun z => nomatch z)) (fun z => nomatch z)
  | int i => exact kitAny_cons (kit_ty (a := "int") (r := false) (by decide +kernel)) (fun _ => kitAny_cons (kit_ty (a := "int") (r := false) (by decide +kernel)) (fun _ => kitAny_nil) (fun z => nomatch z)) (fun z => nomatch z)
  | str x => exact kitAny_cons (kit_ty (a := "str") (r := false) (by decide +kernel)) (fun _ => kitAny_cons (kit_ty (a := "str") (r := false) (by decide +kernel)) (fun _ => kitAny_nil) (fun z => nomatch z)) (fun z => nomatch z)
  | lst _ _ => exact kitAny_cons (kit_ty (a := "list") (r := false) (by decide +kernel)) (fun _ => kitAny_cons (kit_ty (a := "list") (r := true) (by decide +kernel)) (fun z => nomatch z) (fun _ => rfl)) (fun z => nomatch z)
  | tup _ _ => exact kitAny_cons (kit_ty (a := "tuple") (r := true) (by decide +kernel)) (fun z => nomatch z) (fun _ => rfl)
theorem one_ty {K : PySem.W.Frag} {v : V} {H : Hp} {d : PyData} (h : Dp K H v d) {c : String} {r : Bool} (e : L2.kitB (tyN d) c = some r) : ∃ t, TyX K H v t ∧ PySem.W.kitOne K t (.type c) = some r := ⟨_, dp_ty h, kit_ty e⟩
theorem pair2 : Paired ClsV [V.ty "tuple", V.ty "list"] [Value.type "tuple", Value.type "list"] := .cons (.ty _) (.cons (.ty _) .nil)
theorem ones_all {n : Nat} : (List.replicate n true).all id = true := List.all_eq_true.mpr fun b hb => by rw [(List.mem_replicate.mp hb).2] <;> rfl
theorem noLAll_app : ∀ {ds es : List PyData}, noLAll (ds ++ es) = (noLAll ds && noLAll es)
  | [], es => by simp only [List.nil_append, noLAll, Bool.true_and]
  | d :: r, es => by simp only [List.cons_append, noLAll, noLAll_app, Bool.and_assoc]
theorem dpAll_rev {K : PySem.W.Frag} {H : Hp} : ∀ {xs : List V} {ds : List PyData}, DpAll K H xs ds → DpAll K H xs.reverse ds.reverse
  | _, _, .nil => .nil
  | _, _, .cons h t => by
    rw [List.reverse_cons, List.reverse_cons]
    exact dpAll_app (dpAll_rev t) (.cons h .nil)
end Gm

set_option Elab.async false
set_option linter.all false
set_option maxRecDepth 100000
set_option maxHeartbeats 2000000
/-! Kinds of things, errors by their classes, what masters say of a place. -/
namespace Gk
open PySem PySem.Spec PyProof.Rows L2 GxR Gx Gd Gn Gm Gc
/-! ### traits -/
def TR : List V := TRS.map V.str
def traitV : V → Bool
  | .str z => inV (.str z) TR
  | _ => false
theorem traitV_no {v : V} (h : isStr v = false) : traitV v = false := by
  cases v <;> first | rfl | cases h
theorem trait_mem {v : V} (h : traitV v = true) : ∃ z, v = .str z ∧ z ∈ TRS := by
  cases v with
  | str z =>
    refine ⟨z, rfl, ?_⟩
    rw [show traitV (.str z) = inV (.str z) (TRS.map V.str) from rfl, inV_strs] at h
    exact of_decide_eq_true h
  | _ => cases h
theorem trait_true {z : Str} (h : z ∈ TRS) : traitV (.str z) = true := by
  rw [show traitV (.str z) = inV (.str z) (TRS.map V.str) from rfl, inV_strs]
  exact decide_eq_true h
/-! ### whole numbers -/
def wholeV : V → Bool
  | .int _ => true
  | _ => false
def isInt : V → Bool
  | .int _ => true
  | .bl _ => true
  | _ => false
theorem Th.int_ {K : PySem.W.Frag} {H : Hp} {v : V} (h : Th H v) : ∃ t, TyX K H v t ∧ PySem.W.kitOne K t (.type "int") = some (isInt v) := by
  cases h with
  | non => exact ⟨_, .base .non, kit_ty (r := false) (by decide +kernel)⟩
  | bl b => exact ⟨_, .base (.bl b), kit_ty (r := true) (by decide +kernel)⟩
  | int i => exact ⟨_, .base (.int i), kit_ty (r := true) (by decide +kernel)⟩
  | str z => exact ⟨_, .base (.str z), kit_ty (r := false) (by decide +kernel)⟩
  | lst e => exact ⟨_, .base (.lst e), kit_ty (r := false) (by decide +kernel)⟩
  | tup e => exact ⟨_, .base (.tup e), kit_ty (r := false) (by decide +kernel)⟩
  | dK e => exact ⟨_, .base (.dK e), kit_ty (r := false) (by decide +kernel)⟩
theorem Th.bool_ {K : PySem.W.Frag} {H : Hp} {v : V} (h : Th H v) : ∃ t, TyX K H v t ∧ PySem.W.kitOne K t (.type "bool") = some (isBl v) := by
  cases h with
  | non => exact ⟨_, .base .non, kit_ty (r := false) (by decide +kernel)⟩
  | bl b => exact ⟨_, .base (.bl b), kit_ty (r := true) (by decide +kernel)⟩
  | int i => exact ⟨_, .base (.int i), kit_ty (r := false) (by decide +kernel)⟩
  | str z => exact ⟨_, .base (.str z), kit_ty (r := false) (by decide +kernel)⟩
  | lst e => exact ⟨_, .base (.lst e), kit_ty (r := false) (by decide +kernel)⟩
  | tup e => exact ⟨_, .base (.tup e), kit_ty (r := false) (by decide +kernel)⟩
  | dK e => exact ⟨_, .base (.dK e), kit_ty (r := false) (by decide +kernel)⟩
theorem Ok1.tk {P' : Addr} {H H' : Hp} {v : V} (h : Ok1 H v) (g : TabG H P') (k : Tk P' H H') : Ok1 H' v := ⟨h.1.kt g k.2, h.2⟩
theorem Ok1.same {H H' : Hp} {v : V} (h : Ok1 H v) (s : Same H H') : Ok1 H' v := ⟨h.1.same s, h.2⟩
theorem name_small {z : Str} (h : nameB z = true) : z.length ≤ 8 := by
  unfold nameB at h
  simp only [Bool.and_eq_true, decide_eq_true_eq] at h
  omega
/-! ### errors' classes -/
structure Er (K : PySem.W.Frag) (mg : Str → Option Value) (nm : Str) : Prop extends ExF K (He.ga K nm) where
  g : mg nm = some (.ref (He.ga K nm))
/-! ### what the chain says of a place -/
def fndV (ms : List MaM) : V → Option MaM
  | .str z => fnd ms z
  | _ => none
theorem fndV_some {ms : List MaM} {v : V} {m : MaM} (h : fndV ms v = some m) : v = .str m.name ∧ fnd ms m.name = some m := by
  cases v with
  | str z =>
    have e := (fnd_some (show fnd ms z = some m from h)).2
    rw [e]
    exact ⟨rfl, h⟩
  | _ => cases h
def said (l : List MaM) (y : Str) : List (Str × PlM) := l.flatMap fun m => (m.own.filter fun p => decide (p.name = y)).map fun p => (m.name, p)
def saidV (l : List MaM) : V → List (Str × PlM)
  | .str y => said l y
  | _ => []
def sd (s : Str × PlM) : PyData := .tuple [.str s.1, .tuple (s.2.sets.map setD), textD s.2.text]
theorem said_app (a b : List MaM) (y : Str) : said (a ++ b) y = said a y ++ said b y := List.flatMap_append
theorem said_one (m : MaM) (y : Str) : said [m] y = (m.own.filter fun p => decide (p.name = y)).map fun p => (m.name, p) := by
  unfold said
  rw [List.flatMap_cons, List.flatMap_nil, List.append_nil]
theorem said_len {y : Str} : ∀ {l : List MaM}, (∀ m ∈ l, m.own.length ≤ 8) → (said l y).length ≤ 8 * l.length
  | [], _ => Nat.zero_le _
  | m :: r, h => by
    have ih := said_len (y := y) (l := r) fun x hx => h x (List.mem_cons_of_mem _ hx)
    have h1 := h m List.mem_cons_self
    have h2 := List.length_filter_le (fun p : PlM => decide (p.name = y)) m.own
    show (((m.own.filter fun p => decide (p.name = y)).map fun p => (m.name, p)) ++ said r y).length ≤ _
    rw [List.length_append, List.length_map, List.length_cons]
    omega
theorem said_pl {l : List MaM} {y : Str} {s : Str × PlM} (h : s ∈ said l y) : ∃ m ∈ l, s.1 = m.name ∧ s.2 ∈ m.own ∧ s.2.name = y := by
  obtain ⟨m, hm, h⟩ := List.mem_flatMap.mp h
  obtain ⟨p, hp, rfl⟩ := List.mem_map.mp h
  obtain ⟨h1, h2⟩ := List.mem_filter.mp hp
  exact ⟨m, hm, rfl, h1, of_decide_eq_true h2⟩
def wfind : List (Str × PlM) → Str → Option (PyData × Str)
  | [], _ => none
  | s :: r, t => match s.2.sets.find? fun x => decide (x.1 = t) with
    | some x => some (x.2, s.1)
    | none => wfind r t
def tfind : List (Str × PlM) → Option (List Str × Str)
  | [] => none
  | s :: r => match s.2.text with
    | some x => some (x, s.1)
    | none => tfind r
def ownW (t : Str) : PyData := if t = "left" then .int 0 else if t = "top" then .int 0 else if t = "wide" then .int 40 else if t = "high" then .int 10 else if t = "size" then .int 1 else .str "plain"
def resW (l : List (Str × PlM)) (t : Str) : PyData := match wfind l t with
  | some x => .tuple [x.1, .tuple [.str "master", .str x.2]]
  | none => .tuple [ownW t, .tuple [.str "own"]]
def resT (l : List (Str × PlM)) : PyData := match tfind l with
  | some x => .tuple [.tuple (x.1.map .str), .str x.2]
  | none => .tuple [.none, .none]
theorem wfind_app {t : Str} : ∀ {a b : List (Str × PlM)}, wfind a t = none → wfind (a ++ b) t = wfind b t
  | [], _, _ => rfl
  | s :: r, b, h => by
    unfold wfind at h
    rw [List.cons_append]
    show wfind (s :: (r ++ b)) t = _
    rw [wfind]
    cases e : s.2.sets.find? fun x => decide (x.1 = t) with
    | some x =>
      rw [e] at h
      cases h
    | none =>
      rw [e] at h
      exact wfind_app h
theorem wfind_one {s : Str × PlM} {r : List (Str × PlM)} {t : Str} {x : Str × PyData} (h : (s.2.sets.find? fun x => decide (x.1 = t)) = some x) : wfind (s :: r) t = some (x.2, s.1) := by
  rw [wfind, h]
theorem wfind_no {s : Str × PlM} {r : List (Str × PlM)} {t : Str} (h : (s.2.sets.find? fun x => decide (x.1 = t)) = none) : wfind (s :: r) t = wfind r t := by
  rw [wfind, h]
theorem tfind_app : ∀ {a b : List (Str × PlM)}, tfind a = none → tfind (a ++ b) = tfind b
  | [], _, _ => rfl
  | s :: r, b, h => by
    unfold tfind at h
    rw [List.cons_append]
    show tfind (s :: (r ++ b)) = _
    rw [tfind]
    cases e : s.2.text with
    | some x =>
      rw [e] at h
      cases h
    | none =>
      rw [e] at h
      exact tfind_app h
theorem tfind_one {s : Str × PlM} {r : List (Str × PlM)} {x : List Str} (h : s.2.text = some x) : tfind (s :: r) = some (x, s.1) := by
  rw [tfind, h]
theorem tfind_no {s : Str × PlM} {r : List (Str × PlM)} (h : s.2.text = none) : tfind (s :: r) = tfind r := by
  rw [tfind, h]
theorem find_at {α : Type} {p : α → Bool} {l : List α} {j : Nat} {x : α} (e : l[j]? = some x) (h : p x = true) (n : (l.take j).find? p = none) : l.find? p = some x := by
  have hl := (List.getElem?_eq_some_iff.mp e).1
  have ed : l = l.take j ++ x :: l.drop (j + 1) := by
    have h1 := List.take_append_drop j l
    rw [List.drop_eq_getElem_cons hl, (List.getElem?_eq_some_iff.mp e).2] at h1
    exact h1.symm
  rw [ed, List.find?_append, n, List.find?_cons, h] <;> rfl
theorem find_more {α : Type} {p : α → Bool} {l : List α} {j : Nat} {x : α} (e : l[j]? = some x) (h : p x = false) (n : (l.take j).find? p = none) : (l.take (j + 1)).find? p = none := by
  rw [take_more e, List.find?_append, n, List.find?_cons, h] <;> rfl
theorem split_at {α : Type} {l : List α} {j : Nat} {x : α} (e : l[j]? = some x) : l = l.take j ++ x :: l.drop (j + 1) := by
  have hl := (List.getElem?_eq_some_iff.mp e).1
  have h1 := List.take_append_drop j l
  rw [List.drop_eq_getElem_cons hl, (List.getElem?_eq_some_iff.mp e).2] at h1
  exact h1.symm
/-- each place told is one of some master of the chain -/
theorem fold_mem {y : Str} : ∀ {l acc : List Str}, y ∈ l.foldl addN acc → y ∈ acc ∨ y ∈ l
  | [], acc, h => .inl h
  | z :: r, acc, h => by
    rcases fold_mem (l := r) (acc := addN acc z) h with h | h
    · unfold addN at h
      split at h
      · exact .inl h
      · rcases List.mem_append.mp h with h | h
        · exact .inl h
        · exact .inr (by rw [List.mem_singleton.mp h]; exact List.mem_cons_self)
    · exact .inr (List.mem_cons_of_mem _ h)
theorem there_said {ms : List MaM} {z y : Str} (h : y ∈ there ms z) : said (chn ms z) y ≠ [] ∧ ∃ m ∈ chn ms z, ∃ p ∈ m.own, p.name = y := by
  rcases fold_mem h with h | h
  · cases h
  · obtain ⟨m, hm, h⟩ := List.mem_flatMap.mp h
    obtain ⟨p, hp, rfl⟩ := List.mem_map.mp h
    have hm := List.mem_reverse.mp hm
    refine ⟨fun e => ?_, m, hm, p, hp, rfl⟩
    have : (m.name, p) ∈ said (chn ms z) p.name := List.mem_flatMap.mpr ⟨m, hm, List.mem_map.mpr ⟨p, List.mem_filter.mpr ⟨hp, decide_eq_true rfl⟩, rfl⟩⟩
    rw [e] at this
    cases this
theorem sd_at {K : PySem.W.Frag} {H : Hp} {v : V} {s : Str × PlM} (h : Dp K H v (sd s)) : ∃ a g ss u, v = .ref a ∧ SqT K H a [.str s.1, .ref g, u] ∧ SqT K H g ss ∧ DpAll K H ss (s.2.sets.map setD) ∧ Dp K H u (textD s.2.text) := by
  unfold sd at h
  obtain ⟨a, xs, rfl, st, hx⟩ := dp_tup h
  cases hx with
  | cons h1 t1 =>
    cases t1 with
    | cons h2 t2 =>
      cases t2 with
      | cons h3 t3 =>
        cases t3
        obtain rfl := dp_str h1
        obtain ⟨g, ps, rfl, sg, hp⟩ := dp_tup h2
        exact ⟨a, g, ps, _, rfl, st, sg, hp, h3⟩
theorem noL_setD {p : PlM} (h : OkPl p) : noLAll (p.sets.map setD) = true := noL_all fun d hd => by
  obtain ⟨s, hs, rfl⟩ := List.mem_map.mp hd
  unfold setD
  simp only [Gd.noL, noLAll, flat_noL (wOk_flat (h.right s hs).2), Bool.and_self]
theorem noL_text (o : Option (List Str)) : Gd.noL (textD o) = true := by
  cases o with
  | none => simp only [textD, Gd.noL]
  | some l =>
    simp only [textD, Gd.noL]
    exact noL_all fun d hd => by
      obtain ⟨z, _, rfl⟩ := List.mem_map.mp hd
      simp only [Gd.noL]
theorem noL_sd {s : Str × PlM} (h : OkPl s.2) : Gd.noL (sd s) = true := by
  unfold sd
  simp only [Gd.noL, noLAll, noL_setD h, noL_text, Bool.and_self]
theorem wfind_mem {t : Str} {x : PyData × Str} : ∀ {l : List (Str × PlM)}, wfind l t = some x → ∃ s ∈ l, ∃ e ∈ s.2.sets, x.1 = e.2
  | [], h => nomatch h
  | s :: r, h => by
    rw [wfind] at h
    cases e : s.2.sets.find? fun x => decide (x.1 = t) with
    | some y =>
      rw [e] at h
      cases h
      exact ⟨s, List.mem_cons_self, y, List.mem_of_find?_eq_some e, rfl⟩
    | none =>
      rw [e] at h
      obtain ⟨s', hs, q⟩ := wfind_mem h
      exact ⟨s', List.mem_cons_of_mem _ hs, q⟩
theorem tfind_mem {x : List Str × Str} : ∀ {l : List (Str × PlM)}, tfind l = some x → ∃ s ∈ l, s.2.text = some x.1
  | [], h => nomatch h
  | s :: r, h => by
    rw [tfind] at h
    cases e : s.2.text with
    | some y =>
      rw [e] at h
      cases h
      exact ⟨s, List.mem_cons_self, e⟩
    | none =>
      rw [e] at h
      obtain ⟨s', hs, q⟩ := tfind_mem h
      exact ⟨s', List.mem_cons_of_mem _ hs, q⟩
theorem flat_plain {d : PyData} (h : flatW d = true) : dep d = 0 ∧ slim d = true ∧ Gd.noL d = true := by
  cases d with
  | int i => exact ⟨by simp only [dep], by simp only [slim], by simp only [Gd.noL]⟩
  | str z => exact ⟨by simp only [dep], by simp only [slim], by simp only [Gd.noL]⟩
  | _ => cases h
theorem own_flat (t : Str) : flatW (ownW t) = true := by
  unfold ownW
  repeat (split; · rfl)
  rfl
theorem resW_ok {l : List (Str × PlM)} {t : Str} (h : ∀ s ∈ l, OkPl s.2) : dep (resW l t) = 2 ∧ slim (resW l t) = true ∧ Gd.noL (resW l t) = true := by
  unfold resW
  cases e : wfind l t with
  | none =>
    obtain ⟨h1, h2, h3⟩ := flat_plain (own_flat t)
    simp [dep, depAll, slim, slimAll, Gd.noL, noLAll, h1, h2, h3]
  | some x =>
    obtain ⟨s, hs, e', he, ex⟩ := wfind_mem e
    obtain ⟨h1, h2, h3⟩ := flat_plain (wOk_flat ((h s hs).right e' he).2)
    simp [dep, depAll, slim, slimAll, Gd.noL, noLAll, ex, h1, h2, h3]
theorem strs_plain {l : List Str} (h : l.length ≤ 1000) : depAll (l.map PyData.str) = 0 ∧ slimAll (l.map PyData.str) = true ∧ noLAll (l.map PyData.str) = true := by
  refine ⟨Nat.le_zero.mp (dep_all fun d hd => ?_), slim_all fun d hd => ?_, noL_all fun d hd => ?_⟩ <;> (obtain ⟨z, _, rfl⟩ := List.mem_map.mp hd)
  · simp only [dep, Nat.le_refl]
  · simp only [slim]
  · simp only [Gd.noL]
theorem resT_ok {l : List (Str × PlM)} (h : ∀ s ∈ l, OkPl s.2) : dep (Gk.resT l) ≤ 2 ∧ slim (Gk.resT l) = true ∧ Gd.noL (Gk.resT l) = true := by
  unfold Gk.resT
  cases e : tfind l with
  | none =>
    simp only [dep, depAll, slim, slimAll, Gd.noL, noLAll]
    decide
  | some x =>
    obtain ⟨s, hs, ex⟩ := tfind_mem e
    have hl := ((h s hs).text _ ex).1
    obtain ⟨h1, h2, h3⟩ := strs_plain (l := x.1) (by omega)
    simp [dep, depAll, slim, slimAll, Gd.noL, noLAll, h1, h2, h3, List.length_map, show x.1.length ≤ 100000 by omega]
theorem said_ok {l : List MaM} {y : Str} (h : ∀ m ∈ l, OkMa m) : ∀ s ∈ said l y, OkPl s.2 := fun s hs => by
  obtain ⟨m, hm, _, h2, _⟩ := said_pl hs
  exact ((h m hm).own _ h2).1
/-! ### slots wiped -/
theorem wipe_set_out {σ : L2.St} {i : Nat} {x : Option V} : ∀ {vs : List Nat}, i ∉ vs → wipe (σ.set i x) vs = (wipe σ vs).set i x
  | [], _ => rfl
  | v :: r, h => by
    have h1 : v ≠ i := fun e => h (by rw [e]; exact List.mem_cons_self)
    have ih := wipe_set_out (σ := σ) (x := x) (vs := r) fun m => h (List.mem_cons_of_mem _ m)
    show (wipe (σ.set i x) r).set v none = ((wipe σ r).set v none).set i x
    rw [ih, List.set_comm _ _ h1]
theorem wipe_set {σ : L2.St} {i : Nat} {x : Option V} : ∀ {vs : List Nat}, i ∈ vs → wipe (σ.set i x) vs = wipe σ vs
  | [], h => nomatch h
  | v :: r, h => by
    show (wipe (σ.set i x) r).set v none = (wipe σ r).set v none
    by_cases m : i ∈ r
    · rw [wipe_set m]
    · have e : i = v := (List.mem_cons.mp h).resolve_right m
      rw [wipe_set_out m, e, List.set_set]
theorem wipe_wipe (σ : L2.St) : ∀ vs : List Nat, wipe (wipe σ vs) vs = wipe σ vs
  | [] => rfl
  | v :: r => by
    show wipe ((wipe σ r).set v none) (v :: r) = _
    rw [wipe_set List.mem_cons_self]
    show (wipe (wipe σ r) r).set v none = (wipe σ r).set v none
    rw [wipe_wipe σ r]
theorem wset1 {σ : L2.St} {vs : List Nat} {i : Nat} {a : Option V} (hi : i ∈ vs) : wipe ((wipe σ vs).set i a) vs = wipe σ vs := by rw [wipe_set hi, wipe_wipe]
theorem wset2 {σ : L2.St} {vs : List Nat} {i j : Nat} {a b : Option V} (hi : i ∈ vs) (hj : j ∈ vs) : wipe (((wipe σ vs).set i a).set j b) vs = wipe σ vs := by rw [wipe_set hj, wset1 hi]
theorem wset3 {σ : L2.St} {vs : List Nat} {i j k : Nat} {a b c : Option V} (hi : i ∈ vs) (hj : j ∈ vs) (hk : k ∈ vs) : wipe ((((wipe σ vs).set i a).set j b).set k c) vs = wipe σ vs := by rw [wipe_set hk, wset2 hi hj]
/-! ### comprehensions of two fors -/
section
variable {J J1 : It} {n : Nat} {G : Hp → Prop} {Y : Nat → Hp → V → Hp → Prop}
theorem lc2_it (w : Walk J n G Y) {g g1 : TG} {tt tt1 : TT} {wi1 : TI} {te : TE} {vs vs1 : List Nat} {σ : L2.St} {H1 : Hp} {D : Addr} {Qd : Hp → Prop} (Pv : Nat → Hp → Prop) (h0 : Pv 0 (upd H1 D (.lst []))) (hG : ∀ i H, i ≤ n → Pv i H → G H)
    (hs : ∀ i x H H', i < n → Pv i H → Y i H x H' → g x (wipe σ vs) H' fun σ2 H2 => wipe σ2 vs = wipe σ vs ∧ tt σ2 H2 fun b H3 => if b = true then wi1 σ2 H3 fun J1 H4 => ∃ W1 : Nat → Nat → Hp → Prop, (∃ m, W1 0 m H4) ∧ ∀ j k H, W1 j k H →
      (J1.stop j H ∧ Pv (i + 1) H) ∨ (J1.go j H ∧ ∃ Nx1 : Hp → Prop, (∀ H', Nx1 H' → ∃ k', k' < k ∧ W1 (j + 1) k' H') ∧ ∀ x H', J1.yld j H x H' → g1 x (wipe σ2 vs1) H' fun σ3 H5 => wipe σ3 vs1 = wipe σ2 vs1 ∧ tt1 σ3 H5 fun b H6 =>
        if b = true then te σ3 H6 fun y H7 => ∃ acc, H7 D = some (.lst acc) ∧ acc.length < sizeLine ∧ Nx1 (upd H7 D (.lst (acc ++ [y]))) else Nx1 H6)
    else Pv (i + 1) H3) (hd : ∀ H, Pv n H → Qd H) :
    ∃ W : Nat → Nat → Hp → Prop, (∃ m, W 0 m (upd H1 D (.lst []))) ∧ ∀ i m H, W i m H →
  (J.stop i H ∧ Qd H) ∨ (J.go i H ∧ ∃ Nx : Hp → Prop, (∀ H', Nx H' → ∃ m', m' < m ∧ W (i + 1) m' H') ∧ ∀ x H', J.yld i H x H' → g x (wipe σ vs) H' fun σ2 H2 => wipe σ2 vs = wipe σ vs ∧ tt σ2 H2 fun b H3 =>
    if b = true then wi1 σ2 H3 fun J1 H4 => ∃ W1 : Nat → Nat → Hp → Prop, (∃ m, W1 0 m H4) ∧ ∀ j k H, W1 j k H →
      (J1.stop j H ∧ Nx H) ∨ (J1.go j H ∧ ∃ Nx1 : Hp → Prop, (∀ H', Nx1 H' → ∃ k', k' < k ∧ W1 (j + 1) k' H') ∧ ∀ x H', J1.yld j H x H' → g1 x (wipe σ2 vs1) H' fun σ3 H5 => wipe σ3 vs1 = wipe σ2 vs1 ∧ tt1 σ3 H5 fun b H6 =>
        if b = true then te σ3 H6 fun y H7 => ∃ acc, H7 D = some (.lst acc) ∧ acc.length < sizeLine ∧ Nx1 (upd H7 D (.lst (acc ++ [y]))) else Nx1 H6)
    else Nx H3) := by
  refine ⟨fun i m H => m = n - i ∧ i ≤ n ∧ Pv i H, ⟨n, by simp, Nat.zero_le _, h0⟩, ?_⟩
  rintro i m H ⟨rfl, hi, p⟩
  have q := hG i H hi p
  by_cases hlt : i < n
  · refine .inr ⟨w.goes i H hlt q, Pv (i + 1), fun H' p' => ⟨n - (i + 1), by omega, rfl, hlt, p'⟩, fun x H' y => hs i x H H' hlt p (w.yields i H x H' hlt q y)⟩
  · have e : i = n := by omega
    subst e
    exact .inl ⟨w.stops H q, hd H p⟩
/-- the inner one -/
theorem lcin_it (w : Walk J1 n G Y) {g1 : TG} {tt1 : TT} {te : TE} {vs1 : List Nat} {σ2 : L2.St} {H4 : Hp} {D : Addr} {Qd : Hp → Prop} (Pv : Nat → Hp → Prop) (h0 : Pv 0 H4) (hG : ∀ i H, i ≤ n → Pv i H → G H)
    (hs : ∀ j x H H', j < n → Pv j H → Y j H x H' → g1 x (wipe σ2 vs1) H' fun σ3 H5 => wipe σ3 vs1 = wipe σ2 vs1 ∧ tt1 σ3 H5 fun b H6 =>
        if b = true then te σ3 H6 fun y H7 => ∃ acc, H7 D = some (.lst acc) ∧ acc.length < sizeLine ∧ Pv (j + 1) (upd H7 D (.lst (acc ++ [y]))) else Pv (j + 1) H6) (hd : ∀ H, Pv n H → Qd H) :
    ∃ W1 : Nat → Nat → Hp → Prop, (∃ m, W1 0 m H4) ∧ ∀ j k H, W1 j k H →
      (J1.stop j H ∧ Qd H) ∨ (J1.go j H ∧ ∃ Nx1 : Hp → Prop, (∀ H', Nx1 H' → ∃ k', k' < k ∧ W1 (j + 1) k' H') ∧ ∀ x H', J1.yld j H x H' → g1 x (wipe σ2 vs1) H' fun σ3 H5 => wipe σ3 vs1 = wipe σ2 vs1 ∧ tt1 σ3 H5 fun b H6 =>
        if b = true then te σ3 H6 fun y H7 => ∃ acc, H7 D = some (.lst acc) ∧ acc.length < sizeLine ∧ Nx1 (upd H7 D (.lst (acc ++ [y]))) else Nx1 H6) := by
  refine ⟨fun i m H => m = n - i ∧ i ≤ n ∧ Pv i H, ⟨n, by simp, Nat.zero_le _, h0⟩, ?_⟩
  rintro i m H ⟨rfl, hi, p⟩
  have q := hG i H hi p
  by_cases hlt : i < n
  · refine .inr ⟨w.goes i H hlt q, Pv (i + 1), fun H' p' => ⟨n - (i + 1), by omega, rfl, hlt, p'⟩, fun x H' y => hs i x H H' hlt p (w.yields i H x H' hlt q y)⟩
  · have e : i = n := by omega
    subst e
    exact .inl ⟨w.stops H q, hd H p⟩
theorem lc2_itE (w : Walk J n G Y) {g g1 : TG} {tt tt1 : TT} {wi1 : TI} {te : TE} {vs vs1 : List Nat} {σ : L2.St} {H1 : Hp} {D : Addr} {Qd : Hp → Prop} (Pv : Nat → Hp → Prop) (h0 : Pv 0 (upd H1 D (.lst []))) (hG : ∀ i H, i ≤ n → Pv i H → G H)
    (σ0 : L2.St) (eσ : wipe σ vs = σ0) (hs : ∀ i x H H', i < n → Pv i H → Y i H x H' → g x σ0 H' fun σ2 H2 => wipe σ2 vs = σ0 ∧ tt σ2 H2 fun b H3 => if b = true then wi1 σ2 H3 fun J1 H4 => ∃ W1 : Nat → Nat → Hp → Prop, (∃ m, W1 0 m H4) ∧ ∀ j k H, W1 j k H →
      (J1.stop j H ∧ Pv (i + 1) H) ∨ (J1.go j H ∧ ∃ Nx1 : Hp → Prop, (∀ H', Nx1 H' → ∃ k', k' < k ∧ W1 (j + 1) k' H') ∧ ∀ x H', J1.yld j H x H' → g1 x (wipe σ2 vs1) H' fun σ3 H5 => wipe σ3 vs1 = wipe σ2 vs1 ∧ tt1 σ3 H5 fun b H6 =>
        if b = true then te σ3 H6 fun y H7 => ∃ acc, H7 D = some (.lst acc) ∧ acc.length < sizeLine ∧ Nx1 (upd H7 D (.lst (acc ++ [y]))) else Nx1 H6)
    else Pv (i + 1) H3) (hd : ∀ H, Pv n H → Qd H) :
    ∃ W : Nat → Nat → Hp → Prop, (∃ m, W 0 m (upd H1 D (.lst []))) ∧ ∀ i m H, W i m H →
  (J.stop i H ∧ Qd H) ∨ (J.go i H ∧ ∃ Nx : Hp → Prop, (∀ H', Nx H' → ∃ m', m' < m ∧ W (i + 1) m' H') ∧ ∀ x H', J.yld i H x H' → g x (wipe σ vs) H' fun σ2 H2 => wipe σ2 vs = wipe σ vs ∧ tt σ2 H2 fun b H3 =>
    if b = true then wi1 σ2 H3 fun J1 H4 => ∃ W1 : Nat → Nat → Hp → Prop, (∃ m, W1 0 m H4) ∧ ∀ j k H, W1 j k H →
      (J1.stop j H ∧ Nx H) ∨ (J1.go j H ∧ ∃ Nx1 : Hp → Prop, (∀ H', Nx1 H' → ∃ k', k' < k ∧ W1 (j + 1) k' H') ∧ ∀ x H', J1.yld j H x H' → g1 x (wipe σ2 vs1) H' fun σ3 H5 => wipe σ3 vs1 = wipe σ2 vs1 ∧ tt1 σ3 H5 fun b H6 =>
        if b = true then te σ3 H6 fun y H7 => ∃ acc, H7 D = some (.lst acc) ∧ acc.length < sizeLine ∧ Nx1 (upd H7 D (.lst (acc ++ [y]))) else Nx1 H6)
    else Nx H3) := by
  subst eσ
  exact lc2_it w Pv h0 hG hs hd
theorem lcin_itE (w : Walk J1 n G Y) {g1 : TG} {tt1 : TT} {te : TE} {vs1 : List Nat} {σ2 : L2.St} {H4 : Hp} {D : Addr} {Qd : Hp → Prop} (Pv : Nat → Hp → Prop) (h0 : Pv 0 H4) (hG : ∀ i H, i ≤ n → Pv i H → G H)
    (σ0 : L2.St) (eσ : wipe σ2 vs1 = σ0) (hs : ∀ j x H H', j < n → Pv j H → Y j H x H' → g1 x σ0 H' fun σ3 H5 => wipe σ3 vs1 = σ0 ∧ tt1 σ3 H5 fun b H6 =>
        if b = true then te σ3 H6 fun y H7 => ∃ acc, H7 D = some (.lst acc) ∧ acc.length < sizeLine ∧ Pv (j + 1) (upd H7 D (.lst (acc ++ [y]))) else Pv (j + 1) H6) (hd : ∀ H, Pv n H → Qd H) :
    ∃ W1 : Nat → Nat → Hp → Prop, (∃ m, W1 0 m H4) ∧ ∀ j k H, W1 j k H →
      (J1.stop j H ∧ Qd H) ∨ (J1.go j H ∧ ∃ Nx1 : Hp → Prop, (∀ H', Nx1 H' → ∃ k', k' < k ∧ W1 (j + 1) k' H') ∧ ∀ x H', J1.yld j H x H' → g1 x (wipe σ2 vs1) H' fun σ3 H5 => wipe σ3 vs1 = wipe σ2 vs1 ∧ tt1 σ3 H5 fun b H6 =>
        if b = true then te σ3 H6 fun y H7 => ∃ acc, H7 D = some (.lst acc) ∧ acc.length < sizeLine ∧ Nx1 (upd H7 D (.lst (acc ++ [y]))) else Nx1 H6) := by
  subst eσ
  exact lcin_it w Pv h0 hG hs hd
end
/-! ### the deck's own worths, a dict of the module -/
structure OW (K : PySem.W.Frag) (w : World) : Prop where
  at_ : ∀ z ∈ TRS, ∃ v, KDct K w (He.ga K "OWN_WORTHS") z v ∧ ∀ H, Dp K H v (ownW z)
def relW : PyData → Value → Bool
  | .int i, .int j _ => decide (i = j)
  | .str a, .str b _ => decide (a = b)
  | _, _ => false
def ownB (K : PySem.W.Frag) : Bool := TRS.all fun z => match PySem.W.nsIn K (He.ga K "OWN_WORTHS") z with
  | some (some u) => relW (ownW z) u
  | _ => false
theorem ownB_ok {K : PySem.W.Frag} {w : World} (h : ownB K = true) (d : ∃ es n, L2.KDict K w (He.ga K "OWN_WORTHS") es n) : OW K w := by
  refine ⟨fun z mz => ?_⟩
  have h1 := List.all_eq_true.mp h z mz
  obtain ⟨es, n, hd⟩ := d
  split at h1
  · rename_i u e
    cases eo : ownW z with
    | int i =>
      rw [eo] at h1
      cases u with
      | int j t =>
        obtain rfl : i = j := of_decide_eq_true h1
        exact ⟨.int i, ⟨es, n, _, hd.at_, hd.lit, e, ⟨t, rfl⟩⟩, fun H => .int i⟩
      | _ => cases h1
    | str s =>
      rw [eo] at h1
      cases u with
      | str j t =>
        obtain rfl : s = j := of_decide_eq_true h1
        exact ⟨.str s, ⟨es, n, _, hd.at_, hd.lit, e, ⟨t, rfl⟩⟩, fun H => .str s⟩
      | _ => cases h1
    | _ =>
      rw [eo] at h1
      cases h1
  · cases h1
/-! ### promises -/
section
variable (K : PySem.W.Frag) (P' : Addr)
def spTrait : Sp := fun vs H Q _ => ∃ v, vs = [v] ∧ Th H v ∧ Q (.bl (traitV v)) H
def spOneOf : Sp := fun vs H Q _ => ∃ (v : V) (a : Addr) (xs : List V), vs = [v, .ref a] ∧ Th H v ∧ SqT K H a xs ∧ xs.all flatV = true ∧ Q (.bl (isStr v && inV v xs)) H
def spMOfR : Sp := fun vs H Q E => ∃ (v n : V) (ms : List MaM), vs = [v, n] ∧ Dp K H v (.tuple (ms.map MaM.d)) ∧ OkMs ms ∧ Ok1 H n ∧ TabG H P' ∧
  (∀ (m : MaM) (u : V) (H' : Hp), fndV ms n = some m → Tk P' H H' → Dp K H' u m.d → Q u H') ∧ (fndV ms n = none → ∀ H', Tk P' H H' → E (.ref (He.ga K "NoMaster")) none H')
def spMsR (R : List MaM → Str → Hp → Addr → Prop) : Sp := fun vs H Q E => ∃ (v n : V) (ms : List MaM), vs = [v, n] ∧ Dp K H v (.tuple (ms.map MaM.d)) ∧ OkMs ms ∧ Ok1 H n ∧ TabG H P' ∧
  (∀ m, fndV ms n = some m → ∀ (D : Addr) (H' : Hp), Tk P' H H' → H D = none → R ms m.name H' D → Q (.ref D) H') ∧ (fndV ms n = none → ∀ H', Tk P' H H' → E (.ref (He.ga K "NoMaster")) none H')
def spSaid : Sp := fun vs H Q E => ∃ (v n y : V) (ms : List MaM), vs = [v, n, y] ∧ Dp K H v (.tuple (ms.map MaM.d)) ∧ OkMs ms ∧ Ok1 H n ∧ Ok1 H y ∧ TabG H P' ∧
  (fndV ms n = none → ∀ H', Tk P' H H' → E (.ref (He.ga K "NoMaster")) none H') ∧ (∀ m, fndV ms n = some m → saidV (chn ms m.name) y = [] → ∀ H', Tk P' H H' → E (.ref (He.ga K "NoPlace")) none H') ∧
  (∀ m, fndV ms n = some m → saidV (chn ms m.name) y ≠ [] → ∀ (D : Addr) (H' : Hp) (xs : List V), Tk P' H H' → H D = none → H' D = some (.lst xs) → DpAll K H' xs ((saidV (chn ms m.name) y).map sd) → Q (.ref D) H')
def spWSaid : Sp := fun vs H Q _ => ∃ (D : Addr) (t : Str) (xs : List V) (l : List (Str × PlM)), vs = [.ref D, .str t] ∧ t ∈ TRS ∧ H D = some (.lst xs) ∧ DpAll K H xs (l.map sd) ∧ ∀ (u : V) (H' : Hp), Same H H' → Dp K H' u (resW l t) → Q u H'
def spWBy : Sp := fun vs H Q E => ∃ (v n y t : V) (ms : List MaM), vs = [v, n, y, t] ∧ Dp K H v (.tuple (ms.map MaM.d)) ∧ OkMs ms ∧ Ok1 H n ∧ Ok1 H y ∧ Ok1 H t ∧ TabG H P' ∧
  (fndV ms n = none → ∀ H', Tk P' H H' → E (.ref (He.ga K "NoMaster")) none H') ∧ (∀ m, fndV ms n = some m → saidV (chn ms m.name) y = [] → ∀ H', Tk P' H H' → E (.ref (He.ga K "NoPlace")) none H') ∧
  (∀ m, fndV ms n = some m → saidV (chn ms m.name) y ≠ [] → traitV t = false → ∀ H', Tk P' H H' → E (.ref (He.ga K "NoTrait")) none H') ∧
  (∀ m z, fndV ms n = some m → saidV (chn ms m.name) y ≠ [] → t = .str z → z ∈ TRS → ∀ (u : V) (H' : Hp), Tk P' H H' → Dp K H' u (resW (saidV (chn ms m.name) y) z) → Q u H')
def spTBy : Sp := fun vs H Q E => ∃ (v n y : V) (ms : List MaM), vs = [v, n, y] ∧ Dp K H v (.tuple (ms.map MaM.d)) ∧ OkMs ms ∧ Ok1 H n ∧ Ok1 H y ∧ TabG H P' ∧
  (fndV ms n = none → ∀ H', Tk P' H H' → E (.ref (He.ga K "NoMaster")) none H') ∧ (∀ m, fndV ms n = some m → saidV (chn ms m.name) y = [] → ∀ H', Tk P' H H' → E (.ref (He.ga K "NoPlace")) none H') ∧
  (∀ m, fndV ms n = some m → saidV (chn ms m.name) y ≠ [] → ∀ (u : V) (H' : Hp), Tk P' H H' → Dp K H' u (resT (saidV (chn ms m.name) y)) → Q u H')
end
end Gk

set_option Elab.async false
set_option linter.all false
set_option maxRecDepth 100000
set_option maxHeartbeats 2000000
/-! The word of an error, whatever its class. -/
namespace Gw
open PySem PySem.Spec PyProof.Rows L2 GxR Gx Gd Gn Gm Gc Gk
def CLS : List Str := ["NoDeck", "NoDeed", "NoLink", "NoMaster", "NoName", "NoNumber", "NoPlace", "NoPress", "NoRoom", "NoRow", "NoSetting", "NoShow", "NoSlide", "NoSteps", "NoText", "NoTime", "NoTrait", "NoWord", "NoWorth", "Ring", "Taken", "TooMany", "Used"]
def WRA : List Str := ["deck", "deed", "link", "master", "name", "number", "place", "press", "room", "row", "setting", "show"]
def WRB : List Str := ["slide", "steps", "text", "time", "trait", "word", "worth", "ring", "taken", "many", "used"]
def rk (one : Str) : List Str → Nat
  | [] => 0
  | x :: r => if x = one then 0 else rk one r + 1
def wordOf (one : Str) : Str := ((WRA ++ WRB)[rk one CLS]?).getD ""
def fl (one x : Str) : V := .bl (decide (x = one))
theorem fl_facts : ∀ one ∈ CLS, (CLS.map (fl one)).countP (fun z => eqV z (.bl true)) = 1 ∧ (CLS.map (fl one)).all flatV = true ∧ (CLS.map (fl one))[rk one CLS]? = some (.bl true) ∧ ((CLS.map (fl one)).take (rk one CLS)).all (fun z => eqV z (.bl true) == false) = true ∧ (WRA ++ WRB)[rk one CLS]? = some (wordOf one) := by decide +kernel
theorem fl_not {one : Str} (h : one ∈ CLS) (m : Nat) (z : V) (hm : m < rk one CLS) (hz : (CLS.map (fl one))[m]? = some z) : eqV z (.bl true) = false := by
  have h4 := (fl_facts one h).2.2.2.1
  have e : ((CLS.map (fl one)).take (rk one CLS))[m]? = some z := by
    rw [List.getElem?_take, if_pos hm]
    exact hz
  exact beq_iff_eq.mp (List.all_eq_true.mp h4 z (List.mem_of_getElem? e))
structure TxtC (K : PySem.W.Frag) (mg : Str → Option Value) : Prop where
  cls : ∀ x, CLS.contains x = true → mg x = some (.ref (He.ga K x))
/-- what the head tells of one error's class -/
def ewB (K : PySem.W.Frag) (one : Str) : Bool := excB K (He.ga K one) && (decide (PySem.W.exmOne K (.ref (He.ga K one)) (.ref (He.ga K "DeckError")) = some true) && (kitB K (He.ga K one) one CLS && decide (PySem.W.kitOne K (.ref (He.ga K one)) (.type "ValueError") = some true)))
structure ErW (K : PySem.W.Frag) (mg : Str → Option Value) (one : Str) : Prop extends Er K mg one where
  e : PySem.W.exmOne K (.ref (He.ga K one)) (.ref (He.ga K "DeckError")) = some true
  kit : kitB K (He.ga K one) one CLS = true
  kv : PySem.W.kitOne K (.ref (He.ga K one)) (.type "ValueError") = some true
  m : one ∈ CLS
theorem ewB_ok {K : PySem.W.Frag} {mg : Str → Option Value} {one : Str} (h : ewB K one = true) (g : mg one = some (.ref (He.ga K one))) (m : one ∈ CLS) : ErW K mg one := by
  unfold ewB at h
  simp only [Bool.and_eq_true, decide_eq_true_eq] at h
  obtain ⟨h1, h2, h3, h4⟩ := h
  exact ⟨⟨excB_ok h1, g⟩, h2, h3, h4, m⟩
theorem kitW {K : PySem.W.Frag} {mg : Str → Option Value} {one : Str} (N : ErW K mg one) {x : Str} (hx : CLS.contains x = true) : PySem.W.kitOne K (.ref (He.ga K one)) (.ref (He.ga K x)) = some (decide (x = one)) := kitB_ok N.kit (List.contains_iff_mem.mp hx)
def spWord (K : PySem.W.Frag) (mg : Str → Option Value) : Sp := fun vs H Q _ => ∃ (a : Addr) (one : Str), vs = [.ref a] ∧ ErW K mg one ∧ H a = some (ExK (.ref (He.ga K one)) none a) ∧ ∀ H', Same H H' → Q (.str (wordOf one)) H'
/-- an error's object stays what it is -/
theorem exK_ne {H : Hp} {a b : Addr} {c : Value} {o : HO} (h : H a = some (ExK c none a)) (hb : H b = some o) (n : ∀ phi, o ≠ .ext phi) : a ≠ b := by
  intro e
  rw [e, hb] at h
  exact n _ (Option.some.inj h)
end Gw

set_option Elab.async false
set_option linter.all false
set_option maxRecDepth 100000
set_option maxHeartbeats 2000000
/-! Things of other kinds, names that are none of some. -/
namespace Gt
open PySem PySem.Spec PyProof.Rows L2 GxR Gx Gd Gn Gm Gc Gk
theorem th_kp {H H' : Hp} {p L : Addr} {ns : List Int} {n m : Nat} {x : V} (hP : Pen H p L ns n) (hP' : Pen H' p L ns m) (h : Ok1 H x) (k : Kp p H H') : Ok1 H' x := by
  refine ⟨?_, h.2⟩
  obtain ⟨a, r, hp, _⟩ := hP.at_
  have h1 := h.1
  cases h1 with
  | non => exact .non
  | bl b => exact .bl b
  | int i => exact .int i
  | str z => exact .str z
  | @lst a xs e =>
    by_cases ea : a = p
    · obtain ⟨a', r', hp', _⟩ := hP'.at_
      rw [ea]
      exact .lst hp'
    · exact .lst (k _ _ e ea)
  | tup e => exact .tup (k _ _ e (ne_of e hp fun q => nomatch q))
  | dK e => exact .dK (k _ _ e (ne_of e hp fun q => nomatch q))
theorem okA_kp {H H' : Hp} {p L : Addr} {ns : List Int} {n m : Nat} {xs : List V} (hP : Pen H p L ns n) (hP' : Pen H' p L ns m) (h : ∀ x ∈ xs, Ok1 H x) (k : Kp p H H') : ∀ x ∈ xs, Ok1 H' x := fun x hx => th_kp hP hP' (h x hx) k
/-- what is kept of things: no text, or a text that is none of these -/
def keepV (zs : List Str) (x : V) : Bool := !isStr x || !inV x (zs.map V.str)
theorem keep_str {zs : List Str} {z : Str} (h : keepV zs (.str z) = true) : z ∉ zs := by
  unfold keepV at h
  rw [inV_strs, show isStr (.str z) = true from rfl, Bool.not_true, Bool.false_or, Bool.not_eq_true'] at h
  exact of_decide_eq_false h
theorem fnd_no {ms : List MaM} {z : Str} (h : z ∉ ms.map (·.name)) : fnd ms z = none := by
  cases e : fnd ms z with
  | none => rfl
  | some m =>
    obtain ⟨h1, h2⟩ := fnd_some e
    exact absurd (List.mem_map.mpr ⟨m, h1, h2⟩) h
theorem keep_fnd {ms : List MaM} {x : V} (h : keepV (ms.map (·.name)) x = true) : fndV ms x = none := by
  cases x with
  | str z => exact fnd_no (keep_str h)
  | _ => rfl
theorem fold_in {y : Str} : ∀ {l acc : List Str}, y ∈ acc ∨ y ∈ l → y ∈ l.foldl addN acc
  | [], acc, h => h.resolve_right fun q => nomatch q
  | z :: r, acc, h => by
    refine fold_in (l := r) (acc := addN acc z) ?_
    rcases h with h | h
    · left
      unfold addN
      split
      · exact h
      · exact List.mem_append_left _ h
    · rcases List.mem_cons.mp h with h | h
      · left
        unfold addN
        split
        · rw [h]; assumption
        · rw [h]; exact List.mem_append_right _ List.mem_cons_self
      · exact .inr h
theorem said_there {ms : List MaM} {z y : Str} (h : said (chn ms z) y ≠ []) : y ∈ there ms z := by
  obtain ⟨s, hs⟩ := List.exists_mem_of_ne_nil _ h
  obtain ⟨m, hm, _, hp, e⟩ := said_pl hs
  exact fold_in (.inr (List.mem_flatMap.mpr ⟨m, List.mem_reverse.mpr hm, List.mem_map.mpr ⟨s.2, hp, e⟩⟩))
theorem keep_said {ms : List MaM} {z : Str} {x : V} (h : keepV (there ms z) x = true) : saidV (chn ms z) x = [] := by
  cases x with
  | str y =>
    cases e : said (chn ms z) y with
    | nil => exact e
    | cons a r => exact absurd (said_there (by rw [e]; exact fun q => nomatch q)) (keep_str h)
  | _ => rfl
theorem there_len (ms : List MaM) (z : Str) (h : ∀ m ∈ chn ms z, m.own.length ≤ 8) : (there ms z).length ≤ 160 := by
  have h1 := fold_len (l := plN (chn ms z).reverse) (acc := [])
  have h2 := plN_len (l := (chn ms z).reverse) fun m hm => h m (List.mem_reverse.mp hm)
  have h3 := chn_len ms z
  rw [List.length_reverse] at h2
  have h4 : ([] : List Str).length = 0 := rfl
  show ((plN (chn ms z).reverse).foldl addN []).length ≤ 160
  omega
theorem filter_more {α : Type} {p : α → Bool} {l : List α} {i : Nat} {x : α} (e : l[i]? = some x) : (l.take (i + 1)).filter p = if p x = true then (l.take i).filter p ++ [x] else (l.take i).filter p := by
  rw [take_more e, List.filter_append]
  by_cases h : p x = true
  · rw [if_pos h, List.filter_cons_of_pos h] <;> rfl
  · rw [if_neg h, List.filter_cons_of_neg h, List.filter_nil, List.append_nil]
theorem strs_ok {H : Hp} {zs : List Str} (h : ∀ z ∈ zs, z.length ≤ 1000) : ∀ x ∈ zs.map V.str, Ok1 H x := fun x hx => by
  obtain ⟨z, hz, rfl⟩ := List.mem_map.mp hx
  exact ok_str (Nat.le_of_lt (small1000 (h z hz)))
end Gt

set_option Elab.async false
set_option linter.all false
set_option maxRecDepth 100000
set_option maxHeartbeats 2000000
/-! Worths of traits by their bounds. -/
namespace Gb
open PySem PySem.Spec PyProof.Rows L2 GxR Gx Gd Gn Gm Gc Gk
def withB (lo hi : Int) : V → Bool
  | .int n => decide (lo ≤ n) && decide (n ≤ hi)
  | _ => false
def betw (b : Int × Int) : V → Bool
  | .int n => decide (b.1 ≤ n) && decide (n ≤ b.2)
  | _ => false
def worthB (z : Str) (x : V) : Bool := if z = "ink" then nameV x else betw (bnd z) x
theorem betw_no {b : Int × Int} {x : V} (h : wholeV x = false) : betw b x = false := by
  cases x <;> first | rfl | cases h
structure BN (K : PySem.W.Frag) (w : World) : Prop where
  bd : ∀ z ∈ TRS, z ≠ "ink" → ∃ a, KDct K w (He.ga K "BOUNDS") z (.ref a) ∧ ∀ H, SqT K H a [.int (bnd z).1, .int (bnd z).2]
/-! ### what the head tells of the worths' bounds -/
def seqB (K : PySem.W.Frag) (a : Addr) (vs : List V) : Bool := match K.lookup a with
  | some ⟨.type c, _, .seq its _, _⟩ => decide (c = "tuple") && (decide (its.size ≤ sizeLine) && He.relAll vs its.toList)
  | _ => false
theorem seqB_ok {K : PySem.W.Frag} {a : Addr} {vs : List V} (h : seqB K a vs = true) (H : Hp) : SqT K H a vs := by
  unfold seqB at h
  split at h
  · rename_i c dd its n sl e
    simp only [Bool.and_eq_true, decide_eq_true_eq] at h
    obtain ⟨rfl, h2, h3⟩ := h
    exact .inr ⟨_, its, n, e, rfl, rfl, h2, He.relAll_ok h3⟩
  · cases h
def BKS : List Str := ["left", "top", "wide", "high", "size"]
def boundsB (K : PySem.W.Frag) : Bool := BKS.all fun z => match PySem.W.nsIn K (He.ga K "BOUNDS") z with
  | some (some (.ref a)) => seqB K a [.int (bnd z).1, .int (bnd z).2]
  | _ => false
theorem bks {z : Str} (h : z ∈ TRS) (n : z ≠ "ink") : z ∈ BKS := by
  simp only [TRS, List.mem_cons, List.not_mem_nil, or_false] at h
  rcases h with rfl | rfl | rfl | rfl | rfl | rfl
  · decide +kernel
  · decide +kernel
  · decide +kernel
  · decide +kernel
  · decide +kernel
  · exact absurd rfl n
theorem boundsB_ok {K : PySem.W.Frag} {w : World} (h : boundsB K = true) (d : ∃ es n, L2.KDict K w (He.ga K "BOUNDS") es n) : BN K w := by
  refine ⟨fun z mz nz => ?_⟩
  have h1 := List.all_eq_true.mp h z (bks mz nz)
  obtain ⟨es, n, hd⟩ := d
  split at h1
  · rename_i a e
    exact ⟨a, ⟨es, n, .ref a, hd.at_, hd.lit, e, rfl⟩, fun H => seqB_ok h1 H⟩
  · cases h1
end Gb

set_option Elab.async false
set_option linter.all false
set_option maxRecDepth 100000
set_option maxHeartbeats 2000000
/-! max(xs, default=d) of a list of whole numbers; a call of a def that an expression gives. -/
namespace Gp
open PySem PySem.Spec PyProof.Rows L2 GxR Gx Gc
section
variable {X : Cx}
def rMaxDef (K : PySem.W.Frag) : List V → List V → Hp → VK → Prop := fun vs zs H Q => ∃ (a : Addr) (ns : List Int) (d : Int), vs = [V.ref a] ∧ zs = [.int d] ∧ SqL K H a (ns.map V.int) ∧ (ns = [] → Q (.int d) H) ∧ (∀ m, m ∈ ns → (∀ y, y ∈ ns → y ≤ m) → Q (.int m) H)
theorem maxOf_int (x : Int) : ∀ xs : List Int, PySem.W.maxOf x xs ∈ x :: xs ∧ ∀ y ∈ x :: xs, y ≤ PySem.W.maxOf x xs := by
  have lt : ∀ a b : Int, PySem.W.DatumOrd.lt a b = decide (a < b) := fun a b => rfl
  intro xs
  unfold PySem.W.maxOf
  induction xs generalizing x with
  | nil => exact ⟨List.mem_cons_self, fun y hy => by rw [List.mem_singleton.mp hy]; exact Int.le_refl _⟩
  | cons z zs ih =>
    rw [List.foldl_cons]
    obtain ⟨h1, h2⟩ := ih (if PySem.W.DatumOrd.lt x z = true then z else x)
    rw [lt] at h1 h2 ⊢
    by_cases h : x < z
    · rw [if_pos (decide_eq_true h)] at h1 h2 ⊢
      refine ⟨List.mem_cons_of_mem _ h1, fun y hy => ?_⟩
      rcases List.mem_cons.mp hy with rfl | hy
      · exact Int.le_trans (Int.le_of_lt h) (h2 z List.mem_cons_self)
      · exact h2 y hy
    · rw [if_neg (by rw [decide_eq_false h]; decide)] at h1 h2 ⊢
      refine ⟨?_, fun y hy => ?_⟩
      · rcases List.mem_cons.mp h1 with e | h1
        · rw [e]; exact List.mem_cons_self
        · exact List.mem_cons_of_mem _ (List.mem_cons_of_mem _ h1)
      · rcases List.mem_cons.mp hy with rfl | hy
        · exact h2 y List.mem_cons_self
        · rcases List.mem_cons.mp hy with rfl | hy
          · exact Int.le_trans (Int.not_lt.mp h) (h2 x List.mem_cons_self)
          · exact h2 y (List.mem_cons_of_mem _ hy)
theorem cr_maxDef (hc : X.calm = true) (hu : X.A.units + 64 < cLine) : CallRK X (.builtin "max") [Str.ofString "default"] (rMaxDef X.K) := by
  intro pins s σ H vs zs us ws Q I r rz h
  obtain ⟨a, ns, d, rfl, rfl, hs, q0, q⟩ := h
  obtain ⟨its, rv, hl, _⟩ := I.list hs
  obtain ⟨w1, rfl, t, rfl⟩ := vals1 rz
  rw [Vals.ref1 r]
  refine PySem.W.max_list_datum_default (α := Int) (xs := ns) (I.ok.hd hc) hl.isList (PySem.W.HoldAll.of_ints (by simpa using rv.ints)) (by show X.A.units + 1 + 0 < cLine; omega) (fun e h' tk hk => ?_) fun y ys i v h' tk e hi hv hk => ?_
  · exact ⟨.int d, H, I.kept hk, ⟨_, rfl⟩, q0 e⟩
  · obtain ⟨h1, h2⟩ := maxOf_int y ys
    rw [← e] at h1 h2
    obtain ⟨t', ev⟩ := PySem.W.int_of_holds hv
    exact ⟨.int _, H, I.kept hk, ⟨t', ev⟩, q _ h1 h2⟩
end
section
variable {X : Cx} {k : Nat} {func e : Expr} {es : List Expr} {tf : TE} {t : TA} {pos : Pos}
def tVCall (S : Addr → Sp → Prop) (E : L2.St → XK) (tf : TE) (t : TA) : TE := fun σ H Q => tf σ H fun v H1 => ∃ f sp, v = .ref f ∧ S f sp ∧ t σ H1 fun vs H2 => sp vs H2 Q (E σ)
theorem pe_vcallS {S : Addr → Sp → Prop} {E : L2.St → XK} (A : ∀ f sp, S f sp → ∃ fd ps, PySem.W.keepIn X.K (.ref f) = true ∧ Binds X.K fd ps [] ∧ FnOk X.prog X.w X.K X.mg X.base (L2.CX X.prog X.w) k f fd ps sp) (hr : Room k X.A) (hx : ∀ σ, PassesAt (L2.CX X.prog X.w) X σ (E σ))
    (hf : PE X func tf) (ha : PA X (e :: es) t)
    (he : starEach (e :: es) X.env = (false, eval e X.env) :: starEach es X.env := by rfl) (hpl : (backTo pos (starEach es X.env)).any (·.1) = false := by rfl)
    (hq : eval (.Call func (e :: es) [] pos) X.env = (do callWith pos (← eval func X.env) [] (backTo pos (starEach (e :: es) X.env)) (backToKw pos (keywordEach [] X.env))) := by rfl) :
    PE X (.Call func (e :: es) [] pos) (tVCall S E tf t) := by
  refine ⟨fun pins s σ H Q I h => ?_⟩
  refine PyProof.Rows.Call_ (thn (hf.run pins s σ H _ I h) fun u s1 ⟨v, H1, I1, r1, q1⟩ => ?_) hq
  obtain ⟨f, sp, rfl, hS, q1⟩ := q1
  cases r1
  obtain ⟨fd, ps, hk, hb, F⟩ := A f sp hS
  refine PySem.W.callWith_K (h₀ := X.base) I1.ok.mod.kin hk (thn (ha.run pos pins s1 σ H1 _ I1 q1) fun us s2 ⟨vs, H2, I2, r, q2⟩ => ⟨I2.kIn, ?_⟩) he hpl
  exact run_fnS F hr hb (hx σ) I2 r q2
end
end Gp

set_option Elab.async false
set_option linter.all false
set_option maxRecDepth 100000
set_option maxHeartbeats 2000000
/-! Two code tables; what may be a step. -/
namespace Gu
open PySem PySem.Spec PyProof.Rows L2 GxR Gx Gd Gn Gm Gc Gk Gb
/-- only the two tables may have grown -/
def Tab2 (P1 P2 : Addr) (H H' : Hp) : Prop := TabG H' P1 ∧ TabG H' P2 ∧ ∀ b, b ≠ P1 → b ≠ P2 → H' b = H b
theorem Tab2.refl {P1 P2 : Addr} {H : Hp} (h1 : TabG H P1) (h2 : TabG H P2) : Tab2 P1 P2 H H := ⟨h1, h2, fun _ _ _ => rfl⟩
theorem Tab2.trans {P1 P2 : Addr} {H H1 H2 : Hp} (a : Tab2 P1 P2 H H1) (b : Tab2 P1 P2 H1 H2) : Tab2 P1 P2 H H2 := ⟨b.1, b.2.1, fun c n1 n2 => (b.2.2 c n1 n2).trans (a.2.2 c n1 n2)⟩
theorem Tab2.kt {P1 P2 : Addr} {H H' : Hp} (t : Tab2 P1 P2 H H') : ∀ b o, H b = some o → b ≠ P1 → b ≠ P2 → H' b = some o := fun b o e n1 n2 => (t.2.2 b n1 n2).trans e
theorem Tabbed.other {P1 P2 : Addr} {H H' : Hp} (h : Tabbed P1 H H') (g : TabG H P2) : TabG H' P2 := by
  by_cases e : P2 = P1
  · rw [e]
    exact h.1
  · obtain ⟨ps, g', tr⟩ := g
    exact ⟨ps, (h.2 P2 e).trans g', tr⟩
theorem Tab2.one {P1 P2 : Addr} {H H' : Hp} (h : Tabbed P1 H H') (g : TabG H P2) : Tab2 P1 P2 H H' := ⟨h.1, Tabbed.other h g, fun b n1 _ => h.2 b n1⟩
theorem Tab2.two {P1 P2 : Addr} {H H' : Hp} (h : Tabbed P2 H H') (g : TabG H P1) : Tab2 P1 P2 H H' := ⟨Tabbed.other h g, h.1, fun b _ n2 => h.2 b n2⟩
/-- what goes with heaps: all objects but tables -/
def Kt2 (H H' : Hp) : Prop := ∀ b o, H b = some o → (∀ ps, o ≠ .tbl ps) → H' b = some o
theorem Kt2.same {H H' : Hp} (s : Same H H') : Kt2 H H' := fun b o e _ => s b o e
theorem Kt2.tab2 {P1 P2 : Addr} {H H' : Hp} (g1 : TabG H P1) (g2 : TabG H P2) (t : Tab2 P1 P2 H H') : Kt2 H H' := fun b o e n => t.kt b o e (tab_ne g1 e n) (tab_ne g2 e n)
theorem Kt2.tk {P' : Addr} {H H' : Hp} (g : TabG H P') (t : Tk P' H H') : Kt2 H H' := fun b o e n => t.2 b o e (tab_ne g e n)
theorem Kt2.trans {H H1 H2 : Hp} (a : Kt2 H H1) (b : Kt2 H1 H2) : Kt2 H H2 := fun c o e n => b c o (a c o e n) n
theorem sqT_k2 {K : PySem.W.Frag} {H H' : Hp} {a : Addr} {xs : List V} (k : Kt2 H H') (h : SqT K H a xs) : SqT K H' a xs := sqT_by h (fun _ e => k _ _ e fun _ q => nomatch q) fun _ _ e => k _ _ e fun _ q => nomatch q
theorem ok1_k2 {H H' : Hp} {v : V} (k : Kt2 H H') (h : Ok1 H v) : Ok1 H' v := by
  refine ⟨?_, h.2⟩
  have h1 := h.1
  cases h1 with
  | non => exact .non
  | bl b => exact .bl b
  | int i => exact .int i
  | str z => exact .str z
  | lst e => exact .lst (k _ _ e fun _ q => nomatch q)
  | tup e => exact .tup (k _ _ e fun _ q => nomatch q)
  | dK e => exact .dK (k _ _ e fun _ q => nomatch q)
/-- no tuple -/
inductive NoT (H : Hp) : V → Prop where
  | non : NoT H .non
  | bl (b : Bool) : NoT H (.bl b)
  | int (i : Int) : NoT H (.int i)
  | str (z : Str) : NoT H (.str z)
  | lst {a : Addr} {xs : List V} (e : H a = some (.lst xs)) : NoT H (.ref a)
  | dK {a : Addr} {kvs} (e : H a = some (.dK kvs)) : NoT H (.ref a)
theorem NoT.k2 {H H' : Hp} {v : V} (k : Kt2 H H') (h : NoT H v) : NoT H' v := by
  cases h with
  | non => exact .non
  | bl b => exact .bl b
  | int i => exact .int i
  | str z => exact .str z
  | lst e => exact .lst (k _ _ e fun _ q => nomatch q)
  | dK e => exact .dK (k _ _ e fun _ q => nomatch q)
theorem NoT.ty {K : PySem.W.Frag} {H : Hp} {v : V} (h : NoT H v) : ∃ t, TyX K H v t ∧ PySem.W.kitOne K t (.type "tuple") = some false := by
  cases h with
  | non => exact ⟨_, .base .non, kit_ty (r := false) (by decide +kernel)⟩
  | bl b => exact ⟨_, .base (.bl b), kit_ty (r := false) (by decide +kernel)⟩
  | int i => exact ⟨_, .base (.int i), kit_ty (r := false) (by decide +kernel)⟩
  | str z => exact ⟨_, .base (.str z), kit_ty (r := false) (by decide +kernel)⟩
  | lst e => exact ⟨_, .base (.lst e), kit_ty (r := false) (by decide +kernel)⟩
  | dK e => exact ⟨_, .base (.dK e), kit_ty (r := false) (by decide +kernel)⟩
/-! ### steps -/
def KNL : List Str := ["press", "with", "after"]
def DDL : List Str := ["come", "go", "dim"]
def KNS : List V := KNL.map V.str
def DDS : List V := DDL.map V.str
def noneOr (b : V → Bool) (v : V) : Bool := decide (v = V.non) || b v
def stepL : List V → Bool
  | [kd, wt, dd, pl, ln] => (isStr kd && inV kd KNS) && ((isStr dd && inV dd DDS) && (nameV pl && (withB 0 99 wt && noneOr (withB 0 11) ln)))
  | _ => false
inductive StD (K : PySem.W.Frag) (H : Hp) : V → Bool → Prop where
  | tup {a : Addr} {xs : List V} (e : SqT K H a xs) (h : ∀ x ∈ xs, Ok1 H x) : StD K H (.ref a) (stepL xs)
  | no {v : V} (h : NoT H v) : StD K H v false
theorem StD.k2 {K : PySem.W.Frag} {H H' : Hp} {v : V} {b : Bool} (k : Kt2 H H') (h : StD K H v b) : StD K H' v b := by
  cases h with
  | tup e h => exact .tup (sqT_k2 k e) fun x hx => ok1_k2 k (h x hx)
  | no h => exact .no (h.k2 k)
inductive SsD (K : PySem.W.Frag) (H : Hp) : V → Bool → Prop where
  | tup {a : Addr} {xs : List V} (e : SqT K H a xs) (g : V → Bool) (h : ∀ x ∈ xs, StD K H x (g x)) : SsD K H (.ref a) (decide ((xs.length : Int) ≤ 24) && xs.all g)
  | no {v : V} (h : NoT H v) : SsD K H v false
theorem SsD.k2 {K : PySem.W.Frag} {H H' : Hp} {v : V} {b : Bool} (k : Kt2 H H') (h : SsD K H v b) : SsD K H' v b := by
  cases h with
  | tup e g h => exact .tup (sqT_k2 k e) g fun x hx => (h x hx).k2 k
  | no h => exact .no (h.k2 k)
/-! ### right steps, as records -/
structure RS where
  kd : Str
  wt : Nat
  dd : Str
  pl : Str
  ln : V
def RS.vs (r : RS) : List V := [.str r.kd, .int (r.wt : Int), .str r.dd, .str r.pl, r.ln]
structure OkR (r : RS) : Prop where
  kd : r.kd ∈ KNL
  wt : r.wt ≤ 99
  dd : r.dd ∈ DDL
  pl : nameV (.str r.pl) = true
  ln : noneOr (withB 0 11) r.ln = true
def GoodS (K : PySem.W.Frag) (H : Hp) (a : Addr) (rs : List RS) : Prop := ∃ xs : List V, SqT K H a xs ∧ xs.length = rs.length ∧ ∀ (i : Nat) (x : V) (r : RS), xs[i]? = some x → rs[i]? = some r → ∃ b : Addr, x = .ref b ∧ SqT K H b r.vs
theorem GoodS.k2 {K : PySem.W.Frag} {H H' : Hp} {a : Addr} {rs : List RS} (k : Kt2 H H') (h : GoodS K H a rs) : GoodS K H' a rs := by
  obtain ⟨xs, e, l, g⟩ := h
  exact ⟨xs, sqT_k2 k e, l, fun i x r hx hr => by
    obtain ⟨b, rfl, hb⟩ := g i x r hx hr
    exact ⟨b, rfl, sqT_k2 k hb⟩⟩
theorem ln_flat {v : V} (h : noneOr (withB 0 11) v = true) : v = .non ∨ ∃ n : Nat, v = .int (n : Int) ∧ n ≤ 11 := by
  unfold noneOr at h
  by_cases e : v = .non
  · exact .inl e
  · rw [decide_eq_false e, Bool.false_or] at h
    cases v with
    | int i =>
      have h : (decide ((0 : Int) ≤ i) && decide (i ≤ 11)) = true := h
      simp only [Bool.and_eq_true, decide_eq_true_eq] at h
      exact .inr ⟨i.toNat, by rw [Int.toNat_of_nonneg h.1], by omega⟩
    | _ => cases h
theorem kn_size {z : Str} (h : z ∈ KNL) : z.length ≤ 8 := by
  simp only [KNL, List.mem_cons, List.not_mem_nil, or_false] at h
  rcases h with rfl | rfl | rfl <;> decide +kernel
theorem dd_size {z : Str} (h : z ∈ DDL) : z.length ≤ 8 := by
  simp only [DDL, List.mem_cons, List.not_mem_nil, or_false] at h
  rcases h with rfl | rfl | rfl <;> decide +kernel
theorem OkR.step {r : RS} (h : OkR r) : stepL r.vs = true := by
  show ((isStr (.str r.kd) && inV (.str r.kd) KNS) && ((isStr (.str r.dd) && inV (.str r.dd) DDS) && (nameV (.str r.pl) && (withB 0 99 (.int (r.wt : Int)) && noneOr (withB 0 11) r.ln)))) = true
  rw [show inV (.str r.kd) KNS = true from (inV_strs _ KNL).trans (decide_eq_true h.kd), show inV (.str r.dd) DDS = true from (inV_strs _ DDL).trans (decide_eq_true h.dd), h.pl, h.ln]
  show (decide ((0 : Int) ≤ (r.wt : Int)) && decide ((r.wt : Int) ≤ 99) && true) = true
  have := h.wt
  rw [decide_eq_true (by omega), decide_eq_true (by omega)] <;> rfl
theorem OkR.ok {r : RS} (h : OkR r) {H : Hp} : ∀ x ∈ r.vs, Ok1 H x := fun x hx => by
  simp only [RS.vs, List.mem_cons, List.not_mem_nil, or_false] at hx
  have big : ∀ {n : Nat}, n ≤ 8 → n ≤ sizeLine := fun h => by rw [sizeLine_eq]; omega
  rcases hx with rfl | rfl | rfl | rfl | e
  · exact ok_str (big (kn_size h.kd))
  · exact ⟨.int _, fun _ e => nomatch e⟩
  · exact ok_str (big (dd_size h.dd))
  · exact ok_str (big (name_small h.pl))
  · rw [e]
    rcases ln_flat h.ln with e | ⟨n, e, _⟩
    · rw [e]; exact ⟨.non, fun _ e => nomatch e⟩
    · rw [e]; exact ⟨.int _, fun _ e => nomatch e⟩
theorem sd_good {K : PySem.W.Frag} {H : Hp} {a : Addr} {rs : List RS} (h : GoodS K H a rs) (ok : ∀ r ∈ rs, OkR r) (l : rs.length ≤ 24) : SsD K H (.ref a) true := by
  obtain ⟨xs, e, lx, g⟩ := h
  have s := SsD.tup (K := K) (H := H) e (fun _ => true) fun x hx => by
    obtain ⟨i, hi⟩ := List.getElem?_of_mem hx
    have hlt := (List.getElem?_eq_some_iff.mp hi).1
    have hr : rs[i]? = some rs[i] := List.getElem?_eq_getElem (by omega)
    obtain ⟨b, rfl, hb⟩ := g i x _ hi hr
    have o := ok _ (List.getElem_mem (by omega) : rs[i] ∈ rs)
    have t := StD.tup (K := K) (H := H) hb o.ok
    rw [o.step] at t
    exact t
  rw [show (decide ((xs.length : Int) ≤ 24) && xs.all fun _ => true) = true from by
    rw [decide_eq_true (by omega), List.all_eq_true.mpr fun _ _ => rfl] <;> rfl] at s
  exact s
/-- what is kept: all objects but the tables -/
structure Fr (P1 P2 : Addr) (H H' : Hp) : Prop where
  g1 : TabG H' P1
  g2 : TabG H' P2
  k : Kt2 H H'
  n : ∀ b, H' b = none → H b = none
theorem Fr.refl {P1 P2 : Addr} {H : Hp} (g1 : TabG H P1) (g2 : TabG H P2) : Fr P1 P2 H H := ⟨g1, g2, fun _ _ e _ => e, fun _ e => e⟩
theorem Fr.trans {P1 P2 : Addr} {H H1 H2 : Hp} (a : Fr P1 P2 H H1) (b : Fr P1 P2 H1 H2) : Fr P1 P2 H H2 := ⟨b.g1, b.g2, a.k.trans b.k, fun c e => a.n c (b.n c e)⟩
theorem Fr.same {P1 P2 : Addr} {H H' : Hp} (g1 : TabG H P1) (g2 : TabG H P2) (s : Same H H') : Fr P1 P2 H H' := ⟨tabSame g1 s, tabSame g2 s, Kt2.same s, fun b e => by
  cases h : H b with
  | none => rfl
  | some o => rw [s _ _ h] at e; cases e⟩
theorem tab_some {H : Hp} {P' : Addr} (g : TabG H P') : H P' ≠ none := fun e => by
  obtain ⟨ps, h, _⟩ := g
  rw [h] at e
  cases e
theorem Fr.tab2 {P1 P2 : Addr} {H H' : Hp} (g1 : TabG H P1) (g2 : TabG H P2) (t : Tab2 P1 P2 H H') : Fr P1 P2 H H' := ⟨t.1, t.2.1, Kt2.tab2 g1 g2 t, fun b e => by
  rw [← t.2.2 b (fun z => tab_some t.1 (by rw [← z]; exact e)) fun z => tab_some t.2.1 (by rw [← z]; exact e)]
  exact e⟩
/-- a list of one's own changes -/
theorem Fr.put {P1 P2 : Addr} {H H' : Hp} {D : Addr} {ys zs : List V} (f : Fr P1 P2 H H') (n : H D = none) (e : H' D = some (.lst ys)) : Fr P1 P2 H (upd H' D (.lst zs)) := by
  have d1 : P1 ≠ D := fun z => by
    have h := tab_ne f.g1 e fun _ q => nomatch q
    exact h z.symm
  have d2 : P2 ≠ D := fun z => by
    have h := tab_ne f.g2 e fun _ q => nomatch q
    exact h z.symm
  refine ⟨?_, ?_, fun b o h t => ?_, fun b h => ?_⟩
  · obtain ⟨ps, h, tr⟩ := f.g1
    exact ⟨ps, (upd_ne d1).trans h, tr⟩
  · obtain ⟨ps, h, tr⟩ := f.g2
    exact ⟨ps, (upd_ne d2).trans h, tr⟩
  · rw [upd_ne (ne_of_none h n)]
    exact f.k _ _ h t
  · by_cases z : b = D
    · rw [z, upd_same] at h
      cases h
    · rw [upd_ne z] at h
      exact f.n b h
theorem Fr.new {P1 P2 : Addr} {H H' : Hp} {D : Addr} {o : HO} (f : Fr P1 P2 H H') (n : H' D = none) : Fr P1 P2 H (upd H' D o) := f.trans (Fr.same f.g1 f.g2 (same_new n))
end Gu

set_option Elab.async false
set_option linter.all false
set_option maxRecDepth 100000
set_option maxHeartbeats 2000000
/-! enumerate over a tuple. -/
namespace PySem
open Sem (wp)
open AutoSeq1 (wpAny_loadPart')
theorem gr_newT (l : Addr) (items : Array Value) (n : Nat) (dct : Option Addr) (sl : Array (Option Value)) :
    Meets (Builtin.«enumerate.__new__» ⟨[.type "enumerate", .ref l], []⟩) (fun _ R s => s.heap.get? l = some { cls := .type "tuple", dict := dct, data := .seq items n, slots := sl } ∧
      R (.ok (.ret (.ref (s.heap.push { cls := .type "tuple_iterator", data := .fields #[.ref l, .int 0 0] }).objs.size)))
        { s with heap := (s.heap.push { cls := .type "tuple_iterator", data := .fields #[.ref l, .int 0 0] }).push { cls := .type "enumerate", data := .fields #[.none, .bool false, .ref s.heap.objs.size, rawInt 0, .none, .none] } }) :=
  .of_wp fun prog w A R s h => by
    obtain ⟨hp, g, d, tk, os⟩ := s; obtain ⟨hl, h⟩ := h
    have hsub := sub_enumerate
    have hL : Heap.IsTuple (Shared.heap ⟨hp, g, d, tk, os⟩) l items := ⟨_, hl, rfl, n, rfl⟩
    wp_walk using wpAny_loadPart' hl
    refine wpAny_stack_any fun st => wpAny_pure ?_
    split
    · rename_i c _ _ _ _ _
      cases (c == Value.type "enumerate")
      · wp_walk using wpAny_loadPart' hl, wpAny_pyIter_tuple hL
        exact ⟨_, rfl, h⟩
      · wp_walk using wpAny_loadPart' hl, wpAny_pyIter_tuple hL
        exact ⟨_, rfl, h⟩
    · wp_walk using wpAny_loadPart' hl, wpAny_pyIter_tuple hL
      exact ⟨_, rfl, h⟩
section
variable {prog : Program} {w : World} {A : Around} {E : Value → Shared → Prop} {s : Shared}
theorem gr_call_enumT {l : Addr} {items : Array Value} {Q : Value → Shared → Prop} (hL : s.heap.IsTuple l items)
    (h : ∀ h', IsEnum h' (s.heap.objs.size + 1) s.heap.objs.size 0 .none → h'.IsTupleIter s.heap.objs.size l 0 → h'.objs.size = s.heap.objs.size + 2 →
      (∀ b o, s.heap.get? b = some o → h'.get? b = some o) → Q (.ref (s.heap.objs.size + 1)) { s with heap := h' }) :
    wpAny (model prog w) A (call (.type "enumerate") [.ref l]) Q E s := by
  obtain ⟨⟨c, dct, dt, sl⟩, hl, hc, n, hd⟩ := hL
  replace hc : c = .type "tuple" := hc
  replace hd : dt = .seq items n := hd
  subst hc hd
  refine callType_new F.called_enumerate (by decide) (F.typeCall_enumerate_1 _) (F.newCall_enumerate_1 _) (fun obj => F.args_object_init_2 obj _) F.entry_enumerate_new
    (gr_newT l items n dct sl) ⟨hl, ?_⟩
  have hz : (s.heap.push { cls := .type "tuple_iterator", data := .fields #[.ref l, .int 0 0] }).objs.size = s.heap.objs.size + 1 := Heap.size_push ..
  show _ ∧ _
  rw [hz]
  have he : IsEnum ((s.heap.push { cls := .type "tuple_iterator", data := .fields #[.ref l, .int 0 0] }).push
      { cls := .type "enumerate", data := .fields #[.none, .bool false, .ref s.heap.objs.size, rawInt 0, .none, .none] }) (s.heap.objs.size + 1) s.heap.objs.size 0 .none := by
    have := Heap.get?_push_size (s.heap.push { cls := .type "tuple_iterator", data := .fields #[.ref l, .int 0 0] })
      (o := { cls := .type "enumerate", data := .fields #[.none, .bool false, .ref s.heap.objs.size, rawInt 0, .none, .none] }) rfl
    rw [hz] at this; exact this
  refine ⟨⟨_, he, rfl⟩, h _ he ⟨_, Heap.get?_push_of_some _ (Heap.get?_push_size _ rfl), rfl, rfl⟩ (by rw [Heap.size_push, hz]) fun b o x => Heap.get?_push_of_some _ (Heap.get?_push_of_some _ x)⟩
end
end PySem
namespace Gr2
open PySem PySem.Spec PyProof.Rows L2 GxR Gx Gd
/-- the tuple at a, each item with its number in a new pair -/
def Iett (K : PySem.W.Frag) (a : Addr) : It :=
  ⟨fun i H => ∃ (xs : List V) (x : V), SqT K H a xs ∧ xs[i]? = some x, fun i H v H' => ∃ T x, v = .ref T ∧ H T = none ∧ H' = upd H T (.tup [.int (i : Nat), x]) ∧ ∀ xs, SqT K H a xs → xs[i]? = some x, fun i H => ∃ xs : List V, SqT K H a xs ∧ xs.length = i⟩
theorem turn_enumT {P : Program} {w : World} {K : PySem.W.Frag} {elts : List Expr} {kk : Nat} {tpos : Pos} (a e it : Addr) :
    Turn P w K (.Tuple elts kk tpos) (Iett K a) [e, it] e (fun i h => (∃ old, IsEnum h e it ((i : Nat) : Int) old) ∧ h.IsTupleIter it a i ∧ e ≠ it) where
  mem := by simp
  obj := fun i h st b hb => by
    obtain ⟨⟨old, he⟩, ⟨o, ho, hc, hd⟩, _⟩ := st
    have e' : b = e ∨ b = it := by simpa using hb
    rcases e' with z | z
    · rw [z]; exact ⟨_, he, fun v q => nomatch q⟩
    · rw [z]; exact ⟨o, ho, fun v q => by rw [hd] at q; cases q⟩
  keep := fun i h h' st k => let ⟨⟨old, he⟩, hi, hne⟩ := st; ⟨⟨old, k e (by simp) _ he⟩, hi.at fun o q => k it (by simp) o q, hne⟩
  item := by
    intro X hP hw hK hc i pins s σ H E I hf st hg
    subst hP hw hK
    obtain ⟨⟨old, he⟩, hit, hne⟩ := st
    obtain ⟨xs, x, hq, hx⟩ := hg
    obtain ⟨its, rv, p, hz⟩ := I.tuple hq
    obtain ⟨u, hu, ru⟩ := rv.get hx
    have hel : e < s.heap.objs.size := Heap.lt_size he
    have hil : it < s.heap.objs.size := by obtain ⟨_, q, _⟩ := hit; exact Heap.lt_size q
    have nae : a ≠ e := fun z => by
      obtain ⟨o, ho, hc, _⟩ := p
      have he : s.heap.get? e = some _ := he
      rw [z, he] at ho
      cases ho
      have hc : (Value.type "enumerate") = Value.type "tuple" := hc
      injection hc with h
      exact absurd h (by decide)
    have nai : a ≠ it := fun z => by
      obtain ⟨o, ho, hc, _⟩ := p
      obtain ⟨o2, ho2, hc2, _⟩ := hit
      rw [z, ho2] at ho
      cases ho
      rw [hc2] at hc
      injection hc with h
      exact absurd h (by decide)
    have hlt : i < its.toArray.size := by
      have h := List.getElem?_eq_some_iff.mp hu
      simpa using h.1
    refine wpAny_pyNext_enum_itemD (Draws.tuple (A := X.A.in1) (I.ok.hd hc) it a nai its.toArray) he ⟨hit, p⟩ hlt hne (by simp only [List.mem_cons, List.not_mem_nil, or_false]; exact fun z => z.elim hne fun z => nae z.symm) fun y h' tk hy ho hit' hT hsz hk => ?_
    obtain rfl : y = u := by
      have hy : its.toArray[i]? = some y := hy
      rw [List.getElem?_toArray, hu] at hy
      exact (Option.some.inj hy).symm
    refine ⟨_, rfl, wpAny_letOwnedTupleGo_enum (s := { s with heap := h', toks := tk + 1 }) ho fun h'' he' sb => ?_⟩
    have hT2 : h''.get? s.heap.objs.size = some { cls := .type "tuple", data := .seq #[.int i tk, y] } := (sb.2 _ (Nat.ne_of_gt hel)).trans hT
    have new : ObjOk X.prog X.w (upd H s.heap.objs.size (.tup [.int (i : Nat), x])) h'' s.heap.objs.size (.tup [.int (i : Nat), x]) :=
      ⟨by show 2 ≤ sizeLine; decide, [.int i tk, y], .cons ⟨_, rfl⟩ (.cons ru .nil), ⟨_, hT2, rfl, _, rfl⟩⟩
    have I1 : Inv X pins σ (upd H s.heap.objs.size (.tup [.int (i : Nat), x])) { s with heap := h'', toks := tk + 1 } :=
      I.turnedNew (ch := [e, it]) (fun b ob hb q => (sb.2 b (fun z => hb (by simp [z]))).trans (hk b ob (fun z => hb (by simp [z])) (fun z => hb (by simp [z])) q)) hf (Nat.le_refl _) new
    refine ⟨.ref s.heap.objs.size, _, I1, rfl, ⟨_, x, rfl, I.hok.fresh (Nat.le_refl _), rfl, fun ys hy => by rw [I.tuple_inj hy hq]; exact hx⟩, ⟨⟨y, ?_⟩, hit'.1.at fun o q => (sb.2 it (Ne.symm hne)).trans q, hne⟩, fun b hb => ?_⟩
    · have e1 : ((i + 1 : Nat) : Int) = (i : Int) + 1 := by omega
      rw [e1]; exact he'
    · have hb' : b < s.heap.objs.size := by
        have e' : b = e ∨ b = it := by simpa using hb
        rcases e' with z | z
        · rw [z]; exact hel
        · rw [z]; exact hil
      rw [upd_ne (Nat.ne_of_lt hb')]
      exact (hf b hb).1
  done := by
    intro X hP hw hK hc i pins s σ H E I hf st hg
    subst hP hw hK
    obtain ⟨⟨old, he⟩, hit, hne⟩ := st
    obtain ⟨xs, hq, hx⟩ := hg
    obtain ⟨its, rv, p, hz⟩ := I.tuple hq
    obtain ⟨f0, f1, f2, f3, f4, f5⟩ := hf it (by simp)
    have hl := rv.length
    have nai : a ≠ it := fun z => by
      obtain ⟨o, ho, hc, _⟩ := p
      obtain ⟨o2, ho2, hc2, _⟩ := hit
      rw [z, ho2] at ho
      cases ho
      rw [hc2] at hc
      injection hc with h
      exact absurd h (by decide)
    have hn : i = its.toArray.size := by simp; omega
    subst hn
    exact wpAny_pyNext_enum_endD (Draws.tuple (A := X.A.in1) (I.ok.hd hc) it a nai its.toArray) he ⟨hit, p⟩ fun h' eb => ⟨rfl, I.turned (t' := s.toks) (fun b o hb q => eb b o hb q) f0 f1 f3 f4 f5⟩
  self := fun A i s Q E st h => let ⟨⟨_, he⟩, _⟩ := st; wpAny_pyIter_enum he h
def iEnumT (K : PySem.W.Frag) (ta : TA) : TI := fun σ H R => ta σ H fun vs H1 => ∃ a xs, vs = [.ref a] ∧ SqT K H1 a xs ∧ R (Iett K a) H1
theorem pi_enumT {X : Cx} {e : Expr} {ta : TA} {p pos tpos : Pos} {elts : List Expr} {kk : Nat} (hg : Gl X "enumerate") (hm : X.mg "enumerate" = none) (ha : PA X [e] ta) (hs : starEach [e] X.env = [(false, eval e X.env)] := by rfl) :
    PI X (.Tuple elts kk tpos) (.Call (.Name "enumerate" p) [e] [] pos) (iEnumT X.K ta) := by
  refine ⟨fun pins s σ H R I h => ?_⟩
  refine Call_ (ld_blt I hg hm boot_enumerate (PyProof.Rows.callWith_type1 (thn (ha.run pos pins s σ H _ I h) fun us s1 ⟨vs, H1, I1, r1, q1⟩ => ?_) hs rfl))
  obtain ⟨a, xs, ex, hq, q⟩ := q1
  subst ex
  cases r1 with
  | cons r rr =>
    cases rr
    cases r
    obtain ⟨its, rv, p', hz⟩ := I1.tuple hq
    refine gr_call_enumT p' fun h' he hit hsz hk => wpAny_pyIter_enum he ?_
    have I2 : Inv X pins σ H1 { s1 with heap := h' } := I1.kept (t' := s1.toks) hk
    refine ⟨s1.heap.objs.size + 1, [s1.heap.objs.size + 1, s1.heap.objs.size], _, _, H1, rfl, I2, turn_enumT a (s1.heap.objs.size + 1) s1.heap.objs.size, ⟨⟨.none, he⟩, hit, Nat.succ_ne_self _⟩, fun b hb => ?_, q⟩
    have e' : b = s1.heap.objs.size + 1 ∨ b = s1.heap.objs.size := by simpa using hb
    have hle : s1.heap.objs.size ≤ b := by
      rcases e' with z | z
      · rw [z]; exact Nat.le_add_right _ _
      · rw [z]; exact Nat.le_refl _
    exact I1.fpOk hle (I1.hok.fresh hle)
/-- the turns of enumerate over a tuple, for the for loop -/
theorem for_enumT {K : PySem.W.Frag} {a : Addr} {xs : List V} {g : TG} {tb : TS} {D : Ends} {σ : L2.St} {H : Hp} (Pv : Nat → L2.St → Hp → Prop) (h0 : Pv 0 σ H) (hl : ∀ i σ H, i ≤ xs.length → Pv i σ H → SqT K H a xs)
    (hs : ∀ i x T σ H, xs[i]? = some x → Pv i σ H → H T = none → g (.ref T) σ (upd H T (.tup [.int (i : Nat), x])) fun σ2 H2 => tb { D with nx := Pv (i + 1), ct := Pv (i + 1), bk := D.nx } σ2 H2) (hd : ∀ σ H, Pv xs.length σ H → D.nx σ H) :
    ∃ W : Nat → Nat → L2.St → Hp → Prop, (∃ m, W 0 m σ H) ∧ ∀ i m σ H, W i m σ H →
      ((Iett K a).stop i H ∧ D.nx σ H) ∨ ((Iett K a).go i H ∧ ∃ N : L2.St → Hp → Prop, (∀ σ' H', N σ' H' → ∃ m', m' < m ∧ W (i + 1) m' σ' H') ∧ ∀ x H', (Iett K a).yld i H x H' → g x σ H' fun σ2 H2 => tb { D with nx := N, ct := N, bk := D.nx } σ2 H2) := by
  refine ⟨fun i m σ H => m = xs.length - i ∧ i ≤ xs.length ∧ Pv i σ H, ⟨xs.length, rfl, Nat.zero_le _, h0⟩, ?_⟩
  rintro i m σ H ⟨rfl, hi, p⟩
  have q := hl i σ H hi p
  by_cases hlt : i < xs.length
  · refine .inr ⟨⟨xs, xs[i], q, List.getElem?_eq_getElem hlt⟩, Pv (i + 1), fun σ' H' p' => ⟨xs.length - (i + 1), by omega, rfl, hlt, p'⟩, fun v H' y => ?_⟩
    obtain ⟨T, x, rfl, hT, rfl, hx⟩ := y
    exact hs i x T σ H (hx xs q) p hT
  · have e : i = xs.length := by omega
    subst e
    exact .inl ⟨⟨xs, q, rfl⟩, hd σ H p⟩
end Gr2

set_option Elab.async false
set_option linter.all false
set_option maxRecDepth 100000
set_option maxHeartbeats 2000000
/-! Tuples put together, the empty one too: by what stands at the end. -/
namespace PySem
open Sem (wp)
open AutoSeq1 (wpAny_loadPart')
theorem go_mul0 (l : Addr) (n : Nat) (dd : Option Addr) (sl : Array (Option Value)) (x : Int) (u : Tok) (c0 : (decide (x < -(2 ^ 63)) || decide (x ≥ 2 ^ 63)) = false) :
    Meets (Builtin.«tuple.__mul__» ⟨[.ref l, .int x u], []⟩) (fun _ R s => s.heap.get? l = some { cls := .type "tuple", dict := dd, data := .seq #[] n, slots := sl } ∧ R (.ok (.ret (Value.ref l))) s) :=
  .of_wp fun prog w A R s h => by
    obtain ⟨hp, g, d, tk, os⟩ := s
    obtain ⟨hl, h⟩ := h
    have f1 := AutoSeq1.idx_int
    wp_walk using wpAny_loadPart' hl
    repeat (first
      | (refine wpAny_ite_false (decide_eq_false (by rw [c0]; exact Bool.false_ne_true)) ?_; wp_walk using wpAny_loadPart' hl)
      | (refine wpAny_ite_true (decide_eq_true (by rfl)) ?_; wp_walk using wpAny_loadPart' hl))
    all_goals (first | exact ⟨_, rfl, h⟩ | skip)
end PySem
namespace Go
open PySem PySem.Spec PyProof.Rows L2 GxR Gx Gd
section
variable {X : Cx}
theorem same_upd {H : Hp} {p : Addr} {o : HO} (h : H p = none) : Same H (upd H p o) := same_new h
def rSlX (K : PySem.W.Frag) : V → Option Int → Option Int → Hp → VK → Prop := fun x lo hi H Q => ∃ a xs, x = .ref a ∧ SqT K H a xs ∧ ∀ (p : Addr) (H' : Hp), SqT K H' p (cutV xs lo hi) → Same H H' → Q (.ref p) H'
theorem sl_tupX : SlR X (rSlX X.K) := by
  intro pins s σ H x v vl vu lo hi sl Q I rx hs pl pu h
  obtain ⟨a, xs, rfl, hx, q⟩ := h
  refine sl_tupA pins s σ H _ v vl vu lo hi sl Q I rx hs pl pu ⟨a, xs, rfl, hx, fun e => ?_, fun _ p hp => q p _ (SqT.of upd_same) (same_new hp)⟩
  refine q a H ?_ (Same.refl H)
  have e2 : cutV xs lo hi = xs := by
    unfold cutV
    rw [e.1, e.2, List.drop_zero, Nat.sub_zero, List.take_length]
  rw [e2]
  exact hx
def rCatX (K : PySem.W.Frag) : R2 := fun x y H Q => ∃ a b xs ys, x = .ref a ∧ y = .ref b ∧ SqT K H a xs ∧ SqT K H b ys ∧ xs.length + ys.length ≤ sizeLine ∧ ∀ (p : Addr) (H' : Hp), SqT K H' p (xs ++ ys) → Same H H' → Q (.ref p) H'
theorem op_catX : OpR X (binaryOp .Add) (rCatX X.K) := by
  intro pins s σ H x y v u Q I rx ry h
  obtain ⟨a, b, xs, ys, rfl, rfl, ha, hb, hz, q⟩ := h
  refine op_catA pins s σ H _ _ v u Q I rx ry ⟨a, b, xs, ys, rfl, rfl, ha, hb, hz, fun e => ?_, fun _ e => ?_, fun _ _ p hp => q p _ (SqT.of upd_same) (same_new hp)⟩
  · refine q b H ?_ (Same.refl H)
    rw [e, List.nil_append]
    exact hb
  · refine q a H ?_ (Same.refl H)
    rw [e, List.append_nil]
    exact ha
def rRepX (K : PySem.W.Frag) : R2 := fun x y H Q => ∃ l k xs, x = .ref l ∧ y = .int k ∧ SqT K H l xs ∧ 2 ≤ k ∧ k ≤ 1000 ∧ xs.length ≤ 1000 ∧ ∀ (p : Addr) (H' : Hp), SqT K H' p (List.replicate k.toNat xs).flatten → Same H H' → Q (.ref p) H'
theorem op_repX : OpR X (binaryOp .Mult) (rRepX X.K) := by
  intro pins s σ H x y v u Q I rx ry h
  obtain ⟨l, k, xs, rfl, rfl, hT, h1, h2, hz, q⟩ := h
  by_cases hx : xs = []
  · subst hx
    have q := q l H (by rw [show (List.replicate k.toNat ([] : List V)).flatten = [] from List.flatten_eq_nil_iff.mpr fun y hy => List.eq_of_mem_replicate hy]; exact hT) (Same.refl H)
    cases rx
    obtain ⟨t, rfl⟩ := ry
    obtain ⟨its, r, ⟨⟨cls, dd, data, sl⟩, ho, hc, n, hd⟩, hs⟩ := I.tuple hT
    simp only at hc hd
    subst hc hd
    cases r
    have c0 : (decide (k < -(2 ^ 63)) || decide (k ≥ 2 ^ 63)) = false := by
      rw [decide_eq_false (by omega), decide_eq_false (by omega)] <;> rfl
    refine wpAny_binaryOp_repeat_ref (T := "tuple") (U := "int") (by decide) ⟨_, ho, rfl⟩ (fun s' => typeIs_int s' k t) noFill_tuple_mul F.fills_int_mul F.slot_int_rmul repeat_tuple F.slot_int_index.lookup
      (call_meets F.slot_int_rmul (typeIs_int s k t) F.entry_int_rmul (F.args_int_rmul_2 _ _) (int_rmul_tuple k t l _ n dd sl)
        ⟨ho, rfl, ⟨_, ho, rfl⟩, call_meets F.slot_tuple_mul ⟨_, ho, rfl⟩ F.entry_tuple_mul (F.args_tuple_mul_2 _ _) (go_mul0 l n dd sl k t c0) ⟨ho, ?_⟩⟩)
    exact ⟨.ref l, H, I, rfl, q⟩
  · exact op_repT pins s σ H _ _ v u Q I rx ry ⟨l, k, xs, rfl, rfl, hT, hx, h1, h2, hz, fun p hp => q p _ (SqT.of upd_same) (same_new hp)⟩
end
end Go

set_option Elab.async false
set_option linter.all false
set_option maxRecDepth 100000
set_option maxHeartbeats 2000000
namespace K36
open PySem PySem.Spec PyProof.Rows L2 GxR Gx Gq Gd Gn Gm Gc Gk Gw Gt Gb Gp Gu
def top (i : Nat) : Stmt := PySem.Challenge.pw_mastershow_k36_groups_and_times.main.body.getD i (.Pass ⟨0, 0, 0, 0⟩)
abbrev FnP (K : PySem.W.Frag) (x : Str) (st : Stmt) (f : Addr) (fd : FuncData) : Prop := FunD K x x (defArgs st) (defBody st) (defScope st) [] [] f fd
structure Txt (mg : Str → Option Value) : Prop where
  m_len : mg "len" = none
  m_bool : mg "bool" = none
  m_isinstance : mg "isinstance" = none
  m_list : mg "list" = none
  m_range : mg "range" = none
  m_int : mg "int" = none
  m_tuple : mg "tuple" = none
  m_max : mg "max" = none
  m_min : mg "min" = none
  m_str : mg "str" = none
  m_all : mg "all" = none
  m_zip : mg "zip" = none
  m_enumerate : mg "enumerate" = none
  m_ValueError : mg "ValueError" = none
abbrev sis_whole : Stmt := top 26
theorem scis_whole : FnScope ["thing"] ["thing"] (defScope sis_whole) := ⟨rfl, rfl, rfl, by decide +kernel, rfl, by decide +kernel, by decide +kernel⟩
abbrev sis_whole_within : Stmt := top 27
theorem scis_whole_within : FnScope ["thing", "low", "high"] ["thing", "low", "high"] (defScope sis_whole_within) := ⟨rfl, rfl, rfl, by decide +kernel, rfl, by decide +kernel, by decide +kernel⟩
abbrev sis_one_of : Stmt := top 28
theorem scis_one_of : FnScope ["thing", "words"] ["thing", "words"] (defScope sis_one_of) := ⟨rfl, rfl, rfl, by decide +kernel, rfl, by decide +kernel, by decide +kernel⟩
abbrev sis_tuple_of : Stmt := top 29
theorem scis_tuple_of : FnScope ["thing", "many"] ["thing", "many"] (defScope sis_tuple_of) := ⟨rfl, rfl, rfl, by decide +kernel, rfl, by decide +kernel, by decide +kernel⟩
abbrev sis_tuple_within : Stmt := top 30
theorem scis_tuple_within : FnScope ["thing", "least", "most"] ["thing", "least", "most"] (defScope sis_tuple_within) := ⟨rfl, rfl, rfl, by decide +kernel, rfl, by decide +kernel, by decide +kernel⟩
abbrev sis_name : Stmt := top 36
theorem scis_name : FnScope ["thing"] ["thing"] (defScope sis_name) := ⟨rfl, rfl, rfl, by decide +kernel, rfl, by decide +kernel, by decide +kernel⟩
abbrev sis_step : Stmt := top 42
theorem scis_step : FnScope ["thing", "kind", "wait", "deed", "place", "line"] ["thing"] (defScope sis_step) := ⟨rfl, rfl, rfl, by decide +kernel, rfl, by decide +kernel, by decide +kernel⟩
abbrev sis_steps : Stmt := top 43
theorem scis_steps : FnScope ["thing", "step"] ["thing"] (defScope sis_steps) := ⟨rfl, rfl, rfl, by decide +kernel, rfl, by decide +kernel, by decide +kernel⟩
section
variable {P : Program} {w : World} {K : PySem.W.Frag} {mg : Str → Option Value} {base : Heap}
def spWhole : Sp := fun vs H Q _ => ∃ v, vs = [v] ∧ Th H v ∧ Q (.bl (wholeV v)) H
theorem ok_whole {f : Addr} {fd : FuncData} (F : FnP K "is_whole" sis_whole f fd) (T : Txt mg) : FnOk P w K mg base CX0 1 f fd ["thing"] spWhole := by
  refine okN F scis_whole (fun vs H Q E h => ?_) (fun cdv A outer s H vs Q E hr h => ?_)
  · obtain ⟨v, rfl, _⟩ := h
    rfl
  · obtain ⟨v, rfl, hT, q⟩ := h
    refine ⟨_, (pss_one (ps_ret (pe_and (pe_callB call_isi (by rfl) T.m_isinstance (by decide +kernel) (pa_cons (pv 0) (pa_cons (pe_bltn (v := .ty "int") (u := .type "int") rfl T.m_int (by decide +kernel) rfl) pa_nil))) (pe_one (pe_not (pe_callB call_isi (by rfl) T.m_isinstance (by decide +kernel) (pa_cons (pv 0) (pa_cons (pe_bltn (v := .ty "bool") (u := .type "bool") rfl T.m_bool (by decide +kernel) rfl) pa_nil)))))))), ?_⟩
    obtain ⟨t, ty, kt⟩ := Th.int_ (K := K) hT
    obtain ⟨t', ty', kt'⟩ := Th.bool_ (K := K) hT
    refine ⟨_, rfl, v, .ty "int", t, .type "int", isInt v, rfl, .ty "int", ty, kt, _, rfl, ?_⟩
    cases hT with
    | int i =>
      refine iteT ?_
      exact ⟨_, rfl, .int i, .ty "bool", t', .type "bool", false, rfl, .ty "bool", ty', kt', _, rfl, q⟩
    | bl b =>
      refine iteT ?_
      exact ⟨_, rfl, .bl b, .ty "bool", t', .type "bool", true, rfl, .ty "bool", ty', kt', _, rfl, q⟩
    | _ => exact q

/-! ### is_name -/
def spName (P' : Addr) : Sp := fun vs H Q _ => ∃ v, vs = [v] ∧ Th H v ∧ (∀ z, v = .str z → z.length ≤ sizeLine) ∧ TabG H P' ∧ ∀ H2, Tabbed P' H H2 → Q (.bl (nameV v)) H2
theorem ok_name {fd : FuncData} {P' : Addr} (F : FnP K "is_name" sis_name (He.fAd K ("is_name", none)) fd) (T : Txt mg) (B : TabB base mg (He.codeOf K ("is_name", none)) P') {t1 t2 t3 : Tok}
    (g1 : mg "LETTERS" = some (.str LETS t1)) (g2 : mg "FIGURES" = some (.str FIGS t2)) (g3 : mg "LONGEST_NAME" = some (.int 8 t3)) :
    FnOk P w K mg base CX0 1 (He.fAd K ("is_name", none)) fd ["thing"] (spName P') := by
  refine okCN F scis_name (fun vs H Q E h => ?_) (fun cdv A outer s H vs Q E hc hr h => ?_)
  · obtain ⟨v, rfl, _⟩ := h
    rfl
  · obtain ⟨v, rfl, hT, hz, hG, q⟩ := h
    subst hc
    refine ⟨_, (pss_cons (ps_if (PW.pt (pw_or (pt_not (pt_val (pe_callB call_isi (by rfl) T.m_isinstance (by decide +kernel) (pa_cons (pv 0) (pa_cons (pe_bltn (v := .ty "str") (u := .type "str") rfl T.m_str (by decide +kernel) rfl) pa_nil))))) (pw_or1 (pt_not (pt_chain op_le op_le pe_int (pe_callB call_len_str (by rfl) T.m_len (by decide +kernel) (pa_cons (pv 0) pa_nil)) (pe_glob (v := .int 8) rfl g3 ⟨_, rfl⟩)))))) (pss_one (ps_ret pe_bl)) pss_nil)
      (pss_one (ps_ret (pe_and (pe_cmpR op_in_sign (pe_ix ix_str (pv 0) pe_int (fun _ _ => rfl)) (pe_glob (v := .str LETS) rfl g1 ⟨_, rfl⟩) rfl) (pe_one (pe_allG hr rfl T.m_all B rfl (gs_plain rfl rfl rfl rfl (by decide +kernel)) (pv 0) (elt_or (elt_inG rfl rfl rfl g1) (elt_inG rfl rfl rfl g2)))))))), ?_⟩
    obtain ⟨t, ty, kt⟩ := hT.str_ (K := K)
    refine ⟨_, rfl, v, .ty "str", t, .type "str", isStr v, rfl, .ty "str", ty, kt, _, rfl, ?_⟩
    have same : Tabbed P' H H := ⟨hG, fun _ _ => rfl⟩
    cases hs : isStr v with
    | false =>
      have q1 := q H same
      rw [nameV_no hs] at q1
      exact iteT (iteT q1)
    | true =>
      obtain ⟨z, rfl⟩ : ∃ z, v = .str z := by cases v <;> first | exact ⟨_, rfl⟩ | cases hs
      refine iteF ?_
      refine ⟨_, rfl, _, rfl, hz z rfl, _, _, rfl, rfl, _, rfl, ?_⟩
      have nb : nameV (.str z) = (decide (1 ≤ (z.length : Int)) && (decide ((z.length : Int) ≤ 8) && ((match z.cps.toList with
        | [] => false
        | c :: _ => isLet c) && z.cps.toList.all fun c => isLet c || isFig c))) := rfl
      rw [nb] at q
      refine iteB (fun c1 => ?_) fun c1 => ?_
      · obtain ⟨c, r, ec⟩ := head_of (of_decide_eq_true c1)
        rw [c1, ec] at q
        refine ⟨_, _, rfl, rfl, _, rfl, iteNb (fun c2 => ?_) fun c2 => ?_⟩
        · rw [c2] at q
          exact q H same
        · rw [c2] at q
          refine ⟨_, rfl, z, 0, c, rfl, rfl, hz z rfl, at_any (xs := z.cps.toList) (v := c) (j := 0) rfl (by rw [ec]; rfl), c, LETS, rfl, rfl, _, rfl, iteB (fun c3 => ?_) fun c3 => ?_⟩
          · refine ⟨_, rfl, z, rfl, hG, fun H2 h2 => ?_⟩
            have q2 : Q (.bl (isLet c && (c :: r).all fun c => isLet c || isFig c)) H2 := q H2 h2
            rw [show isLet c = true from c3] at q2
            rw [ec]
            exact q2
          · have q2 : Q (.bl (isLet c && (c :: r).all fun c => isLet c || isFig c)) H := q H same
            rw [show isLet c = false from c3] at q2
            exact q2
      · rw [c1] at q
        exact ⟨_, rfl, iteT (q H same)⟩

theorem ok_oneof {f : Addr} {fd : FuncData} (F : FnP K "is_one_of" sis_one_of f fd) (T : Txt mg) : FnOk P w K mg base CX0 1 f fd ["thing", "words"] (spOneOf K) := by
  refine okN F scis_one_of (fun vs H Q E h => ?_) (fun cdv A outer s H vs Q E hr h => ?_)
  · obtain ⟨v, a, xs, rfl, _⟩ := h
    rfl
  · obtain ⟨v, a, xs, rfl, hT, ha, hf, q⟩ := h
    refine ⟨_, (pss_one (ps_ret (pe_and (pe_callB call_isi (by rfl) T.m_isinstance (by decide +kernel) (pa_cons (pv 0) (pa_cons (pe_bltn (v := .ty "str") (u := .type "str") rfl T.m_str (by decide +kernel) rfl) pa_nil))) (pe_one (pe_cmpR op_in_seq (pv 0) (pv 1) rfl))))), ?_⟩
    obtain ⟨t, ty, kt⟩ := hT.str_ (K := K)
    refine ⟨_, rfl, v, .ty "str", t, .type "str", isStr v, rfl, .ty "str", ty, kt, _, rfl, ?_⟩
    cases hs : isStr v with
    | false =>
      rw [hs] at q
      exact q
    | true =>
      obtain ⟨z, rfl⟩ : ∃ z, v = .str z := by cases v <;> first | exact ⟨_, rfl⟩ | cases hs
      refine iteT ?_
      exact ⟨_, rfl, _, rfl, _, xs, rfl, .inr ha, rfl, hf, q⟩

def spWithin : Sp := fun vs H Q _ => ∃ (v : V) (lo hi : Int), vs = [v, .int lo, .int hi] ∧ Th H v ∧ Q (.bl (withB lo hi v)) H
theorem ok_within {f : Addr} {fd : FuncData} (F : FnP K "is_whole_within" sis_whole_within f fd) (T : Txt mg) (D_is_whole : Dn P w K mg base 1 "is_whole" ["thing"] spWhole) : FnOk P w K mg base CX0 2 f fd ["thing", "low", "high"] spWithin := by
  refine okN F scis_whole_within (fun vs H Q E h => ?_) (fun cdv A outer s H vs Q E hr h => ?_)
  · obtain ⟨v, lo, hi, rfl, _⟩ := h
    rfl
  · obtain ⟨v, lo, hi, rfl, hT, q⟩ := h
    refine ⟨_, (pss_one (ps_ret (pe_and (pe_dn D_is_whole (hr.mono (by decide)) rfl (pa_cons (pv 0) pa_nil)) (pe_one (pe_chain op_le op_le (pv 1) (pv 0) (pv 2)))))), ?_⟩
    refine ⟨_, rfl, v, rfl, hT, _, rfl, ?_⟩
    cases hw : wholeV v with
    | false =>
      have e : withB lo hi v = false := by cases v <;> first | rfl | cases hw
      rw [e] at q
      exact q
    | true =>
      obtain ⟨i, rfl⟩ : ∃ i, v = .int i := by cases v <;> first | exact ⟨_, rfl⟩ | cases hw
      refine iteT ?_
      have nb : withB lo hi (.int i) = (decide (lo ≤ i) && decide (i ≤ hi)) := rfl
      rw [nb] at q
      refine ⟨_, rfl, _, rfl, _, _, rfl, rfl, _, rfl, iteB (fun h3 => ?_) fun h3 => ?_⟩
      · rw [h3] at q
        exact ⟨_, rfl, _, _, rfl, rfl, q⟩
      · rw [h3] at q
        exact q

/-! ### tuples of so many things -/
/-- whether it is a tuple, and of which things -/
inductive Tu (K : PySem.W.Frag) (H : Hp) : V → Option (List V) → Prop where
  | yes {a : Addr} {xs : List V} (e : SqT K H a xs) : Tu K H (.ref a) (some xs)
  | no {v : V} (h : ∃ t, TyX K H v t ∧ PySem.W.kitOne K t (.type "tuple") = some false) : Tu K H v none
def tupB (lo hi : Int) : Option (List V) → Bool
  | some xs => decide (lo ≤ (xs.length : Int)) && decide ((xs.length : Int) ≤ hi)
  | none => false
theorem tupB_0 {hi : Int} {xs : List V} : tupB 0 hi (some xs) = decide ((xs.length : Int) ≤ hi) := by
  show (decide (0 ≤ (xs.length : Int)) && decide ((xs.length : Int) ≤ hi)) = _
  rw [decide_eq_true (show (0 : Int) ≤ (xs.length : Int) by omega), Bool.true_and]
def spTupW (K : PySem.W.Frag) : Sp := fun vs H Q _ => ∃ (v : V) (lo hi : Int) (o : Option (List V)), vs = [v, .int lo, .int hi] ∧ Tu K H v o ∧ Q (.bl (tupB lo hi o)) H
theorem isTupW {H : Hp} {a : Addr} {xs : List V} (e : SqT K H a xs) : ∃ t, TyX K H (.ref a) t ∧ PySem.W.kitOne K t (.type "tuple") = some true := by
  rcases e with (e | ⟨o, e⟩) | ⟨o, its, n, e, c, _⟩
  · exact ⟨_, .base (.tup e), kit_ty (r := true) (by decide +kernel)⟩
  · exact ⟨_, .fTuple e, kit_ty (r := true) (by decide +kernel)⟩
  · exact ⟨_, .kTuple e c, kit_ty (r := true) (by decide +kernel)⟩
theorem ok_tupw {f : Addr} {fd : FuncData} (F : FnP K "is_tuple_within" sis_tuple_within f fd) (T : Txt mg) : FnOk P w K mg base CX0 1 f fd ["thing", "least", "most"] (spTupW K) := by
  refine okN F scis_tuple_within (fun vs H Q E h => ?_) (fun cdv A outer s H vs Q E hr h => ?_)
  · obtain ⟨v, lo, hi, o, rfl, _⟩ := h
    rfl
  · obtain ⟨v, lo, hi, o, rfl, hT, q⟩ := h
    refine ⟨_, (pss_one (ps_ret (pe_and (pe_callB call_isi (by rfl) T.m_isinstance (by decide +kernel) (pa_cons (pv 0) (pa_cons (pe_bltn (v := .ty "tuple") (u := .type "tuple") rfl T.m_tuple (by decide +kernel) rfl) pa_nil))) (pe_one (pe_chain op_le op_le (pv 1) (pe_callB call_len_seq (by rfl) T.m_len (by decide +kernel) (pa_cons (pv 0) pa_nil)) (pv 2)))))), ?_⟩
    cases hT with
    | no hk =>
      obtain ⟨t, ty, kt⟩ := hk
      exact ⟨_, rfl, v, .ty "tuple", t, .type "tuple", false, rfl, .ty "tuple", ty, kt, _, rfl, iteF q⟩
    | @yes a xs e =>
      obtain ⟨t, ty, kt⟩ := isTupW e
      refine ⟨_, rfl, .ref a, .ty "tuple", t, .type "tuple", true, rfl, .ty "tuple", ty, kt, _, rfl, iteT ?_⟩
      have q : Q (.bl (decide (lo ≤ (xs.length : Int)) && decide ((xs.length : Int) ≤ hi))) H := q
      refine ⟨_, rfl, _, rfl, a, xs, rfl, .inr e, _, _, rfl, rfl, _, rfl, iteB (fun h1 => ?_) fun h1 => ?_⟩
      · rw [h1] at q
        exact ⟨_, rfl, _, _, rfl, rfl, q⟩
      · rw [h1] at q
        exact q

/-! ### steps -/
def spTupO (K : PySem.W.Frag) : Sp := fun vs H Q _ => ∃ (v : V) (n : Int) (o : Option (List V)), vs = [v, .int n] ∧ Tu K H v o ∧ Q (.bl (match o with | some xs => decide (V.int (xs.length : Int) = V.int n) | none => false)) H
theorem ok_tupo {f : Addr} {fd : FuncData} (F : FnP K "is_tuple_of" sis_tuple_of f fd) (T : Txt mg) : FnOk P w K mg base CX0 1 f fd ["thing", "many"] (spTupO K) := by
  refine okN F scis_tuple_of (fun vs H Q E h => ?_) (fun cdv A outer s H vs Q E hr h => ?_)
  · obtain ⟨v, n, o, rfl, _⟩ := h
    rfl
  · obtain ⟨v, n, o, rfl, hT, q⟩ := h
    refine ⟨_, (pss_one (ps_ret (pe_and (pe_callB call_isi (by rfl) T.m_isinstance (by decide +kernel) (pa_cons (pv 0) (pa_cons (pe_bltn (v := .ty "tuple") (u := .type "tuple") rfl T.m_tuple (by decide +kernel) rfl) pa_nil))) (pe_one (pe_cmpR op_eq (pe_callB call_len_seq (by rfl) T.m_len (by decide +kernel) (pa_cons (pv 0) pa_nil)) (pv 1) (nomark _)))))), ?_⟩
    cases hT with
    | no hk =>
      obtain ⟨t, ty, kt⟩ := hk
      exact ⟨_, rfl, v, .ty "tuple", t, .type "tuple", false, rfl, .ty "tuple", ty, kt, _, rfl, iteF q⟩
    | @yes a xs e =>
      obtain ⟨t, ty, kt⟩ := isTupW e
      refine ⟨_, rfl, .ref a, .ty "tuple", t, .type "tuple", true, rfl, .ty "tuple", ty, kt, _, rfl, iteT ?_⟩
      exact ⟨_, rfl, a, xs, rfl, .inr e, _, rfl, rfl, q⟩
theorem tu_of {H : Hp} {v : V} {b : Bool} (h : StD K H v b) : (∃ (a : Addr) (xs : List V), v = .ref a ∧ SqT K H a xs ∧ (∀ x ∈ xs, Ok1 H x) ∧ b = stepL xs) ∨ (Tu K H v none ∧ b = false) := by
  cases h with
  | tup e h => exact .inl ⟨_, _, rfl, e, h, rfl⟩
  | no h => exact .inr ⟨.no h.ty, rfl⟩
def spStep (K : PySem.W.Frag) (P1 : Addr) : Sp := fun vs H Q _ => ∃ (v : V) (b : Bool), vs = [v] ∧ StD K H v b ∧ TabG H P1 ∧ ∀ H2, Tabbed P1 H H2 → Q (.bl b) H2
theorem tabbed_refl {P1 : Addr} {H : Hp} (g : TabG H P1) : Tabbed P1 H H := ⟨g, fun _ _ => rfl⟩
theorem five {xs : List V} (h : (xs.length : Int) = 5) : ∃ a b c d e, xs = [a, b, c, d, e] := by
  match xs, h with
  | [a, b, c, d, e], _ => exact ⟨a, b, c, d, e, rfl⟩
  | [], h => simp at h
  | [_], h => simp at h
  | [_, _], h => simp at h
  | [_, _, _], h => simp at h
  | [_, _, _, _], h => simp at h
  | _ :: _ :: _ :: _ :: _ :: _ :: _, h => exfalso; simp only [List.length_cons] at h; omega
theorem not_five {xs : List V} (h : ¬ (xs.length : Int) = 5) : stepL xs = false := by
  match xs, h with
  | [a, b, c, d, e], h => exact absurd rfl h
  | [], _ => rfl
  | [_], _ => rfl
  | [_, _], _ => rfl
  | [_, _, _], _ => rfl
  | [_, _, _, _], _ => rfl
  | _ :: _ :: _ :: _ :: _ :: _ :: _, _ => rfl
theorem ok_step {f : Addr} {fd : FuncData} {P1 : Addr} (F : FnP K "is_step" sis_step f fd) (T : Txt mg) (gK : mg "KINDS" = some (.ref (He.ga K "KINDS"))) (kK : ∀ H, SqT K H (He.ga K "KINDS") KNS) (gE : mg "DEEDS" = some (.ref (He.ga K "DEEDS"))) (kE : ∀ H, SqT K H (He.ga K "DEEDS") DDS)
    {t1 t2 : Tok} (gW : mg "LONGEST_WAIT" = some (.int 99 t1)) (gM : mg "MOST_LINES" = some (.int 12 t2)) (D_is_tuple_of : Dn P w K mg base 1 "is_tuple_of" ["thing", "many"] (spTupO K)) (D_is_one_of : Dn P w K mg base 1 "is_one_of" ["thing", "words"] (spOneOf K))
    (D_is_name : Dn P w K mg base 1 "is_name" ["thing"] (spName P1)) (D_is_whole_within : Dn P w K mg base 2 "is_whole_within" ["thing", "low", "high"] spWithin) : FnOk P w K mg base CX0 3 f fd ["thing"] (spStep K P1) := by
  refine okN F scis_step (fun vs H Q E h => ?_) (fun cdv A outer s H vs Q E hr h => ?_)
  · obtain ⟨v, b, rfl, _⟩ := h
    rfl
  · obtain ⟨v, b, rfl, hS, g, q⟩ := h
    refine ⟨_, (pss_cons (ps_if (pt_not (pt_val (pe_dn D_is_tuple_of (hr.mono (by decide)) rfl (pa_cons (pv 0) (pa_cons pe_int pa_nil))))) (pss_one (ps_ret pe_bl)) pss_nil)
      (pss_cons (ps_asg (pv 0) (pg_tup rfl (pgs_cons (pg_name (i := 1) scis_step.nd rfl (Or.inl rfl)) (pgs_cons (pg_name (i := 2) scis_step.nd rfl (Or.inl rfl)) (pgs_cons (pg_name (i := 3) scis_step.nd rfl (Or.inl rfl)) (pgs_cons (pg_name (i := 4) scis_step.nd rfl (Or.inl rfl)) (pgs_cons (pg_name (i := 5) scis_step.nd rfl (Or.inl rfl)) pgs_nil)))))))
      (pss_cons (ps_if (PW.pt (pw_or (pt_not (pt_val (pe_dn D_is_one_of (hr.mono (by decide)) rfl (pa_cons (pv 1) (pa_cons (pe_glob (v := .ref (He.ga K "KINDS")) rfl gK rfl) pa_nil))))) (pw_or (pt_not (pt_val (pe_dn D_is_one_of (hr.mono (by decide)) rfl (pa_cons (pv 3) (pa_cons (pe_glob (v := .ref (He.ga K "DEEDS")) rfl gE rfl) pa_nil))))) (pw_or1 (pt_not (pt_val (pe_dn D_is_name (hr.mono (by decide)) rfl (pa_cons (pv 4) pa_nil)))))))) (pss_one (ps_ret pe_bl)) pss_nil)
      (pss_one (ps_ret (pe_and (pe_dn D_is_whole_within (hr.mono (by decide)) rfl (pa_cons (pv 2) (pa_cons pe_int (pa_cons (pe_glob (v := .int 99) rfl gW ⟨_, rfl⟩) pa_nil)))) (pe_one (pe_or (pe_cmpR op_isN (pv 5) pe_non (nomark _)) (pe_one (pe_dn D_is_whole_within (hr.mono (by decide)) rfl (pa_cons (pv 5) (pa_cons pe_int (pa_cons (pe_op op_sub (pe_glob (v := .int 12) rfl gM ⟨_, rfl⟩) pe_int) pa_nil))))))))))))), ?_⟩
    rcases tu_of hS with ⟨a, xs, rfl, e, hx, rfl⟩ | ⟨hT, rfl⟩
    · refine ⟨_, rfl, .ref a, 5, some xs, rfl, .yes e, _, rfl, iteNb (fun h5 => ?_) fun h5 => ?_⟩
      · have h5 : decide (V.int (xs.length : Int) = V.int 5) = false := h5
        have n5 : ¬ (xs.length : Int) = 5 := fun z => of_decide_eq_false h5 (by rw [z])
        rw [not_five n5] at q
        exact q H (tabbed_refl g)
      · have h5 : decide (V.int (xs.length : Int) = V.int 5) = true := h5
        obtain ⟨kd, wt, dd, pl, ln, rfl⟩ := five (V.int.inj (of_decide_eq_true h5))
        have ok1 := hx kd (by simp)
        have ok2 := hx wt (by simp)
        have ok3 := hx dd (by simp)
        have ok4 := hx pl (by simp)
        have ok5 := hx ln (by simp)
        have q : ∀ H2, Tabbed P1 H H2 → Q (.bl ((isStr kd && inV kd KNS) && ((isStr dd && inV dd DDS) && (nameV pl && (withB 0 99 wt && noneOr (withB 0 11) ln))))) H2 := q
        refine ⟨_, rfl, a, _, rfl, e, rfl, _, _, rfl, _, _, rfl, _, _, rfl, _, _, rfl, _, _, rfl, rfl, ?_⟩
        refine ⟨_, rfl, kd, _, KNS, rfl, ok1.1, kK H, rfl, _, rfl, iteNb (fun h1 => ?_) fun h1 => ?_⟩
        · rw [h1] at q
          exact iteT (q H (tabbed_refl g))
        rw [h1, Bool.true_and] at q
        refine ⟨_, rfl, dd, _, DDS, rfl, ok3.1, kE H, rfl, _, rfl, iteNb (fun h2 => ?_) fun h2 => ?_⟩
        · rw [h2] at q
          exact iteT (q H (tabbed_refl g))
        rw [h2, Bool.true_and] at q
        refine ⟨_, rfl, pl, rfl, ok4.1, ok4.2, g, fun H2 t2 => ?_⟩
        refine ⟨_, rfl, iteNb (fun h3 => ?_) fun h3 => ?_⟩
        · rw [h3] at q
          exact q H2 t2
        rw [h3, Bool.true_and] at q
        have k2 := Tk.tabbed t2
        refine ⟨_, rfl, wt, 0, 99, rfl, (Ok1.tk ok2 g k2).1, _, rfl, iteB (fun h4 => ?_) fun h4 => ?_⟩
        · rw [h4, Bool.true_and] at q
          refine ⟨_, rfl, rfl, _, rfl, iteB (fun h6 => ?_) fun h6 => ?_⟩
          · have q := q H2 t2
            unfold noneOr at q
            rw [h6] at q
            exact q
          · have q := q H2 t2
            unfold noneOr at q
            rw [h6, Bool.false_or] at q
            refine ⟨_, rfl, _, _, rfl, rfl, ln, 0, 11, rfl, (Ok1.tk ok5 g k2).1, q⟩
        · rw [h4] at q
          exact q H2 t2
    · exact ⟨_, rfl, v, 5, none, rfl, hT, _, rfl, iteT (q H (tabbed_refl g))⟩
def spSteps (K : PySem.W.Frag) (P1 P2 : Addr) : Sp := fun vs H Q _ => ∃ (v : V) (b : Bool), vs = [v] ∧ SsD K H v b ∧ TabG H P1 ∧ TabG H P2 ∧ ∀ H2, Tab2 P1 P2 H H2 → Q (.bl b) H2
theorem ok_steps {fd : FuncData} {P1 P2 : Addr} (F : FnP K "is_steps" sis_steps (He.fAd K ("is_steps", none)) fd) (T : Txt mg) (B : GxR.TabB base mg (He.codeOf K ("is_steps", none)) P2) {t3 : Tok} (gS : mg "MOST_STEPS" = some (.int 24 t3))
    (D_is_tuple_within : Dn P w K mg base 1 "is_tuple_within" ["thing", "least", "most"] (spTupW K)) (D_is_step : Dn P w K mg base 3 "is_step" ["thing"] (spStep K P1)) : FnOk P w K mg base CX0 5 (He.fAd K ("is_steps", none)) fd ["thing"] (spSteps K P1 P2) := by
  refine okCN F scis_steps (fun vs H Q E h => ?_) (fun cdv A outer s H vs Q E hc hr h => ?_)
  · obtain ⟨v, b, rfl, _⟩ := h
    rfl
  · obtain ⟨v, b, rfl, hL, g1, g2, q⟩ := h
    subst hc
    refine ⟨_, (pss_one (ps_ret (pe_and (pe_dn D_is_tuple_within (hr.mono (by decide)) rfl (pa_cons (pv 0) (pa_cons pe_int (pa_cons (pe_glob (v := .int 24) rfl gS ⟨_, rfl⟩) pa_nil)))) (pe_one (pe_allQ (own := [("step", 1)]) (gT := gName 1) hr scis_steps.nd rfl T.m_all B rfl (pi_tup (pv 0)) (blkOk_by (own := [("step", 1)]) (N := ["thing", "step"]) (sc := defScope sis_steps) (by decide +kernel)) (by decide +kernel) rfl rfl (fun _ _ _ _ _ _ _ => pg_name (i := 1) scis_steps.nd rfl (Or.inl rfl)) (fun _ _ _ _ _ _ _ room => pe_dn D_is_step (room.mono (by decide)) rfl (pa_cons (pv 1) pa_nil))))))), ?_⟩
    have same := Tab2.refl g1 g2
    cases hL with
    | no hk => exact ⟨_, rfl, v, 0, 24, none, rfl, .no hk.ty, _, rfl, iteF (q H same)⟩
    | @tup a xs e gb hx =>
      refine ⟨_, rfl, .ref a, 0, 24, some xs, rfl, .yes e, _, rfl, ?_⟩
      rw [tupB_0]
      refine iteB (fun h2 => ?_) fun h2 => ?_
      · rw [h2] at q
        refine ⟨_, rfl, a, rfl, ⟨_, e⟩, g2, fun H2 h2 => ?_⟩
        have st : Tab2 P1 P2 H H2 := Tab2.two h2 g1
        refine q_tup (pb := gb) (fun H3 => Tab2 P1 P2 H H3) st (fun H3 t => sqT_k2 (Kt2.tab2 g1 g2 t) e) ?_ fun H3 t => q H3 t
        rintro x H3 R mx t3 hR
        exact ⟨rfl, _, rfl, x, _, rfl, (hx x mx).k2 (Kt2.tab2 g1 g2 t3), t3.1, fun H4 h4 => hR H4 (t3.trans (Tab2.one h4 t3.2.1))⟩
      · rw [h2] at q
        exact q H same

end
end K36

set_option Elab.async false
set_option linter.all false
set_option maxRecDepth 100000
set_option maxHeartbeats 2000000
namespace K36
open PySem PySem.Spec PyProof.Rows L2 GxR Gx Gq Gd Gn Gm Gc Gk Gw Gt Gb Gp Gu Gr2
abbrev sgroups_of : Stmt := top 45
theorem scgroups_of : FnScope ["steps", "groups", "k", "step"] ["steps"] (defScope sgroups_of) := ⟨rfl, rfl, rfl, by decide +kernel, rfl, by decide +kernel, by decide +kernel⟩
abbrev stimes_in_group : Stmt := top 46
theorem sctimes_in_group : FnScope ["steps", "times", "base", "kind", "wait", "deed", "place", "line"] ["steps"] (defScope stimes_in_group) := ⟨rfl, rfl, rfl, by decide +kernel, rfl, by decide +kernel, by decide +kernel⟩
abbrev stimes_of : Stmt := top 47
theorem sctimes_of : FnScope ["steps", "times", "group", "k"] ["steps"] (defScope stimes_of) := ⟨rfl, rfl, rfl, by decide +kernel, rfl, by decide +kernel, by decide +kernel⟩
section
variable {P : Program} {w : World} {K : PySem.W.Frag} {mg : Str → Option Value} {base : Heap}
/-! ### groups -/
/-- the groups that are done, and the last one, after i steps -/
def gst (p : Nat → Bool) : Nat → List (List Int) × List Int
  | 0 => ([], [])
  | i + 1 => if p i = true then ((gst p i).1 ++ [(gst p i).2], [(i : Int)]) else ((gst p i).1, (gst p i).2 ++ [(i : Int)])
def gof (p : Nat → Bool) (n : Nat) : List (List Int) := (gst p n).1 ++ [(gst p n).2]
def isP (rs : List RS) (i : Nat) : Bool := match rs[i]? with
  | some r => decide (r.kd = "press")
  | none => false
theorem gst_few (p : Nat → Bool) : ∀ n, (gst p n).1.length ≤ n ∧ (gst p n).2.length ≤ n
  | 0 => ⟨Nat.le_refl _, Nat.le_refl _⟩
  | n + 1 => by
    obtain ⟨h1, h2⟩ := gst_few p n
    unfold gst
    by_cases h : p n = true
    · rw [if_pos h]
      exact ⟨by rw [List.length_append, List.length_singleton]; omega, by rw [List.length_singleton]; omega⟩
    · rw [if_neg h]
      exact ⟨Nat.le_succ_of_le h1, by rw [List.length_append, List.length_singleton]; omega⟩
theorem str_dec {a b : Str} : decide (V.str a = V.str b) = decide (a = b) := decide_eq_decide.mpr ⟨V.str.inj, congrArg V.str⟩
/-- the groups at these addresses, each of its own -/
structure Gs2 (H0 H : Hp) (as : List Addr) (gs : List (List Int)) : Prop where
  len : as.length = gs.length
  at_ : ∀ (i : Nat) (a : Addr) (g : List Int), as[i]? = some a → gs[i]? = some g → H a = some (.lst (g.map V.int))
  new : ∀ a ∈ as, H0 a = none
theorem Gs2.keep {H0 H H' : Hp} {as : List Addr} {gs : List (List Int)} (h : Gs2 H0 H as gs) (k : ∀ a ∈ as, ∀ xs, H a = some (.lst xs) → H' a = some (.lst xs)) : Gs2 H0 H' as gs :=
  ⟨h.len, fun i a g ha hg => k a (List.mem_of_getElem? ha) _ (h.at_ i a g ha hg), h.new⟩
theorem Gs2.more {H0 H : Hp} {as : List Addr} {gs : List (List Int)} {a : Addr} {g : List Int} (h : Gs2 H0 H as gs) (e : H a = some (.lst (g.map V.int))) (n : H0 a = none) : Gs2 H0 H (as ++ [a]) (gs ++ [g]) := by
  refine ⟨by rw [List.length_append, List.length_append, h.len] <;> rfl, fun i b y hb hy => ?_, fun b hb => ?_⟩
  · by_cases hi : i < as.length
    · rw [List.getElem?_append_left hi] at hb
      rw [List.getElem?_append_left (by rw [← h.len]; exact hi)] at hy
      exact h.at_ i b y hb hy
    · have hl := (List.getElem?_eq_some_iff.mp hb).1
      rw [List.length_append, List.length_singleton] at hl
      have ei : i = as.length := by omega
      rw [ei, List.getElem?_append_right (Nat.le_refl _), Nat.sub_self] at hb
      rw [ei, h.len, List.getElem?_append_right (Nat.le_refl _), Nat.sub_self] at hy
      cases hb
      cases hy
      exact e
  · rcases List.mem_append.mp hb with hb | hb
    · exact h.new b hb
    · rw [List.mem_singleton.mp hb]
      exact n
def spGroups (K : PySem.W.Frag) (P1 P2 : Addr) : Sp := fun vs H Q E => ∃ v, vs = [v] ∧ TabG H P1 ∧ TabG H P2 ∧ ((SsD K H v false ∧ ∀ H2, Tab2 P1 P2 H H2 → E (.ref (He.ga K "NoSteps")) none H2) ∨
  (∃ (a : Addr) (rs : List RS), v = .ref a ∧ GoodS K H a rs ∧ (∀ r ∈ rs, OkR r) ∧ rs.length ≤ 24 ∧ ∀ (R : Addr) (as : List Addr) (H' : Hp), Fr P1 P2 H H' → H R = none → H' R = some (.lst (as.map V.ref)) → Gs2 H H' as (gof (isP rs) rs.length) → Q (.ref R) H'))
theorem ok_groups {f : Addr} {fd : FuncData} {P1 P2 : Addr} (F : FnP K "groups_of" sgroups_of f fd) (T : Txt mg) (N_NoSteps : Er K mg "NoSteps") (D_is_steps : Dn P w K mg base 5 "is_steps" ["thing"] (spSteps K P1 P2)) : FnOk P w K mg base (L2.CX P w) 6 f fd ["steps"] (spGroups K P1 P2) := by
  refine okS F scgroups_of (fun vs H Q E h => ?_) (fun cdv A outer s H vs Q E hr h => ?_)
  · obtain ⟨v, rfl, _⟩ := h
    rfl
  · obtain ⟨v, rfl, g1, g2, h⟩ := h
    refine ⟨_, (pss_cons (ps_if (pt_not (pt_val (pe_dn D_is_steps (hr.mono (by decide)) rfl (pa_cons (pv 0) pa_nil)))) (pss_one (ps_raise rfl (takes_of rfl rfl rfl rfl) (pmk_own PySem.F.excBase_ValueError N_NoSteps.x N_NoSteps.g N_NoSteps.k (raises_own N_NoSteps.b N_NoSteps.t) rfl))) pss_nil)
      (pss_cons (ps_set (i := 1) scgroups_of.nd rfl (Or.inl rfl) (pe_lst (pa_cons (pe_lst pa_nil) pa_nil)))
      (pss_cons (ps_for (passes_of rfl) rfl (pi_enumT rfl T.m_enumerate (pa_cons (pv 0) pa_nil)) (pg_tup rfl (pgs_cons (pg_name (i := 2) scgroups_of.nd rfl (Or.inl rfl)) (pgs_cons (pg_name (i := 3) scgroups_of.nd rfl (Or.inl rfl)) pgs_nil))) (pss_cons (ps_if (pt_cmpR op_eq (pe_ix ix_tup (pv 3) pe_int (fun _ _ => rfl)) pe_str (nomark _)) (pss_one (ps_expr (pe_bm PySem.F.plainAttrs_list PySem.F.slot_list_append PySem.F.type_list_append mt_append (pv 1) (pa_cons (pe_lst pa_nil) pa_nil)))) pss_nil)
      (pss_one (ps_expr (pe_bm PySem.F.plainAttrs_list PySem.F.slot_list_append PySem.F.type_list_append mt_append (pe_ix ix_list (pv 1) (pe_un un_neg pe_int) (fun _ _ => rfl)) (pa_cons (pv 2) pa_nil))))))
      (pss_one (ps_ret (pv 1)))))), ?_⟩
    rcases h with ⟨hS, ko⟩ | ⟨a, rs, rfl, hg, ok, lr, q⟩
    · refine ⟨_, rfl, v, false, rfl, hS, g1, g2, fun H2 t2 => ?_⟩
      refine ⟨_, rfl, iteT ?_⟩
      exact ko H2 t2
    · refine ⟨_, rfl, .ref a, true, rfl, sd_good hg ok lr, g1, g2, fun H2 t2 => ?_⟩
      refine ⟨_, rfl, iteF ?_⟩
      have f2 := Fr.tab2 g1 g2 t2
      obtain ⟨xs, eS, lx, gx⟩ := hg
      refine ⟨(by show 0 ≤ sizeLine; decide), fun L hL => ?_⟩
      have fL := f2.new (o := .lst []) hL
      have nL := f2.n L hL
      have xL : (upd H2 L (.lst [])) L = some (.lst (([] : List Int).map V.int)) := upd_same
      revert fL xL
      generalize upd H2 L (.lst []) = H3
      intro fL xL
      refine ⟨(by show 1 ≤ sizeLine; decide), fun R hR => ?_⟩
      have fR := fL.new (o := .lst [V.ref L]) hR
      have nR := fL.n R hR
      have nLR : L ≠ R := ne_of_none xL hR
      have xR : (upd H3 R (.lst [V.ref L])) R = some (.lst (([L] : List Addr).map V.ref)) := upd_same
      have xL : (upd H3 R (.lst [V.ref L])) L = _ := (upd_ne nLR).trans xL
      revert fR xR xL
      generalize upd H3 R (.lst [V.ref L]) = H4
      clear hR hL fL
      intro fR xR xL
      refine ⟨_, rfl, a, xs, rfl, sqT_k2 fR.k eS, for_enumT (K := K) (a := a) (xs := xs) (fun i σ H5 => ∃ (as : List Addr) (l : Addr) (v2 v3 : Option V), σ = [some (.ref a), some (.ref R), v2, v3] ∧ Fr P1 P2 H H5 ∧ H5 R = some (.lst ((as ++ [l]).map V.ref)) ∧ Gs2 H H5 (as ++ [l]) (gof (isP rs) i) ∧ R ∉ as ++ [l] ∧ l ∉ as) ?_ ?_ ?_ ?_⟩
      · refine ⟨[], L, none, none, rfl, fR, xR, ⟨rfl, fun i b g hb hg => ?_, fun b hb => ?_⟩, fun m => nLR (List.mem_singleton.mp m).symm, fun m => nomatch m⟩
        · have hi := (List.getElem?_eq_some_iff.mp hb).1
          have hi : i = 0 := by
            have : i < 1 := hi
            omega
          subst hi
          cases hb
          cases hg
          exact xL
        · rw [List.mem_singleton.mp hb]
          exact nL
      · rintro i σ H5 hi ⟨_, _, _, _, _, f5, _⟩
        exact sqT_k2 f5.k eS
      · rintro i x Tp σ H5 hi ⟨as, l, v2, v3, rfl, f5, xR5, g5, nR5, nl5⟩ hT
        have li := (List.getElem?_eq_some_iff.mp hi).1
        obtain ⟨r, hr⟩ : ∃ r, rs[i]? = some r := ⟨rs[i]'(by omega), List.getElem?_eq_getElem (by omega)⟩
        obtain ⟨b, rfl, hb⟩ := gx i x r hi hr
        have fT := f5.new (o := .tup [.int (i : Int), V.ref b]) hT
        have sT := same_new (o := .tup [.int (i : Int), V.ref b]) hT
        have xT : (upd H5 Tp (.tup [.int (i : Int), V.ref b])) Tp = some (.tup [.int (i : Int), V.ref b]) := upd_same
        revert fT sT xT
        generalize upd H5 Tp (.tup [.int (i : Int), V.ref b]) = H6
        intro fT sT xT
        have xR6 := sT _ _ xR5
        have g6 := g5.keep fun c _ ys h => sT _ _ h
        have hb6 := sqT_k2 fT.k hb
        refine ⟨Tp, _, rfl, SqT.of xT, rfl, _, _, rfl, _, _, rfl, rfl, ?_⟩
        have eP : decide (V.str r.kd = V.str "press") = isP rs i := by
          unfold isP
          rw [str_dec, hr]
        have fw := gst_few (isP rs) i
        have lAs : as.length = (gst (isP rs) i).1.length := by
          have h := g6.len
          rw [List.length_append, List.length_singleton] at h
          have h2 : (gof (isP rs) i).length = (gst (isP rs) i).1.length + 1 := by show ((gst (isP rs) i).1 ++ [(gst (isP rs) i).2]).length = _; rw [List.length_append, List.length_singleton]
          omega
        refine seq_via (fun σ' H' => ∃ (bs : List Addr) (m : Addr) (done : List (List Int)) (cur : List Int), σ' = [some (.ref a), some (.ref R), some (.int (i : Int)), some (.ref b)] ∧ Fr P1 P2 H H' ∧ H' R = some (.lst ((bs ++ [m]).map V.ref)) ∧ Gs2 H H' (bs ++ [m]) (done ++ [cur]) ∧ R ∉ bs ++ [m] ∧ m ∉ bs ∧ (done, cur ++ [(i : Int)]) = gst (isP rs) (i + 1) ∧ cur.length ≤ 30 ∧ bs.length ≤ 30) ?_ ?_
        · intro nx go
          refine ⟨_, rfl, b, _, _, _, rfl, rfl, hb6, at_any (j := 0) rfl rfl, rfl, _, rfl, ?_⟩
          rw [eP]
          refine iteB (fun hp => ?_) fun hp => ?_
          · refine ⟨_, rfl, .inl ⟨rfl, _, SqL.of xR6⟩, (by show 0 ≤ sizeLine; decide), fun N hN => ?_⟩
            have fN := fT.new (o := .lst []) hN
            have sN := same_new (o := .lst []) hN
            have xN : (upd H6 N (.lst [])) N = some (.lst (([] : List Int).map V.int)) := upd_same
            have nN := fT.n N hN
            have nRN : R ≠ N := ne_of_none xR6 hN
            have nmem : N ∉ as ++ [l] := fun m => by
              obtain ⟨j, hj⟩ := List.getElem?_of_mem m
              have hjl := (List.getElem?_eq_some_iff.mp hj).1
              have hg : (gof (isP rs) i)[j]? = some ((gof (isP rs) i)[j]'(by rw [← g6.len]; exact hjl)) := List.getElem?_eq_getElem _
              rw [g6.at_ j N _ hj hg] at hN
              cases hN
            revert fN sN xN
            generalize upd H6 N (.lst []) = H7
            intro fN sN xN
            have xR7 := sN _ _ xR6
            have g7 := g6.keep fun c _ ys h => sN _ _ h
            refine ⟨R, _, _, rfl, rfl, xR7, small1000 (by rw [List.length_map, List.length_append, List.length_singleton]; omega), ?_⟩
            have fP := fN.put (zs := (as ++ [l]).map V.ref ++ [V.ref N]) nR xR7
            have xN8 : (upd H7 R (.lst ((as ++ [l]).map V.ref ++ [V.ref N]))) N = _ := (upd_ne nRN.symm).trans xN
            have g8 := g7.keep (H' := upd H7 R (.lst ((as ++ [l]).map V.ref ++ [V.ref N]))) fun c hc ys h => by
              rw [upd_ne (fun z => nR5 (by rw [← z]; exact hc))]
              exact h
            refine go _ _ ⟨as ++ [l], N, gof (isP rs) i, [], rfl, fP, ?_, g8.more xN8 nN, ?_, nmem, ?_, by show 0 ≤ 30; decide, by rw [List.length_append, List.length_singleton]; omega⟩
            · rw [upd_same, List.map_append (l₂ := [N])] <;> rfl
            · intro m
              rcases List.mem_append.mp m with m | m
              · exact nR5 m
              · exact nRN (List.mem_singleton.mp m)
            · show _ = (if isP rs i = true then _ else _)
              rw [if_pos hp] <;> rfl
          · refine go _ _ ⟨as, l, (gst (isP rs) i).1, (gst (isP rs) i).2, rfl, fT, xR6, g6, nR5, nl5, ?_, by omega, by omega⟩
            show _ = (if isP rs i = true then _ else _)
            rw [if_neg (by rw [hp]; decide)]
        rintro _ H7 ⟨bs, m, done, cur, rfl, f7, xR7, g7, nR7, nm7, eg, lc, lb⟩
        have xm : H7 m = some (.lst (cur.map V.int)) := by
          have h1 : (bs ++ [m])[bs.length]? = some m := by simp
          have hl := g7.len
          rw [List.length_append, List.length_singleton, List.length_append, List.length_singleton] at hl
          have h2 : (done ++ [cur])[bs.length]? = some cur := by
            rw [show bs.length = done.length by omega]
            simp
          exact g7.at_ _ _ _ h1 h2
        have nm := g7.new m (by simp)
        refine ⟨_, rfl, _, rfl, R, _, _, V.ref m, rfl, rfl, SqL.of xR7, by rw [List.map_append]; exact atI_last _ _, .inl ⟨rfl, _, SqL.of xm⟩, _, rfl, m, _, _, rfl, rfl, xm, small1000 (by rw [List.length_map]; omega), ?_⟩
        refine ⟨bs, m, _, _, rfl, f7.put nm xm, ?_, ?_, nR7, nm7⟩
        · rw [upd_ne (fun z => nR7 (by rw [z]; simp))]
          exact xR7
        · have e2 : gof (isP rs) (i + 1) = done ++ [cur ++ [(i : Int)]] := by
            show (gst (isP rs) (i + 1)).1 ++ [(gst (isP rs) (i + 1)).2] = _
            rw [← eg]
          rw [e2]
          have hl := g7.len
          rw [List.length_append, List.length_singleton, List.length_append, List.length_singleton] at hl
          have h0 : Gs2 H (upd H7 m (.lst (cur.map V.int ++ [V.int (i : Int)]))) bs done := by
            refine ⟨by omega, fun j c y hc hy => ?_, fun c hc => g7.new c (List.mem_append_left _ hc)⟩
            have hj := (List.getElem?_eq_some_iff.mp hc).1
            rw [upd_ne (fun z => nm7 (by rw [← z]; exact List.mem_of_getElem? hc))]
            exact g7.at_ j c y (by rw [List.getElem?_append_left hj]; exact hc) (by rw [List.getElem?_append_left (by omega)]; exact hy)
          exact h0.more (by rw [upd_same, List.map_append] <;> rfl) nm
      · rintro σ H5 ⟨as, l, v2, v3, rfl, f5, xR5, g5, nR5, nl5⟩
        rw [lx] at g5
        exact ⟨_, rfl, q R _ H5 f5 nR xR5 g5⟩

/-! ### times -/
def maxL (ts : List Int) : Int := ts.foldl max 0
theorem fold_max {m : Int} : ∀ {ts : List Int} {z : Int}, z ≤ m → (∀ y ∈ ts, y ≤ m) → ts.foldl max z ≤ m
  | [], z, h, _ => h
  | y :: ts, z, h, k => fold_max (ts := ts) (z := max z y) (Int.max_le.mpr ⟨h, k y List.mem_cons_self⟩) fun u hu => k u (List.mem_cons_of_mem _ hu)
theorem fold_ge : ∀ {ts : List Int} {z : Int}, z ≤ ts.foldl max z
  | [], z => Int.le_refl _
  | y :: ts, z => Int.le_trans (Int.le_max_left z y) (fold_ge (ts := ts))
theorem fold_mem : ∀ {ts : List Int} {z y : Int}, y ∈ ts → y ≤ ts.foldl max z
  | x :: ts, z, y, h => by
    rcases List.mem_cons.mp h with rfl | h
    · exact Int.le_trans (Int.le_max_right z y) (fold_ge (ts := ts))
    · exact fold_mem (ts := ts) (z := max z x) h
theorem maxL_eq {ts : List Int} {m : Int} (h0 : 0 ≤ m) (hm : m ∈ ts) (h : ∀ y ∈ ts, y ≤ m) : maxL ts = m := Int.le_antisymm (fold_max h0 h) (fold_mem hm)
def tstep (st : List Int × Int) (r : RS) : List Int × Int := if r.kd = "after" then (st.1 ++ [maxL st.1 + (r.wt : Int)], maxL st.1) else (st.1 ++ [st.2 + (r.wt : Int)], st.2)
def tms (rs : List RS) : List Int := (rs.foldl tstep ([], 0)).1
def Nn (st : List Int × Int) : Prop := 0 ≤ st.2 ∧ ∀ y ∈ st.1, 0 ≤ y
theorem Nn.step {st : List Int × Int} (h : Nn st) (r : RS) : Nn (tstep st r) := by
  unfold tstep
  have m0 : 0 ≤ maxL st.1 := fold_ge
  by_cases e : r.kd = "after"
  · rw [if_pos e]
    refine ⟨m0, fun y hy => ?_⟩
    rcases List.mem_append.mp hy with hy | hy
    · exact h.2 y hy
    · rw [List.mem_singleton.mp hy]
      omega
  · rw [if_neg e]
    refine ⟨h.1, fun y hy => ?_⟩
    rcases List.mem_append.mp hy with hy | hy
    · exact h.2 y hy
    · rw [List.mem_singleton.mp hy]
      have := h.1
      omega
theorem Nn.fold : ∀ (rs : List RS) {st : List Int × Int}, Nn st → Nn (rs.foldl tstep st)
  | [], _, h => h
  | r :: rs, _, h => Nn.fold rs (h.step r)
theorem tst_len : ∀ (rs : List RS) (st : List Int × Int), (rs.foldl tstep st).1.length = st.1.length + rs.length
  | [], _ => rfl
  | r :: rs, st => by
    rw [List.foldl_cons, tst_len rs (tstep st r), List.length_cons]
    have : (tstep st r).1.length = st.1.length + 1 := by
      unfold tstep
      split <;> rw [List.length_append] <;> rfl
    omega
def spTimesIn (K : PySem.W.Frag) : Sp := fun vs H Q _ => ∃ (a : Addr) (xs : List V) (rs : List RS), vs = [.ref a] ∧ SqL K H a xs ∧ xs.length = rs.length ∧ (∀ (i : Nat) (x : V) (r : RS), xs[i]? = some x → rs[i]? = some r → ∃ b : Addr, x = .ref b ∧ SqT K H b r.vs) ∧ rs.length ≤ 24 ∧
  ∀ (R : Addr) (H' : Hp), Same H H' → H R = none → H' R = some (.lst ((tms rs).map V.int)) → Q (.ref R) H'
theorem ok_timesIn {f : Addr} {fd : FuncData} (F : FnP K "times_in_group" stimes_in_group f fd) (T : Txt mg) : FnOk P w K mg base CX0 1 f fd ["steps"] (spTimesIn K) := by
  refine okN F sctimes_in_group (fun vs H Q E h => ?_) (fun cdv A outer s H vs Q E hr h => ?_)
  · obtain ⟨a, xs, rs, rfl, _⟩ := h
    rfl
  · obtain ⟨a, xs, rs, rfl, ha, lx, gx, lr, q⟩ := h
    refine ⟨_, (pss_cons (ps_set (i := 1) sctimes_in_group.nd rfl (Or.inl rfl) (pe_lst pa_nil))
      (pss_cons (ps_set (i := 2) sctimes_in_group.nd rfl (Or.inl rfl) pe_int)
      (pss_cons (ps_for PassesOwn.never rfl (pi_list (pv 0)) (pg_tup rfl (pgs_cons (pg_name (i := 3) sctimes_in_group.nd rfl (Or.inl rfl)) (pgs_cons (pg_name (i := 4) sctimes_in_group.nd rfl (Or.inl rfl)) (pgs_cons (pg_name (i := 5) sctimes_in_group.nd rfl (Or.inl rfl)) (pgs_cons (pg_name (i := 6) sctimes_in_group.nd rfl (Or.inl rfl)) (pgs_cons (pg_name (i := 7) sctimes_in_group.nd rfl (Or.inl rfl)) pgs_nil)))))) (pss_cons (ps_if (pt_cmpR op_eq (pv 3) pe_str (nomark _)) (pss_one (ps_set (i := 2) sctimes_in_group.nd rfl (Or.inl rfl) (pe_callBK (cr_maxDef rfl hr.units) (by rfl) T.m_max (by decide +kernel) (pa_cons (pv 1) pa_nil) (pk_cons pe_int pk_nil)))) pss_nil)
      (pss_one (ps_expr (pe_bm PySem.F.plainAttrs_list PySem.F.slot_list_append PySem.F.type_list_append mt_append (pv 1) (pa_cons (pe_op op_add (pv 2) (pv 4)) pa_nil))))))
      (pss_one (ps_ret (pv 1)))))), ?_⟩
    refine ⟨(by show 0 ≤ sizeLine; decide), fun R hR => ?_⟩
    have s0 := same_new (o := .lst []) hR
    have xR : (upd H R (.lst [])) R = some (.lst (([] : List Int).map V.int)) := upd_same
    revert xR s0
    generalize upd H R (.lst []) = H0
    intro s0 xR
    refine ⟨_, rfl, a, rfl, ⟨_, s0.seq ha⟩, for_list (K := K) (a := a) (xs := xs) (fun i σ H1 => ∃ v3 v4 v5 v6 v7 : Option V, σ = [some (.ref a), some (.ref R), some (.int ((rs.take i).foldl tstep ([], 0)).2), v3, v4, v5, v6, v7] ∧ Same H H1 ∧ H1 R = some (.lst (((rs.take i).foldl tstep ([], 0)).1.map V.int))) ?_ ?_ ?_ ?_⟩
    · exact ⟨none, none, none, none, none, rfl, s0, xR⟩
    · rintro i σ H1 hi ⟨_, _, _, _, _, _, s1, _⟩
      exact s1.seq ha
    · rintro i x σ H1 hi ⟨v3, v4, v5, v6, v7, rfl, s1, x1⟩
      have li := (List.getElem?_eq_some_iff.mp hi).1
      obtain ⟨r, hr⟩ : ∃ r, rs[i]? = some r := ⟨rs[i]'(by omega), List.getElem?_eq_getElem (by omega)⟩
      obtain ⟨b, rfl, hb⟩ := gx i x r hi hr
      have est : (rs.take (i + 1)).foldl tstep ([], 0) = tstep ((rs.take i).foldl tstep ([], 0)) r := by
        rw [take_more hr, List.foldl_append] <;> rfl
      have nn := Nn.fold (rs.take i) (st := ([], 0)) ⟨Int.le_refl _, fun y hy => nomatch hy⟩
      have ln := tst_len (rs.take i) ([], 0)
      rw [List.length_take] at ln
      have ln : ((rs.take i).foldl tstep ([], 0)).1.length ≤ 24 := by
        have h0 : (([], 0) : List Int × Int).1.length = 0 := rfl
        omega
      rw [est]
      revert x1 nn ln
      generalize (rs.take i).foldl tstep ([], 0) = st
      intro x1 nn ln
      refine ⟨b, _, rfl, sqT_same s1 hb, rfl, _, _, rfl, _, _, rfl, _, _, rfl, _, _, rfl, _, _, rfl, rfl, ?_⟩
      have eA : decide (V.str r.kd = V.str "after") = decide (r.kd = "after") := str_dec
      have fin : ∀ bs : Int, tstep st r = (st.1 ++ [bs + (r.wt : Int)], bs) → ∃ v3 v4 v5 v6 v7 : Option V, [some (V.ref a), some (V.ref R), some (V.int bs), some (V.str r.kd), some (V.int (r.wt : Int)), some (V.str r.dd), some (V.str r.pl), some r.ln] = [some (V.ref a), some (V.ref R), some (V.int (tstep st r).2), v3, v4, v5, v6, v7] ∧ Same H (upd H1 R (.lst (st.1.map V.int ++ [V.int (bs + (r.wt : Int))]))) ∧ (upd H1 R (.lst (st.1.map V.int ++ [V.int (bs + (r.wt : Int))]))) R = some (.lst ((tstep st r).1.map V.int)) := fun bs e => by
        rw [e]
        refine ⟨_, _, _, _, _, rfl, fun c o h => ?_, ?_⟩
        · rw [upd_ne (ne_of_none h hR)]
          exact s1 _ _ h
        · rw [upd_same, List.map_append] <;> rfl
      refine seq_via (fun σ' H' => ∃ bs : Int, σ' = [some (V.ref a), some (V.ref R), some (V.int bs), some (V.str r.kd), some (V.int (r.wt : Int)), some (V.str r.dd), some (V.str r.pl), some r.ln] ∧ H1 = H' ∧ tstep st r = (st.1 ++ [bs + (r.wt : Int)], bs)) ?_ ?_
      · intro nx go
        refine ⟨_, rfl, rfl, _, rfl, ?_⟩
        rw [eA]
        refine iteB (fun h => ?_) fun h => ?_
        · have h := of_decide_eq_true h
          have e : tstep st r = (st.1 ++ [maxL st.1 + (r.wt : Int)], maxL st.1) := if_pos h
          refine ⟨_, rfl, R, st.1, 0, rfl, rfl, SqL.of x1, fun e0 => ?_, fun m hm hy => ?_⟩
          · refine go _ _ ⟨0, rfl, rfl, ?_⟩
            rw [e, show maxL st.1 = 0 by rw [e0] <;> rfl]
          · refine go _ _ ⟨m, rfl, rfl, ?_⟩
            rw [e, maxL_eq (nn.2 m hm) hm hy]
        · have h := of_decide_eq_false h
          exact go _ _ ⟨st.2, rfl, rfl, if_neg h⟩
      rintro _ _ ⟨bs, rfl, rfl, e⟩
      refine ⟨_, rfl, .inl ⟨rfl, _, SqL.of x1⟩, _, rfl, _, rfl, _, _, rfl, rfl, R, _, _, rfl, rfl, x1, small1000 (by rw [List.length_map]; omega), ?_⟩
      exact fin bs e
    · rintro σ H1 ⟨v3, v4, v5, v6, v7, rfl, s1, x1⟩
      rw [lx, List.take_length] at x1
      exact ⟨_, rfl, q R H1 s1 hR x1⟩

/-! ### all the times -/
def pick (rs : List RS) (ks : List Int) : List RS := ks.filterMap fun k => rs[k.toNat]?
def tmsof (rs : List RS) (gs : List (List Int)) : List Int := gs.flatMap fun g => tms (pick rs g)
/-- the numbers of the groups are numbers of steps -/
theorem gst_in (p : Nat → Bool) : ∀ n, (∀ g ∈ (gst p n).1, ∀ k ∈ g, 0 ≤ k ∧ k < (n : Int)) ∧ ∀ k ∈ (gst p n).2, 0 ≤ k ∧ k < (n : Int)
  | 0 => ⟨fun g hg => (nomatch hg), fun k hk => (nomatch hk)⟩
  | n + 1 => by
    obtain ⟨h1, h2⟩ := gst_in p n
    unfold gst
    by_cases h : p n = true
    · rw [if_pos h]
      refine ⟨fun g hg k hk => ?_, fun k hk => ?_⟩
      · rcases List.mem_append.mp hg with hg | hg
        · have := h1 g hg k hk
          omega
        · rw [List.mem_singleton.mp hg] at hk
          have := h2 k hk
          omega
      · rw [List.mem_singleton.mp hk]
        omega
    · rw [if_neg h]
      refine ⟨fun g hg k hk => ?_, fun k hk => ?_⟩
      · have := h1 g hg k hk
        omega
      · rcases List.mem_append.mp hk with hk | hk
        · have := h2 k hk
          omega
        · rw [List.mem_singleton.mp hk]
          omega
theorem gof_in {p : Nat → Bool} {n : Nat} : ∀ g ∈ gof p n, ∀ k ∈ g, 0 ≤ k ∧ k < (n : Int) := fun g hg => by
  obtain ⟨h1, h2⟩ := gst_in p n
  rcases List.mem_append.mp hg with hg | hg
  · exact h1 g hg
  · rw [List.mem_singleton.mp hg]
    exact h2
theorem gof_few {p : Nat → Bool} {n : Nat} : (gof p n).length ≤ n + 1 ∧ ∀ g ∈ gof p n, g.length ≤ n := by
  have all : ∀ n, (∀ g ∈ (gst p n).1, g.length ≤ n) := fun n => by
    induction n with
    | zero => exact fun g hg => (nomatch hg)
    | succ n ih =>
      unfold gst
      by_cases h : p n = true
      · rw [if_pos h]
        intro g hg
        rcases List.mem_append.mp hg with hg | hg
        · exact Nat.le_succ_of_le (ih g hg)
        · rw [List.mem_singleton.mp hg]
          exact Nat.le_succ_of_le (gst_few p n).2
      · rw [if_neg h]
        exact fun g hg => Nat.le_succ_of_le (ih g hg)
  obtain ⟨f1, f2⟩ := gst_few p n
  refine ⟨?_, fun g hg => ?_⟩
  · show ((gst p n).1 ++ [(gst p n).2]).length ≤ _
    rw [List.length_append, List.length_singleton]
    omega
  · rcases List.mem_append.mp hg with hg | hg
    · exact all n g hg
    · rw [List.mem_singleton.mp hg]
      exact f2
theorem pick_len {rs : List RS} : ∀ {g : List Int}, (∀ k ∈ g, 0 ≤ k ∧ k < (rs.length : Int)) → (pick rs g).length = g.length
  | [], _ => rfl
  | k :: g, h => by
    have hk := h k List.mem_cons_self
    have ih := pick_len (rs := rs) (g := g) fun y hy => h y (List.mem_cons_of_mem _ hy)
    have e : rs[k.toNat]? = some (rs[k.toNat]'(by omega)) := List.getElem?_eq_getElem _
    unfold pick at ih ⊢
    rw [List.filterMap_cons, e, List.length_cons, ih, List.length_cons]
theorem tms_len (rs : List RS) : (tms rs).length = rs.length := by
  have h := tst_len rs ([], 0)
  show (rs.foldl tstep ([], 0)).1.length = _
  rw [h]
  exact Nat.zero_add _
theorem fm_at {α β : Type} {f : α → Option β} : ∀ {g : List α}, (∀ k ∈ g, (f k).isSome = true) → ∀ j : Nat, (g.filterMap f)[j]? = (g[j]?).bind f
  | [], _, j => rfl
  | k :: g, h, j => by
    obtain ⟨y, hy⟩ := Option.isSome_iff_exists.mp (h k List.mem_cons_self)
    have ih := fm_at (f := f) (g := g) (fun u hu => h u (List.mem_cons_of_mem _ hu))
    rw [List.filterMap_cons, hy]
    cases j with
    | zero => exact hy.symm
    | succ j =>
      rw [List.getElem?_cons_succ, List.getElem?_cons_succ]
      exact ih j
theorem fm_len {α β : Type} {f : α → Option β} : ∀ {g : List α}, (∀ k ∈ g, (f k).isSome = true) → (g.filterMap f).length = g.length
  | [], _ => rfl
  | k :: g, h => by
    obtain ⟨y, hy⟩ := Option.isSome_iff_exists.mp (h k List.mem_cons_self)
    have ih := fm_len (f := f) (g := g) (fun u hu => h u (List.mem_cons_of_mem _ hu))
    rw [List.filterMap_cons, hy, List.length_cons, List.length_cons, ih]
def spTimes (K : PySem.W.Frag) (P1 P2 : Addr) : Sp := fun vs H Q E => ∃ v, vs = [v] ∧ TabG H P1 ∧ TabG H P2 ∧ ((SsD K H v false ∧ ∀ H3, Fr P1 P2 H H3 → E (.ref (He.ga K "NoSteps")) none H3) ∨
  (∃ (a : Addr) (rs : List RS), v = .ref a ∧ GoodS K H a rs ∧ (∀ r ∈ rs, OkR r) ∧ rs.length ≤ 24 ∧ ∀ (R : Addr) (H' : Hp), Fr P1 P2 H H' → H R = none → H' R = some (.lst ((tmsof rs (gof (isP rs) rs.length)).map V.int)) → Q (.ref R) H'))
theorem ssd_same {H H' : Hp} {v : V} {b : Bool} (s : Same H H') (h : SsD K H v b) : SsD K H' v b := h.k2 (Kt2.same s)
theorem ok_times {f : Addr} {fd : FuncData} {P1 P2 : Addr} (F : FnP K "times_of" stimes_of f fd) (T : Txt mg) (N_NoSteps : Er K mg "NoSteps") (D_groups_of : DnS P w K mg base 6 "groups_of" ["steps"] (spGroups K P1 P2)) (D_times_in_group : Dn P w K mg base 1 "times_in_group" ["steps"] (spTimesIn K)) :
    FnOk P w K mg base (L2.CX P w) 7 f fd ["steps"] (spTimes K P1 P2) := by
  refine okS F sctimes_of (fun vs H Q E h => ?_) (fun cdv A outer s H vs Q E hr h => ?_)
  · obtain ⟨v, rfl, _⟩ := h
    rfl
  · obtain ⟨v, rfl, g1, g2, h⟩ := h
    refine ⟨_, (pss_cons (ps_set (i := 1) sctimes_of.nd rfl (Or.inl rfl) (pe_lst pa_nil))
      (pss_cons (ps_for (passes_of rfl) rfl (pi_list (pe_dnS D_groups_of (hr.mono (by decide)) rfl (fun σ => passAt (takes_of rfl rfl rfl rfl) σ) (pa_cons (pv 0) pa_nil))) (pg_name (i := 2) sctimes_of.nd rfl (Or.inl rfl)) (pss_one (ps_expr (pe_bm PySem.F.plainAttrs_list PySem.F.slot_list_extend PySem.F.type_list_extend mt_extend (pv 1) (pa_cons (pe_dn D_times_in_group (hr.mono (by decide)) rfl (pa_cons (pe_lc (own := [("k", 3)]) (g := gName 3) (by rfl) sctimes_of.nd (pi_list (pv 2)) (blkOk_by (own := [("k", 3)]) (N := ["steps", "times", "group", "k"]) (sc := defScope stimes_of) (by decide +kernel)) (fun _ _ _ _ _ => (pg_name (i := 3) sctimes_of.nd rfl (Or.inl rfl))) (fun _ _ _ _ _ => pts_nil) (fun _ _ _ _ _ => (pe_ix (r := rIxT K) ix_tup (pv 0) (pv 3) (fun _ _ => rfl)))) pa_nil)) pa_nil)))))
      (pss_one (ps_ret (pv 1))))), ?_⟩
    refine ⟨(by show 0 ≤ sizeLine; decide), fun R hR => ?_⟩
    have f0 := (Fr.refl g1 g2).new (o := .lst []) hR
    have s0 := same_new (o := .lst []) hR
    have xR : (upd H R (.lst [])) R = some (.lst (([] : List Int).map V.int)) := upd_same
    revert f0 s0 xR
    generalize upd H R (.lst []) = H0
    intro f0 s0 xR
    rcases h with ⟨hS, ko⟩ | ⟨a, rs, rfl, hg, ok, lr, q⟩
    · refine ⟨_, rfl, v, rfl, f0.g1, f0.g2, .inl ⟨ssd_same s0 hS, fun H2 t2 => ?_⟩⟩
      exact ko H2 (f0.trans (Fr.tab2 f0.g1 f0.g2 t2))
    · refine ⟨_, rfl, .ref a, rfl, f0.g1, f0.g2, .inr ⟨a, rs, rfl, hg.k2 f0.k, ok, lr, fun G as H1 f1 nG xG hgs => ?_⟩⟩
      obtain ⟨gs, egs⟩ : ∃ gs, gs = gof (isP rs) rs.length := ⟨_, rfl⟩
      have gin : ∀ g ∈ gs, ∀ k ∈ g, 0 ≤ k ∧ k < (rs.length : Int) := fun g hg => gof_in g (by rw [← egs]; exact hg)
      have gfew : gs.length ≤ rs.length + 1 ∧ ∀ g ∈ gs, g.length ≤ rs.length := by rw [egs]; exact gof_few
      rw [← egs] at hgs q
      clear egs
      have f01 := f0.trans f1
      have xR1 := f1.k _ _ xR fun _ q => nomatch q
      obtain ⟨xs, eS, lx, gx⟩ := hg
      have lq := hgs.len
      have nGR : G ≠ R := fun z => by rw [z, xR] at nG; cases nG
      have nAR : ∀ c ∈ as, c ≠ R := fun c hc z => by
        have h := hgs.new c hc
        rw [z, xR] at h
        cases h
      refine ⟨G, rfl, ⟨_, SqL.of xG⟩, for_list (K := K) (a := G) (xs := as.map V.ref) (fun i σ H2 => ∃ v2 : Option V, σ = [some (.ref a), some (.ref R), v2, none] ∧ Fr P1 P2 H H2 ∧ H2 G = some (.lst (as.map V.ref)) ∧ Gs2 H0 H2 as gs ∧ H2 R = some (.lst ((tmsof rs (gs.take i)).map V.int))) ?_ ?_ ?_ ?_⟩
      · exact ⟨none, rfl, f01, xG, hgs, xR1⟩
      · rintro i σ H2 hi ⟨_, _, _, x, _⟩
        exact SqL.of x
      · rintro i x σ H2 hi ⟨v2, rfl, f2, xG2, hg2, xR2⟩
        have li := (List.getElem?_eq_some_iff.mp hi).1
        rw [List.length_map] at li
        have hc : as[i]? = some as[i] := List.getElem?_eq_getElem li
        obtain ⟨c, ec⟩ : ∃ c, c = as[i] := ⟨_, rfl⟩
        rw [← ec] at hc
        obtain rfl : x = .ref c := by
          rw [List.getElem?_map, hc] at hi
          exact (Option.some.inj hi).symm
        obtain ⟨g, eg⟩ : ∃ g, gs[i]? = some g := ⟨gs[i]'(by omega), List.getElem?_eq_getElem (by omega)⟩
        have xc := hg2.at_ i c g hc eg
        have mg := List.mem_of_getElem? eg
        have vin := gin g mg
        have lg := gfew.2 g mg
        have some1 : ∀ k ∈ g, (xs[k.toNat]?).isSome = true := fun k hk => by
          have := vin k hk
          rw [List.getElem?_eq_getElem (by omega)] <;> rfl
        have some2 : ∀ k ∈ g, (rs[k.toNat]?).isSome = true := fun k hk => by
          have := vin k hk
          rw [List.getElem?_eq_getElem (by omega)] <;> rfl
        have eT : tmsof rs (gs.take (i + 1)) = tmsof rs (gs.take i) ++ tms (pick rs g) := by
          rw [take_more eg]
          unfold tmsof
          rw [List.flatMap_append]
          show _ ++ List.flatMap _ [g] = _
          rw [List.flatMap_singleton]
        rw [eT]
        have lT : (tmsof rs (gs.take i)).length ≤ 700 := by
          have h : ∀ l : List (List Int), (∀ g ∈ l, (∀ k ∈ g, 0 ≤ k ∧ k < (rs.length : Int)) ∧ g.length ≤ rs.length) → (tmsof rs l).length ≤ l.length * rs.length := fun l => by
            induction l with
            | nil => exact fun _ => Nat.zero_le _
            | cons y l ih =>
              intro h
              have hy := h y List.mem_cons_self
              have ih := ih fun z hz => h z (List.mem_cons_of_mem _ hz)
              unfold tmsof at ih ⊢
              rw [List.flatMap_cons, List.length_append, tms_len, pick_len hy.1, List.length_cons, Nat.succ_mul]
              omega
          have h1 := h (gs.take i) fun g hg => ⟨gin g (List.mem_of_mem_take hg), gfew.2 g (List.mem_of_mem_take hg)⟩
          have h2 : (gs.take i).length ≤ 25 := by rw [List.length_take]; omega
          have h3 : (gs.take i).length * rs.length ≤ 25 * 24 := Nat.mul_le_mul h2 lr
          omega
        revert xR2 lT
        generalize tmsof rs (gs.take i) = tt
        intro xR2 lT
        refine ⟨_, rfl, .inl ⟨rfl, _, SqL.of xR2⟩, _, rfl, c, rfl, ⟨_, SqL.of xc⟩, fun D hD => ?_⟩
        refine lc_list (K := K) (a := c) (xs := g.map V.int) (fun j H3 => Same H2 H3 ∧ H3 D = some (.lst ((g.take j).filterMap fun k => xs[k.toNat]?))) ⟨same_new hD, upd_same⟩ (fun j H3 _ h => SqL.of (h.1 _ _ xc)) ?_ ?_
        · rintro j y H3 hj ⟨s3, x3⟩
          obtain ⟨k, hk, rfl⟩ : ∃ k, g[j]? = some k ∧ y = .int k := by
            rw [List.getElem?_map] at hj
            cases e : g[j]? with
            | none => rw [e] at hj; cases hj
            | some k => rw [e] at hj; exact ⟨k, rfl, (Option.some.inj hj).symm⟩
          have mk := List.mem_of_getElem? hk
          have hv := vin k mk
          obtain ⟨y, hy⟩ := Option.isSome_iff_exists.mp (some1 k mk)
          refine ⟨rfl, ?_⟩
          refine ⟨_, rfl, _, rfl, a, _, _, y, rfl, rfl, sqT_same s3 (sqT_k2 f2.k eS), by rw [show k = ((k.toNat : Nat) : Int) by rw [Int.toNat_of_nonneg hv.1]]; exact atI_nat hy, ?_⟩
          refine ⟨_, x3, small1000 (by have := List.length_filterMap_le (fun k : Int => xs[k.toNat]?) (g.take j); rw [List.length_take] at this; omega), fun b o e => ?_, ?_⟩
          · rw [upd_ne (ne_of_none e hD)]
            exact s3 _ _ e
          · rw [upd_same, take_more hk, List.filterMap_append]
            show _ = some (HO.lst (_ ++ List.filterMap _ [k]))
            rw [List.filterMap_cons, hy] <;> rfl
        · rintro H3 ⟨s3, x3⟩
          rw [List.length_map, List.take_length] at x3
          refine ⟨D, _, pick rs g, rfl, SqL.of x3, by rw [fm_len some1, pick_len vin], fun j y r hy hr => ?_, by rw [pick_len vin]; omega, fun R2 H4 s4 nR2 xR4 => ?_⟩
          · rw [fm_at some1] at hy
            have hr : (g.filterMap fun k => rs[k.toNat]?)[j]? = some r := hr
            rw [fm_at some2] at hr
            cases ek : g[j]? with
            | none => rw [ek] at hy; cases hy
            | some k =>
              rw [ek] at hy hr
              obtain ⟨b, rfl, hb⟩ := gx _ y r hy hr
              exact ⟨b, rfl, sqT_same s3 (sqT_k2 f2.k hb)⟩
          · have s24 := s3.trans s4
            have xR3 := s24 _ _ xR2
            refine ⟨R, R2, _, _, rfl, rfl, xR3, xR4, by rw [List.length_map, List.length_map, tms_len, pick_len vin, sizeLine_eq]; omega, ?_⟩
            have f4 := f2.trans (Fr.same f2.g1 f2.g2 s24)
            refine ⟨_, rfl, f4.put hR xR3, ?_, (hg2.keep fun c' hc' ys h => ?_), ?_⟩
            · rw [upd_ne nGR]
              exact s24 _ _ xG2
            · rw [upd_ne (nAR c' hc')]
              exact s24 _ _ h
            · rw [upd_same, List.map_append]
      · rintro σ H2 ⟨v2, rfl, f2, xG2, hg2, xR2⟩
        rw [List.length_map, lq, List.take_length] at xR2
        exact ⟨_, rfl, q R H2 f2 hR xR2⟩

end
end K36

set_option Elab.async false
set_option linter.all false
set_option maxRecDepth 100000
set_option maxHeartbeats 2000000
namespace K36
open PySem PySem.Spec PyProof.Rows L2 GxR Gx Gq Gd Gn Gm Gc Gk Gw Gt Gb Gp Gu Gr2
abbrev slaw_pen : Stmt := top 49
theorem sclaw_pen : FnScope ["script"] ["script"] (defScope slaw_pen) := ⟨rfl, rfl, rfl, by decide +kernel, rfl, by decide +kernel, by decide +kernel⟩
abbrev slaw_draw : Stmt := top 50
theorem sclaw_draw : FnScope ["pen", "many", "found", "at", "cell", "number"] ["pen", "many"] (defScope slaw_draw) := ⟨rfl, rfl, rfl, by decide +kernel, rfl, by decide +kernel, by decide +kernel⟩
abbrev slaw_steps : Stmt := top 51
theorem sclaw_steps : FnScope ["pen", "pool", "most", "steps", "k", "kind", "wait", "line"] ["pen", "pool", "most"] (defScope slaw_steps) := ⟨rfl, rfl, rfl, by decide +kernel, rfl, by decide +kernel, by decide +kernel⟩
section
variable {P : Program} {w : World} {K : PySem.W.Frag} {mg : Str → Option Value} {base : Heap}
theorem ok_draw {f : Addr} {fd : FuncData} (F : FnP K "_law_draw" slaw_draw f fd) (T : Txt mg) : FnOk P w K mg base CX0 1 f fd ["pen", "many"] spDraw := by
  refine okN F sclaw_draw (fun vs H Q E h => ?_) (fun cdv A outer s H vs Q E hr h => ?_)
  · obtain ⟨p, L, ns, n, many, rfl, _⟩ := h
    rfl
  · obtain ⟨p, L, ns, n, many, rfl, hP, h0, hm, hn, k⟩ := h
    refine ⟨_, (pss_cons (ps_if (pt_cmpR op_gt (pe_ix ix_list (pv 0) pe_int (fun _ _ => rfl)) pe_int (nomark _)) (pss_cons (ps_set (i := 2) sclaw_draw.nd rfl (Or.inl rfl) (pe_op op_mod (pe_ix ix_list (pv 0) pe_int (fun _ _ => rfl)) (pv 1)))
      (pss_cons (ps_asg (pe_op op_fdiv (pe_ix ix_list (pv 0) pe_int (fun _ _ => rfl)) (pv 1)) (pg_sub (pv 0) pe_int set_list))
      (pss_one (ps_ret (pv 2))))) pss_nil)
      (pss_cons (ps_set (i := 3) sclaw_draw.nd rfl (Or.inl rfl) (pe_ix ix_list (pv 0) pe_int (fun _ _ => rfl)))
      (pss_cons (ps_asg (pe_op op_add (pv 3) pe_int) (pg_sub (pv 0) pe_int set_list))
      (pss_cons (ps_set (i := 4) sclaw_draw.nd rfl (Or.inl rfl) pe_int)
      (pss_cons (ps_if (pt_cmpR op_gt (pe_callB call_len_seq (by rfl) T.m_len (by decide +kernel) (pa_cons (pe_ix ix_list (pv 0) pe_int (fun _ _ => rfl)) pa_nil)) pe_int (nomark _)) (pss_one (ps_set (i := 4) sclaw_draw.nd rfl (Or.inl rfl) (pe_ix ix_list (pe_ix ix_list (pv 0) pe_int (fun _ _ => rfl)) (pe_op op_mod (pv 3) (pe_callB call_len_seq (by rfl) T.m_len (by decide +kernel) (pa_cons (pe_ix ix_list (pv 0) pe_int (fun _ _ => rfl)) pa_nil))) (fun _ _ => rfl)))) pss_nil)
      (pss_cons (ps_if (PW.pt (pw_and (pt_cmpR op_lt (pv 3) (pe_callB call_len_seq (by rfl) T.m_len (by decide +kernel) (pa_cons (pe_ix ix_list (pv 0) pe_int (fun _ _ => rfl)) pa_nil)) (nomark _)) (pw_and1 (pt_cmpR op_ge (pv 4) (pe_op op_pow pe_int pe_int) (nomark _))))) (pss_cons (ps_asg (pe_op op_fdiv (pv 4) (pv 1)) (pg_sub (pv 0) pe_int set_list))
      (pss_one (ps_ret (pe_op op_mod (pv 4) (pv 1))))) pss_nil)
      (pss_cons (ps_set (i := 5) sclaw_draw.nd rfl (Or.inl rfl) (pe_op op_mod (pe_op op_mul (pe_op op_add (pe_op op_mod (pv 4) pe_int) pe_int) (pe_op op_add (pe_op op_add (pe_op op_mul (pv 3) (pv 3)) (pe_op op_mul pe_int (pv 3))) pe_int)) pe_int))
      (pss_one (ps_ret (pe_op op_mod (pe_op op_fdiv (pe_op op_mod (pe_op op_mul (pe_op op_mod (pe_op op_add (pe_op op_pow (pv 5) pe_int) (pe_op op_mul pe_int (pv 3))) pe_int) pe_int) pe_int) pe_int) (pv 1))))))))))), ?_⟩
    obtain ⟨a, r, hp, ha, han⟩ := hP.at_
    refine ⟨_, rfl, p, _, _, _, rfl, rfl, SqL.of hp, at_of (j := 2) rfl rfl, _, _, rfl, rfl, _, rfl, ite2 (fun hc => ?_) fun hc => ?_⟩
    · refine ⟨_, rfl, p, _, _, _, rfl, rfl, SqL.of hp, at_of (j := 2) rfl rfl, _, rfl, _, _, rfl, rfl, h0, ?_⟩
      refine ⟨_, rfl, p, _, _, _, rfl, rfl, SqL.of hp, at_of (j := 2) rfl rfl, _, rfl, _, _, rfl, rfl, ⟨h0, (by omega)⟩, _, rfl, p, _, _, 2, rfl, rfl, hp, rfl, ?_⟩
      refine ⟨_, rfl, k _ _ (Int.emod_nonneg _ (by omega)) (Int.emod_lt_of_pos _ h0) (hP.put ha (by omega)) But.upd⟩
    · -- at = pen[1]; pen[1] = at + 1; cell = 7
      refine ⟨_, rfl, p, _, _, _, rfl, rfl, SqL.of hp, at_of (j := 1) rfl rfl, ?_⟩
      refine ⟨_, rfl, _, _, rfl, rfl, _, rfl, p, _, _, 1, rfl, rfl, hp, rfl, ?_⟩
      have hP1 : Pen (upd H p (.lst [.ref L, .int (a + 1), .int r])) p L ns (n + 1) := hP.put (by omega) (by omega)
      have b1 : But p H (upd H p (.lst [.ref L, .int (a + 1), .int r])) := But.upd
      generalize eH : upd H p (.lst [.ref L, .int (a + 1), .int r]) = H1 at hP1 b1
      have hp1 : H1 p = some (.lst [.ref L, .int (a + 1), .int r]) := by rw [← eH]; exact upd_same
      have hl1 := hP1.ls
      show tSeq _ _ _ _ (upd H p (.lst [.ref L, .int (a + 1), .int r]))
      rw [eH]
      have eL : (ns.map V.int).length = ns.length := List.length_map ..
      apply viaInt
      · intro rest
        -- if len(pen[0]) > 0: cell = pen[0][at % len(pen[0])]
        refine ⟨_, rfl, p, _, _, _, rfl, rfl, SqL.of hp1, at_of (j := 0) rfl rfl, L, _, rfl, .inl (SqL.of hl1), _, _, rfl, rfl, _, rfl, ite2 (fun hc => ?_) fun hc => ?_⟩
        · have hpos : 0 < ns.length := by
            have h1 := of_decide_eq_true hc
            rw [eL] at h1
            omega
          have hlp : (0 : Int) < ((ns.length : Nat) : Int) := by omega
          have hm0 := Int.emod_nonneg a (show ((ns.length : Nat) : Int) ≠ 0 by omega)
          have hm1 := Int.emod_lt_of_pos a hlp
          obtain ⟨j, ej⟩ : ∃ j : Nat, a % ((ns.length : Nat) : Int) = (j : Int) := ⟨_, (Int.toNat_of_nonneg hm0).symm⟩
          have hj : j < ns.length := by
            rw [ej] at hm1
            omega
          refine ⟨_, rfl, p, _, _, _, rfl, rfl, SqL.of hp1, at_of (j := 0) rfl rfl, _, rfl, _, rfl, p, _, _, _, rfl, rfl, SqL.of hp1, at_of (j := 0) rfl rfl, L, _, rfl, .inl (SqL.of hl1), _, _, rfl, rfl, (by rw [eL]; exact hlp), ?_⟩
          obtain ⟨cell, ec⟩ : ∃ z, ns[j]? = some z := ⟨_, List.getElem?_eq_getElem hj⟩
          refine ⟨L, _, _, .int cell, rfl, rfl, SqL.of hl1, at_of (j := j) (by rw [eL]; exact ej) (by rw [List.getElem?_map, ec]; rfl), ?_⟩
          exact rest cell
        · exact rest 7
      · intro cell
        -- if at < len(pen[0]) and cell >= 10 ** 18
        refine ⟨_, rfl, _, rfl, p, _, _, _, rfl, rfl, SqL.of hp1, at_of (j := 0) rfl rfl, L, _, rfl, .inl (SqL.of hl1), _, _, rfl, rfl, _, rfl, ?_⟩
        have c1 : (0 : Int) ≤ cell % 2147483629 := Int.emod_nonneg _ (by decide)
        have c2 : cell % 2147483629 < 2147483629 := Int.emod_lt_of_pos _ (by decide)
        · refine ite2 (fun _ => ?_) fun _ => ?_
          · refine ⟨_, rfl, _, _, rfl, rfl, ⟨by decide, by decide, by decide⟩, _, _, rfl, rfl, _, rfl, ite2 (fun _ => ?_) fun _ => ?_⟩
            · refine ⟨_, rfl, _, rfl, _, _, rfl, rfl, ⟨h0, (by omega)⟩, _, rfl, p, _, _, 2, rfl, rfl, hp1, rfl, ?_⟩
              refine ⟨_, rfl, _, rfl, _, _, rfl, rfl, h0, ?_⟩
              exact k _ _ (Int.emod_nonneg _ (by omega)) (Int.emod_lt_of_pos _ h0) (hP1.put (by omega) (by omega)) (b1.trans But.upd)
            · refine ⟨_, rfl, _, _, rfl, rfl, (by show (0 : Int) < _; decide), _, _, rfl, rfl, _, rfl, _, rfl, _, _, rfl, rfl, .inl ⟨by omega, by omega⟩, _, rfl, _, _, rfl, rfl, .inl ⟨by decide, by decide⟩, _, _, rfl, rfl, _, _, rfl, rfl, _, _, rfl, rfl, .inl ⟨by omega, by omega⟩, _, _, rfl, rfl, (by show (0 : Int) < _; decide), ?_⟩
              generalize eN : (cell % 2147483629 + 11) * (a * a + 5 * a + 3) % 2147483647 = N
              have n1 : (0 : Int) ≤ N := by rw [← eN]; exact Int.emod_nonneg _ (by decide)
              have n2 : N < 2147483647 := by rw [← eN]; exact Int.emod_lt_of_pos _ (by decide)
              refine ⟨_, rfl, _, _, rfl, rfl, ⟨by decide, by decide, by omega⟩, _, rfl, _, _, rfl, rfl, .inl ⟨by decide, by decide⟩, _, _, rfl, rfl, _, _, rfl, rfl, (by show (0 : Int) < _; decide), ?_⟩
              generalize eM : (N ^ (3 : Int).toNat + 69621 * a) % 2147483587 = M
              have m1 : (0 : Int) ≤ M := by rw [← eM]; exact Int.emod_nonneg _ (by decide)
              have m2 : M < 2147483587 := by rw [← eM]; exact Int.emod_lt_of_pos _ (by decide)
              refine ⟨_, _, rfl, rfl, .inl ⟨by omega, by omega⟩, _, _, rfl, rfl, (by show (0 : Int) < _; decide), _, _, rfl, rfl, ⟨by decide, by decide⟩, _, rfl, _, _, rfl, rfl, h0, ?_⟩
              exact k _ _ (Int.emod_nonneg _ (by omega)) (Int.emod_lt_of_pos _ h0) hP1 b1
          · refine iteF ?_
            refine ⟨_, rfl, _, _, rfl, rfl, (by show (0 : Int) < _; decide), _, _, rfl, rfl, _, rfl, _, rfl, _, _, rfl, rfl, .inl ⟨by omega, by omega⟩, _, rfl, _, _, rfl, rfl, .inl ⟨by decide, by decide⟩, _, _, rfl, rfl, _, _, rfl, rfl, _, _, rfl, rfl, .inl ⟨by omega, by omega⟩, _, _, rfl, rfl, (by show (0 : Int) < _; decide), ?_⟩
            generalize eN : (cell % 2147483629 + 11) * (a * a + 5 * a + 3) % 2147483647 = N
            have n1 : (0 : Int) ≤ N := by rw [← eN]; exact Int.emod_nonneg _ (by decide)
            have n2 : N < 2147483647 := by rw [← eN]; exact Int.emod_lt_of_pos _ (by decide)
            refine ⟨_, rfl, _, _, rfl, rfl, ⟨by decide, by decide, by omega⟩, _, rfl, _, _, rfl, rfl, .inl ⟨by decide, by decide⟩, _, _, rfl, rfl, _, _, rfl, rfl, (by show (0 : Int) < _; decide), ?_⟩
            generalize eM : (N ^ (3 : Int).toNat + 69621 * a) % 2147483587 = M
            have m1 : (0 : Int) ≤ M := by rw [← eM]; exact Int.emod_nonneg _ (by decide)
            have m2 : M < 2147483587 := by rw [← eM]; exact Int.emod_lt_of_pos _ (by decide)
            refine ⟨_, _, rfl, rfl, .inl ⟨by omega, by omega⟩, _, _, rfl, rfl, (by show (0 : Int) < _; decide), _, _, rfl, rfl, ⟨by decide, by decide⟩, _, rfl, _, _, rfl, rfl, h0, ?_⟩
            exact k _ _ (Int.emod_nonneg _ (by omega)) (Int.emod_lt_of_pos _ h0) hP1 b1

/-! ### the pen is made -/
def spPen (K : PySem.W.Frag) : Sp := fun vs H Q _ => ∃ (a : Addr) (ns : List Int), vs = [.ref a] ∧ SqL K H a (ns.map V.int) ∧ ns.length ≤ 63 ∧ ∀ (p L : Addr) (H' : Hp), H p = none → H L = none → Pen H' p L ns 0 → Same H H' → Q (.ref p) H'
theorem ok_pen {f : Addr} {fd : FuncData} (F : FnP K "_law_pen" slaw_pen f fd) (T : Txt mg) : FnOk P w K mg base CX0 1 f fd ["script"] (spPen K) := by
  refine okN F sclaw_pen (fun vs H Q E h => ?_) (fun cdv A outer s H vs Q E hr h => ?_)
  · obtain ⟨a, ns, rfl, _⟩ := h
    rfl
  · obtain ⟨a, ns, rfl, hS, hl, q⟩ := h
    refine ⟨_, (pss_one (ps_ret (pe_lst (pa_cons (pe_callTy call_list_of (by rfl) T.m_list (by decide +kernel) (pa_cons (pe_slice sl_list (pv 0) po_none (po_some pe_int)) pa_nil)) (pa_cons pe_int (pa_cons pe_int pa_nil)))))), ?_⟩
    refine ⟨.ref a, rfl, 63, rfl, a, ns.map V.int, rfl, hS, fun c hc => ?_⟩
    have ec : cutV (ns.map V.int) none (some 63) = ns.map V.int := cut63 (by rw [List.length_map]; exact hl)
    rw [ec]
    refine ⟨c, _, rfl, .inl (SqL.of upd_same), fun L hL => ?_⟩
    refine ⟨(by show 3 ≤ sizeLine; decide), fun p hp => ?_⟩
    have s1 : Same H (upd H c (.lst (ns.map V.int))) := fun b o e => by rw [upd_ne (ne_of_none e hc)]; exact e
    have s2 : Same (upd H c (.lst (ns.map V.int))) (upd (upd H c (.lst (ns.map V.int))) L (.lst (ns.map V.int))) := fun b o e => by rw [upd_ne (ne_of_none e hL)]; exact e
    have s3 : Same (upd (upd H c (.lst (ns.map V.int))) L (.lst (ns.map V.int))) (upd (upd (upd H c (.lst (ns.map V.int))) L (.lst (ns.map V.int))) p (.lst [.ref L, .int 0, .int 0])) := fun b o e => by rw [upd_ne (ne_of_none e hp)]; exact e
    have hLp : L ≠ p := ne_of_none upd_same hp
    exact q p L _ ((s1.trans s2).free hp) (s1.free hL) ⟨⟨0, 0, upd_same, Int.le_refl _, Int.le_refl _⟩, by rw [upd_ne hLp]; exact upd_same, hl⟩ ((s1.trans s2).trans s3)

/-! ### steps drawn -/
def POOL : List V := [V.str "a", V.str "b1"]
structure Made (H : Hp) (D : Addr) (ts : List Addr) (rs : List RS) : Prop where
  x : H D = some (.lst (ts.map V.ref))
  l : ts.length = rs.length
  at_ : ∀ (i : Nat) (t : Addr) (r : RS), ts[i]? = some t → rs[i]? = some r → H t = some (.tup r.vs)
def spLSteps : Sp := fun vs H Q _ => ∃ (p L pl : Addr) (ns : List Int) (n most : Nat), vs = [.ref p, .ref pl, .int (most : Int)] ∧ Pen H p L ns n ∧ H pl = some (.lst POOL) ∧ pl ≠ p ∧ most ≤ 24 ∧ n + 300 < 1000000 ∧
  ∀ (b : Addr) (ts : List Addr) (rs : List RS) (H' : Hp), H' b = some (.tup (ts.map V.ref)) → ts.length = rs.length → (∀ (i : Nat) (t : Addr) (r : RS), ts[i]? = some t → rs[i]? = some r → H' t = some (.tup r.vs)) → (∀ r ∈ rs, OkR r) → rs.length ≤ 24 → Pen H' p L ns (n + 230) → Kp p H H' → Q (.ref b) H'
theorem pick_str {l : List Str} {v : V} (h : v ∈ l.map V.str) : ∃ z, v = .str z ∧ z ∈ l := by
  obtain ⟨z, hz, rfl⟩ := List.mem_map.mp h
  exact ⟨z, rfl, hz⟩
theorem ok_lsteps {f : Addr} {fd : FuncData} (F : FnP K "_law_steps" slaw_steps f fd) (T : Txt mg) (D_law_draw : Dn P w K mg base 1 "_law_draw" ["pen", "many"] spDraw) : FnOk P w K mg base CX0 2 f fd ["pen", "pool", "most"] spLSteps := by
  refine okN F sclaw_steps (fun vs H Q E h => ?_) (fun cdv A outer s H vs Q E hr h => ?_)
  · obtain ⟨p, L, pl, ns, n, most, rfl, _⟩ := h
    rfl
  · obtain ⟨p, L, pl, ns, n, most, rfl, hP, xpl, npl, lm, hn, q⟩ := h
    refine ⟨_, (pss_cons (ps_set (i := 3) sclaw_steps.nd rfl (Or.inl rfl) (pe_lst pa_nil))
      (pss_cons (ps_for PassesOwn.never rfl (pi_range1 rfl T.m_range (pa_cons (pe_dn D_law_draw (hr.mono (by decide)) rfl (pa_cons (pv 0) (pa_cons (pe_op op_add (pv 2) pe_int) pa_nil))) pa_nil)) (pg_name (i := 4) sclaw_steps.nd rfl (Or.inl rfl)) (pss_cons (ps_set (i := 5) sclaw_steps.nd rfl (Or.inl rfl) (pe_ix ix_list (pe_lst (pa_cons pe_str (pa_cons pe_str (pa_cons pe_str (pa_cons pe_str pa_nil))))) (pe_dn D_law_draw (hr.mono (by decide)) rfl (pa_cons (pv 0) (pa_cons pe_int pa_nil))) (fun _ _ => rfl)))
      (pss_cons (ps_set (i := 6) sclaw_steps.nd rfl (Or.inl rfl) (pe_ix ix_list (pe_lst (pa_cons pe_int (pa_cons (pe_dn D_law_draw (hr.mono (by decide)) rfl (pa_cons (pv 0) (pa_cons pe_int pa_nil))) (pa_cons (pe_dn D_law_draw (hr.mono (by decide)) rfl (pa_cons (pv 0) (pa_cons pe_int pa_nil))) pa_nil)))) (pe_dn D_law_draw (hr.mono (by decide)) rfl (pa_cons (pv 0) (pa_cons pe_int pa_nil))) (fun _ _ => rfl)))
      (pss_cons (ps_set (i := 7) sclaw_steps.nd rfl (Or.inl rfl) (pe_ix ix_list (pe_lst (pa_cons pe_non (pa_cons (pe_dn D_law_draw (hr.mono (by decide)) rfl (pa_cons (pv 0) (pa_cons pe_int pa_nil))) (pa_cons (pe_dn D_law_draw (hr.mono (by decide)) rfl (pa_cons (pv 0) (pa_cons pe_int pa_nil))) pa_nil)))) (pe_dn D_law_draw (hr.mono (by decide)) rfl (pa_cons (pv 0) (pa_cons pe_int pa_nil))) (fun _ _ => rfl)))
      (pss_one (ps_expr (pe_bm PySem.F.plainAttrs_list PySem.F.slot_list_append PySem.F.type_list_append mt_append (pv 3) (pa_cons (pe_tup (pa_cons (pv 5) (pa_cons (pv 6) (pa_cons (pe_ix ix_list (pe_lst (pa_cons pe_str (pa_cons pe_str (pa_cons pe_str pa_nil)))) (pe_dn D_law_draw (hr.mono (by decide)) rfl (pa_cons (pv 0) (pa_cons pe_int pa_nil))) (fun _ _ => rfl)) (pa_cons (pe_ix ix_list (pv 1) (pe_dn D_law_draw (hr.mono (by decide)) rfl (pa_cons (pv 0) (pa_cons (pe_callB call_len_seq (by rfl) T.m_len (by decide +kernel) (pa_cons (pv 1) pa_nil)) pa_nil))) (fun _ _ => rfl)) (pa_cons (pv 7) pa_nil)))))) pa_nil))))))))
      (pss_one (ps_ret (pe_callTy call_tuple_of (by rfl) T.m_tuple (by decide +kernel) (pa_cons (pv 3) pa_nil)))))), ?_⟩
    refine ⟨(by show 0 ≤ sizeLine; decide), fun D hD => ?_⟩
    have nD : D ≠ p := hP.lt_new hD
    have kD := Kp.new (p := p) (o := .lst []) hD
    have xD : (upd H D (.lst [])) D = some (.lst (([] : List Addr).map V.ref)) := upd_same
    have hPD := hP.new (o := .lst []) hD
    revert kD xD hPD
    generalize upd H D (.lst []) = H0
    intro kD xD hPD
    refine ⟨_, rfl, _, rfl, _, _, rfl, rfl, p, L, ns, _, _, rfl, hPD, (by omega), (by omega), (by omega), fun k1 H1 k10 k11 hP1 b1 => ?_⟩
    refine ⟨k1, rfl, (by omega), (by omega), ?_⟩
    refine for_range (lo := 0) (n := k1.toNat) (fun i σ H2 => ∃ (v4 v5 v6 v7 : Option V) (ts : List Addr) (rs : List RS), σ = [some (.ref p), some (.ref pl), some (.int (most : Int)), some (.ref D), v4, v5, v6, v7] ∧ rs.length = i ∧ Made H2 D ts rs ∧ (∀ r ∈ rs, OkR r) ∧ D ∉ ts ∧ Pen H2 p L ns (n + 1 + 9 * i) ∧ Kp p H H2) ?_ ?_ ?_
    · exact ⟨none, none, none, none, [], [], rfl, rfl, ⟨b1.kp _ _ xD nD, rfl, fun i t r h => nomatch h⟩, fun r h => (nomatch h), fun h => (nomatch h), hP1, kD.trans b1.kp⟩
    · rintro i σ H2 hi ⟨v4, v5, v6, v7, ts, rs, rfl, lr, hM, ok, nDt, hP2, k2⟩
      have hi : i < 24 := by omega
      -- kind
      refine ⟨(by show 4 ≤ sizeLine; decide), fun M1 hM1 => ?_⟩
      have nM1 : M1 ≠ p := hP2.lt_new hM1
      have xM1 : (upd H2 M1 (.lst [V.str "press", V.str "with", V.str "after", V.str "with"])) M1 = some (.lst [V.str "press", V.str "with", V.str "after", V.str "with"]) := upd_same
      have k3 := Kp.new (p := p) (o := .lst [V.str "press", V.str "with", V.str "after", V.str "with"]) hM1
      have hP3 := hP2.new (o := .lst [V.str "press", V.str "with", V.str "after", V.str "with"]) hM1
      revert xM1 k3 hP3
      generalize upd H2 M1 (.lst [V.str "press", V.str "with", V.str "after", V.str "with"]) = H3
      intro xM1 k3 hP3
      refine ⟨_, rfl, p, L, ns, _, 4, rfl, hP3, (by decide), (by decide), (by omega), fun k4 H4 k40 k41 hP4 b4 => ?_⟩
      obtain ⟨y4, e4, m4⟩ := listAt (xs := [V.str "press", V.str "with", V.str "after", V.str "with"]) k40 k41
      obtain ⟨kd, rfl, hkd⟩ : ∃ kd : Str, y4 = .str kd ∧ kd ∈ KNL := by
        obtain ⟨z, e, hz⟩ := pick_str (l := ["press", "with", "after", "with"]) m4
        refine ⟨z, e, ?_⟩
        simp only [List.mem_cons, List.not_mem_nil, or_false] at hz
        simp only [KNL, List.mem_cons, List.not_mem_nil, or_false]
        rcases hz with h | h | h | h
        · exact .inl h
        · exact .inr (.inl h)
        · exact .inr (.inr h)
        · exact .inr (.inl h)
      refine ⟨M1, _, _, _, rfl, rfl, SqL.of (b4.kp _ _ xM1 nM1), e4, ?_⟩
      have k24 := k3.trans b4.kp
      clear hP3 k3 b4 xM1 nM1 hM1 e4 m4
      -- wait
      refine ⟨_, rfl, p, L, ns, _, 6, rfl, hP4, (by decide), (by decide), (by omega), fun k5 H5 k50 k51 hP5 b5 => ?_⟩
      refine ⟨_, rfl, p, L, ns, _, 100, rfl, hP5, (by decide), (by decide), (by omega), fun k6 H6 k60 k61 hP6 b6 => ?_⟩
      refine ⟨(by show 3 ≤ sizeLine; decide), fun M2 hM2 => ?_⟩
      have nM2 : M2 ≠ p := hP6.lt_new hM2
      have xM2 : (upd H6 M2 (.lst [V.int 0, V.int k5, V.int k6])) M2 = some (.lst [V.int 0, V.int k5, V.int k6]) := upd_same
      have k7 := k24.trans ((b5.kp.trans b6.kp).trans (Kp.new (p := p) (o := .lst [V.int 0, V.int k5, V.int k6]) hM2))
      have hP7 := hP6.new (o := .lst [V.int 0, V.int k5, V.int k6]) hM2
      revert xM2 k7 hP7
      generalize upd H6 M2 (.lst [V.int 0, V.int k5, V.int k6]) = H7
      intro xM2 k7 hP7
      refine ⟨_, rfl, p, L, ns, _, 3, rfl, hP7, (by decide), (by decide), (by omega), fun k8 H8 k80 k81 hP8 b8 => ?_⟩
      obtain ⟨y8, e8, m8⟩ := listAt (xs := [V.int 0, V.int k5, V.int k6]) k80 k81
      obtain ⟨wt, rfl, hwt⟩ : ∃ wt : Nat, y8 = .int (wt : Int) ∧ wt ≤ 99 := by
        simp only [List.mem_cons, List.not_mem_nil, or_false] at m8
        rcases m8 with rfl | rfl | rfl
        · exact ⟨0, rfl, by decide⟩
        · exact ⟨k5.toNat, by rw [Int.toNat_of_nonneg k50], by omega⟩
        · exact ⟨k6.toNat, by rw [Int.toNat_of_nonneg k60], by omega⟩
      refine ⟨M2, _, _, _, rfl, rfl, SqL.of (b8.kp _ _ xM2 nM2), e8, ?_⟩
      have k28 := k7.trans b8.kp
      clear hP4 hP5 hP6 hP7 k7 b5 b6 b8 xM2 nM2 hM2 e8 m8 k24
      -- line
      refine ⟨_, rfl, p, L, ns, _, 3, rfl, hP8, (by decide), (by decide), (by omega), fun j5 G5 j50 j51 hQ5 c5 => ?_⟩
      refine ⟨_, rfl, p, L, ns, _, 12, rfl, hQ5, (by decide), (by decide), (by omega), fun j6 G6 j60 j61 hQ6 c6 => ?_⟩
      refine ⟨(by show 3 ≤ sizeLine; decide), fun M3 hM3 => ?_⟩
      have nM3 : M3 ≠ p := hQ6.lt_new hM3
      have xM3 : (upd G6 M3 (.lst [V.non, V.int j5, V.int j6])) M3 = some (.lst [V.non, V.int j5, V.int j6]) := upd_same
      have j7 := k28.trans ((c5.kp.trans c6.kp).trans (Kp.new (p := p) (o := .lst [V.non, V.int j5, V.int j6]) hM3))
      have hQ7 := hQ6.new (o := .lst [V.non, V.int j5, V.int j6]) hM3
      revert xM3 j7 hQ7
      generalize upd G6 M3 (.lst [V.non, V.int j5, V.int j6]) = G7
      intro xM3 j7 hQ7
      refine ⟨_, rfl, p, L, ns, _, 3, rfl, hQ7, (by decide), (by decide), (by omega), fun j8 G8 j80 j81 hQ8 c8 => ?_⟩
      obtain ⟨ln, e9, m9⟩ := listAt (xs := [V.non, V.int j5, V.int j6]) j80 j81
      have hln : noneOr (withB 0 11) ln = true := by
        have t : ∀ i : Int, 0 ≤ i → i ≤ 11 → noneOr (withB 0 11) (.int i) = true := fun i h0 h1 => by
          show (decide (V.int i = V.non) || (decide ((0 : Int) ≤ i) && decide (i ≤ 11))) = true
          rw [decide_eq_true h0, decide_eq_true h1]
          simp
        simp only [List.mem_cons, List.not_mem_nil, or_false] at m9
        rcases m9 with rfl | rfl | rfl
        · rfl
        · exact t _ j50 (by omega)
        · exact t _ j60 (by omega)
      refine ⟨M3, _, _, _, rfl, rfl, SqL.of (c8.kp _ _ xM3 nM3), e9, ?_⟩
      have k29 := j7.trans c8.kp
      clear hP8 hQ5 hQ6 hQ7 j7 c5 c6 c8 xM3 nM3 hM3 e9 m9 k28
      have xD9 := k29 _ _ hM.x nD
      -- the step
      refine ⟨_, rfl, .inl ⟨rfl, _, SqL.of xD9⟩, _, rfl, _, rfl, (by show 3 ≤ sizeLine; decide), fun M4 hM4 => ?_⟩
      have nM4 : M4 ≠ p := hQ8.lt_new hM4
      have xM4 : (upd G8 M4 (.lst [V.str "come", V.str "go", V.str "dim"])) M4 = some (.lst [V.str "come", V.str "go", V.str "dim"]) := upd_same
      have kA := k29.trans (Kp.new (p := p) (o := .lst [V.str "come", V.str "go", V.str "dim"]) hM4)
      have hPA := hQ8.new (o := .lst [V.str "come", V.str "go", V.str "dim"]) hM4
      revert xM4 kA hPA
      generalize upd G8 M4 (.lst [V.str "come", V.str "go", V.str "dim"]) = HA
      intro xM4 kA hPA
      refine ⟨_, rfl, p, L, ns, _, 3, rfl, hPA, (by decide), (by decide), (by omega), fun kB HB kB0 kB1 hPB bB => ?_⟩
      obtain ⟨yB, eB, mB⟩ := listAt (xs := [V.str "come", V.str "go", V.str "dim"]) kB0 kB1
      obtain ⟨dd, rfl, hdd⟩ : ∃ dd : Str, yB = .str dd ∧ dd ∈ DDL := pick_str (l := ["come", "go", "dim"]) mB
      refine ⟨M4, _, _, _, rfl, rfl, SqL.of (bB.kp _ _ xM4 nM4), eB, ?_⟩
      have kB2 := kA.trans bB.kp
      clear hPA kA bB xM4 nM4 hM4 eB mB hQ8 k29
      have xpl2 := (k2.trans kB2) _ _ xpl npl
      refine ⟨_, rfl, _, rfl, _, rfl, pl, _, rfl, .inl (SqL.of xpl2), p, L, ns, _, 2, rfl, hPB, (by decide), (by decide), (by omega), fun kC HC kC0 kC1 hPC bC => ?_⟩
      obtain ⟨yC, eC, mC⟩ := listAt (xs := POOL) kC0 kC1
      obtain ⟨pn, rfl, hpn⟩ : ∃ pn : Str, yC = .str pn ∧ nameV (.str pn) = true := by
        obtain ⟨z, e, hz⟩ := pick_str (l := ["a", "b1"]) mC
        refine ⟨z, e, ?_⟩
        simp only [List.mem_cons, List.not_mem_nil, or_false] at hz
        rcases hz with rfl | rfl <;> decide +kernel
      refine ⟨pl, _, _, _, rfl, rfl, SqL.of (bC.kp _ _ xpl2 npl), eC, ?_⟩
      have kC2 := kB2.trans bC.kp
      clear hPB kB2 bC eC mC
      refine ⟨_, rfl, (by show 5 ≤ sizeLine; decide), fun Tn hTn => ?_⟩
      have eR : [V.str kd, V.int (wt : Int), V.str dd, V.str pn, ln] = (RS.mk kd wt dd pn ln).vs := rfl
      rw [eR]
      have xT : (upd HC Tn (.tup (RS.mk kd wt dd pn ln).vs)) Tn = some (.tup (RS.mk kd wt dd pn ln).vs) := upd_same
      have sT := same_new (o := .tup (RS.mk kd wt dd pn ln).vs) hTn
      have kT := kC2.trans (Kp.new (p := p) (o := .tup (RS.mk kd wt dd pn ln).vs) hTn)
      have hPT := hPC.new (o := .tup (RS.mk kd wt dd pn ln).vs) hTn
      have xDC := kC2 _ _ hM.x nD
      have nDT : D ≠ Tn := ne_of_none xDC hTn
      revert xT kT hPT sT
      generalize upd HC Tn (.tup (RS.mk kd wt dd pn ln).vs) = HT
      intro xT sT kT hPT
      have xDT := kT _ _ hM.x nD
      have ntp : ∀ t ∈ ts, t ≠ p := fun t ht z => by
        obtain ⟨j, hj⟩ := List.getElem?_of_mem ht
        have hl := (List.getElem?_eq_some_iff.mp hj).1
        have h := hM.at_ j t (rs[j]'(by rw [← hM.l]; exact hl)) hj (List.getElem?_eq_getElem _)
        obtain ⟨_, _, h2, _⟩ := hP2.at_
        rw [z, h2] at h
        cases h
      refine ⟨D, _, _, rfl, rfl, xDT, small1000 (by rw [List.length_map, hM.l]; omega), ?_⟩
      refine ⟨_, _, _, _, ts ++ [Tn], rs ++ [RS.mk kd wt dd pn ln], rfl, by rw [List.length_append, lr] <;> rfl, ⟨?_, by rw [List.length_append, List.length_append, hM.l] <;> rfl, fun j t r ht hr => ?_⟩, fun r hr => ?_, fun m => ?_, (hPT.keep (upd_ne nD.symm) (upd_ne ?_)).up (by omega), fun b o e nb => ?_⟩
      · rw [upd_same, List.map_append] <;> rfl
      · by_cases hj : j < ts.length
        · rw [List.getElem?_append_left hj] at ht
          rw [List.getElem?_append_left (by rw [← hM.l]; exact hj)] at hr
          have mt := List.mem_of_getElem? ht
          rw [upd_ne (fun z => nDt (by rw [← z]; exact mt))]
          exact kT _ _ (hM.at_ j t r ht hr) (ntp t mt)
        · have hl := (List.getElem?_eq_some_iff.mp ht).1
          rw [List.length_append, List.length_singleton] at hl
          have ej : j = ts.length := by omega
          rw [ej, List.getElem?_append_right (Nat.le_refl _), Nat.sub_self] at ht
          rw [ej, hM.l, List.getElem?_append_right (Nat.le_refl _), Nat.sub_self] at hr
          cases ht
          cases hr
          rw [upd_ne nDT.symm]
          exact xT
      · rcases List.mem_append.mp hr with h | h
        · exact ok r h
        · rw [List.mem_singleton.mp h]
          exact ⟨hkd, hwt, hdd, hpn, hln⟩
      · rcases List.mem_append.mp m with h | h
        · exact nDt h
        · exact nDT (List.mem_singleton.mp h)
      · exact ne_of_none hP.ls hD
      · rw [upd_ne (ne_of_none e hD)]
        exact (k2.trans kT) b o e nb
    · rintro σ H2 ⟨v4, v5, v6, v7, ts, rs, rfl, lr, hM, ok, nDt, hP2, k2⟩
      have lr : rs.length ≤ 24 := by omega
      refine ⟨_, rfl, D, _, rfl, .inl ⟨SqL.of hM.x, fun b hb => ?_⟩⟩
      have xb : (upd H2 b (.tup (ts.map V.ref))) b = some (.tup (ts.map V.ref)) := upd_same
      exact q b ts rs _ xb hM.l (fun i t r ht hr => same_new hb _ _ (hM.at_ i t r ht hr)) ok lr ((hP2.new hb).up (by omega)) (k2.trans (Kp.new hb))

end
end K36

set_option Elab.async false
set_option linter.all false
set_option maxRecDepth 100000
set_option maxHeartbeats 2000000
namespace K36
open PySem PySem.Spec PyProof.Rows L2 GxR Gx Gq Gd Gn Gm Gc Gk Gw Gt Gb Gp Gu Gr2
abbrev slaw_word : Stmt := top 63
theorem sclaw_word : FnScope ["e", "words", "some"] ["e"] (defScope slaw_word) := ⟨rfl, rfl, rfl, by decide +kernel, rfl, by decide +kernel, by decide +kernel⟩
section
variable {P : Program} {w : World} {K : PySem.W.Frag} {mg : Str → Option Value} {base : Heap}
/-! ### the word of an error -/
theorem ok_word {f : Addr} {fd : FuncData} (F : FnP K "_law_word" slaw_word f fd) (T : Txt mg) (C : TxtC K mg) : FnOk P w K mg base CX0 1 f fd ["e"] (spWord K mg) := by
  refine okN F sclaw_word (fun vs H Q E h => ?_) (fun cdv A outer s H vs Q E hr h => ?_)
  · obtain ⟨a, one, rfl, _⟩ := h
    rfl
  · obtain ⟨a, one, rfl, N, hA, q⟩ := h
    refine ⟨_, (pss_cons (ps_set (i := 1) sclaw_word.nd rfl (Or.inl rfl) (pe_lst (pa_cons pe_str (pa_cons pe_str (pa_cons pe_str (pa_cons pe_str (pa_cons pe_str (pa_cons pe_str (pa_cons pe_str (pa_cons pe_str (pa_cons pe_str (pa_cons pe_str (pa_cons pe_str (pa_cons pe_str pa_nil))))))))))))))
      (pss_cons (ps_set (i := 1) sclaw_word.nd rfl (Or.inl rfl) (pe_op op_cat (pv 1) (pe_lst (pa_cons pe_str (pa_cons pe_str (pa_cons pe_str (pa_cons pe_str (pa_cons pe_str (pa_cons pe_str (pa_cons pe_str (pa_cons pe_str (pa_cons pe_str (pa_cons pe_str (pa_cons pe_str pa_nil))))))))))))))
      (pss_cons (ps_set (i := 2) sclaw_word.nd rfl (Or.inl rfl) (pe_lst (pa_cons (pe_callB call_isK (by rfl) T.m_isinstance (by decide +kernel) (pa_cons (pv 0) (pa_cons (pe_glob (v := .ref (He.ga K "NoDeck")) rfl (C.cls "NoDeck" (by decide +kernel)) rfl) pa_nil))) (pa_cons (pe_callB call_isK (by rfl) T.m_isinstance (by decide +kernel) (pa_cons (pv 0) (pa_cons (pe_glob (v := .ref (He.ga K "NoDeed")) rfl (C.cls "NoDeed" (by decide +kernel)) rfl) pa_nil))) (pa_cons (pe_callB call_isK (by rfl) T.m_isinstance (by decide +kernel) (pa_cons (pv 0) (pa_cons (pe_glob (v := .ref (He.ga K "NoLink")) rfl (C.cls "NoLink" (by decide +kernel)) rfl) pa_nil))) (pa_cons (pe_callB call_isK (by rfl) T.m_isinstance (by decide +kernel) (pa_cons (pv 0) (pa_cons (pe_glob (v := .ref (He.ga K "NoMaster")) rfl (C.cls "NoMaster" (by decide +kernel)) rfl) pa_nil))) pa_nil))))))
      (pss_cons (ps_set (i := 2) sclaw_word.nd rfl (Or.inl rfl) (pe_op op_cat (pv 2) (pe_lst (pa_cons (pe_callB call_isK (by rfl) T.m_isinstance (by decide +kernel) (pa_cons (pv 0) (pa_cons (pe_glob (v := .ref (He.ga K "NoName")) rfl (C.cls "NoName" (by decide +kernel)) rfl) pa_nil))) (pa_cons (pe_callB call_isK (by rfl) T.m_isinstance (by decide +kernel) (pa_cons (pv 0) (pa_cons (pe_glob (v := .ref (He.ga K "NoNumber")) rfl (C.cls "NoNumber" (by decide +kernel)) rfl) pa_nil))) (pa_cons (pe_callB call_isK (by rfl) T.m_isinstance (by decide +kernel) (pa_cons (pv 0) (pa_cons (pe_glob (v := .ref (He.ga K "NoPlace")) rfl (C.cls "NoPlace" (by decide +kernel)) rfl) pa_nil))) (pa_cons (pe_callB call_isK (by rfl) T.m_isinstance (by decide +kernel) (pa_cons (pv 0) (pa_cons (pe_glob (v := .ref (He.ga K "NoPress")) rfl (C.cls "NoPress" (by decide +kernel)) rfl) pa_nil))) pa_nil)))))))
      (pss_cons (ps_set (i := 2) sclaw_word.nd rfl (Or.inl rfl) (pe_op op_cat (pv 2) (pe_lst (pa_cons (pe_callB call_isK (by rfl) T.m_isinstance (by decide +kernel) (pa_cons (pv 0) (pa_cons (pe_glob (v := .ref (He.ga K "NoRoom")) rfl (C.cls "NoRoom" (by decide +kernel)) rfl) pa_nil))) (pa_cons (pe_callB call_isK (by rfl) T.m_isinstance (by decide +kernel) (pa_cons (pv 0) (pa_cons (pe_glob (v := .ref (He.ga K "NoRow")) rfl (C.cls "NoRow" (by decide +kernel)) rfl) pa_nil))) (pa_cons (pe_callB call_isK (by rfl) T.m_isinstance (by decide +kernel) (pa_cons (pv 0) (pa_cons (pe_glob (v := .ref (He.ga K "NoSetting")) rfl (C.cls "NoSetting" (by decide +kernel)) rfl) pa_nil))) (pa_cons (pe_callB call_isK (by rfl) T.m_isinstance (by decide +kernel) (pa_cons (pv 0) (pa_cons (pe_glob (v := .ref (He.ga K "NoShow")) rfl (C.cls "NoShow" (by decide +kernel)) rfl) pa_nil))) pa_nil)))))))
      (pss_cons (ps_set (i := 2) sclaw_word.nd rfl (Or.inl rfl) (pe_op op_cat (pv 2) (pe_lst (pa_cons (pe_callB call_isK (by rfl) T.m_isinstance (by decide +kernel) (pa_cons (pv 0) (pa_cons (pe_glob (v := .ref (He.ga K "NoSlide")) rfl (C.cls "NoSlide" (by decide +kernel)) rfl) pa_nil))) (pa_cons (pe_callB call_isK (by rfl) T.m_isinstance (by decide +kernel) (pa_cons (pv 0) (pa_cons (pe_glob (v := .ref (He.ga K "NoSteps")) rfl (C.cls "NoSteps" (by decide +kernel)) rfl) pa_nil))) (pa_cons (pe_callB call_isK (by rfl) T.m_isinstance (by decide +kernel) (pa_cons (pv 0) (pa_cons (pe_glob (v := .ref (He.ga K "NoText")) rfl (C.cls "NoText" (by decide +kernel)) rfl) pa_nil))) (pa_cons (pe_callB call_isK (by rfl) T.m_isinstance (by decide +kernel) (pa_cons (pv 0) (pa_cons (pe_glob (v := .ref (He.ga K "NoTime")) rfl (C.cls "NoTime" (by decide +kernel)) rfl) pa_nil))) pa_nil)))))))
      (pss_cons (ps_set (i := 2) sclaw_word.nd rfl (Or.inl rfl) (pe_op op_cat (pv 2) (pe_lst (pa_cons (pe_callB call_isK (by rfl) T.m_isinstance (by decide +kernel) (pa_cons (pv 0) (pa_cons (pe_glob (v := .ref (He.ga K "NoTrait")) rfl (C.cls "NoTrait" (by decide +kernel)) rfl) pa_nil))) (pa_cons (pe_callB call_isK (by rfl) T.m_isinstance (by decide +kernel) (pa_cons (pv 0) (pa_cons (pe_glob (v := .ref (He.ga K "NoWord")) rfl (C.cls "NoWord" (by decide +kernel)) rfl) pa_nil))) (pa_cons (pe_callB call_isK (by rfl) T.m_isinstance (by decide +kernel) (pa_cons (pv 0) (pa_cons (pe_glob (v := .ref (He.ga K "NoWorth")) rfl (C.cls "NoWorth" (by decide +kernel)) rfl) pa_nil))) (pa_cons (pe_callB call_isK (by rfl) T.m_isinstance (by decide +kernel) (pa_cons (pv 0) (pa_cons (pe_glob (v := .ref (He.ga K "Ring")) rfl (C.cls "Ring" (by decide +kernel)) rfl) pa_nil))) pa_nil)))))))
      (pss_cons (ps_set (i := 2) sclaw_word.nd rfl (Or.inl rfl) (pe_op op_cat (pv 2) (pe_lst (pa_cons (pe_callB call_isK (by rfl) T.m_isinstance (by decide +kernel) (pa_cons (pv 0) (pa_cons (pe_glob (v := .ref (He.ga K "Taken")) rfl (C.cls "Taken" (by decide +kernel)) rfl) pa_nil))) (pa_cons (pe_callB call_isK (by rfl) T.m_isinstance (by decide +kernel) (pa_cons (pv 0) (pa_cons (pe_glob (v := .ref (He.ga K "TooMany")) rfl (C.cls "TooMany" (by decide +kernel)) rfl) pa_nil))) (pa_cons (pe_callB call_isK (by rfl) T.m_isinstance (by decide +kernel) (pa_cons (pv 0) (pa_cons (pe_glob (v := .ref (He.ga K "Used")) rfl (C.cls "Used" (by decide +kernel)) rfl) pa_nil))) pa_nil))))))
      (pss_cons (ps_if (PW.pt (pw_or (pt_cmpR op_ne (pe_bm PySem.F.plainAttrs_list PySem.F.slot_list_count PySem.F.type_list_count mt_lcountV (pv 2) (pa_cons pe_bl pa_nil)) pe_int (nomark _)) (pw_or1 (pt_not (pt_val (pe_callB call_isK (by rfl) T.m_isinstance (by decide +kernel) (pa_cons (pv 0) (pa_cons (pe_bltn (v := .ty "ValueError") (u := .type "ValueError") rfl T.m_ValueError (by decide +kernel) rfl) pa_nil)))))))) (pss_one (ps_ret pe_str)) pss_nil)
      (pss_one (ps_ret (pe_ix ix_list (pv 1) (pe_bm PySem.F.plainAttrs_list PySem.F.slot_list_index PySem.F.type_list_index mt_index (pv 2) (pa_cons pe_bl pa_nil)) (fun _ _ => rfl))))))))))))), ?_⟩
    refine ⟨(by show 12 ≤ sizeLine; decide), fun w1 hw1 => ?_⟩
    have x1 : (upd H w1 (.lst (WRA.map V.str))) w1 = some (.lst (WRA.map V.str)) := upd_same
    have n1 : Same H (upd H w1 (.lst (WRA.map V.str))) := same_new hw1
    refine ⟨_, rfl, (by show 11 ≤ sizeLine; decide), fun w2 hw2 => ?_⟩
    have x2 : (upd (upd H w1 (.lst (WRA.map V.str))) w2 (.lst (WRB.map V.str))) w2 = some (.lst (WRB.map V.str)) := upd_same
    have n2 : Same (upd H w1 (.lst (WRA.map V.str))) (upd (upd H w1 (.lst (WRA.map V.str))) w2 (.lst (WRB.map V.str))) := same_new hw2
    refine ⟨w1, w2, WRA.map V.str, WRB.map V.str, rfl, rfl, n2 _ _ x1, x2, (by show 23 ≤ sizeLine; decide), fun W hW => ?_⟩
    have eW : (upd (upd (upd H w1 (.lst (WRA.map V.str))) w2 (.lst (WRB.map V.str))) W (.lst (WRA.map V.str ++ WRB.map V.str))) W = some (.lst (WRA.map V.str ++ WRB.map V.str)) := upd_same
    have m0 : Same H (upd (upd (upd H w1 (.lst (WRA.map V.str))) w2 (.lst (WRB.map V.str))) W (.lst (WRA.map V.str ++ WRB.map V.str))) := (n1.trans n2).trans (same_new hW)
    revert eW m0
    show _ → _ → tSeq _ _ _ _ (upd (upd (upd H w1 (.lst (WRA.map V.str))) w2 (.lst (WRB.map V.str))) W (.lst (WRA.map V.str ++ WRB.map V.str)))
    generalize upd (upd (upd H w1 (.lst (WRA.map V.str))) w2 (.lst (WRB.map V.str))) W (.lst (WRA.map V.str ++ WRB.map V.str)) = HW
    intro eW m0
    refine ⟨_, rfl, a, _, _, _, decide (("NoDeck" : Str) = one), rfl, m0 _ _ hA, N.c, fun _ e => e, kitW N (x := "NoDeck") (by decide +kernel), _, rfl, a, _, _, _, decide (("NoDeed" : Str) = one), rfl, m0 _ _ hA, N.c, fun _ e => e, kitW N (x := "NoDeed") (by decide +kernel), _, rfl, a, _, _, _, decide (("NoLink" : Str) = one), rfl, m0 _ _ hA, N.c, fun _ e => e, kitW N (x := "NoLink") (by decide +kernel), _, rfl, a, _, _, _, decide (("NoMaster" : Str) = one), rfl, m0 _ _ hA, N.c, fun _ e => e, kitW N (x := "NoMaster") (by decide +kernel), (by show 4 ≤ sizeLine; decide), fun p0 hp0 => ?_⟩
    have x_p0 : (upd HW p0 (.lst [V.bl (decide (("NoDeck" : Str) = one)), V.bl (decide (("NoDeed" : Str) = one)), V.bl (decide (("NoLink" : Str) = one)), V.bl (decide (("NoMaster" : Str) = one))])) p0 = some (.lst [V.bl (decide (("NoDeck" : Str) = one)), V.bl (decide (("NoDeed" : Str) = one)), V.bl (decide (("NoLink" : Str) = one)), V.bl (decide (("NoMaster" : Str) = one))]) := upd_same
    have s_p0 : Same HW (upd HW p0 (.lst [V.bl (decide (("NoDeck" : Str) = one)), V.bl (decide (("NoDeed" : Str) = one)), V.bl (decide (("NoLink" : Str) = one)), V.bl (decide (("NoMaster" : Str) = one))])) := same_new hp0
    revert x_p0 s_p0
    generalize upd HW p0 (.lst [V.bl (decide (("NoDeck" : Str) = one)), V.bl (decide (("NoDeed" : Str) = one)), V.bl (decide (("NoLink" : Str) = one)), V.bl (decide (("NoMaster" : Str) = one))]) = H_p0
    intro x_p0 s_p0
    have m1 := m0.trans s_p0
    refine ⟨_, rfl, _, rfl, a, _, _, _, decide (("NoName" : Str) = one), rfl, m1 _ _ hA, N.c, fun _ e => e, kitW N (x := "NoName") (by decide +kernel), _, rfl, a, _, _, _, decide (("NoNumber" : Str) = one), rfl, m1 _ _ hA, N.c, fun _ e => e, kitW N (x := "NoNumber") (by decide +kernel), _, rfl, a, _, _, _, decide (("NoPlace" : Str) = one), rfl, m1 _ _ hA, N.c, fun _ e => e, kitW N (x := "NoPlace") (by decide +kernel), _, rfl, a, _, _, _, decide (("NoPress" : Str) = one), rfl, m1 _ _ hA, N.c, fun _ e => e, kitW N (x := "NoPress") (by decide +kernel), (by show 4 ≤ sizeLine; decide), fun p1 hp1 => ?_⟩
    have x_p1 : (upd H_p0 p1 (.lst [V.bl (decide (("NoName" : Str) = one)), V.bl (decide (("NoNumber" : Str) = one)), V.bl (decide (("NoPlace" : Str) = one)), V.bl (decide (("NoPress" : Str) = one))])) p1 = some (.lst [V.bl (decide (("NoName" : Str) = one)), V.bl (decide (("NoNumber" : Str) = one)), V.bl (decide (("NoPlace" : Str) = one)), V.bl (decide (("NoPress" : Str) = one))]) := upd_same
    have s_p1 : Same H_p0 (upd H_p0 p1 (.lst [V.bl (decide (("NoName" : Str) = one)), V.bl (decide (("NoNumber" : Str) = one)), V.bl (decide (("NoPlace" : Str) = one)), V.bl (decide (("NoPress" : Str) = one))])) := same_new hp1
    revert x_p1 s_p1
    generalize upd H_p0 p1 (.lst [V.bl (decide (("NoName" : Str) = one)), V.bl (decide (("NoNumber" : Str) = one)), V.bl (decide (("NoPlace" : Str) = one)), V.bl (decide (("NoPress" : Str) = one))]) = H_p1
    intro x_p1 s_p1
    refine ⟨_, _, _, _, rfl, rfl, s_p1 _ _ x_p0, x_p1, (by show 8 ≤ sizeLine; decide), fun r1 hr1 => ?_⟩
    have x_r1 : (upd H_p1 r1 (.lst ([V.bl (decide (("NoDeck" : Str) = one)), V.bl (decide (("NoDeed" : Str) = one)), V.bl (decide (("NoLink" : Str) = one)), V.bl (decide (("NoMaster" : Str) = one))] ++ [V.bl (decide (("NoName" : Str) = one)), V.bl (decide (("NoNumber" : Str) = one)), V.bl (decide (("NoPlace" : Str) = one)), V.bl (decide (("NoPress" : Str) = one))]))) r1 = some (.lst ([V.bl (decide (("NoDeck" : Str) = one)), V.bl (decide (("NoDeed" : Str) = one)), V.bl (decide (("NoLink" : Str) = one)), V.bl (decide (("NoMaster" : Str) = one))] ++ [V.bl (decide (("NoName" : Str) = one)), V.bl (decide (("NoNumber" : Str) = one)), V.bl (decide (("NoPlace" : Str) = one)), V.bl (decide (("NoPress" : Str) = one))])) := upd_same
    have s_r1 : Same H_p1 (upd H_p1 r1 (.lst ([V.bl (decide (("NoDeck" : Str) = one)), V.bl (decide (("NoDeed" : Str) = one)), V.bl (decide (("NoLink" : Str) = one)), V.bl (decide (("NoMaster" : Str) = one))] ++ [V.bl (decide (("NoName" : Str) = one)), V.bl (decide (("NoNumber" : Str) = one)), V.bl (decide (("NoPlace" : Str) = one)), V.bl (decide (("NoPress" : Str) = one))]))) := same_new hr1
    revert x_r1 s_r1
    generalize upd H_p1 r1 (.lst ([V.bl (decide (("NoDeck" : Str) = one)), V.bl (decide (("NoDeed" : Str) = one)), V.bl (decide (("NoLink" : Str) = one)), V.bl (decide (("NoMaster" : Str) = one))] ++ [V.bl (decide (("NoName" : Str) = one)), V.bl (decide (("NoNumber" : Str) = one)), V.bl (decide (("NoPlace" : Str) = one)), V.bl (decide (("NoPress" : Str) = one))])) = H_r1
    intro x_r1 s_r1
    have m2 := (m1.trans s_p1).trans s_r1
    refine ⟨_, rfl, _, rfl, a, _, _, _, decide (("NoRoom" : Str) = one), rfl, m2 _ _ hA, N.c, fun _ e => e, kitW N (x := "NoRoom") (by decide +kernel), _, rfl, a, _, _, _, decide (("NoRow" : Str) = one), rfl, m2 _ _ hA, N.c, fun _ e => e, kitW N (x := "NoRow") (by decide +kernel), _, rfl, a, _, _, _, decide (("NoSetting" : Str) = one), rfl, m2 _ _ hA, N.c, fun _ e => e, kitW N (x := "NoSetting") (by decide +kernel), _, rfl, a, _, _, _, decide (("NoShow" : Str) = one), rfl, m2 _ _ hA, N.c, fun _ e => e, kitW N (x := "NoShow") (by decide +kernel), (by show 4 ≤ sizeLine; decide), fun p2 hp2 => ?_⟩
    have x_p2 : (upd H_r1 p2 (.lst [V.bl (decide (("NoRoom" : Str) = one)), V.bl (decide (("NoRow" : Str) = one)), V.bl (decide (("NoSetting" : Str) = one)), V.bl (decide (("NoShow" : Str) = one))])) p2 = some (.lst [V.bl (decide (("NoRoom" : Str) = one)), V.bl (decide (("NoRow" : Str) = one)), V.bl (decide (("NoSetting" : Str) = one)), V.bl (decide (("NoShow" : Str) = one))]) := upd_same
    have s_p2 : Same H_r1 (upd H_r1 p2 (.lst [V.bl (decide (("NoRoom" : Str) = one)), V.bl (decide (("NoRow" : Str) = one)), V.bl (decide (("NoSetting" : Str) = one)), V.bl (decide (("NoShow" : Str) = one))])) := same_new hp2
    revert x_p2 s_p2
    generalize upd H_r1 p2 (.lst [V.bl (decide (("NoRoom" : Str) = one)), V.bl (decide (("NoRow" : Str) = one)), V.bl (decide (("NoSetting" : Str) = one)), V.bl (decide (("NoShow" : Str) = one))]) = H_p2
    intro x_p2 s_p2
    refine ⟨_, _, _, _, rfl, rfl, s_p2 _ _ x_r1, x_p2, (by show 12 ≤ sizeLine; decide), fun r2 hr2 => ?_⟩
    have x_r2 : (upd H_p2 r2 (.lst ([V.bl (decide (("NoDeck" : Str) = one)), V.bl (decide (("NoDeed" : Str) = one)), V.bl (decide (("NoLink" : Str) = one)), V.bl (decide (("NoMaster" : Str) = one))] ++ [V.bl (decide (("NoName" : Str) = one)), V.bl (decide (("NoNumber" : Str) = one)), V.bl (decide (("NoPlace" : Str) = one)), V.bl (decide (("NoPress" : Str) = one))] ++ [V.bl (decide (("NoRoom" : Str) = one)), V.bl (decide (("NoRow" : Str) = one)), V.bl (decide (("NoSetting" : Str) = one)), V.bl (decide (("NoShow" : Str) = one))]))) r2 = some (.lst ([V.bl (decide (("NoDeck" : Str) = one)), V.bl (decide (("NoDeed" : Str) = one)), V.bl (decide (("NoLink" : Str) = one)), V.bl (decide (("NoMaster" : Str) = one))] ++ [V.bl (decide (("NoName" : Str) = one)), V.bl (decide (("NoNumber" : Str) = one)), V.bl (decide (("NoPlace" : Str) = one)), V.bl (decide (("NoPress" : Str) = one))] ++ [V.bl (decide (("NoRoom" : Str) = one)), V.bl (decide (("NoRow" : Str) = one)), V.bl (decide (("NoSetting" : Str) = one)), V.bl (decide (("NoShow" : Str) = one))])) := upd_same
    have s_r2 : Same H_p2 (upd H_p2 r2 (.lst ([V.bl (decide (("NoDeck" : Str) = one)), V.bl (decide (("NoDeed" : Str) = one)), V.bl (decide (("NoLink" : Str) = one)), V.bl (decide (("NoMaster" : Str) = one))] ++ [V.bl (decide (("NoName" : Str) = one)), V.bl (decide (("NoNumber" : Str) = one)), V.bl (decide (("NoPlace" : Str) = one)), V.bl (decide (("NoPress" : Str) = one))] ++ [V.bl (decide (("NoRoom" : Str) = one)), V.bl (decide (("NoRow" : Str) = one)), V.bl (decide (("NoSetting" : Str) = one)), V.bl (decide (("NoShow" : Str) = one))]))) := same_new hr2
    revert x_r2 s_r2
    generalize upd H_p2 r2 (.lst ([V.bl (decide (("NoDeck" : Str) = one)), V.bl (decide (("NoDeed" : Str) = one)), V.bl (decide (("NoLink" : Str) = one)), V.bl (decide (("NoMaster" : Str) = one))] ++ [V.bl (decide (("NoName" : Str) = one)), V.bl (decide (("NoNumber" : Str) = one)), V.bl (decide (("NoPlace" : Str) = one)), V.bl (decide (("NoPress" : Str) = one))] ++ [V.bl (decide (("NoRoom" : Str) = one)), V.bl (decide (("NoRow" : Str) = one)), V.bl (decide (("NoSetting" : Str) = one)), V.bl (decide (("NoShow" : Str) = one))])) = H_r2
    intro x_r2 s_r2
    have m3 := (m2.trans s_p2).trans s_r2
    refine ⟨_, rfl, _, rfl, a, _, _, _, decide (("NoSlide" : Str) = one), rfl, m3 _ _ hA, N.c, fun _ e => e, kitW N (x := "NoSlide") (by decide +kernel), _, rfl, a, _, _, _, decide (("NoSteps" : Str) = one), rfl, m3 _ _ hA, N.c, fun _ e => e, kitW N (x := "NoSteps") (by decide +kernel), _, rfl, a, _, _, _, decide (("NoText" : Str) = one), rfl, m3 _ _ hA, N.c, fun _ e => e, kitW N (x := "NoText") (by decide +kernel), _, rfl, a, _, _, _, decide (("NoTime" : Str) = one), rfl, m3 _ _ hA, N.c, fun _ e => e, kitW N (x := "NoTime") (by decide +kernel), (by show 4 ≤ sizeLine; decide), fun p3 hp3 => ?_⟩
    have x_p3 : (upd H_r2 p3 (.lst [V.bl (decide (("NoSlide" : Str) = one)), V.bl (decide (("NoSteps" : Str) = one)), V.bl (decide (("NoText" : Str) = one)), V.bl (decide (("NoTime" : Str) = one))])) p3 = some (.lst [V.bl (decide (("NoSlide" : Str) = one)), V.bl (decide (("NoSteps" : Str) = one)), V.bl (decide (("NoText" : Str) = one)), V.bl (decide (("NoTime" : Str) = one))]) := upd_same
    have s_p3 : Same H_r2 (upd H_r2 p3 (.lst [V.bl (decide (("NoSlide" : Str) = one)), V.bl (decide (("NoSteps" : Str) = one)), V.bl (decide (("NoText" : Str) = one)), V.bl (decide (("NoTime" : Str) = one))])) := same_new hp3
    revert x_p3 s_p3
    generalize upd H_r2 p3 (.lst [V.bl (decide (("NoSlide" : Str) = one)), V.bl (decide (("NoSteps" : Str) = one)), V.bl (decide (("NoText" : Str) = one)), V.bl (decide (("NoTime" : Str) = one))]) = H_p3
    intro x_p3 s_p3
    refine ⟨_, _, _, _, rfl, rfl, s_p3 _ _ x_r2, x_p3, (by show 16 ≤ sizeLine; decide), fun r3 hr3 => ?_⟩
    have x_r3 : (upd H_p3 r3 (.lst ([V.bl (decide (("NoDeck" : Str) = one)), V.bl (decide (("NoDeed" : Str) = one)), V.bl (decide (("NoLink" : Str) = one)), V.bl (decide (("NoMaster" : Str) = one))] ++ [V.bl (decide (("NoName" : Str) = one)), V.bl (decide (("NoNumber" : Str) = one)), V.bl (decide (("NoPlace" : Str) = one)), V.bl (decide (("NoPress" : Str) = one))] ++ [V.bl (decide (("NoRoom" : Str) = one)), V.bl (decide (("NoRow" : Str) = one)), V.bl (decide (("NoSetting" : Str) = one)), V.bl (decide (("NoShow" : Str) = one))] ++ [V.bl (decide (("NoSlide" : Str) = one)), V.bl (decide (("NoSteps" : Str) = one)), V.bl (decide (("NoText" : Str) = one)), V.bl (decide (("NoTime" : Str) = one))]))) r3 = some (.lst ([V.bl (decide (("NoDeck" : Str) = one)), V.bl (decide (("NoDeed" : Str) = one)), V.bl (decide (("NoLink" : Str) = one)), V.bl (decide (("NoMaster" : Str) = one))] ++ [V.bl (decide (("NoName" : Str) = one)), V.bl (decide (("NoNumber" : Str) = one)), V.bl (decide (("NoPlace" : Str) = one)), V.bl (decide (("NoPress" : Str) = one))] ++ [V.bl (decide (("NoRoom" : Str) = one)), V.bl (decide (("NoRow" : Str) = one)), V.bl (decide (("NoSetting" : Str) = one)), V.bl (decide (("NoShow" : Str) = one))] ++ [V.bl (decide (("NoSlide" : Str) = one)), V.bl (decide (("NoSteps" : Str) = one)), V.bl (decide (("NoText" : Str) = one)), V.bl (decide (("NoTime" : Str) = one))])) := upd_same
    have s_r3 : Same H_p3 (upd H_p3 r3 (.lst ([V.bl (decide (("NoDeck" : Str) = one)), V.bl (decide (("NoDeed" : Str) = one)), V.bl (decide (("NoLink" : Str) = one)), V.bl (decide (("NoMaster" : Str) = one))] ++ [V.bl (decide (("NoName" : Str) = one)), V.bl (decide (("NoNumber" : Str) = one)), V.bl (decide (("NoPlace" : Str) = one)), V.bl (decide (("NoPress" : Str) = one))] ++ [V.bl (decide (("NoRoom" : Str) = one)), V.bl (decide (("NoRow" : Str) = one)), V.bl (decide (("NoSetting" : Str) = one)), V.bl (decide (("NoShow" : Str) = one))] ++ [V.bl (decide (("NoSlide" : Str) = one)), V.bl (decide (("NoSteps" : Str) = one)), V.bl (decide (("NoText" : Str) = one)), V.bl (decide (("NoTime" : Str) = one))]))) := same_new hr3
    revert x_r3 s_r3
    generalize upd H_p3 r3 (.lst ([V.bl (decide (("NoDeck" : Str) = one)), V.bl (decide (("NoDeed" : Str) = one)), V.bl (decide (("NoLink" : Str) = one)), V.bl (decide (("NoMaster" : Str) = one))] ++ [V.bl (decide (("NoName" : Str) = one)), V.bl (decide (("NoNumber" : Str) = one)), V.bl (decide (("NoPlace" : Str) = one)), V.bl (decide (("NoPress" : Str) = one))] ++ [V.bl (decide (("NoRoom" : Str) = one)), V.bl (decide (("NoRow" : Str) = one)), V.bl (decide (("NoSetting" : Str) = one)), V.bl (decide (("NoShow" : Str) = one))] ++ [V.bl (decide (("NoSlide" : Str) = one)), V.bl (decide (("NoSteps" : Str) = one)), V.bl (decide (("NoText" : Str) = one)), V.bl (decide (("NoTime" : Str) = one))])) = H_r3
    intro x_r3 s_r3
    have m4 := (m3.trans s_p3).trans s_r3
    refine ⟨_, rfl, _, rfl, a, _, _, _, decide (("NoTrait" : Str) = one), rfl, m4 _ _ hA, N.c, fun _ e => e, kitW N (x := "NoTrait") (by decide +kernel), _, rfl, a, _, _, _, decide (("NoWord" : Str) = one), rfl, m4 _ _ hA, N.c, fun _ e => e, kitW N (x := "NoWord") (by decide +kernel), _, rfl, a, _, _, _, decide (("NoWorth" : Str) = one), rfl, m4 _ _ hA, N.c, fun _ e => e, kitW N (x := "NoWorth") (by decide +kernel), _, rfl, a, _, _, _, decide (("Ring" : Str) = one), rfl, m4 _ _ hA, N.c, fun _ e => e, kitW N (x := "Ring") (by decide +kernel), (by show 4 ≤ sizeLine; decide), fun p4 hp4 => ?_⟩
    have x_p4 : (upd H_r3 p4 (.lst [V.bl (decide (("NoTrait" : Str) = one)), V.bl (decide (("NoWord" : Str) = one)), V.bl (decide (("NoWorth" : Str) = one)), V.bl (decide (("Ring" : Str) = one))])) p4 = some (.lst [V.bl (decide (("NoTrait" : Str) = one)), V.bl (decide (("NoWord" : Str) = one)), V.bl (decide (("NoWorth" : Str) = one)), V.bl (decide (("Ring" : Str) = one))]) := upd_same
    have s_p4 : Same H_r3 (upd H_r3 p4 (.lst [V.bl (decide (("NoTrait" : Str) = one)), V.bl (decide (("NoWord" : Str) = one)), V.bl (decide (("NoWorth" : Str) = one)), V.bl (decide (("Ring" : Str) = one))])) := same_new hp4
    revert x_p4 s_p4
    generalize upd H_r3 p4 (.lst [V.bl (decide (("NoTrait" : Str) = one)), V.bl (decide (("NoWord" : Str) = one)), V.bl (decide (("NoWorth" : Str) = one)), V.bl (decide (("Ring" : Str) = one))]) = H_p4
    intro x_p4 s_p4
    refine ⟨_, _, _, _, rfl, rfl, s_p4 _ _ x_r3, x_p4, (by show 20 ≤ sizeLine; decide), fun r4 hr4 => ?_⟩
    have x_r4 : (upd H_p4 r4 (.lst ([V.bl (decide (("NoDeck" : Str) = one)), V.bl (decide (("NoDeed" : Str) = one)), V.bl (decide (("NoLink" : Str) = one)), V.bl (decide (("NoMaster" : Str) = one))] ++ [V.bl (decide (("NoName" : Str) = one)), V.bl (decide (("NoNumber" : Str) = one)), V.bl (decide (("NoPlace" : Str) = one)), V.bl (decide (("NoPress" : Str) = one))] ++ [V.bl (decide (("NoRoom" : Str) = one)), V.bl (decide (("NoRow" : Str) = one)), V.bl (decide (("NoSetting" : Str) = one)), V.bl (decide (("NoShow" : Str) = one))] ++ [V.bl (decide (("NoSlide" : Str) = one)), V.bl (decide (("NoSteps" : Str) = one)), V.bl (decide (("NoText" : Str) = one)), V.bl (decide (("NoTime" : Str) = one))] ++ [V.bl (decide (("NoTrait" : Str) = one)), V.bl (decide (("NoWord" : Str) = one)), V.bl (decide (("NoWorth" : Str) = one)), V.bl (decide (("Ring" : Str) = one))]))) r4 = some (.lst ([V.bl (decide (("NoDeck" : Str) = one)), V.bl (decide (("NoDeed" : Str) = one)), V.bl (decide (("NoLink" : Str) = one)), V.bl (decide (("NoMaster" : Str) = one))] ++ [V.bl (decide (("NoName" : Str) = one)), V.bl (decide (("NoNumber" : Str) = one)), V.bl (decide (("NoPlace" : Str) = one)), V.bl (decide (("NoPress" : Str) = one))] ++ [V.bl (decide (("NoRoom" : Str) = one)), V.bl (decide (("NoRow" : Str) = one)), V.bl (decide (("NoSetting" : Str) = one)), V.bl (decide (("NoShow" : Str) = one))] ++ [V.bl (decide (("NoSlide" : Str) = one)), V.bl (decide (("NoSteps" : Str) = one)), V.bl (decide (("NoText" : Str) = one)), V.bl (decide (("NoTime" : Str) = one))] ++ [V.bl (decide (("NoTrait" : Str) = one)), V.bl (decide (("NoWord" : Str) = one)), V.bl (decide (("NoWorth" : Str) = one)), V.bl (decide (("Ring" : Str) = one))])) := upd_same
    have s_r4 : Same H_p4 (upd H_p4 r4 (.lst ([V.bl (decide (("NoDeck" : Str) = one)), V.bl (decide (("NoDeed" : Str) = one)), V.bl (decide (("NoLink" : Str) = one)), V.bl (decide (("NoMaster" : Str) = one))] ++ [V.bl (decide (("NoName" : Str) = one)), V.bl (decide (("NoNumber" : Str) = one)), V.bl (decide (("NoPlace" : Str) = one)), V.bl (decide (("NoPress" : Str) = one))] ++ [V.bl (decide (("NoRoom" : Str) = one)), V.bl (decide (("NoRow" : Str) = one)), V.bl (decide (("NoSetting" : Str) = one)), V.bl (decide (("NoShow" : Str) = one))] ++ [V.bl (decide (("NoSlide" : Str) = one)), V.bl (decide (("NoSteps" : Str) = one)), V.bl (decide (("NoText" : Str) = one)), V.bl (decide (("NoTime" : Str) = one))] ++ [V.bl (decide (("NoTrait" : Str) = one)), V.bl (decide (("NoWord" : Str) = one)), V.bl (decide (("NoWorth" : Str) = one)), V.bl (decide (("Ring" : Str) = one))]))) := same_new hr4
    revert x_r4 s_r4
    generalize upd H_p4 r4 (.lst ([V.bl (decide (("NoDeck" : Str) = one)), V.bl (decide (("NoDeed" : Str) = one)), V.bl (decide (("NoLink" : Str) = one)), V.bl (decide (("NoMaster" : Str) = one))] ++ [V.bl (decide (("NoName" : Str) = one)), V.bl (decide (("NoNumber" : Str) = one)), V.bl (decide (("NoPlace" : Str) = one)), V.bl (decide (("NoPress" : Str) = one))] ++ [V.bl (decide (("NoRoom" : Str) = one)), V.bl (decide (("NoRow" : Str) = one)), V.bl (decide (("NoSetting" : Str) = one)), V.bl (decide (("NoShow" : Str) = one))] ++ [V.bl (decide (("NoSlide" : Str) = one)), V.bl (decide (("NoSteps" : Str) = one)), V.bl (decide (("NoText" : Str) = one)), V.bl (decide (("NoTime" : Str) = one))] ++ [V.bl (decide (("NoTrait" : Str) = one)), V.bl (decide (("NoWord" : Str) = one)), V.bl (decide (("NoWorth" : Str) = one)), V.bl (decide (("Ring" : Str) = one))])) = H_r4
    intro x_r4 s_r4
    have m5 := (m4.trans s_p4).trans s_r4
    refine ⟨_, rfl, _, rfl, a, _, _, _, decide (("Taken" : Str) = one), rfl, m5 _ _ hA, N.c, fun _ e => e, kitW N (x := "Taken") (by decide +kernel), _, rfl, a, _, _, _, decide (("TooMany" : Str) = one), rfl, m5 _ _ hA, N.c, fun _ e => e, kitW N (x := "TooMany") (by decide +kernel), _, rfl, a, _, _, _, decide (("Used" : Str) = one), rfl, m5 _ _ hA, N.c, fun _ e => e, kitW N (x := "Used") (by decide +kernel), (by show 3 ≤ sizeLine; decide), fun p5 hp5 => ?_⟩
    have x_p5 : (upd H_r4 p5 (.lst [V.bl (decide (("Taken" : Str) = one)), V.bl (decide (("TooMany" : Str) = one)), V.bl (decide (("Used" : Str) = one))])) p5 = some (.lst [V.bl (decide (("Taken" : Str) = one)), V.bl (decide (("TooMany" : Str) = one)), V.bl (decide (("Used" : Str) = one))]) := upd_same
    have s_p5 : Same H_r4 (upd H_r4 p5 (.lst [V.bl (decide (("Taken" : Str) = one)), V.bl (decide (("TooMany" : Str) = one)), V.bl (decide (("Used" : Str) = one))])) := same_new hp5
    revert x_p5 s_p5
    generalize upd H_r4 p5 (.lst [V.bl (decide (("Taken" : Str) = one)), V.bl (decide (("TooMany" : Str) = one)), V.bl (decide (("Used" : Str) = one))]) = H_p5
    intro x_p5 s_p5
    refine ⟨_, _, _, _, rfl, rfl, s_p5 _ _ x_r4, x_p5, (by show 23 ≤ sizeLine; decide), fun r5 hr5 => ?_⟩
    have x_r5 : (upd H_p5 r5 (.lst ([V.bl (decide (("NoDeck" : Str) = one)), V.bl (decide (("NoDeed" : Str) = one)), V.bl (decide (("NoLink" : Str) = one)), V.bl (decide (("NoMaster" : Str) = one))] ++ [V.bl (decide (("NoName" : Str) = one)), V.bl (decide (("NoNumber" : Str) = one)), V.bl (decide (("NoPlace" : Str) = one)), V.bl (decide (("NoPress" : Str) = one))] ++ [V.bl (decide (("NoRoom" : Str) = one)), V.bl (decide (("NoRow" : Str) = one)), V.bl (decide (("NoSetting" : Str) = one)), V.bl (decide (("NoShow" : Str) = one))] ++ [V.bl (decide (("NoSlide" : Str) = one)), V.bl (decide (("NoSteps" : Str) = one)), V.bl (decide (("NoText" : Str) = one)), V.bl (decide (("NoTime" : Str) = one))] ++ [V.bl (decide (("NoTrait" : Str) = one)), V.bl (decide (("NoWord" : Str) = one)), V.bl (decide (("NoWorth" : Str) = one)), V.bl (decide (("Ring" : Str) = one))] ++ [V.bl (decide (("Taken" : Str) = one)), V.bl (decide (("TooMany" : Str) = one)), V.bl (decide (("Used" : Str) = one))]))) r5 = some (.lst ([V.bl (decide (("NoDeck" : Str) = one)), V.bl (decide (("NoDeed" : Str) = one)), V.bl (decide (("NoLink" : Str) = one)), V.bl (decide (("NoMaster" : Str) = one))] ++ [V.bl (decide (("NoName" : Str) = one)), V.bl (decide (("NoNumber" : Str) = one)), V.bl (decide (("NoPlace" : Str) = one)), V.bl (decide (("NoPress" : Str) = one))] ++ [V.bl (decide (("NoRoom" : Str) = one)), V.bl (decide (("NoRow" : Str) = one)), V.bl (decide (("NoSetting" : Str) = one)), V.bl (decide (("NoShow" : Str) = one))] ++ [V.bl (decide (("NoSlide" : Str) = one)), V.bl (decide (("NoSteps" : Str) = one)), V.bl (decide (("NoText" : Str) = one)), V.bl (decide (("NoTime" : Str) = one))] ++ [V.bl (decide (("NoTrait" : Str) = one)), V.bl (decide (("NoWord" : Str) = one)), V.bl (decide (("NoWorth" : Str) = one)), V.bl (decide (("Ring" : Str) = one))] ++ [V.bl (decide (("Taken" : Str) = one)), V.bl (decide (("TooMany" : Str) = one)), V.bl (decide (("Used" : Str) = one))])) := upd_same
    have s_r5 : Same H_p5 (upd H_p5 r5 (.lst ([V.bl (decide (("NoDeck" : Str) = one)), V.bl (decide (("NoDeed" : Str) = one)), V.bl (decide (("NoLink" : Str) = one)), V.bl (decide (("NoMaster" : Str) = one))] ++ [V.bl (decide (("NoName" : Str) = one)), V.bl (decide (("NoNumber" : Str) = one)), V.bl (decide (("NoPlace" : Str) = one)), V.bl (decide (("NoPress" : Str) = one))] ++ [V.bl (decide (("NoRoom" : Str) = one)), V.bl (decide (("NoRow" : Str) = one)), V.bl (decide (("NoSetting" : Str) = one)), V.bl (decide (("NoShow" : Str) = one))] ++ [V.bl (decide (("NoSlide" : Str) = one)), V.bl (decide (("NoSteps" : Str) = one)), V.bl (decide (("NoText" : Str) = one)), V.bl (decide (("NoTime" : Str) = one))] ++ [V.bl (decide (("NoTrait" : Str) = one)), V.bl (decide (("NoWord" : Str) = one)), V.bl (decide (("NoWorth" : Str) = one)), V.bl (decide (("Ring" : Str) = one))] ++ [V.bl (decide (("Taken" : Str) = one)), V.bl (decide (("TooMany" : Str) = one)), V.bl (decide (("Used" : Str) = one))]))) := same_new hr5
    revert x_r5 s_r5
    generalize upd H_p5 r5 (.lst ([V.bl (decide (("NoDeck" : Str) = one)), V.bl (decide (("NoDeed" : Str) = one)), V.bl (decide (("NoLink" : Str) = one)), V.bl (decide (("NoMaster" : Str) = one))] ++ [V.bl (decide (("NoName" : Str) = one)), V.bl (decide (("NoNumber" : Str) = one)), V.bl (decide (("NoPlace" : Str) = one)), V.bl (decide (("NoPress" : Str) = one))] ++ [V.bl (decide (("NoRoom" : Str) = one)), V.bl (decide (("NoRow" : Str) = one)), V.bl (decide (("NoSetting" : Str) = one)), V.bl (decide (("NoShow" : Str) = one))] ++ [V.bl (decide (("NoSlide" : Str) = one)), V.bl (decide (("NoSteps" : Str) = one)), V.bl (decide (("NoText" : Str) = one)), V.bl (decide (("NoTime" : Str) = one))] ++ [V.bl (decide (("NoTrait" : Str) = one)), V.bl (decide (("NoWord" : Str) = one)), V.bl (decide (("NoWorth" : Str) = one)), V.bl (decide (("Ring" : Str) = one))] ++ [V.bl (decide (("Taken" : Str) = one)), V.bl (decide (("TooMany" : Str) = one)), V.bl (decide (("Used" : Str) = one))])) = H_r5
    intro x_r5 s_r5
    have m6 := (m5.trans s_p5).trans s_r5
    have eW := ((((((((((s_p0.trans s_p1).trans s_r1).trans s_p2).trans s_r2).trans s_p3).trans s_r3).trans s_p4).trans s_r4).trans s_p5).trans s_r5) _ _ eW
    have xs : H_r5 r5 = some (.lst (CLS.map (fl one))) := x_r5
    clear x_r5 x_r4 x_r3 x_r2 x_r1 x_p0 x_p1 x_p2 x_p3 x_p4 x_p5
    obtain ⟨c1, c2, c3, _, c5⟩ := fl_facts one N.m
    have c4 := fl_not N.m
    revert xs c1 c2 c3 c4
    generalize CLS.map (fl one) = bs
    intro xs c1 c2 c3 c4
    refine ⟨_, rfl, .inl ⟨rfl, _, SqL.of xs⟩, r5, bs, .bl true, rfl, rfl, SqL.of xs, rfl, c2, ?_⟩
    rw [c1]
    refine ⟨rfl, _, rfl, iteF ?_⟩
    refine ⟨_, rfl, a, _, .ty "ValueError", .type "ValueError", true, rfl, m6 _ _ hA, N.c, fun _ e => e, N.kv, _, rfl, iteF ?_⟩
    refine ⟨_, rfl, _, rfl, .inl ⟨rfl, _, SqL.of xs⟩, r5, bs, .bl true, rk one CLS, .bl true, rfl, rfl, SqL.of xs, rfl, c2, c3, rfl, c4, ?_⟩
    refine ⟨W, _, _, .str (wordOf one), rfl, rfl, SqL.of eW, at_any (j := rk one CLS) rfl ?_, q _ m6⟩
    rw [← List.map_append, List.getElem?_map, c5] <;> rfl

end
end K36

set_option Elab.async false
set_option linter.all false
set_option maxRecDepth 100000
set_option maxHeartbeats 2000000
namespace K36
open PySem PySem.Spec PyProof.Rows L2 GxR Gx Gq Gd Gn Gm Gc Gk Gw Gt Gb Gp Gu Gr2
abbrev slaw_timed : Stmt := top 62
theorem sclaw_timed : FnScope ["steps", "found", "group", "base", "latest", "kind", "wait", "deed", "place", "line"] ["steps"] (defScope slaw_timed) := ⟨rfl, rfl, rfl, by decide +kernel, rfl, by decide +kernel, by decide +kernel⟩
section
variable {P : Program} {w : World} {K : PySem.W.Frag} {mg : Str → Option Value} {base : Heap}
/-! ### the asker's own times -/
structure TS where
  fd : List (Int × Int)
  g : Int
  bs : Int
  lt : Int
def tput (s : TS) (w : Int) : TS := ⟨s.fd ++ [(s.g, s.bs + w)], s.g, s.bs, if s.bs + w > s.lt then s.bs + w else s.lt⟩
def tstp (s : TS) (r : RS) : TS := tput (if r.kd = "press" then ⟨s.fd, s.g + 1, 0, 0⟩ else if r.kd = "after" then ⟨s.fd, s.g, s.lt, s.lt⟩ else s) (r.wt : Int)
def timed (rs : List RS) : TS := rs.foldl tstp ⟨[], 0, 0, 0⟩
theorem tstp_fd (s : TS) (r : RS) : ∃ x, (tstp s r).fd = s.fd ++ [x] := by
  unfold tstp
  split
  · exact ⟨_, rfl⟩
  · split
    · exact ⟨_, rfl⟩
    · exact ⟨_, rfl⟩
theorem timed_len : ∀ (rs : List RS) (s : TS), (rs.foldl tstp s).fd.length = s.fd.length + rs.length
  | [], _ => rfl
  | r :: rs, s => by
    obtain ⟨x, e⟩ := tstp_fd s r
    rw [List.foldl_cons, timed_len rs (tstp s r), List.length_cons, e, List.length_append, List.length_singleton]
    omega
structure TM (H : Hp) (D : Addr) (ts : List Addr) (fd : List (Int × Int)) : Prop where
  x : H D = some (.lst (ts.map V.ref))
  l : ts.length = fd.length
  at_ : ∀ (i : Nat) (t : Addr) (x : Int × Int), ts[i]? = some t → fd[i]? = some x → H t = some (.tup [.int x.1, .int x.2])
def spTimed (K : PySem.W.Frag) : Sp := fun vs H Q _ => ∃ (b : Addr) (rs : List RS), vs = [.ref b] ∧ GoodS K H b rs ∧ rs.length ≤ 24 ∧ ∀ (D : Addr) (ts : List Addr) (H' : Hp), Same H H' → H D = none → TM H' D ts (timed rs).fd → Q (.ref D) H'
theorem ok_timed {f : Addr} {fd : FuncData} (F : FnP K "_law_timed" slaw_timed f fd) (T : Txt mg) : FnOk P w K mg base CX0 1 f fd ["steps"] (spTimed K) := by
  refine okN F sclaw_timed (fun vs H Q E h => ?_) (fun cdv A outer s H vs Q E hr h => ?_)
  · obtain ⟨b, rs, rfl, _⟩ := h
    rfl
  · obtain ⟨b, rs, rfl, hg, lr, q⟩ := h
    refine ⟨_, (pss_cons (ps_asg (pe_tup (pa_cons (pe_lst pa_nil) (pa_cons pe_int (pa_cons pe_int (pa_cons pe_int pa_nil))))) (pg_tup rfl (pgs_cons (pg_name (i := 1) sclaw_timed.nd rfl (Or.inl rfl)) (pgs_cons (pg_name (i := 2) sclaw_timed.nd rfl (Or.inl rfl)) (pgs_cons (pg_name (i := 3) sclaw_timed.nd rfl (Or.inl rfl)) (pgs_cons (pg_name (i := 4) sclaw_timed.nd rfl (Or.inl rfl)) pgs_nil))))))
      (pss_cons (ps_for PassesOwn.never rfl (pi_tup (pv 0)) (pg_tup rfl (pgs_cons (pg_name (i := 5) sclaw_timed.nd rfl (Or.inl rfl)) (pgs_cons (pg_name (i := 6) sclaw_timed.nd rfl (Or.inl rfl)) (pgs_cons (pg_name (i := 7) sclaw_timed.nd rfl (Or.inl rfl)) (pgs_cons (pg_name (i := 8) sclaw_timed.nd rfl (Or.inl rfl)) (pgs_cons (pg_name (i := 9) sclaw_timed.nd rfl (Or.inl rfl)) pgs_nil)))))) (pss_cons (ps_if (pt_cmpR op_eq (pv 5) pe_str (nomark _)) (pss_one (ps_par3 (i := 2) (j := 3) (l := 4) (by rfl) sclaw_timed.nd rfl rfl rfl (by decide) (by decide) (by decide) rfl rfl rfl (pa_cons (pe_op op_add (pv 2) pe_int) (pa_cons pe_int (pa_cons pe_int pa_nil))) (by rfl))) (pss_one (ps_if (pt_cmpR op_eq (pv 5) pe_str (nomark _)) (pss_one (ps_set (i := 3) sclaw_timed.nd rfl (Or.inl rfl) (pv 4))) pss_nil)))
      (pss_cons (ps_expr (pe_bm PySem.F.plainAttrs_list PySem.F.slot_list_append PySem.F.type_list_append mt_append (pv 1) (pa_cons (pe_tup (pa_cons (pv 2) (pa_cons (pe_op op_add (pv 3) (pv 6)) pa_nil))) pa_nil)))
      (pss_one (ps_set (i := 4) sclaw_timed.nd rfl (Or.inl rfl) (pe_callB (call_max2 rfl) (by rfl) T.m_max (by decide +kernel) (pa_cons (pv 4) (pa_cons (pe_op op_add (pv 3) (pv 6)) pa_nil))))))))
      (pss_one (ps_ret (pv 1))))), ?_⟩
    obtain ⟨xs, eS, lx, gx⟩ := hg
    refine ⟨(by show 0 ≤ sizeLine; decide), fun D hD => ?_⟩
    have s0 := same_new (o := .lst []) hD
    have xD : (upd H D (.lst [])) D = some (.lst (([] : List Addr).map V.ref)) := upd_same
    revert s0 xD
    generalize upd H D (.lst []) = H0
    intro s0 xD
    refine ⟨(by show 4 ≤ sizeLine; decide), fun t0 ht0 => ?_⟩
    have s1 := s0.trans (same_new (o := .tup [V.ref D, V.int 0, V.int 0, V.int 0]) ht0)
    have xD := same_new (o := .tup [V.ref D, V.int 0, V.int 0, V.int 0]) ht0 _ _ xD
    have xt : (upd H0 t0 (.tup [V.ref D, V.int 0, V.int 0, V.int 0])) t0 = some (.tup [V.ref D, V.int 0, V.int 0, V.int 0]) := upd_same
    revert s1 xD xt
    generalize upd H0 t0 (.tup [V.ref D, V.int 0, V.int 0, V.int 0]) = H1
    intro s1 xD xt
    refine ⟨t0, _, rfl, SqT.of xt, rfl, _, _, rfl, _, _, rfl, _, _, rfl, _, _, rfl, rfl, ?_⟩
    refine ⟨_, rfl, b, rfl, ⟨_, sqT_same s1 eS⟩, for_tup (K := K) (a := b) (xs := xs) (fun i σ H2 => ∃ (v5 v6 v7 v8 v9 : Option V) (ts : List Addr), σ = [some (.ref b), some (.ref D), some (.int ((rs.take i).foldl tstp ⟨[], 0, 0, 0⟩).g), some (.int ((rs.take i).foldl tstp ⟨[], 0, 0, 0⟩).bs), some (.int ((rs.take i).foldl tstp ⟨[], 0, 0, 0⟩).lt), v5, v6, v7, v8, v9] ∧ Same H H2 ∧ TM H2 D ts ((rs.take i).foldl tstp ⟨[], 0, 0, 0⟩).fd ∧ D ∉ ts) ?_ ?_ ?_ ?_⟩
    · exact ⟨none, none, none, none, none, [], rfl, s1, ⟨xD, rfl, fun i t x h => nomatch h⟩, fun m => nomatch m⟩
    · rintro i σ H2 hi ⟨_, _, _, _, _, _, _, s2, _⟩
      exact sqT_same s2 eS
    · rintro i x σ H2 hi ⟨v5, v6, v7, v8, v9, ts, rfl, s2, hM, nD⟩
      have li := (List.getElem?_eq_some_iff.mp hi).1
      obtain ⟨r, hr⟩ : ∃ r, rs[i]? = some r := ⟨rs[i]'(by omega), List.getElem?_eq_getElem (by omega)⟩
      obtain ⟨c, rfl, hc⟩ := gx i x r hi hr
      have est : (rs.take (i + 1)).foldl tstp ⟨[], 0, 0, 0⟩ = tstp ((rs.take i).foldl tstp ⟨[], 0, 0, 0⟩) r := by
        rw [take_more hr, List.foldl_append] <;> rfl
      have ln := timed_len (rs.take i) ⟨[], 0, 0, 0⟩
      rw [List.length_take] at ln
      have ln : ((rs.take i).foldl tstp ⟨[], 0, 0, 0⟩).fd.length ≤ 24 := by
        have h0 : (TS.mk [] 0 0 0).fd.length = 0 := rfl
        omega
      rw [est]
      revert hM ln
      generalize (rs.take i).foldl tstp ⟨[], 0, 0, 0⟩ = st
      intro hM ln
      refine ⟨c, _, rfl, sqT_same s2 hc, rfl, _, _, rfl, _, _, rfl, _, _, rfl, _, _, rfl, _, _, rfl, rfl, ?_⟩
      refine seq_via (fun σ' H' => ∃ u : TS, σ' = [some (V.ref b), some (V.ref D), some (V.int u.g), some (V.int u.bs), some (V.int u.lt), some (V.str r.kd), some (V.int (r.wt : Int)), some (V.str r.dd), some (V.str r.pl), some r.ln] ∧ H2 = H' ∧ tstp st r = tput u (r.wt : Int) ∧ u.fd = st.fd) ?_ ?_
      · intro nx go
        refine ⟨_, rfl, rfl, _, rfl, ?_⟩
        rw [show decide (V.str r.kd = V.str "press") = decide (r.kd = "press") from str_dec]
        refine iteB (fun h => ?_) fun h => ?_
        · have h := of_decide_eq_true h
          refine ⟨_, rfl, _, _, rfl, rfl, _, _, _, rfl, ?_⟩
          exact go _ _ ⟨⟨st.fd, st.g + 1, 0, 0⟩, rfl, rfl, by unfold tstp; rw [if_pos h], rfl⟩
        · have h := of_decide_eq_false h
          refine ⟨_, rfl, rfl, _, rfl, ?_⟩
          rw [show decide (V.str r.kd = V.str "after") = decide (r.kd = "after") from str_dec]
          refine iteB (fun h2 => ?_) fun h2 => ?_
          · have h2 := of_decide_eq_true h2
            refine ⟨_, rfl, ?_⟩
            exact go _ _ ⟨⟨st.fd, st.g, st.lt, st.lt⟩, rfl, rfl, by unfold tstp; rw [if_neg h, if_pos h2], rfl⟩
          · have h2 := of_decide_eq_false h2
            exact go _ _ ⟨st, rfl, rfl, by unfold tstp; rw [if_neg h, if_neg h2], rfl⟩
      rintro _ _ ⟨u, rfl, rfl, e, efd⟩
      refine ⟨_, rfl, .inl ⟨rfl, _, SqL.of hM.x⟩, _, rfl, _, rfl, _, rfl, _, _, rfl, rfl, (by show 2 ≤ sizeLine; decide), fun Tn hTn => ?_⟩
      have sT := same_new (o := .tup [V.int u.g, V.int (u.bs + (r.wt : Int))]) hTn
      have xT : (upd H2 Tn (.tup [V.int u.g, V.int (u.bs + (r.wt : Int))])) Tn = some (.tup [V.int u.g, V.int (u.bs + (r.wt : Int))]) := upd_same
      have nDT : D ≠ Tn := ne_of_none hM.x hTn
      revert sT xT
      generalize upd H2 Tn (.tup [V.int u.g, V.int (u.bs + (r.wt : Int))]) = H3
      intro sT xT
      refine ⟨D, _, _, rfl, rfl, sT _ _ hM.x, small1000 (by rw [List.length_map, hM.l]; omega), ?_⟩
      refine ⟨_, rfl, _, rfl, _, rfl, _, _, rfl, rfl, _, _, rfl, ?_⟩
      refine ⟨_, _, _, _, _, ts ++ [Tn], by rw [e] <;> rfl, fun c' o h => ?_, ?_, fun m => ?_⟩
      · rw [upd_ne (ne_of_none h hD)]
        exact sT _ _ (s2 _ _ h)
      · rw [e]
        refine ⟨?_, ?_, fun j t y ht hy => ?_⟩
        · rw [upd_same, List.map_append] <;> rfl
        · show _ = (u.fd ++ [(u.g, u.bs + (r.wt : Int))]).length
          rw [List.length_append, List.length_append, efd, hM.l] <;> rfl
        · have hy : (u.fd ++ [(u.g, u.bs + (r.wt : Int))])[j]? = some y := hy
          rw [efd] at hy
          by_cases hj : j < ts.length
          · rw [List.getElem?_append_left hj] at ht
            rw [List.getElem?_append_left (by rw [← hM.l]; exact hj)] at hy
            rw [upd_ne (fun z => nD (by rw [← z]; exact List.mem_of_getElem? ht))]
            exact sT _ _ (hM.at_ j t y ht hy)
          · have hl := (List.getElem?_eq_some_iff.mp ht).1
            rw [List.length_append, List.length_singleton] at hl
            have ej : j = ts.length := by omega
            rw [ej, List.getElem?_append_right (Nat.le_refl _), Nat.sub_self] at ht
            rw [ej, hM.l, List.getElem?_append_right (Nat.le_refl _), Nat.sub_self] at hy
            cases ht
            cases hy
            rw [upd_ne nDT.symm]
            exact xT
      · rcases List.mem_append.mp m with h | h
        · exact nD h
        · exact nDT (List.mem_singleton.mp h)
    · rintro σ H2 ⟨v5, v6, v7, v8, v9, ts, rfl, s2, hM, nD⟩
      rw [lx, List.take_length] at hM
      exact ⟨_, rfl, q D ts H2 s2 hD hM⟩

/-! ### groups and times, two ways -/
def gl (p : Nat → Bool) (k : Nat) : Nat := (gst p k).1.length
theorem gl_succ (p : Nat → Bool) (k : Nat) : gl p (k + 1) = if p k = true then gl p k + 1 else gl p k := by
  unfold gl
  show (if p k = true then ((gst p k).1 ++ [(gst p k).2], [(k : Int)]) else ((gst p k).1, (gst p k).2 ++ [(k : Int)])).1.length = _
  by_cases h : p k = true
  · rw [if_pos h, if_pos h, List.length_append, List.length_singleton]
  · rw [if_neg h, if_neg h]
theorem gl_mono (p : Nat → Bool) : ∀ {i j : Nat}, i ≤ j → gl p i ≤ gl p j := fun {i j} h => by
  induction j with
  | zero => rw [Nat.le_zero.mp h]; exact Nat.le_refl _
  | succ j ih =>
    rcases Nat.lt_or_ge i (j + 1) with l | l
    · have h1 := ih (Nat.lt_succ_iff.mp l)
      have h2 := gl_succ p j
      split at h2 <;> omega
    · rw [show i = j + 1 by omega]
      exact Nat.le_refl _
def grp (p : Nat → Bool) (n g : Nat) : List Int := ((List.range n).filter fun k => decide (gl p (k + 1) = g)).map fun k : Nat => (k : Int)
theorem grp_succ (p : Nat → Bool) (n g : Nat) : grp p (n + 1) g = if gl p (n + 1) = g then grp p n g ++ [(n : Int)] else grp p n g := by
  unfold grp
  rw [List.range_succ, List.filter_append, List.map_append]
  by_cases h : gl p (n + 1) = g
  · rw [if_pos h, List.filter_cons_of_pos (by rw [decide_eq_true h])] <;> rfl
  · rw [if_neg h, List.filter_cons_of_neg (by rw [decide_eq_false h]; decide)]
    exact List.append_nil _
theorem grp_none {p : Nat → Bool} {n g : Nat} (h : gl p n < g) : grp p n g = [] := by
  unfold grp
  rw [List.filter_eq_nil_iff.mpr fun k hk => ?_]
  · rfl
  · have := gl_mono p (show k + 1 ≤ n from List.mem_range.mp hk)
    rw [decide_eq_false (by omega)]
    decide
theorem gof_eq (p : Nat → Bool) : ∀ n, gof p n = (List.range (gl p n + 1)).map (grp p n)
  | 0 => rfl
  | n + 1 => by
    have ih := gof_eq p n
    have hs := gl_succ p n
    by_cases h : p n = true
    · rw [if_pos h] at hs
      have e : gof p (n + 1) = gof p n ++ [[(n : Int)]] := by
        show (if p n = true then ((gst p n).1 ++ [(gst p n).2], [(n : Int)]) else ((gst p n).1, (gst p n).2 ++ [(n : Int)])).1 ++ [(if p n = true then ((gst p n).1 ++ [(gst p n).2], [(n : Int)]) else ((gst p n).1, (gst p n).2 ++ [(n : Int)])).2] = _
        rw [if_pos h] <;> rfl
      rw [e, ih, hs, List.range_succ (n := gl p n + 1), List.map_append]
      have h1 : (List.range (gl p n + 1)).map (grp p n) = (List.range (gl p n + 1)).map (grp p (n + 1)) := List.map_congr_left fun g hg => by
        have := List.mem_range.mp hg
        rw [grp_succ, if_neg (by omega)]
      have h2 : [[(n : Int)]] = [gl p n + 1].map (grp p (n + 1)) := by
        show _ = [grp p (n + 1) (gl p n + 1)]
        rw [grp_succ, if_pos hs, grp_none (by omega)] <;> rfl
      rw [h1, h2]
    · rw [if_neg h] at hs
      have e : gof p (n + 1) = (gst p n).1 ++ [(gst p n).2 ++ [(n : Int)]] := by
        show (if p n = true then ((gst p n).1 ++ [(gst p n).2], [(n : Int)]) else ((gst p n).1, (gst p n).2 ++ [(n : Int)])).1 ++ [(if p n = true then ((gst p n).1 ++ [(gst p n).2], [(n : Int)]) else ((gst p n).1, (gst p n).2 ++ [(n : Int)])).2] = _
        rw [if_neg h]
      rw [List.range_succ, List.map_append] at ih
      obtain ⟨i1, i2⟩ := List.append_inj' (show (gst p n).1 ++ [(gst p n).2] = _ from ih) rfl
      rw [e, hs, List.range_succ, List.map_append]
      have h1 : (gst p n).1 = (List.range (gl p n)).map (grp p (n + 1)) := by
        rw [i1]
        exact List.map_congr_left fun g hg => by
          have := List.mem_range.mp hg
          rw [grp_succ, if_neg (by omega)]
      have h2 : [(gst p n).2 ++ [(n : Int)]] = [gl p n].map (grp p (n + 1)) := by
        have i3 : (gst p n).2 = grp p n (gl p n) := (List.cons.inj i2).1
        show _ = [grp p (n + 1) (gl p n)]
        rw [grp_succ, if_pos hs, i3]
      rw [h1, h2]
theorem maxL_snoc (l : List Int) (x : Int) : maxL (l ++ [x]) = max (maxL l) x := by
  unfold maxL
  rw [List.foldl_append] <;> rfl
theorem if_max {a b : Int} : (if a + b > a then a + b else a) = max a (a + b) := by
  split <;> omega
structure TimesOk (rs : List RS) (n : Nat) (s : TS) : Prop where
  snd : s.fd.map (·.2) = tmsof rs (gof (isP rs) n)
  fst : s.fd.map (·.1) = (List.range n).map fun k => ((gl (isP rs) (k + 1) : Nat) : Int)
  g : s.g = (gl (isP rs) n : Nat)
  bs : s.bs = ((pick rs (gst (isP rs) n).2).foldl tstep ([], 0)).2
  lt : s.lt = maxL ((pick rs (gst (isP rs) n).2).foldl tstep ([], 0)).1
theorem tmsof_app (rs : List RS) (a b : List (List Int)) : tmsof rs (a ++ b) = tmsof rs a ++ tmsof rs b := List.flatMap_append
theorem tmsof_one (rs : List RS) (g : List Int) : tmsof rs [g] = tms (pick rs g) := by
  show List.flatMap _ [g] = _
  rw [List.flatMap_singleton]
theorem pick_app (rs : List RS) (a b : List Int) : pick rs (a ++ b) = pick rs a ++ pick rs b := List.filterMap_append
theorem times_ok (rs : List RS) : ∀ n, n ≤ rs.length → TimesOk rs n ((rs.take n).foldl tstp ⟨[], 0, 0, 0⟩)
  | 0, _ => ⟨rfl, rfl, rfl, rfl, rfl⟩
  | n + 1, hn => by
    have ih := times_ok rs n (Nat.le_of_succ_le hn)
    have hr : rs[n]? = some (rs[n]'hn) := List.getElem?_eq_getElem _
    obtain ⟨r, er⟩ : ∃ r, r = rs[n]'hn := ⟨_, rfl⟩
    rw [← er] at hr
    rw [take_more hr, List.foldl_append]
    revert ih
    generalize (rs.take n).foldl tstp ⟨[], 0, 0, 0⟩ = s
    intro ih
    show TimesOk rs (n + 1) (tstp s r)
    have hp : isP rs n = decide (r.kd = "press") := by
      unfold isP
      rw [hr]
    have hs := gl_succ (isP rs) n
    have pn : pick rs [(n : Int)] = [r] := by
      show List.filterMap _ [(n : Int)] = _
      rw [List.filterMap_cons, show rs[(n : Int).toNat]? = some r from hr] <;> rfl
    by_cases h : r.kd = "press"
    · have h' : isP rs n = true := by rw [hp, decide_eq_true h]
      have na : ¬ r.kd = "after" := by rw [h]; decide +kernel
      rw [if_pos h'] at hs
      have e2 : (gst (isP rs) (n + 1)).2 = [(n : Int)] := by
        show (if isP rs n = true then _ else _ : List (List Int) × List Int).2 = _
        rw [if_pos h']
      have eg : gof (isP rs) (n + 1) = gof (isP rs) n ++ [[(n : Int)]] := by
        show (if isP rs n = true then ((gst (isP rs) n).1 ++ [(gst (isP rs) n).2], [(n : Int)]) else ((gst (isP rs) n).1, (gst (isP rs) n).2 ++ [(n : Int)])).1 ++ [(if isP rs n = true then ((gst (isP rs) n).1 ++ [(gst (isP rs) n).2], [(n : Int)]) else ((gst (isP rs) n).1, (gst (isP rs) n).2 ++ [(n : Int)])).2] = _
        rw [if_pos h'] <;> rfl
      have et : tstp s r = tput ⟨s.fd, s.g + 1, 0, 0⟩ (r.wt : Int) := by
        unfold tstp
        rw [if_pos h]
      have eu : tstep ([], 0) r = ([0 + (r.wt : Int)], 0) := by
        unfold tstep
        rw [if_neg na] <;> rfl
      rw [et]
      refine ⟨?_, ?_, ?_, ?_, ?_⟩
      · show (s.fd ++ [(s.g + 1, 0 + (r.wt : Int))]).map (·.2) = _
        rw [List.map_append, ih.snd, eg, tmsof_app, tmsof_one, pn]
        show _ = _ ++ (tstep ([], 0) r).1
        rw [eu] <;> rfl
      · show (s.fd ++ [(s.g + 1, 0 + (r.wt : Int))]).map (·.1) = _
        rw [List.map_append, ih.fst, List.range_succ, List.map_append]
        show _ ++ [s.g + 1] = _ ++ [((gl (isP rs) (n + 1) : Nat) : Int)]
        rw [hs, ih.g] <;> rfl
      · show s.g + 1 = _
        rw [hs, ih.g] <;> rfl
      · show (0 : Int) = _
        rw [e2, pn]
        show (0 : Int) = (tstep ([], 0) r).2
        rw [eu]
      · show (if (0 : Int) + (r.wt : Int) > 0 then 0 + (r.wt : Int) else 0) = _
        rw [e2, pn]
        show _ = maxL (tstep ([], 0) r).1
        rw [eu, if_max] <;> rfl
    · have h' : ¬ isP rs n = true := by rw [hp, decide_eq_false h]; decide
      rw [if_neg h'] at hs
      have e2 : (gst (isP rs) (n + 1)).2 = (gst (isP rs) n).2 ++ [(n : Int)] := by
        show (if isP rs n = true then _ else _ : List (List Int) × List Int).2 = _
        rw [if_neg h']
      have eg : gof (isP rs) (n + 1) = (gst (isP rs) n).1 ++ [(gst (isP rs) n).2 ++ [(n : Int)]] := by
        show (if isP rs n = true then ((gst (isP rs) n).1 ++ [(gst (isP rs) n).2], [(n : Int)]) else ((gst (isP rs) n).1, (gst (isP rs) n).2 ++ [(n : Int)])).1 ++ [(if isP rs n = true then ((gst (isP rs) n).1 ++ [(gst (isP rs) n).2], [(n : Int)]) else ((gst (isP rs) n).1, (gst (isP rs) n).2 ++ [(n : Int)])).2] = _
        rw [if_neg h']
      obtain ⟨u, eu⟩ : ∃ u, u = (pick rs (gst (isP rs) n).2).foldl tstep ([], 0) := ⟨_, rfl⟩
      have ib := ih.bs
      have il := ih.lt
      rw [← eu] at ib il
      have ef : (pick rs (gst (isP rs) (n + 1)).2).foldl tstep ([], 0) = tstep u r := by
        rw [e2, pick_app, pn, List.foldl_append, ← eu] <;> rfl
      have old : s.fd.map (·.2) = tmsof rs (gst (isP rs) n).1 ++ u.1 := by
        rw [ih.snd]
        show tmsof rs ((gst (isP rs) n).1 ++ [(gst (isP rs) n).2]) = _
        rw [tmsof_app, tmsof_one, eu] <;> rfl
      have new : tmsof rs (gof (isP rs) (n + 1)) = tmsof rs (gst (isP rs) n).1 ++ (tstep u r).1 := by
        rw [eg, tmsof_app, tmsof_one, ← ef, e2] <;> rfl
      obtain ⟨b, et, eb⟩ : ∃ b : Int, tstp s r = tput ⟨s.fd, s.g, b, s.lt⟩ (r.wt : Int) ∧ tstep u r = (u.1 ++ [b + (r.wt : Int)], b) := by
        by_cases a : r.kd = "after"
        · refine ⟨s.lt, ?_, ?_⟩
          · unfold tstp
            rw [if_neg h, if_pos a]
          · unfold tstep
            rw [if_pos a, il]
        · refine ⟨s.bs, ?_, ?_⟩
          · unfold tstp
            rw [if_neg h, if_neg a]
          · unfold tstep
            rw [if_neg a, ib]
      rw [et]
      refine ⟨?_, ?_, ?_, ?_, ?_⟩
      · show (s.fd ++ [(s.g, b + (r.wt : Int))]).map (·.2) = _
        rw [List.map_append, old, new, eb, List.append_assoc] <;> rfl
      · show (s.fd ++ [(s.g, b + (r.wt : Int))]).map (·.1) = _
        rw [List.map_append, ih.fst, List.range_succ, List.map_append]
        show _ ++ [s.g] = _ ++ [((gl (isP rs) (n + 1) : Nat) : Int)]
        rw [hs, ih.g]
      · show s.g = _
        rw [hs, ih.g]
      · show b = _
        rw [ef, eb]
      · show (if b + (r.wt : Int) > s.lt then b + (r.wt : Int) else s.lt) = _
        rw [ef, eb, maxL_snoc, ← il]
        split <;> omega

end
end K36

set_option Elab.async false
set_option linter.all false
set_option maxRecDepth 100000
set_option maxHeartbeats 2000000
namespace K36
open PySem PySem.Spec PyProof.Rows L2 GxR Gx Gq Gd Gn Gm Gc Gk Gw Gt Gb Gp Gu Gr2
abbrev slaw_whole : Stmt := top 53
theorem sclaw_whole : FnScope ["thing"] ["thing"] (defScope slaw_whole) := ⟨rfl, rfl, rfl, by decide +kernel, rfl, by decide +kernel, by decide +kernel⟩
abbrev slaw_is_name : Stmt := top 54
theorem sclaw_is_name : FnScope ["thing", "sign"] ["thing"] (defScope slaw_is_name) := ⟨rfl, rfl, rfl, by decide +kernel, rfl, by decide +kernel, by decide +kernel⟩
abbrev slaw_is_step : Stmt := top 61
theorem sclaw_is_step : FnScope ["thing", "k"] ["thing"] (defScope slaw_is_step) := ⟨rfl, rfl, rfl, by decide +kernel, rfl, by decide +kernel, by decide +kernel⟩
abbrev slaw_refused : Stmt := top 65
theorem sclaw_refused : FnScope ["way", "thing", "kept", "e"] ["way", "thing"] (defScope slaw_refused) := ⟨rfl, rfl, rfl, by decide +kernel, rfl, by decide +kernel, by decide +kernel⟩
section
variable {P : Program} {w : World} {K : PySem.W.Frag} {mg : Str → Option Value} {base : Heap}
/-! ### the asker's own: steps -/
theorem ok_lwhole {f : Addr} {fd : FuncData} (F : FnP K "_law_whole" slaw_whole f fd) (T : Txt mg) : FnOk P w K mg base CX0 1 f fd ["thing"] spWhole := by
  refine okN F sclaw_whole (fun vs H Q E h => ?_) (fun cdv A outer s H vs Q E hr h => ?_)
  · obtain ⟨v, rfl, _⟩ := h
    rfl
  · obtain ⟨v, rfl, hT, q⟩ := h
    refine ⟨_, (pss_one (ps_ret (pe_and (pe_callB call_isi (by rfl) T.m_isinstance (by decide +kernel) (pa_cons (pv 0) (pa_cons (pe_bltn (v := .ty "int") (u := .type "int") rfl T.m_int (by decide +kernel) rfl) pa_nil))) (pe_one (pe_not (pe_callB call_isi (by rfl) T.m_isinstance (by decide +kernel) (pa_cons (pv 0) (pa_cons (pe_bltn (v := .ty "bool") (u := .type "bool") rfl T.m_bool (by decide +kernel) rfl) pa_nil)))))))), ?_⟩
    obtain ⟨t, ty, kt⟩ := Th.int_ (K := K) hT
    obtain ⟨t', ty', kt'⟩ := Th.bool_ (K := K) hT
    refine ⟨_, rfl, v, .ty "int", t, .type "int", isInt v, rfl, .ty "int", ty, kt, _, rfl, ?_⟩
    cases hT with
    | int i =>
      refine iteT ?_
      exact ⟨_, rfl, .int i, .ty "bool", t', .type "bool", false, rfl, .ty "bool", ty', kt', _, rfl, q⟩
    | bl b =>
      refine iteT ?_
      exact ⟨_, rfl, .bl b, .ty "bool", t', .type "bool", true, rfl, .ty "bool", ty', kt', _, rfl, q⟩
    | _ => exact q
theorem lt1 (a b : Nat) : decide (([a] : List Nat) < [b]) = decide (a < b) := by
  rw [Bool.eq_iff_iff, decide_eq_true_eq, decide_eq_true_eq]
  simp [List.cons_lt_cons_iff]
theorem let_range (c : Nat) : isLet c = (!decide (c < 97) && !decide (122 < c)) := by
  have e : LETS.cps.toList = List.range' 97 26 := by decide +kernel
  unfold isLet
  rw [e, Bool.eq_iff_iff, decide_eq_true_eq, List.mem_range'_1]
  simp only [Bool.and_eq_true, Bool.not_eq_true', decide_eq_false_iff_not]
  omega
def ALN : Str := "abcdefghijklmnopqrstuvwxyz0123456789"
theorem aln_in (c : Nat) : decide (c ∈ ALN.cps.toList) = (isLet c || isFig c) := by
  have e : ALN.cps.toList = LETS.cps.toList ++ FIGS.cps.toList := by decide +kernel
  unfold isLet isFig
  rw [e, Bool.eq_iff_iff]
  simp only [decide_eq_true_eq, Bool.or_eq_true, List.mem_append]
theorem all_idb {α : Type} (l : List α) (pb : α → Bool) : (l.map pb).all id = l.all pb := by
  rw [List.all_map] <;> rfl
def spLName : Sp := fun vs H Q _ => ∃ v, vs = [v] ∧ Ok1 H v ∧ ∀ H', Same H H' → Q (.bl (nameV v)) H'
theorem head_of1 {z : Str} (h : 1 ≤ (z.length : Int)) : ∃ c r, z.cps.toList = c :: r := by
  have l : z.cps.toList.length = z.length := cps_len z
  cases e : z.cps.toList with
  | nil =>
    rw [e] at l
    have : (0 : Nat) = z.length := l
    omega
  | cons c r => exact ⟨c, r, rfl⟩
theorem ok_lname {f : Addr} {fd : FuncData} (F : FnP K "_law_is_name" slaw_is_name f fd) (T : Txt mg) : FnOk P w K mg base CX0 1 f fd ["thing"] spLName := by
  refine okN F sclaw_is_name (fun vs H Q E h => ?_) (fun cdv A outer s H vs Q E hr h => ?_)
  · obtain ⟨v, rfl, _⟩ := h
    rfl
  · obtain ⟨v, rfl, ⟨hT, hz⟩, q⟩ := h
    refine ⟨_, (pss_cons (ps_if (PW.pt (pw_or (pt_not (pt_val (pe_callB call_isi (by rfl) T.m_isinstance (by decide +kernel) (pa_cons (pv 0) (pa_cons (pe_bltn (v := .ty "str") (u := .type "str") rfl T.m_str (by decide +kernel) rfl) pa_nil))))) (pw_or (pt_not (pt_chain op_le op_le pe_int (pe_callB call_len_str (by rfl) T.m_len (by decide +kernel) (pa_cons (pv 0) pa_nil)) pe_int)) (pw_or1 (pt_not (pt_chain op_le_str op_le_str pe_str (pe_ix ix_str (pv 0) pe_int (fun _ _ => rfl)) pe_str)))))) (pss_one (ps_ret pe_bl)) pss_nil)
      (pss_one (ps_ret (pe_callB (cr_all rfl) (by rfl) T.m_all (by decide +kernel) (pa_cons (pe_lc (own := [("sign", 1)]) (g := gName 1) (by rfl) sclaw_is_name.nd (pi_str (pv 0)) (blkOk_by (own := [("sign", 1)]) (N := ["thing", "sign"]) (sc := defScope slaw_is_name) (by decide +kernel)) (fun _ _ _ _ _ => (pg_name (i := 1) sclaw_is_name.nd rfl (Or.inl rfl))) (fun _ _ _ _ _ => pts_nil) (fun _ _ _ _ _ => (pe_cmpR op_in_sign (pv 1) pe_str rfl))) pa_nil))))), ?_⟩
    obtain ⟨t, ty, kt⟩ := hT.str_ (K := K)
    refine ⟨_, rfl, v, .ty "str", t, .type "str", isStr v, rfl, .ty "str", ty, kt, _, rfl, ?_⟩
    cases hs : isStr v with
    | false =>
      have q1 := q H (Same.refl H)
      rw [nameV_no hs] at q1
      exact iteT (iteT q1)
    | true =>
      obtain ⟨z, rfl⟩ : ∃ z, v = .str z := by cases v <;> first | exact ⟨_, rfl⟩ | cases hs
      refine iteF ?_
      refine ⟨_, rfl, _, rfl, hz z rfl, _, _, rfl, rfl, _, rfl, ?_⟩
      have nb : nameV (.str z) = (decide (1 ≤ (z.length : Int)) && (decide ((z.length : Int) ≤ 8) && ((match z.cps.toList with
        | [] => false
        | c :: _ => isLet c) && z.cps.toList.all fun c => isLet c || isFig c))) := rfl
      rw [nb] at q
      refine iteB (fun c1 => ?_) fun c1 => ?_
      · obtain ⟨c, r, ec⟩ := head_of1 (of_decide_eq_true c1)
        rw [c1, ec] at q
        refine ⟨_, _, rfl, rfl, _, rfl, iteNb (fun c2 => ?_) fun c2 => ?_⟩
        · rw [c2] at q
          exact iteT (q H (Same.refl H))
        · rw [c2] at q
          have q : ∀ H', Same H H' → Q (.bl (isLet c && (c :: r).all fun c => isLet c || isFig c)) H' := q
          rw [let_range] at q
          have e1 : (!decide ((⟨#[c]⟩ : Str).cps.toList < ("a" : Str).cps.toList)) = !decide (c < 97) := congrArg Bool.not (lt1 c 97)
          have e2 : (!decide (("z" : Str).cps.toList < (⟨#[c]⟩ : Str).cps.toList)) = !decide (122 < c) := congrArg Bool.not (lt1 122 c)
          rw [← e1, ← e2] at q
          refine ⟨_, rfl, z, 0, c, rfl, rfl, hz z rfl, at_any (xs := z.cps.toList) (v := c) (j := 0) rfl (by rw [ec]; rfl), ?_⟩
          refine ⟨_, _, rfl, rfl, _, rfl, iteB (fun c3 => ?_) fun c3 => ?_⟩
          · rw [c3] at q
            refine ⟨_, _, rfl, rfl, _, rfl, iteNb (fun c4 => ?_) fun c4 => ?_⟩
            · rw [c4] at q
              exact q H (Same.refl H)
            · rw [c4] at q
              refine ⟨_, rfl, z, rfl, fun D hD => ?_⟩
              refine lc_str (fun i H3 => Same H H3 ∧ H3 D = some (.lst (((z.cps.toList.take i).map fun c => decide (c ∈ ALN.cps.toList)).map V.bl))) ⟨same_new hD, upd_same⟩ ?_ ?_
              · rintro i ch H3 hi ⟨s3, e3⟩
                refine ⟨rfl, ?_⟩
                refine ⟨_, rfl, ch, _, rfl, rfl, _, e3, ?_, fun b o e => ?_, ?_⟩
                · rw [List.length_map, List.length_map, List.length_take, cps_len]
                  have h8 := of_decide_eq_true c2
                  exact small1000 (by omega)
                · rw [upd_ne (ne_of_none e hD)]; exact s3 b o e
                · rw [upd_same, bls_take hi, List.map_append] <;> rfl
              · rintro H3 ⟨s3, e3⟩
                rw [List.take_length] at e3
                refine ⟨_, _, rfl, SqL.of e3, ?_⟩
                have ef : (fun c => decide (c ∈ ALN.cps.toList)) = fun c => isLet c || isFig c := funext aln_in
                have q2 := q H3 s3
                rw [Bool.true_and, Bool.true_and] at q2
                rw [all_idb, ec, ef]
                exact q2
          · rw [c3] at q
            exact ⟨_, rfl, q H (Same.refl H)⟩
      · rw [c1] at q
        exact ⟨_, rfl, iteT (q H (Same.refl H))⟩
theorem step_no {kd wt dd pl ln : V} (h : isStr kd = false ∨ isStr dd = false ∨ isStr pl = false ∨ inV kd KNS = false ∨ inV dd DDS = false ∨ withB 0 99 wt = false ∨ nameV pl = false) : stepL [kd, wt, dd, pl, ln] = false := by
  show ((isStr kd && inV kd KNS) && ((isStr dd && inV dd DDS) && (nameV pl && (withB 0 99 wt && noneOr (withB 0 11) ln)))) = false
  rcases h with h | h | h | h | h | h | h
  · rw [h] <;> rfl
  · rw [h, Bool.false_and, Bool.false_and, Bool.and_false]
  · rw [nameV_no h, Bool.false_and, Bool.and_false, Bool.and_false]
  · rw [h, Bool.and_false, Bool.false_and]
  · rw [h, Bool.and_false, Bool.false_and, Bool.and_false]
  · rw [h, Bool.false_and, Bool.and_false, Bool.and_false, Bool.and_false]
  · rw [h, Bool.false_and, Bool.and_false, Bool.and_false]
theorem with_whole {lo hi : Int} {v : V} (h : wholeV v = false) : withB lo hi v = false := by
  cases v <;> first | rfl | cases h
def spIsStep (K : PySem.W.Frag) : Sp := fun vs H Q _ => ∃ (v : V) (b : Bool), vs = [v] ∧ StD K H v b ∧ ∀ H', Same H H' → Q (.bl b) H'
theorem ok_isstep {f : Addr} {fd : FuncData} (F : FnP K "_law_is_step" slaw_is_step f fd) (T : Txt mg) (D_law_whole : Dn P w K mg base 1 "_law_whole" ["thing"] spWhole) (D_law_is_name : Dn P w K mg base 1 "_law_is_name" ["thing"] spLName) : FnOk P w K mg base CX0 2 f fd ["thing"] (spIsStep K) := by
  refine okN F sclaw_is_step (fun vs H Q E h => ?_) (fun cdv A outer s H vs Q E hr h => ?_)
  · obtain ⟨v, b, rfl, _⟩ := h
    rfl
  · obtain ⟨v, b, rfl, hS, q⟩ := h
    refine ⟨_, (pss_cons (ps_if (PW.pt (pw_or (pt_not (pt_val (pe_callB call_isi (by rfl) T.m_isinstance (by decide +kernel) (pa_cons (pv 0) (pa_cons (pe_bltn (v := .ty "tuple") (u := .type "tuple") rfl T.m_tuple (by decide +kernel) rfl) pa_nil))))) (pw_or (pt_cmpR op_ne (pe_callB call_len_seq (by rfl) T.m_len (by decide +kernel) (pa_cons (pv 0) pa_nil)) pe_int (nomark _)) (pw_or1 (pt_not (pt_val (pe_callB (cr_all rfl) (by rfl) T.m_all (by decide +kernel) (pa_cons (pe_lc (own := [("k", 1)]) (g := gName 1) (by rfl) sclaw_is_step.nd (pi_tup (pe_tup (pa_cons pe_int (pa_cons pe_int (pa_cons pe_int pa_nil))))) (blkOk_by (own := [("k", 1)]) (N := ["thing", "k"]) (sc := defScope slaw_is_step) (by decide +kernel)) (fun _ _ _ _ _ => (pg_name (i := 1) sclaw_is_step.nd rfl (Or.inl rfl))) (fun _ _ _ _ _ => pts_nil) (fun _ _ _ _ _ => (pe_callB (r := rIsi K) call_isi (by rfl) T.m_isinstance (by decide +kernel) (pa_cons (pe_ix (r := rIxT K) ix_tup (pv 0) (pv 1) (fun _ _ => rfl)) (pa_cons (pe_bltn (v := .ty "str") (u := .type "str") rfl T.m_str (by decide +kernel) rfl) pa_nil))))) pa_nil)))))))) (pss_one (ps_ret pe_bl)) pss_nil)
      (pss_cons (ps_if (PW.pt (pw_or (pt_cmpR op_notIn_seq (pe_ix ix_tup (pv 0) pe_int (fun _ _ => rfl)) (pe_tup (pa_cons pe_str (pa_cons pe_str (pa_cons pe_str pa_nil)))) rfl) (pw_or1 (pt_cmpR op_notIn_seq (pe_ix ix_tup (pv 0) pe_int (fun _ _ => rfl)) (pe_tup (pa_cons pe_str (pa_cons pe_str (pa_cons pe_str pa_nil)))) rfl)))) (pss_one (ps_ret pe_bl)) pss_nil)
      (pss_cons (ps_if (PW.pt (pw_or (pt_not (pt_val (pe_dn D_law_whole (hr.mono (by decide)) rfl (pa_cons (pe_ix ix_tup (pv 0) pe_int (fun _ _ => rfl)) pa_nil)))) (pw_or (pt_not (pt_chain op_le op_le pe_int (pe_ix ix_tup (pv 0) pe_int (fun _ _ => rfl)) pe_int)) (pw_or1 (pt_not (pt_val (pe_dn D_law_is_name (hr.mono (by decide)) rfl (pa_cons (pe_ix ix_tup (pv 0) pe_int (fun _ _ => rfl)) pa_nil)))))))) (pss_one (ps_ret pe_bl)) pss_nil)
      (pss_one (ps_ret (pe_or (pe_cmpR op_isN (pe_ix ix_tup (pv 0) pe_int (fun _ _ => rfl)) pe_non (nomark _)) (pe_one (pe_and (pe_dn D_law_whole (hr.mono (by decide)) rfl (pa_cons (pe_ix ix_tup (pv 0) pe_int (fun _ _ => rfl)) pa_nil)) (pe_one (pe_chain op_le op_le pe_int (pe_ix ix_tup (pv 0) pe_int (fun _ _ => rfl)) pe_int)))))))))), ?_⟩
    cases hS with
    | no hk =>
      obtain ⟨t, ty, kt⟩ := hk.ty (K := K)
      exact ⟨_, rfl, v, .ty "tuple", t, .type "tuple", false, rfl, .ty "tuple", ty, kt, _, rfl, iteT (iteT (q H (Same.refl H)))⟩
    | @tup a xs e hx =>
      obtain ⟨t, ty, kt⟩ := isTupW e
      refine ⟨_, rfl, .ref a, .ty "tuple", t, .type "tuple", true, rfl, .ty "tuple", ty, kt, _, rfl, iteF ?_⟩
      refine ⟨_, rfl, a, xs, rfl, .inr e, rfl, _, rfl, ?_⟩
      by_cases h5 : (xs.length : Int) = 5
      · rw [show (!decide (V.int (xs.length : Int) = V.int 5)) = false by rw [h5, decide_eq_true rfl] <;> rfl]
        refine iteF ?_
        obtain ⟨kd, wt, dd, pl, ln, rfl⟩ := five h5
        have ok1 := hx kd (by simp)
        have ok2 := hx wt (by simp)
        have ok3 := hx dd (by simp)
        have ok4 := hx pl (by simp)
        have ok5 := hx ln (by simp)
        refine ⟨(by show 3 ≤ sizeLine; decide), fun t0 ht0 => ?_⟩
        have s0 := same_new (o := .tup [V.int 0, V.int 2, V.int 3]) ht0
        have x0 : (upd H t0 (.tup [V.int 0, V.int 2, V.int 3])) t0 = some (.tup [V.int 0, V.int 2, V.int 3]) := upd_same
        revert s0 x0
        generalize upd H t0 (.tup [V.int 0, V.int 2, V.int 3]) = H0
        intro s0 x0
        refine ⟨t0, rfl, ⟨_, SqT.of x0⟩, fun D hD => ?_⟩
        refine lc_tup (K := K) (a := t0) (xs := [V.int 0, V.int 2, V.int 3]) (fun i H3 => Same H0 H3 ∧ H3 D = some (.lst ((([kd, dd, pl].map isStr).take i).map V.bl))) ⟨same_new hD, upd_same⟩ (fun i H3 _ h => SqT.of (h.1 _ _ x0)) ?_ ?_
        · rintro i x H3 hi ⟨s3, x3⟩
          refine ⟨rfl, ?_⟩
          have li := (List.getElem?_eq_some_iff.mp hi).1
          have li : i < 3 := li
          obtain ⟨y, j, hy, ej, ok, eb⟩ : ∃ (y : V) (j : Nat), [kd, wt, dd, pl, ln][j]? = some y ∧ x = .int (j : Int) ∧ Ok1 H y ∧ ([kd, dd, pl].map isStr)[i]? = some (isStr y) := by
            rcases (by omega : i = 0 ∨ i = 1 ∨ i = 2) with rfl | rfl | rfl
            · cases hi
              exact ⟨kd, 0, rfl, rfl, ok1, rfl⟩
            · cases hi
              exact ⟨dd, 2, rfl, rfl, ok3, rfl⟩
            · cases hi
              exact ⟨pl, 3, rfl, rfl, ok4, rfl⟩
          subst ej
          obtain ⟨ty1, h1, kt1⟩ := (Ok1.same ok (s0.trans s3)).1.str_ (K := K)
          refine ⟨_, rfl, _, rfl, a, _, _, y, rfl, rfl, sqT_same (s0.trans s3) e, atI_nat hy, y, .ty "str", ty1, .type "str", isStr y, rfl, .ty "str", h1, kt1, ?_⟩
          refine ⟨_, x3, small1000 (by rw [List.length_map, List.length_take]; omega), fun b o e => ?_, ?_⟩
          · rw [upd_ne (ne_of_none e hD)]
            exact s3 _ _ e
          · rw [upd_same, take_more eb, List.map_append] <;> rfl
        · rintro H3 ⟨s3, x3⟩
          have s03 := s0.trans s3
          have q : ∀ H', Same H3 H' → Q (.bl (stepL [kd, wt, dd, pl, ln])) H' := fun H' s' => q H' (s03.trans s')
          have e3 := sqT_same s03 e
          have o1 := Ok1.same ok1 s03
          have o2 := Ok1.same ok2 s03
          have o3 := Ok1.same ok3 s03
          have o4 := Ok1.same ok4 s03
          have o5 := Ok1.same ok5 s03
          have x3 : H3 D = some (.lst ([isStr kd, isStr dd, isStr pl].map V.bl)) := x3
          refine ⟨D, _, rfl, SqL.of x3, _, rfl, ?_⟩
          refine iteNb (fun ha => ?_) fun ha => ?_
          · have ha : (isStr kd && (isStr dd && (isStr pl && true))) = false := ha
            have h : isStr kd = false ∨ isStr dd = false ∨ isStr pl = false := by
              cases h1 : isStr kd with
              | false => exact .inl rfl
              | true =>
                cases h2 : isStr dd with
                | false => exact .inr (.inl rfl)
                | true =>
                  cases h3 : isStr pl with
                  | false => exact .inr (.inr rfl)
                  | true => rw [h1, h2, h3] at ha; cases ha
            have q := q H3 (Same.refl H3)
            rw [step_no (h.imp id fun h => h.imp id fun h => .inl h)] at q
            exact q
          have ha : (isStr kd && (isStr dd && (isStr pl && true))) = true := ha
          simp only [Bool.and_eq_true] at ha
          obtain ⟨s1, s2, s4, _⟩ := ha
          obtain ⟨zk, rfl⟩ : ∃ z, kd = .str z := by cases kd <;> first | exact ⟨_, rfl⟩ | cases s1
          obtain ⟨zd, rfl⟩ : ∃ z, dd = .str z := by cases dd <;> first | exact ⟨_, rfl⟩ | cases s2
          clear x3 hD s3 x0 s0 ht0
          have eKN : KNS = [V.str "press", V.str "with", V.str "after"] := rfl
          have eDD : DDS = [V.str "come", V.str "go", V.str "dim"] := rfl
          refine ⟨_, rfl, a, _, _, V.str zk, rfl, rfl, e3, at_any (j := 0) rfl rfl, (by show 3 ≤ sizeLine; decide), fun u1 hu1 => ?_⟩
          have w1 := same_new (o := .tup [V.str "press", V.str "with", V.str "after"]) hu1
          refine ⟨u1, [V.str "press", V.str "with", V.str "after"], rfl, .inr (SqT.of upd_same), rfl, rfl, _, rfl, ?_⟩
          have e4 := sqT_same w1 e3
          revert w1 e4
          generalize upd H3 u1 (.tup [V.str "press", V.str "with", V.str "after"]) = H4
          intro w1 e4
          rw [← eKN]
          refine iteNb (fun h1 => ?_) fun h1 => ?_
          · have q := q H4 w1
            rw [step_no (.inr (.inr (.inr (.inl h1))))] at q
            exact iteT q
          refine ⟨_, rfl, a, _, _, V.str zd, rfl, rfl, e4, at_any (j := 2) rfl rfl, (by show 3 ≤ sizeLine; decide), fun u2 hu2 => ?_⟩
          have w2 := w1.trans (same_new (o := .tup [V.str "come", V.str "go", V.str "dim"]) hu2)
          refine ⟨u2, [V.str "come", V.str "go", V.str "dim"], rfl, .inr (SqT.of upd_same), rfl, rfl, _, rfl, ?_⟩
          revert w2
          generalize upd H4 u2 (.tup [V.str "come", V.str "go", V.str "dim"]) = H5
          intro w2
          rw [← eDD]
          have e5 := sqT_same w2 e3
          refine iteNb (fun h2 => ?_) fun h2 => ?_
          · have q := q H5 w2
            rw [step_no (.inr (.inr (.inr (.inr (.inl h2)))))] at q
            exact q
          clear e4 w1 hu1 hu2
          have p2 := Ok1.same o2 w2
          have p4 := Ok1.same o4 w2
          have p5 := Ok1.same o5 w2
          refine ⟨_, rfl, a, _, _, wt, rfl, rfl, e5, at_any (j := 1) rfl rfl, wt, rfl, p2.1, _, rfl, iteNb (fun h3 => ?_) fun h3 => ?_⟩
          · have q := q H5 w2
            rw [step_no (.inr (.inr (.inr (.inr (.inr (.inl (with_whole h3)))))))] at q
            exact iteT q
          obtain ⟨wi, rfl⟩ : ∃ i, wt = .int i := by cases wt <;> first | exact ⟨_, rfl⟩ | cases h3
          have eW : withB 0 99 (.int wi) = (decide (0 ≤ wi) && decide (wi ≤ 99)) := rfl
          refine ⟨_, rfl, a, _, _, V.int wi, rfl, rfl, e5, at_any (j := 1) rfl rfl, _, _, rfl, rfl, _, rfl, iteB (fun h4 => ?_) fun h4 => ?_⟩
          · rw [h4, Bool.true_and] at eW
            refine ⟨_, _, rfl, rfl, _, rfl, iteNb (fun h6 => ?_) fun h6 => ?_⟩
            · have q := q H5 w2
              rw [step_no (.inr (.inr (.inr (.inr (.inr (.inl (eW.trans h6)))))))] at q
              exact iteT q
            · rw [h6] at eW
              refine ⟨_, rfl, a, _, _, pl, rfl, rfl, e5, at_any (j := 3) rfl rfl, pl, rfl, p4, fun H6 w6 => ?_⟩
              refine ⟨_, rfl, iteNb (fun h7 => ?_) fun h7 => ?_⟩
              · have q := q H6 (w2.trans w6)
                rw [step_no (.inr (.inr (.inr (.inr (.inr (.inr h7))))))] at q
                exact q
              have eS : stepL [V.str zk, V.int wi, V.str zd, pl, ln] = noneOr (withB 0 11) ln := by
                show ((true && inV (.str zk) KNS) && ((true && inV (.str zd) DDS) && (nameV pl && (withB 0 99 (.int wi) && noneOr (withB 0 11) ln)))) = _
                rw [h1, h2, h7, eW] <;> rfl
              rw [eS] at q
              have e6 := sqT_same w6 e5
              have q : ∀ H', Same H6 H' → Q (.bl (decide (ln = V.non) || withB 0 11 ln)) H' := fun H' s' => q H' ((w2.trans w6).trans s')
              refine ⟨_, rfl, a, _, _, ln, rfl, rfl, e6, at_any (j := 4) rfl rfl, rfl, _, rfl, iteB (fun h8 => ?_) fun h8 => ?_⟩
              · have q := q H6 (Same.refl H6)
                rw [h8] at q
                exact q
              · rw [h8, Bool.false_or] at q
                refine ⟨_, rfl, a, _, _, ln, rfl, rfl, e6, at_any (j := 4) rfl rfl, ln, rfl, (Ok1.same p5 w6).1, _, rfl, iteB (fun h9 => ?_) fun h9 => ?_⟩
                · obtain ⟨li, rfl⟩ : ∃ i, ln = .int i := by cases ln <;> first | exact ⟨_, rfl⟩ | cases h9
                  have q : Q (.bl (decide (0 ≤ li) && decide (li ≤ 11))) H6 := q H6 (Same.refl H6)
                  refine ⟨_, rfl, a, _, _, V.int li, rfl, rfl, e6, at_any (j := 4) rfl rfl, _, _, rfl, rfl, _, rfl, iteB (fun h10 => ?_) fun h10 => ?_⟩
                  · rw [h10] at q
                    exact ⟨_, _, rfl, rfl, q⟩
                  · rw [h10] at q
                    exact q
                · have q := q H6 (Same.refl H6)
                  rw [with_whole h9] at q
                  exact q
          · rw [h4, Bool.false_and] at eW
            have q := q H5 w2
            rw [step_no (.inr (.inr (.inr (.inr (.inr (.inl eW))))))] at q
            exact ⟨_, rfl, iteT q⟩
      · rw [show (!decide (V.int (xs.length : Int) = V.int 5)) = true by rw [decide_eq_false (fun z => h5 (V.int.inj z))] <;> rfl]
        refine iteT (iteT ?_)
        have q := q H (Same.refl H)
        rw [not_five h5] at q
        exact q

/-! ### what is told or refused -/
theorem fn_up {CX : CXT} {k m : Nat} {f : Addr} {fd : FuncData} {ps : List Str} {sp : Sp} (F : FnOk P w K mg base CX k f fd ps sp) (h : k ≤ m) : FnOk P w K mg base CX m f fd ps sp :=
  ⟨F.len, fun A outer s H args us vs Q E hr e0 hb r hsp => F.run A outer s H args us vs Q E (hr.mono h) e0 hb r hsp⟩
theorem wo_steps : wordOf "NoSteps" = "steps" := by decide +kernel
def spRef36 (K : PySem.W.Frag) (P1 P2 : Addr) : Sp := fun vs H Q _ => ∃ (way : Int) (v : V), vs = [.int way, v] ∧ (way = 0 ∨ way = 1) ∧ TabG H P1 ∧ TabG H P2 ∧
  ((SsD K H v false ∧ ∀ H', Fr P1 P2 H H' → Q (.str "steps") H') ∨ (∃ (a : Addr) (rs : List RS), v = .ref a ∧ GoodS K H a rs ∧ (∀ r ∈ rs, OkR r) ∧ rs.length ≤ 24 ∧ ∀ H', Fr P1 P2 H H' → Q (.str "told") H'))
theorem ok_ref36 {f : Addr} {fd : FuncData} {P1 P2 : Addr} (F : FnP K "_law_refused" slaw_refused f fd) (T : Txt mg) (gD : mg "DeckError" = some (.ref (He.ga K "DeckError"))) (N : ErW K mg "NoSteps")
    (D_groups_of : DnS P w K mg base 6 "groups_of" ["steps"] (spGroups K P1 P2)) (D_times_of : DnS P w K mg base 7 "times_of" ["steps"] (spTimes K P1 P2)) (D_law_word : Dn P w K mg base 1 "_law_word" ["e"] (spWord K mg)) : FnOk P w K mg base CX0 8 f fd ["way", "thing"] (spRef36 K P1 P2) := by
  refine okN F sclaw_refused (fun vs H Q E h => ?_) (fun cdv A outer s H vs Q E hr h => ?_)
  · obtain ⟨way, v, rfl, _⟩ := h
    rfl
  · obtain ⟨way, v, rfl, hw, g1, g2, h⟩ := h
    obtain ⟨fg, fdg, mg1, kg, bg, Fg⟩ := D_groups_of.ex
    obtain ⟨ft, fdt, mg2, kt, bt, Ft⟩ := D_times_of.ex
    obtain ⟨SV, eSV⟩ : ∃ SV : Addr → Sp → Prop, SV = fun f sp => (f = fg ∧ sp = spGroups K P1 P2) ∨ (f = ft ∧ sp = spTimes K P1 P2) := ⟨_, rfl⟩
    have AV : ∀ f sp, SV f sp → ∃ fd ps, PySem.W.keepIn K (.ref f) = true ∧ Binds K fd ps [] ∧ FnOk P w K mg base (L2.CX P w) 7 f fd ps sp := fun f sp h => by
      rw [eSV] at h
      rcases h with ⟨rfl, rfl⟩ | ⟨rfl, rfl⟩
      · exact ⟨_, _, kg, bg, fn_up Fg (by decide)⟩
      · exact ⟨_, _, kt, bt, Ft⟩
    have v1 : SV fg (spGroups K P1 P2) := by rw [eSV]; exact .inl ⟨rfl, rfl⟩
    have v2 : SV ft (spTimes K P1 P2) := by rw [eSV]; exact .inr ⟨rfl, rfl⟩
    refine ⟨_, (pss_cons (ps_set (i := 2) sclaw_refused.nd rfl (Or.inl rfl) pe_non)
      (pss_cons (ps_try_hold (i := 3) (tb := fun W => (tDrop _)) (ts := fun a cls d => tAsg (tVar 3) (gName 2)) (Wout := fun _ _ _ _ => False) rfl rfl rfl sclaw_refused.nd rfl rfl ⟨rfl, by decide, .inl gD⟩ LamX.takes0 (fun W pn xe tk _ => (pss_one (ps_expr (pe_vcallS (S := SV) AV (hr.mono (by decide)) (fun σ => passAt tk σ) (pe_ix (r := rIxL K) ix_list (pe_lst (pa_cons (pe_glob (v := .ref fg) rfl mg1 rfl) (pa_cons (pe_glob (v := .ref ft) rfl mg2 rfl) pa_nil))) (pv 0) (fun _ _ => rfl)) (pa_cons (pv 1) pa_nil))))) (fun a oe cls d pn hz hf => (pss_one (ps_set (i := 2) sclaw_refused.nd rfl (Or.inl rfl) (pv 3)))))
      (pss_one (ps_ret (pe_ifExp (pt_cmpR op_isN (pv 2) pe_non (nomark _)) pe_str (pe_dn D_law_word (hr.mono (by decide)) rfl (pa_cons (pv 2) pa_nil))))))), ?_⟩
    refine ⟨(by show 2 ≤ sizeLine; decide), fun M hM => ?_⟩
    have f0 := (Fr.refl g1 g2).new (o := .lst [V.ref fg, V.ref ft]) hM
    have s0 := same_new (o := .lst [V.ref fg, V.ref ft]) hM
    have xM : (upd H M (.lst [V.ref fg, V.ref ft])) M = some (.lst [V.ref fg, V.ref ft]) := upd_same
    revert f0 s0 xM
    generalize upd H M (.lst [V.ref fg, V.ref ft]) = H0
    intro f0 s0 xM
    rcases hw with rfl | rfl
    · refine ⟨_, rfl, M, _, _, V.ref fg, rfl, rfl, SqL.of xM, at_any (j := 0) rfl rfl, fg, _, rfl, v1, _, rfl, v, rfl, f0.g1, f0.g2, ?_⟩
      rcases h with ⟨hS, q⟩ | ⟨a, rs, rfl, hg, ok, lr, q⟩
      · refine .inl ⟨ssd_same s0 hS, fun H2 t2 => ?_⟩
        refine ⟨true, N.e, fun _ b hb => ?_, fun z => nomatch z⟩
        refine ⟨_, rfl, _, rfl, rfl, _, rfl, iteF ⟨_, rfl, b, "NoSteps", rfl, N, upd_same, fun H' s' => ?_⟩⟩
        rw [wo_steps]
        have f2 := f0.trans (Fr.tab2 f0.g1 f0.g2 t2)
        exact q H' (f2.trans (Fr.same f2.g1 f2.g2 ((same_new hb).trans s')))
      · refine .inr ⟨a, rs, rfl, hg.k2 f0.k, ok, lr, fun R as H' f1 nR xR gs => ?_⟩
        exact ⟨_, rfl, rfl, _, rfl, iteT (q H' (f0.trans f1))⟩
    · refine ⟨_, rfl, M, _, _, V.ref ft, rfl, rfl, SqL.of xM, at_any (j := 1) rfl rfl, ft, _, rfl, v2, _, rfl, v, rfl, f0.g1, f0.g2, ?_⟩
      rcases h with ⟨hS, q⟩ | ⟨a, rs, rfl, hg, ok, lr, q⟩
      · refine .inl ⟨ssd_same s0 hS, fun H2 f2' => ?_⟩
        refine ⟨true, N.e, fun _ b hb => ?_, fun z => nomatch z⟩
        refine ⟨_, rfl, _, rfl, rfl, _, rfl, iteF ⟨_, rfl, b, "NoSteps", rfl, N, upd_same, fun H' s' => ?_⟩⟩
        rw [wo_steps]
        have f2 := f0.trans f2'
        exact q H' (f2.trans (Fr.same f2.g1 f2.g2 ((same_new hb).trans s')))
      · refine .inr ⟨a, rs, rfl, hg.k2 f0.k, ok, lr, fun R H' f1 nR xR => ?_⟩
        exact ⟨_, rfl, rfl, _, rfl, iteT (q H' (f0.trans f1))⟩

end
end K36

set_option Elab.async false
set_option linter.all false
set_option maxRecDepth 100000
set_option maxHeartbeats 2000000
namespace K36
open PySem PySem.Spec PyProof.Rows L2 GxR Gx Gq Gd Gn Gm Gc Gk Gw Gt Gb Gp Gu Gr2 Go
abbrev slaw_bent : Stmt := top 64
theorem sclaw_bent : FnScope ["pen", "steps", "some", "at", "to", "odd", "step"] ["pen", "steps"] (defScope slaw_bent) := ⟨rfl, rfl, rfl, by decide +kernel, rfl, by decide +kernel, by decide +kernel⟩
section
variable {P : Program} {w : World} {K : PySem.W.Frag} {mg : Str → Option Value} {base : Heap}
/-! ### bent steps -/
def rsd (r : RS) : PyData := .tuple [.str r.kd, .int (r.wt : Int), .str r.dd, .str r.pl, match r.ln with | .int i => .int i | _ => .none]
def stepsD (rs : List RS) : PyData := .tuple (rs.map rsd)
theorem name_signs {z : Str} (h : nameB z = true) : ∀ c ∈ z.cps.toList, c < 128 := fun c hc => by
  unfold nameB at h
  simp only [Bool.and_eq_true] at h
  have h1 := List.all_eq_true.mp h.2.2.2 c hc
  simp only [Bool.or_eq_true] at h1
  have e1 : ∀ c ∈ LETS.cps.toList, c < 128 := by decide +kernel
  have e2 : ∀ c ∈ FIGS.cps.toList, c < 128 := by decide +kernel
  rcases h1 with h1 | h1
  · exact e1 c (of_decide_eq_true h1)
  · exact e2 c (of_decide_eq_true h1)
theorem str_lay {z : Str} (h : ∀ c ∈ z.cps.toList, c < 128) : PyData.canLay0 (.str z) = true := by
  show z.cps.all (· < 0x110000) = true
  rw [← Array.all_toList]
  refine List.all_eq_true.mpr fun c hc => decide_eq_true ?_
  have := h c hc
  omega
theorem okr_lay {r : RS} (h : OkR r) : (rsd r).canLay0 = true := by
  have k1 : ∀ z ∈ KNL, PyData.canLay0 (.str z) = true := by decide +kernel
  have k2 : ∀ z ∈ DDL, PyData.canLay0 (.str z) = true := by decide +kernel
  have e5 : PyData.canLay0 (match r.ln with | .int i => PyData.int i | _ => .none) = true := by
    split <;> rfl
  show (PyData.canLay0 (.str r.kd) && (PyData.canLay0 (.int (r.wt : Int)) && (PyData.canLay0 (.str r.dd) && (PyData.canLay0 (.str r.pl) && (PyData.canLay0 (match r.ln with | .int i => PyData.int i | _ => .none) && true))))) = true
  rw [k1 _ h.kd, k2 _ h.dd, str_lay (name_signs h.pl), e5] <;> rfl
theorem steps_lay : ∀ {rs : List RS}, (∀ r ∈ rs, OkR r) → PyData.canLayAll0 (rs.map rsd) = true
  | [], _ => rfl
  | r :: rs, h => by
    show ((rsd r).canLay0 && PyData.canLayAll0 (rs.map rsd)) = true
    rw [okr_lay (h r List.mem_cons_self), steps_lay fun x hx => h x (List.mem_cons_of_mem _ hx)] <;> rfl
theorem rs_depth (r : RS) : (rsd r).depth ≤ 1 := by
  have e5 : PyData.depth (match r.ln with | .int i => PyData.int i | _ => .none) = 0 := by
    split <;> rfl
  show max (PyData.depth (.str r.kd)) (max (PyData.depth (.int (r.wt : Int))) (max (PyData.depth (.str r.dd)) (max (PyData.depth (.str r.pl)) (max (PyData.depth (match r.ln with | .int i => PyData.int i | _ => .none)) 0)))) + 1 ≤ 1
  rw [e5]
  exact Nat.le_refl _
theorem steps_depth : ∀ rs : List RS, PyData.depthAll (rs.map rsd) ≤ 1
  | [] => Nat.zero_le _
  | r :: rs => by
    show max (rsd r).depth (PyData.depthAll (rs.map rsd)) ≤ 1
    exact Nat.max_le.mpr ⟨rs_depth r, steps_depth rs⟩
theorem steps_shaped {rs : List RS} (h : ∀ r ∈ rs, OkR r) : SeqAt.shaped (stepsD rs) = true := by
  unfold SeqAt.shaped
  rw [show (stepsD rs).canLay0 = true from steps_lay h, Bool.true_and]
  refine decide_eq_true ?_
  show PyData.depthAll (rs.map rsd) + 1 ≤ 64
  have := steps_depth rs
  omega
theorem dp_rs {H : Hp} {t : Addr} {r : RS} (e : SqT K H t r.vs) (ok : OkR r) : Dp K H (.ref t) (rsd r) := by
  refine .tup e (.cons (.str _) (.cons (.int _) (.cons (.str _) (.cons (.str _) (.cons ?_ .nil)))))
  rcases ln_flat ok.ln with h | ⟨n, h, _⟩
  · rw [h]
    exact .non
  · rw [h]
    exact .int _
theorem dp_steps {H : Hp} : ∀ {xs : List V} {rs : List RS}, xs.length = rs.length → (∀ r ∈ rs, OkR r) → (∀ (i : Nat) (x : V) (r : RS), xs[i]? = some x → rs[i]? = some r → ∃ b : Addr, x = .ref b ∧ SqT K H b r.vs) → DpAll K H xs (rs.map rsd)
  | [], [], _, _, _ => .nil
  | x :: xs, r :: rs, l, ok, h => by
    obtain ⟨b, rfl, hb⟩ := h 0 x r rfl rfl
    exact .cons (dp_rs hb (ok r List.mem_cons_self)) (dp_steps (by simpa using l) (fun r hr => ok r (List.mem_cons_of_mem _ hr)) fun i y q hy hq => h (i + 1) y q hy hq)
  | [], _ :: _, l, _, _ => by simp at l
  | _ :: _, [], l, _, _ => by simp at l
theorem eqv_nil (rs : List RS) : PyData.eqv (stepsD rs) (.tuple []) = decide (rs = []) := by
  cases rs with
  | nil => rfl
  | cons r rs => 
    rw [decide_eq_false (fun e => nomatch e)]
    rfl
/-- a thing of which it is told whether it is steps -/
def stB (K : PySem.W.Frag) (H : Hp) (x : V) : Prop := ∃ b, StD K H x b
open Classical in
theorem ssd_of {H : Hp} {a : Addr} {xs : List V} (e : SqT K H a xs) (h : ∀ x ∈ xs, stB K H x) : ∃ b, SsD K H (.ref a) b := by
  obtain ⟨g, hg⟩ : ∃ g : V → Bool, ∀ x ∈ xs, StD K H x (g x) := by
    refine ⟨fun x => if q : stB K H x then Classical.choose q else false, fun x hx => ?_⟩
    have q := h x hx
    show StD K H x (if q : stB K H x then Classical.choose q else false)
    rw [dif_pos q]
    exact Classical.choose_spec q
  exact ⟨_, .tup e g hg⟩
theorem std_rs {H : Hp} {t : Addr} {r : RS} (e : SqT K H t r.vs) (ok : OkR r) : stB K H (.ref t) := ⟨_, .tup e ok.ok⟩
theorem good_of {H : Hp} {v : V} (h : SsD K H v true) : ∃ (a : Addr) (rs : List RS), v = .ref a ∧ GoodS K H a rs ∧ (∀ r ∈ rs, OkR r) ∧ rs.length ≤ 24 := by
  obtain ⟨b, eb⟩ : ∃ b, b = true := ⟨true, rfl⟩
  rw [← eb] at h
  cases h with
  | no h => cases eb
  | @tup a xs e g hx =>
    simp only [Bool.and_eq_true, decide_eq_true_eq] at eb
    obtain ⟨l, hg⟩ := eb
    have one : ∀ x ∈ xs, ∃ (r : RS) (b : Addr), x = .ref b ∧ SqT K H b r.vs ∧ OkR r := fun x hm => by
      have t := hx x hm
      rw [List.all_eq_true.mp hg x hm] at t
      obtain ⟨c, ec⟩ : ∃ c, c = true := ⟨true, rfl⟩
      rw [← ec] at t
      cases t with
      | no _ => cases ec
      | @tup b ys eb hy =>
        by_cases h5 : (ys.length : Int) = 5
        · obtain ⟨kd, wt, dd, pl, ln, rfl⟩ := five h5
          have ec : ((isStr kd && inV kd KNS) && ((isStr dd && inV dd DDS) && (nameV pl && (withB 0 99 wt && noneOr (withB 0 11) ln)))) = true := ec
          simp only [Bool.and_eq_true] at ec
          obtain ⟨⟨c1, c2⟩, ⟨c3, c4⟩, c5, c6, c7⟩ := ec
          obtain ⟨zk, rfl⟩ : ∃ z, kd = .str z := by cases kd <;> first | exact ⟨_, rfl⟩ | cases c1
          obtain ⟨zd, rfl⟩ : ∃ z, dd = .str z := by cases dd <;> first | exact ⟨_, rfl⟩ | cases c3
          obtain ⟨zp, rfl⟩ : ∃ z, pl = .str z := by cases pl <;> first | exact ⟨_, rfl⟩ | cases c5
          obtain ⟨wi, rfl⟩ : ∃ i, wt = .int i := by cases wt <;> first | exact ⟨_, rfl⟩ | cases c6
          have c6 : (decide ((0 : Int) ≤ wi) && decide (wi ≤ 99)) = true := c6
          simp only [Bool.and_eq_true, decide_eq_true_eq] at c6
          have ew : V.int wi = V.int ((wi.toNat : Nat) : Int) := by rw [Int.toNat_of_nonneg c6.1]
          rw [ew] at eb
          refine ⟨⟨zk, wi.toNat, zd, zp, ln⟩, b, rfl, eb, ?_, by show wi.toNat ≤ 99; omega, ?_, c5, c7⟩
          · have := (inV_strs zk KNL).symm.trans c2
            exact of_decide_eq_true this
          · have := (inV_strs zd DDL).symm.trans c4
            exact of_decide_eq_true this
        · rw [not_five h5] at ec
          cases ec
    have all : ∀ ys : List V, (∀ x ∈ ys, ∃ (r : RS) (b : Addr), x = .ref b ∧ SqT K H b r.vs ∧ OkR r) → ∃ rs : List RS, ys.length = rs.length ∧ (∀ r ∈ rs, OkR r) ∧ ∀ (i : Nat) (x : V) (r : RS), ys[i]? = some x → rs[i]? = some r → ∃ b : Addr, x = .ref b ∧ SqT K H b r.vs := fun ys => by
      induction ys with
      | nil => exact fun _ => ⟨[], rfl, fun r hr => (nomatch hr), fun i x r hx => by simp at hx⟩
      | cons y ys ih =>
        intro h
        obtain ⟨r, b, ey, hb, ok⟩ := h y List.mem_cons_self
        obtain ⟨rs, l, oks, g⟩ := ih fun x hx => h x (List.mem_cons_of_mem _ hx)
        refine ⟨r :: rs, by rw [List.length_cons, List.length_cons, l], fun q hq => ?_, fun i x q hx hq => ?_⟩
        · rcases List.mem_cons.mp hq with rfl | hq
          · exact ok
          · exact oks q hq
        · cases i with
          | zero =>
            cases hx
            cases hq
            exact ⟨b, ey, hb⟩
          | succ i => exact g i x q hx hq
    obtain ⟨rs, lx, oks, gx⟩ := all xs one
    exact ⟨a, rs, rfl, ⟨xs, e, lx, gx⟩, oks, by omega⟩
theorem not_kp {p L : Addr} {ns : List Int} {n m : Nat} {H H' : Hp} {v : V} (hP : Pen H p L ns n) (hP' : Pen H' p L ns m) (k : Kp p H H') (h : NoT H v) : NoT H' v := by
  cases h with
  | non => exact .non
  | bl b => exact .bl b
  | int i => exact .int i
  | str z => exact .str z
  | @lst a xs e =>
    by_cases z : a = p
    · obtain ⟨_, _, h, _⟩ := hP'.at_
      rw [z]
      exact .lst h
    · exact .lst (k _ _ e z)
  | @dK a kvs e =>
    refine .dK (k _ _ e fun z => ?_)
    obtain ⟨_, _, h, _⟩ := hP.at_
    rw [z, h] at e
    cases e
theorem std_kp {p L : Addr} {ns : List Int} {n m : Nat} {H H' : Hp} {v : V} {b : Bool} (hP : Pen H p L ns n) (hP' : Pen H' p L ns m) (k : Kp p H H') (h : StD K H v b) : StD K H' v b := by
  cases h with
  | tup e h => exact .tup (KT.pen hP k _ _ e) fun x hx => th_kp hP hP' (h x hx) k
  | no h => exact .no (not_kp hP hP' k h)
theorem ssd_kp {p L : Addr} {ns : List Int} {n m : Nat} {H H' : Hp} {v : V} {b : Bool} (hP : Pen H p L ns n) (hP' : Pen H' p L ns m) (k : Kp p H H') (h : SsD K H v b) : SsD K H' v b := by
  cases h with
  | tup e g h => exact .tup (KT.pen hP k _ _ e) g fun x hx => std_kp hP hP' k (h x hx)
  | no h => exact .no (not_kp hP hP' k h)
/-- of which it is told whether it is steps -/
def OkV (K : PySem.W.Frag) (H : Hp) (v : V) : Prop := ∃ c, SsD K H v c
theorem OkV.no {H : Hp} {v : V} (h : NoT H v) : OkV K H v := ⟨_, .no h⟩
/-- the steps handed in -/
structure Hand (K : PySem.W.Frag) (H : Hp) (b : Addr) (xs : List V) (rs : List RS) : Prop where
  e : SqT K H b xs
  l : xs.length = rs.length
  at_ : ∀ (i : Nat) (x : V) (r : RS), xs[i]? = some x → rs[i]? = some r → ∃ c : Addr, x = .ref c ∧ SqT K H c r.vs
theorem Hand.kt {H H' : Hp} {b : Addr} {xs : List V} {rs : List RS} (h : Hand K H b xs rs) (k : KT K H H') : Hand K H' b xs rs := ⟨k _ _ h.e, h.l, fun i x r hx hr => by
  obtain ⟨c, e, hc⟩ := h.at_ i x r hx hr
  exact ⟨c, e, k _ _ hc⟩⟩
theorem Hand.one {H : Hp} {b : Addr} {xs : List V} {rs : List RS} (h : Hand K H b xs rs) (ok : ∀ r ∈ rs, OkR r) {x : V} (hx : x ∈ xs) : stB K H x := by
  obtain ⟨i, hi⟩ := List.getElem?_of_mem hx
  have li := (List.getElem?_eq_some_iff.mp hi).1
  have hl := h.l
  have hr : rs[i]? = some (rs[i]'(by omega)) := List.getElem?_eq_getElem _
  obtain ⟨c, rfl, hc⟩ := h.at_ i x _ hi hr
  exact std_rs hc (ok _ (List.getElem_mem _))
theorem cut_mem {xs : List V} {lo hi : Option Int} {x : V} (h : x ∈ cutV xs lo hi) : x ∈ xs := by
  unfold cutV at h
  exact List.mem_of_mem_drop (List.mem_of_mem_take h)
/-- steps with another thing in one place -/
theorem Hand.put {H : Hp} {b : Addr} {xs : List V} {rs : List RS} (h : Hand K H b xs rs) (ok : ∀ r ∈ rs, OkR r) {q : Addr} {lo hi lo' hi' : Option Int} {y : V} (e : SqT K H q (cutV xs lo hi ++ [y] ++ cutV xs lo' hi')) (hy : stB K H y) : OkV K H (.ref q) := by
  refine ssd_of e fun x hx => ?_
  rcases List.mem_append.mp hx with hx | hx
  · rcases List.mem_append.mp hx with hx | hx
    · exact h.one ok (cut_mem hx)
    · rw [List.mem_singleton.mp hx]
      exact hy
  · exact h.one ok (cut_mem hx)
theorem cut_le1 {xs : List V} : (cutV xs none (some 1)).length ≤ 1 := by
  unfold cutV
  rw [List.length_take, show (some (1 : Int)) = some ((1 : Nat) : Int) from rfl, HT.sIx_nat, HT.sIx_none]
  omega
theorem ok1_kl {D : Addr} {ys zs : List V} {H H' : Hp} {v : V} (hD : H D = some (.lst ys)) (hD' : H' D = some (.lst zs)) (k : Kp D H H') (h : Ok1 H v) : Ok1 H' v := by
  refine ⟨?_, h.2⟩
  have h1 := h.1
  have ne : ∀ {a : Addr} {o : HO}, H a = some o → (∀ xs, o ≠ .lst xs) → a ≠ D := fun {a o} e n z => by
    rw [z, hD] at e
    exact n _ (Option.some.inj e).symm
  cases h1 with
  | non => exact .non
  | bl b => exact .bl b
  | int i => exact .int i
  | str z => exact .str z
  | @lst a xs e =>
    by_cases z : a = D
    · rw [z]
      exact .lst hD'
    · exact .lst (k _ _ e z)
  | tup e => exact .tup (k _ _ e (ne e fun _ q => nomatch q))
  | dK e => exact .dK (k _ _ e (ne e fun _ q => nomatch q))
theorem not_kl {D : Addr} {ys zs : List V} {H H' : Hp} {v : V} (hD : H D = some (.lst ys)) (hD' : H' D = some (.lst zs)) (k : Kp D H H') (h : NoT H v) : NoT H' v := by
  cases h with
  | non => exact .non
  | bl b => exact .bl b
  | int i => exact .int i
  | str z => exact .str z
  | @lst a xs e =>
    by_cases z : a = D
    · rw [z]
      exact .lst hD'
    · exact .lst (k _ _ e z)
  | @dK a kvs e =>
    refine .dK (k _ _ e fun z => ?_)
    rw [z, hD] at e
    cases e
theorem std_kl {D : Addr} {ys zs : List V} {H H' : Hp} {v : V} {b : Bool} (hD : H D = some (.lst ys)) (hD' : H' D = some (.lst zs)) (k : Kp D H H') (h : StD K H v b) : StD K H' v b := by
  cases h with
  | tup e h => exact .tup (sqT_kp hD k e) fun x hx => ok1_kl hD hD' k (h x hx)
  | no h => exact .no (not_kl hD hD' k h)
theorem okv_kl {D : Addr} {ys zs : List V} {H H' : Hp} {v : V} (hD : H D = some (.lst ys)) (hD' : H' D = some (.lst zs)) (k : Kp D H H') (h : OkV K H v) : OkV K H' v := by
  obtain ⟨c, h⟩ := h
  cases h with
  | tup e g h => exact ⟨_, .tup (sqT_kp hD k e) g fun x hx => std_kl hD hD' k (h x hx)⟩
  | no h => exact ⟨_, .no (not_kl hD hD' k h)⟩
theorem OkV.same {H H' : Hp} {v : V} (s : Same H H') (h : OkV K H v) : OkV K H' v := by
  obtain ⟨c, h⟩ := h
  exact ⟨c, h.k2 (Kt2.same s)⟩
theorem stb_same {H H' : Hp} {v : V} (s : Same H H') (h : stB K H v) : stB K H' v := by
  obtain ⟨c, h⟩ := h
  exact ⟨c, h.k2 (Kt2.same s)⟩
theorem kpS {p : Addr} {H H' : Hp} (s : Same H H') : Kp p H H' := fun b o e _ => s b o e
theorem Hand.kp {p L : Addr} {ns : List Int} {n : Nat} {H H' : Hp} {b : Addr} {xs : List V} {rs : List RS} (hP : Pen H p L ns n) (h : Hand K H b xs rs) (k : Kp p H H') : Hand K H' b xs rs := h.kt (KT.pen hP k)
def spBent (K : PySem.W.Frag) : Sp := fun vs H Q _ => ∃ (p L b : Addr) (ns : List Int) (n : Nat) (xs : List V) (rs : List RS), vs = [.ref p, .ref b] ∧ Pen H p L ns n ∧ n + 20 < 1000000 ∧ Hand K H b xs rs ∧ (∀ r ∈ rs, OkR r) ∧ rs.length ≤ 24 ∧
  ∀ (v : V) (c : Bool) (H' : Hp), SsD K H' v c → Pen H' p L ns (n + 10) → Kp p H H' → Q v H'
theorem ok_bent {f : Addr} {fd : FuncData} (F : FnP K "_law_bent" slaw_bent f fd) (T : Txt mg) (D_law_draw : Dn P w K mg base 1 "_law_draw" ["pen", "many"] spDraw) : FnOk P w K mg base CX0 2 f fd ["pen", "steps"] (spBent K) := by
  refine okN F sclaw_bent (fun vs H Q E h => ?_) (fun cdv A outer s H vs Q E hr h => ?_)
  · obtain ⟨p, L, b, ns, n, xs, rs, rfl, _⟩ := h
    rfl
  · obtain ⟨p, L, b, ns, n, xs, rs, rfl, hP, hn, hg, ok, lr, q⟩ := h
    refine ⟨_, (pss_cons (ps_set (i := 2) sclaw_bent.nd rfl (Or.inl rfl) (pe_lst (pa_cons pe_non (pa_cons (pe_callTy call_list_of (by rfl) T.m_list (by decide +kernel) (pa_cons (pv 1) pa_nil)) (pa_cons (pe_op op_repX (pe_slice sl_tupX (pv 1) po_none (po_some pe_int)) pe_int) (pa_cons pe_str (pa_cons pe_int (pa_cons pe_dnewK (pa_cons (pe_op op_catX (pv 1) (pe_tup (pa_cons pe_non pa_nil))) pa_nil)))))))))
      (pss_cons (ps_if (pt_cmpR (op_eqD hr.units) (pv 1) (pe_tup pa_nil) (nomark _)) (pss_one (ps_ret (pe_ix ix_list (pv 2) (pe_ix ix_list (pe_lst (pa_cons pe_int (pa_cons pe_int (pa_cons pe_int (pa_cons pe_int (pa_cons pe_int (pa_cons pe_int pa_nil))))))) (pe_dn D_law_draw (hr.mono (by decide)) rfl (pa_cons (pv 0) (pa_cons pe_int pa_nil))) (fun _ _ => rfl)) (fun _ _ => rfl)))) pss_nil)
      (pss_cons (ps_par (i := 3) (j := 4) (by rfl) sclaw_bent.nd rfl rfl (by decide) rfl rfl (pa_cons (pe_dn D_law_draw (hr.mono (by decide)) rfl (pa_cons (pv 0) (pa_cons (pe_callB call_len_seq (by rfl) T.m_len (by decide +kernel) (pa_cons (pv 1) pa_nil)) pa_nil))) (pa_cons (pe_dn D_law_draw (hr.mono (by decide)) rfl (pa_cons (pv 0) (pa_cons pe_int pa_nil))) pa_nil)) (by rfl))
      (pss_cons (ps_set (i := 5) sclaw_bent.nd rfl (Or.inl rfl) (pe_lst (pa_cons pe_non (pa_cons pe_bl (pa_cons (pe_un un_neg pe_int) (pa_cons pe_int (pa_cons pe_int (pa_cons pe_str (pa_cons pe_str (pa_cons pe_str (pa_cons pe_str (pa_cons (pe_lst (pa_cons pe_int pa_nil)) (pa_cons (pe_tup (pa_cons pe_int pa_nil)) (pa_cons pe_str (pa_cons pe_str (pa_cons pe_int (pa_cons pe_int (pa_cons pe_str pa_nil))))))))))))))))))
      (pss_cons (ps_set (i := 5) sclaw_bent.nd rfl (Or.inl rfl) (pe_ix ix_list (pv 5) (pe_dn D_law_draw (hr.mono (by decide)) rfl (pa_cons (pv 0) (pa_cons pe_int pa_nil))) (fun _ _ => rfl)))
      (pss_cons (ps_set (i := 6) sclaw_bent.nd rfl (Or.inl rfl) (pe_op op_catX (pe_op op_catX (pe_slice sl_tupX (pe_ix ix_tup (pv 1) (pv 3) (fun _ _ => rfl)) po_none (po_some (pv 4))) (pe_tup (pa_cons (pv 5) pa_nil))) (pe_slice sl_tupX (pe_ix ix_tup (pv 1) (pv 3) (fun _ _ => rfl)) (po_some (pe_op op_add (pv 4) pe_int)) po_none)))
      (pss_cons (ps_set (i := 2) sclaw_bent.nd rfl (Or.inl rfl) (pe_op op_cat (pe_op op_cat (pv 2) (pe_op op_rep (pe_lst (pa_cons (pe_op op_catX (pe_op op_catX (pe_slice sl_tupX (pv 1) po_none (po_some (pv 3))) (pe_tup (pa_cons (pv 6) pa_nil))) (pe_slice sl_tupX (pv 1) (po_some (pe_op op_add (pv 3) pe_int)) po_none)) pa_nil)) pe_int)) (pe_lst (pa_cons (pe_op op_catX (pe_op op_catX (pe_slice sl_tupX (pv 1) po_none (po_some (pv 3))) (pe_tup (pa_cons (pe_slice sl_tupX (pe_ix ix_tup (pv 1) (pv 3) (fun _ _ => rfl)) po_none (po_some pe_int)) pa_nil))) (pe_slice sl_tupX (pv 1) (po_some (pe_op op_add (pv 3) pe_int)) po_none)) pa_nil))))
      (pss_cons (ps_expr (pe_bm PySem.F.plainAttrs_list PySem.F.slot_list_append PySem.F.type_list_append mt_append (pv 2) (pa_cons (pe_op op_catX (pe_op op_catX (pe_slice sl_tupX (pv 1) po_none (po_some (pv 3))) (pe_tup (pa_cons (pe_op op_catX (pe_ix ix_tup (pv 1) (pv 3) (fun _ _ => rfl)) (pe_tup (pa_cons pe_non pa_nil))) pa_nil))) (pe_slice sl_tupX (pv 1) (po_some (pe_op op_add (pv 3) pe_int)) po_none)) pa_nil)))
      (pss_one (ps_ret (pe_ix ix_list (pe_op op_cat (pv 2) (pe_lst (pa_cons (pe_op op_catX (pe_op op_catX (pe_slice sl_tupX (pv 1) po_none (po_some (pv 3))) (pe_tup (pa_cons (pe_callTy call_list_of (by rfl) T.m_list (by decide +kernel) (pa_cons (pe_ix ix_tup (pv 1) (pv 3) (fun _ _ => rfl)) pa_nil)) pa_nil))) (pe_slice sl_tupX (pv 1) (po_some (pe_op op_add (pv 3) pe_int)) po_none)) pa_nil))) (pe_dn D_law_draw (hr.mono (by decide)) rfl (pa_cons (pv 0) (pa_cons (pe_op op_add (pe_callB call_len_seq (by rfl) T.m_len (by decide +kernel) (pa_cons (pv 2) pa_nil)) pe_int) pa_nil))) (fun _ _ => rfl)))))))))))), ?_⟩
    have lx : xs.length ≤ 24 := by rw [hg.l]; exact lr
    -- list(steps)
    refine ⟨_, rfl, b, _, rfl, .inr hg.e, fun l hl => ?_⟩
    have s1 := same_new (o := .lst xs) hl
    have xl : (upd H l (.lst xs)) l = some (.lst xs) := upd_same
    revert s1 xl
    generalize upd H l (.lst xs) = H1
    intro s1 xl
    have hg1 := hg.kt (KT.same s1)
    -- steps[:1] * 25
    refine ⟨_, rfl, _, rfl, b, xs, rfl, hg1.e, fun p1 H2 c1 s2 => ?_⟩
    refine ⟨p1, 25, _, rfl, rfl, c1, (by decide), (by decide), Nat.le_trans cut_le1 (by decide), fun m H3 cm s3 => ?_⟩
    have s13 := s2.trans s3
    have hg3 := hg1.kt (KT.same s13)
    have xl := s13 _ _ xl
    have om : OkV K H3 (.ref m) := ssd_of cm fun x hx => by
      obtain ⟨y, hy, hx⟩ := List.mem_flatten.mp hx
      rw [List.eq_of_mem_replicate hy] at hx
      exact hg3.one ok (cut_mem hx)
    have s03 := s1.trans s13
    clear s13 s2 s3 c1 cm hg1 s1 hl
    -- {}
    refine fun d hd => ?_
    have s4 := same_new (o := .dK []) hd
    have xd : (upd H3 d (.dK [])) d = some (.dK []) := upd_same
    revert s4 xd
    generalize upd H3 d (.dK []) = H4
    intro s4 xd
    have hg4 := hg3.kt (KT.same s4)
    -- steps + (None,)
    refine ⟨_, rfl, (by show 1 ≤ sizeLine; decide), fun u hu => ?_⟩
    have s5 := same_new (o := .tup [V.non]) hu
    have xu : (upd H4 u (.tup [V.non])) u = some (.tup [V.non]) := upd_same
    revert s5 xu
    generalize upd H4 u (.tup [V.non]) = H5
    intro s5 xu
    have hg5 := hg4.kt (KT.same s5)
    refine ⟨b, u, xs, [V.non], rfl, rfl, hg5.e, SqT.of xu, by rw [List.length_singleton, sizeLine_eq]; omega, fun w1 H6 cw s6 => ?_⟩
    have hg6 := hg5.kt (KT.same s6)
    have ow : OkV K H6 (.ref w1) := ssd_of cw fun x hx => by
      rcases List.mem_append.mp hx with hx | hx
      · exact hg6.one ok hx
      · rw [List.mem_singleton.mp hx]
        exact ⟨_, .no .non⟩
    have s46 := s5.trans s6
    have s36 := s4.trans s46
    have okS : ∀ v ∈ [V.non, V.ref l, V.ref m, V.str "press", V.int 5, V.ref d, V.ref w1], OkV K H6 v := fun v hv => by
      simp only [List.mem_cons, List.not_mem_nil, or_false] at hv
      rcases hv with rfl | rfl | rfl | rfl | rfl | rfl | rfl
      · exact .no .non
      · exact .no (.lst (s36 _ _ xl))
      · obtain ⟨c, h⟩ := om
        exact ⟨c, h.k2 (Kt2.same s36)⟩
      · exact .no (.str _)
      · exact .no (.int _)
      · exact .no (.dK (s46 _ _ xd))
      · exact ow
    obtain ⟨SV, eSV⟩ : ∃ SV, SV = [V.non, V.ref l, V.ref m, V.str "press", V.int 5, V.ref d, V.ref w1] := ⟨_, rfl⟩
    refine ⟨(by show 7 ≤ sizeLine; decide), fun S hS => ?_⟩
    rw [← eSV] at okS ⊢
    have lSV : SV.length = 7 := by rw [eSV] <;> rfl
    have s7 := same_new (o := .lst SV) hS
    have xS : (upd H6 S (.lst SV)) S = some (.lst SV) := upd_same
    have nS : S ≠ p := ((hP.keep' s03).keep' s36).lt_new hS
    revert s7 xS
    generalize upd H6 S (.lst SV) = H7
    intro s7 xS
    have s07 := (s03.trans s36).trans s7
    have hg7 := hg6.kt (KT.same s7)
    have hP7 := hP.keep' s07
    have okS : ∀ v ∈ SV, OkV K H7 v := fun v hv => by
      obtain ⟨c, h⟩ := okS v hv
      exact ⟨c, h.k2 (Kt2.same s7)⟩
    clear s7 hS s36 s46 s6 s5 s4 om ow xl xd xu cw hg3 hg4 hg5 hg6 hu hd s03 eSV
    -- no steps
    refine ⟨_, rfl, (by show 0 ≤ sizeLine; decide), fun z hz => ?_⟩
    have s8 := same_new (o := .tup []) hz
    have xz : (upd H7 z (.tup [])) z = some (.tup []) := upd_same
    revert s8 xz
    generalize upd H7 z (.tup []) = H8
    intro s8 xz
    have hg8 := hg7.kt (KT.same s8)
    have hP8 := hP7.keep' s8
    have xS := s8 _ _ xS
    have s08 := s07.trans s8
    have okS : ∀ v ∈ SV, OkV K H8 v := fun v hv => by
      obtain ⟨c, h⟩ := okS v hv
      exact ⟨c, h.k2 (Kt2.same s8)⟩
    refine ⟨stepsD rs, .tuple [], .tup hg8.e (dp_steps hg8.l ok hg8.at_), .tup (SqT.of xz) .nil, steps_shaped ok, by decide +kernel, ?_⟩
    rw [eqv_nil]
    clear s8 hz xz hg7 hP7 s07
    refine ⟨_, rfl, iteB (fun h0 => ?_) fun h0 => ?_⟩
    · refine ⟨_, rfl, (by show 6 ≤ sizeLine; decide), fun M hM => ?_⟩
      have nM : M ≠ p := hP8.lt_new hM
      have s9 := same_new (o := .lst [V.int 0, V.int 1, V.int 3, V.int 4, V.int 5, V.int 6]) hM
      have xM : (upd H8 M (.lst [V.int 0, V.int 1, V.int 3, V.int 4, V.int 5, V.int 6])) M = some (.lst [V.int 0, V.int 1, V.int 3, V.int 4, V.int 5, V.int 6]) := upd_same
      revert s9 xM
      generalize upd H8 M (.lst [V.int 0, V.int 1, V.int 3, V.int 4, V.int 5, V.int 6]) = H9
      intro s9 xM
      have hP9 := hP8.keep' s9
      refine ⟨_, rfl, p, L, ns, _, 6, rfl, hP9, (by decide), (by decide), (by omega), fun k HA k0 k1 hPA bA => ?_⟩
      obtain ⟨y, ey, my⟩ := listAt (xs := [V.int 0, V.int 1, V.int 3, V.int 4, V.int 5, V.int 6]) k0 k1
      obtain ⟨j, rfl, hj⟩ : ∃ j : Nat, y = .int (j : Int) ∧ j < 7 := by
        simp only [List.mem_cons, List.not_mem_nil, or_false] at my
        rcases my with rfl | rfl | rfl | rfl | rfl | rfl
        · exact ⟨0, rfl, by decide⟩
        · exact ⟨1, rfl, by decide⟩
        · exact ⟨3, rfl, by decide⟩
        · exact ⟨4, rfl, by decide⟩
        · exact ⟨5, rfl, by decide⟩
        · exact ⟨6, rfl, by decide⟩
      have hv : SV[j]? = some (SV[j]'(by omega)) := List.getElem?_eq_getElem _
      obtain ⟨c, hc⟩ := okS _ (List.mem_of_getElem? hv)
      refine ⟨M, _, _, _, rfl, rfl, SqL.of (bA.kp _ _ xM nM), ey, S, _, _, _, rfl, rfl, SqL.of (bA.kp _ _ (s9 _ _ xS) nS), atI_nat hv, ?_⟩
      exact q _ c HA (ssd_kp hP9 hPA bA.kp (hc.k2 (Kt2.same s9))) (hPA.up (by omega)) ((kpS (s08.trans s9)).trans bA.kp)
    · have hx0 : 1 ≤ xs.length := by
        have h0 := of_decide_eq_false h0
        rw [hg8.l]
        exact List.length_pos_iff.mpr h0
      -- at, to
      refine ⟨_, rfl, _, rfl, b, xs, rfl, .inr hg8.e, p, L, ns, _, _, rfl, hP8, (by omega), (by omega), (by omega), fun at_ H9 at0 at1 hP9 b9 => ?_⟩
      refine ⟨_, rfl, p, L, ns, _, 5, rfl, hP9, (by decide), (by decide), (by omega), fun to_ HA to0 to1 hPA bA => ?_⟩
      have k8A := b9.kp.trans bA.kp
      have hgA := hg8.kp hP8 k8A
      have okS : ∀ v ∈ SV, OkV K HA v := fun v hv => by
        obtain ⟨c, h⟩ := okS v hv
        exact ⟨c, ssd_kp hP8 hPA k8A h⟩
      have xS := k8A _ _ xS nS
      have kA := (kpS s08).trans k8A
      obtain ⟨ai, rfl⟩ : ∃ ai : Nat, at_ = (ai : Int) := ⟨at_.toNat, by rw [Int.toNat_of_nonneg at0]⟩
      have hlx := hgA.l
      obtain ⟨x, hx⟩ : ∃ x, xs[ai]? = some x := ⟨xs[ai]'(by omega), List.getElem?_eq_getElem (by omega)⟩
      obtain ⟨r, hr⟩ : ∃ r, rs[ai]? = some r := ⟨rs[ai]'(by omega), List.getElem?_eq_getElem (by omega)⟩
      have okr := ok r (List.mem_of_getElem? hr)
      have ax : atI xs (ai : Int) = some x := atI_nat hx
      obtain ⟨t, rfl, _⟩ := hgA.at_ ai x r hx hr
      clear k8A hg8 hP8 b9 bA s08
      refine ⟨_, _, rfl, ?_⟩
      -- odd
      refine ⟨_, rfl, (by show 1 ≤ sizeLine; decide), fun F1 hF1 => ?_⟩
      have s1 := same_new (o := .lst [V.int 1]) hF1
      have x1 : (upd HA F1 (.lst [V.int 1])) F1 = some (.lst [V.int 1]) := upd_same
      revert s1 x1
      generalize upd HA F1 (.lst [V.int 1]) = HB
      intro s1 x1
      refine ⟨(by show 1 ≤ sizeLine; decide), fun G1 hG1 => ?_⟩
      have s2 := same_new (o := .tup [V.int 1]) hG1
      have x2 : (upd HB G1 (.tup [V.int 1])) G1 = some (.tup [V.int 1]) := upd_same
      revert s2 x2
      generalize upd HB G1 (.tup [V.int 1]) = HC
      intro s2 x2
      have x1 := s2 _ _ x1
      obtain ⟨OV, eOV⟩ : ∃ OV, OV = [V.non, V.bl true, V.int (-1), V.int 100, V.int 12, V.str "Press", V.str "", V.str "come ", V.str "9z", V.ref F1, V.ref G1, V.str "with", V.str "a", V.int 0, V.int 11, V.str "dim"] := ⟨_, rfl⟩
      refine ⟨(by show 16 ≤ sizeLine; decide), fun Y hY => ?_⟩
      rw [← eOV]
      have s3 := same_new (o := .lst OV) hY
      have xY : (upd HC Y (.lst OV)) Y = some (.lst OV) := upd_same
      have s13 := (s1.trans s2).trans s3
      have nY : Y ≠ p := (hPA.keep' (s1.trans s2)).lt_new hY
      have x1 := s3 _ _ x1
      have x2 := s3 _ _ x2
      revert s13 xY x1 x2
      generalize upd HC Y (.lst OV) = HD
      intro xY s13 x1 x2
      have hPD := hPA.keep' s13
      refine ⟨_, rfl, _, rfl, p, L, ns, _, 16, rfl, hPD, (by decide), (by decide), (by omega), fun k HE k0 k1 hPE bE => ?_⟩
      obtain ⟨odd, eo, mo⟩ := listAt (xs := OV) k0 (by rw [eOV]; exact k1)
      have oko : Ok1 HD odd := by
        rw [eOV] at mo
        simp only [List.mem_cons, List.not_mem_nil, or_false] at mo
        rcases mo with rfl | rfl | rfl | rfl | rfl | rfl | rfl | rfl | rfl | rfl | rfl | rfl | rfl | rfl | rfl | rfl
        · exact ⟨.non, fun _ e => nomatch e⟩
        · exact ⟨.bl _, fun _ e => nomatch e⟩
        · exact ⟨.int _, fun _ e => nomatch e⟩
        · exact ⟨.int _, fun _ e => nomatch e⟩
        · exact ⟨.int _, fun _ e => nomatch e⟩
        · exact ok_str (by decide)
        · exact ok_str (by decide)
        · exact ok_str (by decide)
        · exact ok_str (by decide)
        · exact ok_ref (.lst x1)
        · exact ok_ref (.tup x2)
        · exact ok_str (by decide)
        · exact ok_str (by decide)
        · exact ⟨.int _, fun _ e => nomatch e⟩
        · exact ⟨.int _, fun _ e => nomatch e⟩
        · exact ok_str (by decide)
      refine ⟨Y, _, _, _, rfl, rfl, SqL.of (bE.kp _ _ xY nY), eo, ?_⟩
      have okoE := th_kp hPD hPE oko bE.kp
      have kAE : Kp p HA HE := (kpS s13).trans bE.kp
      have hgE := hgA.kp hPA kAE
      have okS : ∀ v ∈ SV, OkV K HE v := fun v hv => by
        obtain ⟨c, h⟩ := okS v hv
        exact ⟨c, ssd_kp hPA hPE kAE h⟩
      have xS := kAE _ _ xS nS
      have kE := kA.trans kAE
      clear kA kAE hPD bE oko mo eo s13 s3 s2 s1 x1 x2 xY nY hY hG1 hF1 eOV hPA hP9 hgA
      -- step
      have tOf : ∀ {H' : Hp}, Same HE H' → SqT K H' t r.vs := fun {H'} s' => by
        obtain ⟨c, e, hc⟩ := (hgE.kt (KT.same s')).at_ ai _ r hx hr
        cases e
        exact hc
      have l5 : r.vs.length = 5 := rfl
      refine ⟨_, rfl, _, rfl, b, _, _, .ref t, rfl, rfl, hgE.e, ax, _, rfl, _, rfl, t, r.vs, rfl, tOf (Same.refl _), fun p1 H1 c1 s1 => ?_⟩
      refine ⟨_, rfl, (by show 1 ≤ sizeLine; decide), fun u hu => ?_⟩
      have xu : (upd H1 u (.tup [odd])) u = some (.tup [odd]) := upd_same
      have s2 := s1.trans (same_new (o := .tup [odd]) hu)
      have c1 := sqT_same (same_new (o := .tup [odd]) hu) c1
      revert xu s2 c1
      generalize upd H1 u (.tup [odd]) = H2
      intro xu s2 c1
      refine ⟨p1, u, _, _, rfl, rfl, c1, SqT.of xu, by have := cutV_length r.vs none (some to_); rw [List.length_singleton, sizeLine_eq]; omega, fun p2 H3 c2 s3 => ?_⟩
      have s3' := s2.trans s3
      refine ⟨_, rfl, _, rfl, b, _, _, .ref t, rfl, rfl, (hgE.kt (KT.same s3')).e, ax, _, rfl, _, _, rfl, rfl, _, rfl, t, r.vs, rfl, tOf s3', fun p3 H4 c3 s4 => ?_⟩
      refine ⟨p2, p3, _, _, rfl, rfl, sqT_same s4 c2, c3, by have h1 := cutV_length r.vs none (some to_); have h2 := cutV_length r.vs (some (to_ + 1)) none; rw [List.length_append, List.length_singleton, sizeLine_eq]; omega, fun st H5 cs s5 => ?_⟩
      have sR := (s3'.trans s4).trans s5
      have ost : StD K H5 (.ref st) _ := .tup cs fun y hy => by
        rcases List.mem_append.mp hy with hy | hy
        · rcases List.mem_append.mp hy with hy | hy
          · exact okr.ok y (cut_mem hy)
          · rw [List.mem_singleton.mp hy]
            exact Ok1.same okoE sR
        · exact okr.ok y (cut_mem hy)
      clear s5 s4 s3 s2 s1 c1 c2 c3 s3' xu hu
      have hg5 := hgE.kt (KT.same sR)
      have hP5 := hPE.keep' sR
      have okS : ∀ v ∈ SV, OkV K H5 v := fun v hv => (okS v hv).same sR
      have xS := sR _ _ xS
      have k5 := kE.trans (kpS sR)
      have tOf : ∀ {H' : Hp}, Same H5 H' → SqT K H' t r.vs := fun {H'} s' => sqT_same s' (tOf sR)
      clear okoE hPE hgE kE sR
      have r5 := Same.refl H5
      -- the step in its place
      refine ⟨_, rfl, ?_⟩
      refine ⟨_, rfl, _, rfl, _, rfl, b, xs, rfl, (hg5.kt (KT.same r5)).e, fun aA1 IA1 caA1 saA1 => ?_⟩
      have tA1 := r5.trans saA1
      have vA1 := Same.refl IA1
      refine ⟨_, rfl, (by show 1 ≤ sizeLine; decide), fun uA huA => ?_⟩
      have xuA : (upd IA1 uA (.tup [V.ref st])) uA = some (.tup [V.ref st]) := upd_same
      have tA3 := tA1.trans (same_new (o := .tup [V.ref st]) huA)
      have vA3 := vA1.trans (same_new (o := .tup [V.ref st]) huA)
      have zA3 := same_new (o := .tup [V.ref st]) huA
      revert xuA tA3 vA3 zA3
      generalize upd IA1 uA (.tup [V.ref st]) = IA3
      intro xuA tA3 vA3 zA3
      refine ⟨aA1, uA, _, _, rfl, rfl, sqT_same vA3 caA1, SqT.of xuA, by have := cutV_length xs none (some (ai : Int)); rw [List.length_singleton, sizeLine_eq]; omega, fun aA2 IA4 caA2 saA4 => ?_⟩
      have tA4 := tA3.trans saA4
      refine ⟨_, rfl, _, rfl, _, _, rfl, rfl, _, rfl, b, xs, rfl, (hg5.kt (KT.same tA4)).e, fun aA3 IA5 caA3 saA5 => ?_⟩
      have tA5 := tA4.trans saA5
      refine ⟨aA2, aA3, _, _, rfl, rfl, sqT_same saA5 caA2, caA3, by have h1 := cutV_length xs none (some (ai : Int)); have h2 := cutV_length xs (some ((ai : Int) + 1)) none; rw [List.length_append, List.length_singleton, sizeLine_eq]; omega, fun qA IA6 cqA saA6 => ?_⟩
      have tA6 := tA5.trans saA6
      have wA6 := zA3.trans ((saA4.trans saA5).trans saA6)
      have oA : OkV K IA6 (.ref qA) := (hg5.kt (KT.same tA6)).put ok cqA ⟨_, ost.k2 (Kt2.same tA6)⟩
      refine ⟨(by show 1 ≤ sizeLine; decide), fun l1 hl1 => ?_⟩
      have y1 := tA6.trans (same_new (o := .lst [V.ref qA]) hl1)
      have oA := oA.same (same_new (o := .lst [V.ref qA]) hl1)
      have xl1 : (upd IA6 l1 (.lst [V.ref qA])) l1 = some (.lst [V.ref qA]) := upd_same
      revert y1 oA xl1
      generalize upd IA6 l1 (.lst [V.ref qA]) = J1
      intro y1 oA xl1
      refine ⟨l1, 6, _, rfl, rfl, xl1, (by decide), (by decide), (by show 6 * 1 ≤ sizeLine; decide), fun l2 hl2 => ?_⟩
      have eL2 : (List.replicate (6 : Int).toNat [V.ref qA]).flatten = [V.ref qA, V.ref qA, V.ref qA, V.ref qA, V.ref qA, V.ref qA] := rfl
      rw [eL2]
      have y2 := y1.trans (same_new (o := .lst [V.ref qA, V.ref qA, V.ref qA, V.ref qA, V.ref qA, V.ref qA]) hl2)
      have oA := oA.same (same_new (o := .lst [V.ref qA, V.ref qA, V.ref qA, V.ref qA, V.ref qA, V.ref qA]) hl2)
      have xl2 : (upd J1 l2 (.lst [V.ref qA, V.ref qA, V.ref qA, V.ref qA, V.ref qA, V.ref qA])) l2 = some (.lst [V.ref qA, V.ref qA, V.ref qA, V.ref qA, V.ref qA, V.ref qA]) := upd_same
      revert y2 oA xl2
      generalize upd J1 l2 (.lst [V.ref qA, V.ref qA, V.ref qA, V.ref qA, V.ref qA, V.ref qA]) = J2
      intro y2 oA xl2
      refine ⟨S, l2, _, _, rfl, rfl, y2 _ _ xS, xl2, Nat.le_of_lt (small1000 (by rw [lSV]; show 13 ≤ 1000; exact by decide)), fun S1 hS1 => ?_⟩
      obtain ⟨L1, eL1⟩ : ∃ L1, L1 = SV ++ [V.ref qA, V.ref qA, V.ref qA, V.ref qA, V.ref qA, V.ref qA] := ⟨_, rfl⟩
      rw [← eL1]
      have y3 := y2.trans (same_new (o := .lst L1) hS1)
      have oA := oA.same (same_new (o := .lst L1) hS1)
      have xS1 : (upd J2 S1 (.lst L1)) S1 = some (.lst L1) := upd_same
      revert y3 oA xS1
      generalize upd J2 S1 (.lst L1) = J3
      intro y3 oA xS1
      have okL1 : ∀ v ∈ L1, OkV K J3 v := fun v hv => by
        rw [eL1] at hv
        rcases List.mem_append.mp hv with h | h
        · exact (okS v h).same y3
        · simp only [List.mem_cons, List.not_mem_nil, or_false, or_self] at h
          rw [h]
          exact oA
      have lL1 : L1.length = 13 := by rw [eL1, List.length_append, lSV] <;> rfl
      clear y2 y1 hS1 hl1 hl2 xl1 xl2 oA tA6 tA5 tA4 tA3 tA1 vA3 vA1 wA6 zA3 cqA caA1 caA2 caA3 eL1 eL2
      refine ⟨_, rfl, _, rfl, _, rfl, b, xs, rfl, (hg5.kt (KT.same y3)).e, fun aB1 IB1 caB1 saB1 => ?_⟩
      have tB1 := y3.trans saB1
      refine ⟨_, rfl, _, rfl, b, _, _, .ref t, rfl, rfl, (hg5.kt (KT.same tB1)).e, ax, _, rfl, t, r.vs, rfl, tOf tB1, fun e4 IB2 ce4 vB1 => ?_⟩
      have tB2 := tB1.trans vB1
      have oe4 : stB K IB2 (.ref e4) := ⟨_, .tup ce4 fun y hy => okr.ok y (cut_mem hy)⟩
      refine ⟨(by show 1 ≤ sizeLine; decide), fun uB huB => ?_⟩
      have xuB : (upd IB2 uB (.tup [V.ref e4])) uB = some (.tup [V.ref e4]) := upd_same
      have tB3 := tB2.trans (same_new (o := .tup [V.ref e4]) huB)
      have vB3 := vB1.trans (same_new (o := .tup [V.ref e4]) huB)
      have zB3 := same_new (o := .tup [V.ref e4]) huB
      revert xuB tB3 vB3 zB3
      generalize upd IB2 uB (.tup [V.ref e4]) = IB3
      intro xuB tB3 vB3 zB3
      refine ⟨aB1, uB, _, _, rfl, rfl, sqT_same vB3 caB1, SqT.of xuB, by have := cutV_length xs none (some (ai : Int)); rw [List.length_singleton, sizeLine_eq]; omega, fun aB2 IB4 caB2 saB4 => ?_⟩
      have tB4 := tB3.trans saB4
      refine ⟨_, rfl, _, rfl, _, _, rfl, rfl, _, rfl, b, xs, rfl, (hg5.kt (KT.same tB4)).e, fun aB3 IB5 caB3 saB5 => ?_⟩
      have tB5 := tB4.trans saB5
      refine ⟨aB2, aB3, _, _, rfl, rfl, sqT_same saB5 caB2, caB3, by have h1 := cutV_length xs none (some (ai : Int)); have h2 := cutV_length xs (some ((ai : Int) + 1)) none; rw [List.length_append, List.length_singleton, sizeLine_eq]; omega, fun qB IB6 cqB saB6 => ?_⟩
      have tB6 := tB5.trans saB6
      have wB6 := zB3.trans ((saB4.trans saB5).trans saB6)
      have oB : OkV K IB6 (.ref qB) := (hg5.kt (KT.same tB6)).put ok cqB (stb_same wB6 oe4)
      have cB := (saB1.trans vB1).trans wB6
      have xS1 := cB _ _ xS1
      have okL1 : ∀ v ∈ L1, OkV K IB6 v := fun v hv => (okL1 v hv).same cB
      refine ⟨(by show 1 ≤ sizeLine; decide), fun l3 hl3 => ?_⟩
      have e1 := same_new (o := .lst [V.ref qB]) hl3
      have xl3 : (upd IB6 l3 (.lst [V.ref qB])) l3 = some (.lst [V.ref qB]) := upd_same
      revert e1 xl3
      generalize upd IB6 l3 (.lst [V.ref qB]) = J4
      intro e1 xl3
      refine ⟨S1, l3, _, _, rfl, rfl, e1 _ _ xS1, xl3, Nat.le_of_lt (small1000 (by rw [lL1]; show 14 ≤ 1000; exact by decide)), fun S2 hS2 => ?_⟩
      obtain ⟨L2, eL2⟩ : ∃ L2, L2 = L1 ++ [V.ref qB] := ⟨_, rfl⟩
      rw [← eL2]
      have y4 := tB6.trans e1
      have hS2' := hS2
      have e2 := same_new (o := .lst L2) hS2
      have xS2 : (upd J4 S2 (.lst L2)) S2 = some (.lst L2) := upd_same
      have nS2 : S2 ≠ p := (hP5.keep' y4).lt_new hS2
      have nLS2 : L ≠ S2 := ne_of_none (hP5.keep' y4).ls hS2
      revert e2 xS2
      generalize upd J4 S2 (.lst L2) = J5
      intro e2 xS2
      have y5 := y4.trans e2
      have okL2 : ∀ v ∈ L2, OkV K J5 v := fun v hv => by
        rw [eL2] at hv
        rcases List.mem_append.mp hv with h | h
        · exact ((okL1 v h).same e1).same e2
        · rw [List.mem_singleton.mp h]
          exact (oB.same e1).same e2
      have lL2 : L2.length = 14 := by rw [eL2, List.length_append, lL1] <;> rfl
      clear e1 e2 xl3 hl3 xS1 okL1 oB cB tB6 tB5 tB4 tB3 tB1 vB3 vB1 wB6 zB3 cqB caB1 caB2 caB3 eL2 oe4 ce4 okS xS ost cs
      refine ⟨_, rfl, .inl ⟨rfl, _, SqL.of xS2⟩, ?_⟩
      refine ⟨_, rfl, _, rfl, _, rfl, b, xs, rfl, (hg5.kt (KT.same y5)).e, fun aC1 IC1 caC1 saC1 => ?_⟩
      have tC1 := y5.trans saC1
      refine ⟨_, rfl, _, rfl, b, _, _, .ref t, rfl, rfl, (hg5.kt (KT.same tC1)).e, ax, (by show 1 ≤ sizeLine; decide), fun g1 hg1 => ?_⟩
      have xg1 : (upd IC1 g1 (.tup [V.non])) g1 = some (.tup [V.non]) := upd_same
      have m1 := same_new (o := .tup [V.non]) hg1
      revert xg1 m1
      generalize upd IC1 g1 (.tup [V.non]) = IC0
      intro xg1 m1
      refine ⟨t, g1, r.vs, [V.non], rfl, rfl, tOf (tC1.trans m1), SqT.of xg1, by show 5 + 1 ≤ sizeLine; decide, fun e5 IC2 ce5 m2 => ?_⟩
      have vC1 := m1.trans m2
      have tC2 := tC1.trans vC1
      have oe5 : stB K IC2 (.ref e5) := ⟨_, .tup ce5 fun y hy => by
        rcases List.mem_append.mp hy with h | h
        · exact okr.ok y h
        · rw [List.mem_singleton.mp h]
          exact ⟨.non, fun _ e => nomatch e⟩⟩
      refine ⟨(by show 1 ≤ sizeLine; decide), fun uC huC => ?_⟩
      have xuC : (upd IC2 uC (.tup [V.ref e5])) uC = some (.tup [V.ref e5]) := upd_same
      have tC3 := tC2.trans (same_new (o := .tup [V.ref e5]) huC)
      have vC3 := vC1.trans (same_new (o := .tup [V.ref e5]) huC)
      have zC3 := same_new (o := .tup [V.ref e5]) huC
      revert xuC tC3 vC3 zC3
      generalize upd IC2 uC (.tup [V.ref e5]) = IC3
      intro xuC tC3 vC3 zC3
      refine ⟨aC1, uC, _, _, rfl, rfl, sqT_same vC3 caC1, SqT.of xuC, by have := cutV_length xs none (some (ai : Int)); rw [List.length_singleton, sizeLine_eq]; omega, fun aC2 IC4 caC2 saC4 => ?_⟩
      have tC4 := tC3.trans saC4
      refine ⟨_, rfl, _, rfl, _, _, rfl, rfl, _, rfl, b, xs, rfl, (hg5.kt (KT.same tC4)).e, fun aC3 IC5 caC3 saC5 => ?_⟩
      have tC5 := tC4.trans saC5
      refine ⟨aC2, aC3, _, _, rfl, rfl, sqT_same saC5 caC2, caC3, by have h1 := cutV_length xs none (some (ai : Int)); have h2 := cutV_length xs (some ((ai : Int) + 1)) none; rw [List.length_append, List.length_singleton, sizeLine_eq]; omega, fun qC IC6 cqC saC6 => ?_⟩
      have tC6 := tC5.trans saC6
      have wC6 := zC3.trans ((saC4.trans saC5).trans saC6)
      have oC : OkV K IC6 (.ref qC) := (hg5.kt (KT.same tC6)).put ok cqC (stb_same wC6 oe5)
      have cC := (saC1.trans vC1).trans wC6
      have okL2 : ∀ v ∈ L2, OkV K IC6 v := fun v hv => (okL2 v hv).same cC
      have xS2 := cC _ _ xS2
      refine ⟨S2, _, _, rfl, rfl, xS2, small1000 (by rw [lL2]; decide), ?_⟩
      obtain ⟨L3, eL3⟩ : ∃ L3, L3 = L2 ++ [V.ref qC] := ⟨_, rfl⟩
      rw [← eL3]
      have xK : (upd IC6 S2 (.lst L3)) S2 = some (.lst L3) := upd_same
      have kl : Kp S2 IC6 (upd IC6 S2 (.lst L3)) := fun c o e nc => (upd_ne nc).trans e
      have okL3 : ∀ v ∈ L3, OkV K (upd IC6 S2 (.lst L3)) v := fun v hv => by
        rw [eL3] at hv
        rcases List.mem_append.mp hv with h | h
        · exact okv_kl xS2 xK kl (okL2 v h)
        · rw [List.mem_singleton.mp h]
          exact okv_kl xS2 xK kl oC
      have hgK : Hand K (upd IC6 S2 (.lst L3)) b xs rs := (hg5.kt (KT.same tC6)).kt (KT.put xS2)
      have hPK : Pen (upd IC6 S2 (.lst L3)) p L ns (n + 3) := ((hP5.keep' tC6).keep (upd_ne nS2.symm) (upd_ne nLS2)).up (by omega)
      have kK : Kp p H (upd IC6 S2 (.lst L3)) := fun c o e nc => by
        rw [upd_ne (ne_of_none (y4 _ _ (k5 c o e nc)) hS2')]
        exact tC6 _ _ (k5 c o e nc)
      have tOf : ∀ {H' : Hp}, Same (upd IC6 S2 (.lst L3)) H' → SqT K H' t r.vs := fun {H'} s' => sqT_same s' (KT.put xS2 _ _ (tOf tC6))
      have lL3 : L3.length = 15 := by rw [eL3, List.length_append, lL2] <;> rfl
      revert xK okL3 hgK hPK kK tOf
      generalize upd IC6 S2 (.lst L3) = J6
      clear kl oC cC okL2 xS2 tC6 tC5 tC4 tC3 tC1 vC3 vC1 wC6 zC3 cqC caC1 caC2 caC3 eL3 oe5 ce5 xg1 m1 m2 y5 y4 y3 hS2 hS2' k5 hP5 hg5 tOf
      intro xK okL3 hgK hPK kK tOf
      have r6 := Same.refl J6
      refine ⟨_, rfl, ?_⟩
      refine ⟨_, rfl, _, rfl, _, rfl, b, xs, rfl, (hgK.kt (KT.same r6)).e, fun aD1 ID1 caD1 saD1 => ?_⟩
      have tD1 := r6.trans saD1
      refine ⟨_, rfl, _, rfl, b, _, _, .ref t, rfl, rfl, (hgK.kt (KT.same tD1)).e, ax, t, r.vs, rfl, .inr (tOf tD1), fun g2 hg2 => ?_⟩
      have vD1 := same_new (o := .lst r.vs) hg2
      have xg2 : (upd ID1 g2 (.lst r.vs)) g2 = some (.lst r.vs) := upd_same
      revert vD1 xg2
      generalize upd ID1 g2 (.lst r.vs) = ID2
      intro vD1 xg2
      have tD2 := tD1.trans vD1
      have og2 : stB K ID2 (.ref g2) := ⟨_, .no (.lst xg2)⟩
      refine ⟨(by show 1 ≤ sizeLine; decide), fun uD huD => ?_⟩
      have xuD : (upd ID2 uD (.tup [V.ref g2])) uD = some (.tup [V.ref g2]) := upd_same
      have tD3 := tD2.trans (same_new (o := .tup [V.ref g2]) huD)
      have vD3 := vD1.trans (same_new (o := .tup [V.ref g2]) huD)
      have zD3 := same_new (o := .tup [V.ref g2]) huD
      revert xuD tD3 vD3 zD3
      generalize upd ID2 uD (.tup [V.ref g2]) = ID3
      intro xuD tD3 vD3 zD3
      refine ⟨aD1, uD, _, _, rfl, rfl, sqT_same vD3 caD1, SqT.of xuD, by have := cutV_length xs none (some (ai : Int)); rw [List.length_singleton, sizeLine_eq]; omega, fun aD2 ID4 caD2 saD4 => ?_⟩
      have tD4 := tD3.trans saD4
      refine ⟨_, rfl, _, rfl, _, _, rfl, rfl, _, rfl, b, xs, rfl, (hgK.kt (KT.same tD4)).e, fun aD3 ID5 caD3 saD5 => ?_⟩
      have tD5 := tD4.trans saD5
      refine ⟨aD2, aD3, _, _, rfl, rfl, sqT_same saD5 caD2, caD3, by have h1 := cutV_length xs none (some (ai : Int)); have h2 := cutV_length xs (some ((ai : Int) + 1)) none; rw [List.length_append, List.length_singleton, sizeLine_eq]; omega, fun qD ID6 cqD saD6 => ?_⟩
      have tD6 := tD5.trans saD6
      have wD6 := zD3.trans ((saD4.trans saD5).trans saD6)
      have oD : OkV K ID6 (.ref qD) := (hgK.kt (KT.same tD6)).put ok cqD (stb_same wD6 og2)
      refine ⟨(by show 1 ≤ sizeLine; decide), fun l4 hl4 => ?_⟩
      have e1 := same_new (o := .lst [V.ref qD]) hl4
      have xl4 : (upd ID6 l4 (.lst [V.ref qD])) l4 = some (.lst [V.ref qD]) := upd_same
      revert e1 xl4
      generalize upd ID6 l4 (.lst [V.ref qD]) = J7
      intro e1 xl4
      have y7 := tD6.trans e1
      refine ⟨S2, l4, _, _, rfl, rfl, y7 _ _ xK, xl4, Nat.le_of_lt (small1000 (by rw [lL3]; show 16 ≤ 1000; exact by decide)), fun S4 hS4 => ?_⟩
      obtain ⟨L4, eL4⟩ : ∃ L4, L4 = L3 ++ [V.ref qD] := ⟨_, rfl⟩
      rw [← eL4]
      have e2 := same_new (o := .lst L4) hS4
      have xS4 : (upd J7 S4 (.lst L4)) S4 = some (.lst L4) := upd_same
      have nS4 : S4 ≠ p := (hPK.keep' y7).lt_new hS4
      revert e2 xS4
      generalize upd J7 S4 (.lst L4) = J8
      intro e2 xS4
      have y8 := y7.trans e2
      have okL4 : ∀ v ∈ L4, OkV K J8 v := fun v hv => by
        rw [eL4] at hv
        rcases List.mem_append.mp hv with h | h
        · exact (okL3 v h).same y8
        · rw [List.mem_singleton.mp h]
          exact (oD.same e1).same e2
      have lL4 : L4.length = 16 := by rw [eL4, List.length_append, lL3] <;> rfl
      have hP8 := hPK.keep' y8
      refine ⟨_, rfl, _, rfl, S2, _, rfl, .inl (SqL.of (y8 _ _ xK)), _, _, rfl, rfl, p, L, ns, _, _, rfl, hP8, (by omega), (by omega), (by omega), fun k J9 k0 k1 hP9 b9 => ?_⟩
      obtain ⟨v, ev, mv⟩ := listAt (xs := L4) k0 (by omega)
      obtain ⟨c, hc⟩ := okL4 v mv
      refine ⟨S4, _, _, _, rfl, rfl, SqL.of (b9.kp _ _ xS4 nS4), ev, ?_⟩
      exact q v c J9 (ssd_kp hP8 hP9 b9.kp hc) (hP9.up (by omega)) ((kK.trans (kpS y8)).trans b9.kp)

end
end K36

set_option Elab.async false
set_option linter.all false
set_option maxRecDepth 100000
set_option maxHeartbeats 2000000
namespace K36
open PySem PySem.Spec PyProof.Rows L2 GxR Gx Gq Gd Gn Gm Gc Gk Gw Gt Gb Gp Gu Gr2 Go
abbrev slaw_same : Stmt := top 52
theorem sclaw_same : FnScope ["found", "due", "one", "other"] ["found", "due"] (defScope slaw_same) := ⟨rfl, rfl, rfl, by decide +kernel, rfl, by decide +kernel, by decide +kernel⟩
section
variable {P : Program} {w : World} {K : PySem.W.Frag} {mg : Str → Option Value} {base : Heap}
/-! ### the same -/
def spSame (K : PySem.W.Frag) (n : Nat) : Sp := fun vs H Q _ => ∃ (x y : V) (d : PyData), vs = [x, y] ∧ Dp K H x d ∧ Dp K H y d ∧ dep d < n ∧ slim d = true ∧ ∀ H', Same H H' → Q (.bl true) H'
theorem ok_same {f : Addr} {fd : FuncData} (F : FnP K "_law_same" slaw_same f fd) (T : Txt mg) {n : Nat} (D_law_same : Dn P w K mg base n "_law_same" ["found", "due"] (spSame K n)) : FnOk P w K mg base CX0 (n + 1) f fd ["found", "due"] (spSame K (n + 1)) := by
  refine okN F sclaw_same (fun vs H Q E h => ?_) (fun cdv A outer s H vs Q E hr h => ?_)
  · obtain ⟨x, y, d, rfl, _⟩ := h
    rfl
  · obtain ⟨x, y, d, rfl, hx, hy, hd, hs, q⟩ := h
    refine ⟨_, (pss_cons (ps_if (pt_val (pe_callB call_isiT (by rfl) T.m_isinstance (by decide +kernel) (pa_cons (pv 1) (pa_cons (pe_tup (pa_cons (pe_bltn (v := .ty "tuple") (u := .type "tuple") rfl T.m_tuple (by decide +kernel) rfl) (pa_cons (pe_bltn (v := .ty "list") (u := .type "list") rfl T.m_list (by decide +kernel) rfl) pa_nil))) pa_nil)))) (pss_cons (ps_if (PW.pt (pw_or (pt_not (pt_val (pe_callB call_isiT (by rfl) T.m_isinstance (by decide +kernel) (pa_cons (pv 0) (pa_cons (pe_tup (pa_cons (pe_bltn (v := .ty "tuple") (u := .type "tuple") rfl T.m_tuple (by decide +kernel) rfl) (pa_cons (pe_bltn (v := .ty "list") (u := .type "list") rfl T.m_list (by decide +kernel) rfl) pa_nil))) pa_nil))))) (pw_or1 (pt_cmpR op_ne (pe_callB call_isi (by rfl) T.m_isinstance (by decide +kernel) (pa_cons (pv 0) (pa_cons (pe_bltn (v := .ty "list") (u := .type "list") rfl T.m_list (by decide +kernel) rfl) pa_nil))) (pe_callB call_isi (by rfl) T.m_isinstance (by decide +kernel) (pa_cons (pv 1) (pa_cons (pe_bltn (v := .ty "list") (u := .type "list") rfl T.m_list (by decide +kernel) rfl) pa_nil))) (nomark _))))) (pss_one (ps_ret pe_bl)) pss_nil)
      (pss_cons (ps_if (pt_cmpR op_ne (pe_callB call_len_seq (by rfl) T.m_len (by decide +kernel) (pa_cons (pv 0) pa_nil)) (pe_callB call_len_seq (by rfl) T.m_len (by decide +kernel) (pa_cons (pv 1) pa_nil)) (nomark _)) (pss_one (ps_ret pe_bl)) pss_nil)
      (pss_one (ps_ret (pe_callB (cr_all rfl) (by rfl) T.m_all (by decide +kernel) (pa_cons (pe_lc (own := [("one", 2), ("other", 3)]) (g := gTup K 2 (gCons (gName 2) (gCons (gName 3) gNil))) (by rfl) sclaw_same.nd (RZ.pi_zipA rfl T.m_zip (pa_cons (pv 0) (pa_cons (pv 1) pa_nil))) (blkOk_by (own := [("one", 2), ("other", 3)]) (N := ["found", "due", "one", "other"]) (sc := defScope slaw_same) (by decide +kernel)) (fun _ _ _ _ _ => (pg_tup rfl (pgs_cons (pg_name (i := 2) sclaw_same.nd rfl (Or.inl rfl)) (pgs_cons (pg_name (i := 3) sclaw_same.nd rfl (Or.inl rfl)) pgs_nil)))) (fun _ _ _ _ _ => pts_nil) (fun _ _ _ _ _ => (pe_dn D_law_same (hr.mono (Nat.le_refl _)) rfl (pa_cons (pv 2) (pa_cons (pv 3) pa_nil))))) pa_nil)))))) pss_nil)
      (pss_cons (ps_if (PW.pt (pw_or (pt_cmpR op_isN (pv 1) pe_non (nomark _)) (pw_or1 (pt_cmpR op_isN (pv 0) pe_non (nomark _))))) (pss_one (ps_ret (pe_and (pe_cmpR op_isN (pv 0) pe_non (nomark _)) (pe_one (pe_cmpR op_isN (pv 1) pe_non (nomark _)))))) pss_nil)
      (pss_cons (ps_if (PW.pt (pw_or (pt_cmpR op_ne (pe_callB call_isi (by rfl) T.m_isinstance (by decide +kernel) (pa_cons (pv 0) (pa_cons (pe_bltn (v := .ty "bool") (u := .type "bool") rfl T.m_bool (by decide +kernel) rfl) pa_nil))) (pe_callB call_isi (by rfl) T.m_isinstance (by decide +kernel) (pa_cons (pv 1) (pa_cons (pe_bltn (v := .ty "bool") (u := .type "bool") rfl T.m_bool (by decide +kernel) rfl) pa_nil))) (nomark _)) (pw_or1 (pt_cmpR op_ne (pe_callB call_isi (by rfl) T.m_isinstance (by decide +kernel) (pa_cons (pv 0) (pa_cons (pe_bltn (v := .ty "str") (u := .type "str") rfl T.m_str (by decide +kernel) rfl) pa_nil))) (pe_callB call_isi (by rfl) T.m_isinstance (by decide +kernel) (pa_cons (pv 1) (pa_cons (pe_bltn (v := .ty "str") (u := .type "str") rfl T.m_str (by decide +kernel) rfl) pa_nil))) (nomark _))))) (pss_one (ps_ret pe_bl)) pss_nil)
      (pss_cons (ps_if (pt_cmpR op_ne (pe_callB call_isi (by rfl) T.m_isinstance (by decide +kernel) (pa_cons (pv 0) (pa_cons (pe_bltn (v := .ty "int") (u := .type "int") rfl T.m_int (by decide +kernel) rfl) pa_nil))) (pe_callB call_isi (by rfl) T.m_isinstance (by decide +kernel) (pa_cons (pv 1) (pa_cons (pe_bltn (v := .ty "int") (u := .type "int") rfl T.m_int (by decide +kernel) rfl) pa_nil))) (nomark _)) (pss_one (ps_ret pe_bl)) pss_nil)
      (pss_one (ps_ret (pe_cmpR op_eq (pv 0) (pv 1) (nomark _)))))))), ?_⟩
    refine ⟨_, rfl, (by show 2 ≤ sizeLine; decide), fun t ht => ?_⟩
    have st := same_new (o := .tup [V.ty "tuple", V.ty "list"]) ht
    refine ⟨y, t, _, _, _, isSeq d, rfl, upd_same, pair2, dp_ty (dp_same st hy), any2 (dp_same st hy), _, rfl, ?_⟩
    have hx := dp_same st hx
    have hy := dp_same st hy
    revert st hx hy
    generalize upd H t (.tup [V.ty "tuple", V.ty "list"]) = H1
    intro st hx hy
    have two : ∀ {d : PyData} {x y : V} {H1 : Hp}, Dp K H1 x d → Dp K H1 y d → ∀ (c : String) (r : Bool), L2.kitB (tyN d) c = some r → (∃ t, TyX K H1 x t ∧ PySem.W.kitOne K t (.type c) = some r) ∧ ∃ t, TyX K H1 y t ∧ PySem.W.kitOne K t (.type c) = some r := fun hx hy c r e => ⟨one_ty hx e, one_ty hy e⟩
    cases d with
    | none =>
      obtain rfl := dp_non hx
      obtain rfl := dp_non hy
      exact iteF ⟨_, rfl, rfl, _, rfl, iteT ⟨_, rfl, rfl, _, rfl, _, rfl, rfl, q _ st⟩⟩
    | tuple ds =>
      have hl : ds.length ≤ 100000 ∧ slimAll ds = true := by
        simp only [slim, Bool.and_eq_true, decide_eq_true_eq] at hs
        exact hs
      refine iteT ?_
      refine ⟨_, rfl, (by show 2 ≤ sizeLine; decide), fun t2 ht2 => ?_⟩
      have st2 := same_new (o := .tup [V.ty "tuple", V.ty "list"]) ht2
      refine ⟨x, t2, _, _, _, true, rfl, upd_same, pair2, dp_ty (dp_same st2 hx), any2 (dp_same st2 hx), _, rfl, iteF ?_⟩
      have st := st.trans st2
      have hx := dp_same st2 hx
      have hy := dp_same st2 hy
      clear st2 ht2
      revert st hx hy
      generalize upd H1 t2 (.tup [V.ty "tuple", V.ty "list"]) = H2
      intro st hx hy
      obtain ⟨⟨u1, y1, k1⟩, u2, y2, k2⟩ := two hx hy "list" false (by show L2.kitB "tuple" "list" = some false; decide +kernel)
      refine ⟨_, rfl, x, .ty "list", u1, .type "list", false, rfl, .ty "list", y1, k1, _, rfl, y, .ty "list", u2, .type "list", false, rfl, .ty "list", y2, k2, rfl, _, rfl, iteF ?_⟩
      obtain ⟨a, xs, rfl, sx, dx⟩ := dp_tup hx
      obtain ⟨b, ys, rfl, sy, dy⟩ := dp_tup hy
      have lx := dpAll_len dx
      have ly := dpAll_len dy
      refine ⟨_, rfl, a, xs, rfl, .inr sx, _, rfl, b, ys, rfl, .inr sy, rfl, _, rfl, ?_⟩
      rw [show decide (V.int (xs.length : Int) = V.int (ys.length : Int)) = true from decide_eq_true (by rw [lx, ly])]
      refine iteF ?_
      refine ⟨_, rfl, _, rfl, a, b, xs, ys, rfl, .inr ⟨sx, sy, fun D hD => ?_⟩⟩
      refine lc_it (walk_zipT (K := K) (a := a) (b := b) (xs := xs) (ys := ys) (n := ds.length) (by rw [lx, ly, Nat.min_self])) (fun i H3 => Same H2 H3 ∧ H3 D = some (.lst ((List.replicate i true).map V.bl))) ⟨same_new hD, upd_same⟩ ?_ ?_ ?_
      · rintro i H3 hi ⟨s3, _⟩
        exact ⟨sqT_same s3 sx, sqT_same s3 sy⟩
      · rintro i z H3 H4 hi ⟨s3, e3⟩ ⟨T1, v1, v2, rfl, hT1, rfl, g1, g2⟩
        have sT := same_new (o := .tup [v1, v2]) hT1
        refine ⟨T1, _, rfl, SqT.of upd_same, rfl, _, _, rfl, _, _, rfl, rfl, rfl, ?_⟩
        obtain ⟨e1, f1, p1⟩ := dpAll_of dx g1
        obtain ⟨e2, f2, p2⟩ := dpAll_of dy g2
        rw [f1] at f2
        cases f2
        have m1 := List.mem_of_getElem? f1
        have dp1 := dep_at m1
        have s3T := s3.trans sT
        refine ⟨_, rfl, _, rfl, v1, v2, e1, rfl, dp_same s3T p1, dp_same s3T p2, (by simp only [dep] at hd; omega), slim_at hl.2 m1, fun H5 s5 => ?_⟩
        refine ⟨_, (sT.trans s5) _ _ e3, ?_, fun c o e => ?_, ?_⟩
        · rw [List.length_map, List.length_replicate]
          exact small_big (by omega)
        · rw [upd_ne (ne_of_none e hD)]
          exact (s3T.trans s5) _ _ e
        · rw [upd_same, List.replicate_succ', List.map_append] <;> rfl
      · rintro H3 ⟨s3, e3⟩
        refine ⟨D, _, rfl, SqL.of e3, ?_⟩
        rw [ones_all]
        exact q _ (st.trans s3)
    | list ds =>
      have hl : ds.length ≤ 100000 ∧ slimAll ds = true := by
        simp only [slim, Bool.and_eq_true, decide_eq_true_eq] at hs
        exact hs
      refine iteT ?_
      refine ⟨_, rfl, (by show 2 ≤ sizeLine; decide), fun t2 ht2 => ?_⟩
      have st2 := same_new (o := .tup [V.ty "tuple", V.ty "list"]) ht2
      refine ⟨x, t2, _, _, _, true, rfl, upd_same, pair2, dp_ty (dp_same st2 hx), any2 (dp_same st2 hx), _, rfl, iteF ?_⟩
      have st := st.trans st2
      have hx := dp_same st2 hx
      have hy := dp_same st2 hy
      clear st2 ht2
      revert st hx hy
      generalize upd H1 t2 (.tup [V.ty "tuple", V.ty "list"]) = H2
      intro st hx hy
      obtain ⟨⟨u1, y1, k1⟩, u2, y2, k2⟩ := two hx hy "list" true (by show L2.kitB "list" "list" = some true; decide +kernel)
      refine ⟨_, rfl, x, .ty "list", u1, .type "list", true, rfl, .ty "list", y1, k1, _, rfl, y, .ty "list", u2, .type "list", true, rfl, .ty "list", y2, k2, rfl, _, rfl, iteF ?_⟩
      obtain ⟨a, xs, rfl, sx, dx⟩ := dp_lst hx
      obtain ⟨b, ys, rfl, sy, dy⟩ := dp_lst hy
      have lx := dpAll_len dx
      have ly := dpAll_len dy
      refine ⟨_, rfl, a, xs, rfl, .inl sx, _, rfl, b, ys, rfl, .inl sy, rfl, _, rfl, ?_⟩
      rw [show decide (V.int (xs.length : Int) = V.int (ys.length : Int)) = true from decide_eq_true (by rw [lx, ly])]
      refine iteF ?_
      refine ⟨_, rfl, _, rfl, a, b, xs, ys, rfl, .inl ⟨sx, sy, fun D hD => ?_⟩⟩
      refine lc_it (walk_zip (K := K) (a := a) (b := b) (xs := xs) (ys := ys) (n := ds.length) (by rw [lx, ly, Nat.min_self])) (fun i H3 => Same H2 H3 ∧ H3 D = some (.lst ((List.replicate i true).map V.bl))) ⟨same_new hD, upd_same⟩ ?_ ?_ ?_
      · rintro i H3 hi ⟨s3, _⟩
        exact ⟨s3.seq sx, s3.seq sy⟩
      · rintro i z H3 H4 hi ⟨s3, e3⟩ ⟨T1, v1, v2, rfl, hT1, rfl, g1, g2⟩
        have sT := same_new (o := .tup [v1, v2]) hT1
        refine ⟨T1, _, rfl, SqT.of upd_same, rfl, _, _, rfl, _, _, rfl, rfl, rfl, ?_⟩
        obtain ⟨e1, f1, p1⟩ := dpAll_of dx g1
        obtain ⟨e2, f2, p2⟩ := dpAll_of dy g2
        rw [f1] at f2
        cases f2
        have m1 := List.mem_of_getElem? f1
        have dp1 := dep_at m1
        have s3T := s3.trans sT
        refine ⟨_, rfl, _, rfl, v1, v2, e1, rfl, dp_same s3T p1, dp_same s3T p2, (by simp only [dep] at hd; omega), slim_at hl.2 m1, fun H5 s5 => ?_⟩
        refine ⟨_, (sT.trans s5) _ _ e3, ?_, fun c o e => ?_, ?_⟩
        · rw [List.length_map, List.length_replicate]
          exact small_big (by omega)
        · rw [upd_ne (ne_of_none e hD)]
          exact (s3T.trans s5) _ _ e
        · rw [upd_same, List.replicate_succ', List.map_append] <;> rfl
      · rintro H3 ⟨s3, e3⟩
        refine ⟨D, _, rfl, SqL.of e3, ?_⟩
        rw [ones_all]
        exact q _ (st.trans s3)
    | int i =>
      obtain rfl := dp_int hx
      obtain rfl := dp_int hy
      refine iteF ⟨_, rfl, rfl, _, rfl, iteF ⟨_, rfl, rfl, _, rfl, iteF ?_⟩⟩
      obtain ⟨⟨u1, y1, k1⟩, u2, y2, k2⟩ := two hx hy "bool" false (by show L2.kitB "int" "bool" = some false; decide +kernel)
      refine ⟨_, rfl, _, .ty "bool", u1, .type "bool", _, rfl, .ty "bool", y1, k1, _, rfl, _, .ty "bool", u2, .type "bool", _, rfl, .ty "bool", y2, k2, rfl, _, rfl, iteF ?_⟩
      obtain ⟨⟨u1, y1, k1⟩, u2, y2, k2⟩ := two hx hy "str" false (by show L2.kitB "int" "str" = some false; decide +kernel)
      refine ⟨_, rfl, _, .ty "str", u1, .type "str", _, rfl, .ty "str", y1, k1, _, rfl, _, .ty "str", u2, .type "str", _, rfl, .ty "str", y2, k2, rfl, _, rfl, iteF ?_⟩
      obtain ⟨⟨u1, y1, k1⟩, u2, y2, k2⟩ := two hx hy "int" true (by show L2.kitB "int" "int" = some true; decide +kernel)
      refine ⟨_, rfl, _, .ty "int", u1, .type "int", _, rfl, .ty "int", y1, k1, _, rfl, _, .ty "int", u2, .type "int", _, rfl, .ty "int", y2, k2, rfl, _, rfl, iteF ?_⟩
      refine ⟨_, rfl, _, rfl, rfl, ?_⟩
      rw [show decide (V.int i = V.int i) = true from decide_eq_true rfl]
      exact q _ st
    | str i =>
      obtain rfl := dp_str hx
      obtain rfl := dp_str hy
      refine iteF ⟨_, rfl, rfl, _, rfl, iteF ⟨_, rfl, rfl, _, rfl, iteF ?_⟩⟩
      obtain ⟨⟨u1, y1, k1⟩, u2, y2, k2⟩ := two hx hy "bool" false (by show L2.kitB "str" "bool" = some false; decide +kernel)
      refine ⟨_, rfl, _, .ty "bool", u1, .type "bool", _, rfl, .ty "bool", y1, k1, _, rfl, _, .ty "bool", u2, .type "bool", _, rfl, .ty "bool", y2, k2, rfl, _, rfl, iteF ?_⟩
      obtain ⟨⟨u1, y1, k1⟩, u2, y2, k2⟩ := two hx hy "str" true (by show L2.kitB "str" "str" = some true; decide +kernel)
      refine ⟨_, rfl, _, .ty "str", u1, .type "str", _, rfl, .ty "str", y1, k1, _, rfl, _, .ty "str", u2, .type "str", _, rfl, .ty "str", y2, k2, rfl, _, rfl, iteF ?_⟩
      obtain ⟨⟨u1, y1, k1⟩, u2, y2, k2⟩ := two hx hy "int" false (by show L2.kitB "str" "int" = some false; decide +kernel)
      refine ⟨_, rfl, _, .ty "int", u1, .type "int", _, rfl, .ty "int", y1, k1, _, rfl, _, .ty "int", u2, .type "int", _, rfl, .ty "int", y2, k2, rfl, _, rfl, iteF ?_⟩
      refine ⟨_, rfl, _, rfl, rfl, ?_⟩
      rw [show decide (V.str i = V.str i) = true from decide_eq_true rfl]
      exact q _ st
    | bool i =>
      obtain rfl := dp_bl hx
      obtain rfl := dp_bl hy
      refine iteF ⟨_, rfl, rfl, _, rfl, iteF ⟨_, rfl, rfl, _, rfl, iteF ?_⟩⟩
      obtain ⟨⟨u1, y1, k1⟩, u2, y2, k2⟩ := two hx hy "bool" true (by show L2.kitB "bool" "bool" = some true; decide +kernel)
      refine ⟨_, rfl, _, .ty "bool", u1, .type "bool", _, rfl, .ty "bool", y1, k1, _, rfl, _, .ty "bool", u2, .type "bool", _, rfl, .ty "bool", y2, k2, rfl, _, rfl, iteF ?_⟩
      obtain ⟨⟨u1, y1, k1⟩, u2, y2, k2⟩ := two hx hy "str" false (by show L2.kitB "bool" "str" = some false; decide +kernel)
      refine ⟨_, rfl, _, .ty "str", u1, .type "str", _, rfl, .ty "str", y1, k1, _, rfl, _, .ty "str", u2, .type "str", _, rfl, .ty "str", y2, k2, rfl, _, rfl, iteF ?_⟩
      obtain ⟨⟨u1, y1, k1⟩, u2, y2, k2⟩ := two hx hy "int" true (by show L2.kitB "bool" "int" = some true; decide +kernel)
      refine ⟨_, rfl, _, .ty "int", u1, .type "int", _, rfl, .ty "int", y1, k1, _, rfl, _, .ty "int", u2, .type "int", _, rfl, .ty "int", y2, k2, rfl, _, rfl, iteF ?_⟩
      refine ⟨_, rfl, _, rfl, rfl, ?_⟩
      rw [show decide (V.bl i = V.bl i) = true from decide_eq_true rfl]
      exact q _ st
    | _ => cases hx

theorem ok_same_n {f : Addr} {fd : FuncData} (F : FnP K "_law_same" slaw_same f fd) (T : Txt mg) (mk : ∀ n, FnOk P w K mg base CX0 n f fd ["found", "due"] (spSame K n) → Dn P w K mg base n "_law_same" ["found", "due"] (spSame K n)) : ∀ n, FnOk P w K mg base CX0 n f fd ["found", "due"] (spSame K n)
  | 0 => ⟨fun vs H Q E h => by obtain ⟨_, _, _, rfl, _⟩ := h; rfl, fun A outer s H args us vs Q E _ _ _ _ h => by obtain ⟨_, _, _, _, _, _, h, _⟩ := h; exact absurd h (Nat.not_lt_zero _)⟩
  | n + 1 => ok_same F T (mk n (ok_same_n F T mk n))
theorem dep_strs (l : List Str) : dep (.list (l.map .str)) = 1 := by
  simp only [dep]
  have h := dep_all (ds := l.map PyData.str) (n := 0) fun d hd => by
    obtain ⟨z, _, rfl⟩ := List.mem_map.mp hd
    simp only [dep, Nat.le_refl]
  omega
theorem slim_strs {l : List Str} (h : l.length ≤ 100000) : slim (.list (l.map .str)) = true := by
  simp only [slim, List.length_map, decide_eq_true h, Bool.true_and]
  exact slim_all fun d hd => by
    obtain ⟨z, _, rfl⟩ := List.mem_map.mp hd
    simp only [slim]
theorem dp_strs {H : Hp} {D : Addr} {l : List Str} (e : H D = some (.lst (l.map V.str))) : Dp K H (.ref D) (.list (l.map .str)) := .lst (SqL.of e) (dpAll_strs l)

end
end K36

set_option Elab.async false
set_option linter.all false
set_option maxRecDepth 100000
set_option maxHeartbeats 2000000
namespace K36
open PySem PySem.Spec PyProof.Rows L2 GxR Gx Gq Gd Gn Gm Gc Gk Gw Gt Gb Gp Gu Gr2 Go
abbrev slaw : Stmt := top 66
theorem sclaw : FnScope ["script", "pen", "k", "steps", "timed_steps", "last", "due", "again", "found", "times", "thing", "is_good", "way", "group", "time", "one"] ["script"] (defScope slaw) := ⟨rfl, rfl, rfl, by decide +kernel, rfl, by decide +kernel, by decide +kernel⟩
section
variable {P : Program} {w : World} {K : PySem.W.Frag} {mg : Str → Option Value} {base : Heap}
/-! ### the law -/
def dueSc : Scope := { kind := .function, names := [(".0", .local), ("group", .cell), ("range", .globalImplicit), ("len", .globalImplicit), ("steps", .cell), ("timed_steps", .cell)], isGenerator := false, isCoroutine := false }
def rLenS (K : PySem.W.Frag) : List V → Hp → VK → Prop := fun xs H Q => ∃ p ys, xs = [.ref p] ∧ (SqL K H p ys ∨ SqT K H p ys) ∧ Q (.int ys.length) H
def spLaw (K : PySem.W.Frag) (P1 P2 : Addr) : Sp := fun vs H Q _ => ∃ (a : Addr) (ns : List Int), vs = [.ref a] ∧ SqL K H a (ns.map V.int) ∧ ns.length ≤ 63 ∧ TabG H P1 ∧ TabG H P2 ∧ ∀ H', Q (.bl true) H'
theorem last_eq {p : Nat → Bool} {n : Nat} {m : Int} (hm : m ∈ (0 : Int) :: (List.range n).map fun k => ((gl p (k + 1) : Nat) : Int)) (hy : ∀ y ∈ (0 : Int) :: (List.range n).map fun k => ((gl p (k + 1) : Nat) : Int), y ≤ m) : m = ((gl p n : Nat) : Int) := by
  have up : m ≤ ((gl p n : Nat) : Int) := by
    rcases List.mem_cons.mp hm with rfl | hm
    · omega
    · obtain ⟨k, hk, rfl⟩ := List.mem_map.mp hm
      have := gl_mono p (show k + 1 ≤ n from List.mem_range.mp hk)
      omega
  have lo : ((gl p n : Nat) : Int) ≤ m := by
    cases n with
    | zero => exact hy 0 List.mem_cons_self
    | succ n => exact hy _ (List.mem_cons_of_mem _ (List.mem_map.mpr ⟨n, List.mem_range.mpr (Nat.lt_succ_self n), rfl⟩))
  omega
theorem TM.same {H H' : Hp} {D : Addr} {ts : List Addr} {fd : List (Int × Int)} (s : Same H H') (h : TM H D ts fd) : TM H' D ts fd := ⟨s _ _ h.x, h.l, fun i t x ht hx => s _ _ (h.at_ i t x ht hx)⟩
theorem TM.k2 {H H' : Hp} {D : Addr} {ts : List Addr} {fd : List (Int × Int)} (k : Kt2 H H') (h : TM H D ts fd) : TM H' D ts fd := ⟨k _ _ h.x (fun _ q => nomatch q), h.l, fun i t x ht hx => k _ _ (h.at_ i t x ht hx) (fun _ q => nomatch q)⟩
theorem hand_k2 {H H' : Hp} {b : Addr} {xs : List V} {rs : List RS} (k : Kt2 H H') (h : Hand K H b xs rs) : Hand K H' b xs rs := ⟨sqT_k2 k h.e, h.l, fun i x r hx hr => by
  obtain ⟨c, e, hc⟩ := h.at_ i x r hx hr
  exact ⟨c, e, sqT_k2 k hc⟩⟩
theorem lst_k2 {H H' : Hp} {b : Addr} {xs : List V} (k : Kt2 H H') (h : H b = some (.lst xs)) : H' b = some (.lst xs) := k _ _ h (fun _ q => nomatch q)
theorem ne_self {v : V} : (!decide (v = v)) = false := by rw [decide_eq_true rfl] <;> rfl
theorem TM.one {H : Hp} {D : Addr} {ts : List Addr} {fd : List (Int × Int)} (h : TM H D ts fd) {j : Nat} {x : V} (hx : (ts.map V.ref)[j]? = some x) : ∃ (t : Addr) (y : Int × Int), fd[j]? = some y ∧ x = .ref t ∧ H t = some (.tup [.int y.1, .int y.2]) := by
  rw [List.getElem?_map] at hx
  cases ht : ts[j]? with
  | none => rw [ht] at hx; cases hx
  | some t =>
    rw [ht] at hx
    have l := (List.getElem?_eq_some_iff.mp ht).1
    have hl := h.l
    have hy : fd[j]? = some (fd[j]'(by omega)) := List.getElem?_eq_getElem _
    exact ⟨t, _, hy, (Option.some.inj hx).symm, h.at_ j t _ ht hy⟩
def intsD (l : List Int) : PyData := .list (l.map .int)
theorem dpA_ints {H : Hp} : ∀ l : List Int, DpAll K H (l.map V.int) (l.map .int)
  | [] => .nil
  | i :: l => .cons (.int i) (dpA_ints l)
theorem dp_ints {H : Hp} {a : Addr} {l : List Int} (e : H a = some (.lst (l.map V.int))) : Dp K H (.ref a) (intsD l) := .lst (SqL.of e) (dpA_ints l)
theorem dpA_lists {H : Hp} : ∀ {as : List Addr} {gs : List (List Int)}, as.length = gs.length → (∀ (i : Nat) (a : Addr) (g : List Int), as[i]? = some a → gs[i]? = some g → H a = some (.lst (g.map V.int))) → DpAll K H (as.map V.ref) (gs.map intsD)
  | [], [], _, _ => .nil
  | a :: as, g :: gs, l, h => .cons (dp_ints (h 0 a g rfl rfl)) (dpA_lists (by simpa using l) fun i b y hb hy => h (i + 1) b y hb hy)
  | [], _ :: _, l, _ => by simp at l
  | _ :: _, [], l, _ => by simp at l
theorem ints_dep : ∀ l : List Int, Gm.depAll (l.map PyData.int) ≤ 0 := fun l => Gm.dep_all fun d hd => by
  obtain ⟨y, _, rfl⟩ := List.mem_map.mp hd
  simp only [Gm.dep, Nat.le_refl]
theorem intsD_dep (l : List Int) : Gm.dep (intsD l) ≤ 1 := by
  show Gm.depAll (l.map PyData.int) + 1 ≤ 1
  have := ints_dep l
  omega
theorem intsD_slim {l : List Int} (h : l.length ≤ 100000) : Gm.slim (intsD l) = true := by
  show (decide ((l.map PyData.int).length ≤ 100000) && Gm.slimAll (l.map PyData.int)) = true
  rw [List.length_map, decide_eq_true h, Bool.true_and]
  exact Gm.slim_all fun d hd => by
    obtain ⟨y, _, rfl⟩ := List.mem_map.mp hd
    rfl
theorem lists_dep (gs : List (List Int)) : Gm.dep (.list (gs.map intsD)) < 3 := by
  show Gm.depAll (gs.map intsD) + 1 < 3
  have : Gm.depAll (gs.map intsD) ≤ 1 := Gm.dep_all fun d hd => by
    obtain ⟨y, _, rfl⟩ := List.mem_map.mp hd
    exact intsD_dep y
  omega
theorem lists_slim {gs : List (List Int)} (h : gs.length ≤ 100) (hg : ∀ g ∈ gs, g.length ≤ 100) : Gm.slim (.list (gs.map intsD)) = true := by
  show (decide ((gs.map intsD).length ≤ 100000) && Gm.slimAll (gs.map intsD)) = true
  rw [List.length_map, decide_eq_true (by omega), Bool.true_and]
  exact Gm.slim_all fun d hd => by
    obtain ⟨y, hy, rfl⟩ := List.mem_map.mp hd
    exact intsD_slim (by have := hg y hy; omega)
theorem kp_tabs {p L P1 P2 : Addr} {ns : List Int} {n : Nat} {H H' : Hp} (hP : Pen H p L ns n) (g1 : TabG H P1) (g2 : TabG H P2) (k : Kp p H H') : TabG H' P1 ∧ TabG H' P2 := ⟨hP.tab g1 k, hP.tab g2 k⟩
theorem pen_fr {p L P1 P2 : Addr} {ns : List Int} {n : Nat} {H H' : Hp} (hP : Pen H p L ns n) (f : Fr P1 P2 H H') : Pen H' p L ns n := by
  obtain ⟨a, r, h, h2⟩ := hP.at_
  exact ⟨⟨a, r, f.k _ _ h (fun _ q => nomatch q), h2⟩, f.k _ _ hP.ls (fun _ q => nomatch q), hP.few⟩
theorem ok_law {f : Addr} {fd : FuncData} {P1 P2 : Addr} (F : FnP K "law" slaw f fd) (T : Txt mg) (D_law_pen : Dn P w K mg base 1 "_law_pen" ["script"] (spPen K)) (D_law_draw : Dn P w K mg base 1 "_law_draw" ["pen", "many"] spDraw)
    (D_law_steps : Dn P w K mg base 2 "_law_steps" ["pen", "pool", "most"] spLSteps) (D_law_timed : Dn P w K mg base 1 "_law_timed" ["steps"] (spTimed K)) (D_groups_of : DnS P w K mg base 6 "groups_of" ["steps"] (spGroups K P1 P2)) (D_times_of : DnS P w K mg base 7 "times_of" ["steps"] (spTimes K P1 P2))
    (D_law_same : Dn P w K mg base 3 "_law_same" ["found", "due"] (spSame K 3)) (D_law_bent : Dn P w K mg base 2 "_law_bent" ["pen", "steps"] (spBent K)) (D_law_is_step : Dn P w K mg base 2 "_law_is_step" ["thing"] (spIsStep K)) (D_law_refused : Dn P w K mg base 8 "_law_refused" ["way", "thing"] (spRef36 K P1 P2)) : FnOk P w K mg base CX0 9 f fd ["script"] (spLaw K P1 P2) := by
  refine okN F sclaw (fun vs H Q E h => ?_) (fun cdv A outer s H vs Q E hr h => ?_)
  · obtain ⟨a, ns, rfl, _⟩ := h
    rfl
  · obtain ⟨a, ns, rfl, hS, hl, g1, g2, q⟩ := h
    refine ⟨_, (pss_cons (ps_set (i := 1) sclaw.nd rfl (Or.inl rfl) (pe_dn D_law_pen (hr.mono (by decide)) rfl (pa_cons (pv 0) pa_nil)))
      (pss_cons (ps_for PassesOwn.never rfl (pi_range1 rfl T.m_range (pa_cons (pe_op op_add pe_int (pe_dn D_law_draw (hr.mono (by decide)) rfl (pa_cons (pv 1) (pa_cons pe_int pa_nil)))) pa_nil)) (pg_name (i := 2) sclaw.nd rfl (Or.inl rfl)) (pss_cons (ps_set (i := 3) sclaw.nd rfl (Or.inr rfl) (pe_dn D_law_steps (hr.mono (by decide)) rfl (pa_cons (pv 1) (pa_cons (pe_lst (pa_cons pe_str (pa_cons pe_str pa_nil))) (pa_cons (pe_ix ix_list (pe_lst (pa_cons pe_int (pa_cons pe_int pa_nil))) (pe_dn D_law_draw (hr.mono (by decide)) rfl (pa_cons (pv 1) (pa_cons pe_int pa_nil))) (fun _ _ => rfl)) pa_nil)))))
      (pss_cons (ps_set (i := 4) sclaw.nd rfl (Or.inr rfl) (pe_dn D_law_timed (hr.mono (by decide)) rfl (pa_cons (pv 3) pa_nil)))
      (pss_cons (ps_set (i := 5) sclaw.nd rfl (Or.inl rfl) (pe_callB (cr_max rfl) (by rfl) T.m_max (by decide +kernel) (pa_cons (pe_op op_cat (pe_lst (pa_cons pe_int pa_nil)) (pe_lc (own := [("group", 13), ("time", 14)]) (g := gTup K 2 (gCons (gName 13) (gCons (gName 14) gNil))) (by rfl) sclaw.nd (pi_list (pv 4)) (blkOk_by (own := [("group", 13), ("time", 14)]) (N := ["script", "pen", "k", "steps", "timed_steps", "last", "due", "again", "found", "times", "thing", "is_good", "way", "group", "time", "one"]) (sc := defScope slaw) (by decide +kernel)) (fun _ _ _ _ _ => (pg_tup rfl (pgs_cons (pg_name (i := 13) sclaw.nd rfl (Or.inl rfl)) (pgs_cons (pg_name (i := 14) sclaw.nd rfl (Or.inl rfl)) pgs_nil)))) (fun _ _ _ _ _ => pts_nil) (fun _ _ _ _ _ => (pv 13)))) pa_nil)))
      (pss_cons (ps_setLc (i := 6) (own := [("group", 13)]) (g := gName 13) (by rfl) sclaw.nd rfl rfl (sw_true rfl rfl rfl (by decide +kernel)) (pi_range1 rfl T.m_range (pa_cons (pe_op op_add (pv 5) pe_int) pa_nil)) (blkOk_by (own := [("group", 13)]) (N := ["script", "pen", "k", "steps", "timed_steps", "last", "due", "again", "found", "times", "thing", "is_good", "way", "group", "time", "one"]) (sc := defScope slaw) (by decide +kernel)) (fun _ _ _ _ _ => (pg_name (i := 13) sclaw.nd rfl (Or.inr rfl))) (fun _ _ _ _ _ => pts_nil) (fun _ _ _ _ _ => (pe_lc (own := [("k", 2)]) (g := gName 2) (by rfl) sclaw.nd (pi_range1 rfl T.m_range (pa_cons (pe_callB (r := rLenS K) call_len_seq (by rfl) T.m_len (by decide +kernel) (pa_cons (pv 3) pa_nil)) pa_nil)) (blkOk_by (own := [("k", 2)]) (N := ["script", "pen", "k", "steps", "timed_steps", "last", "due", "again", "found", "times", "thing", "is_good", "way", "group", "time", "one"]) (sc := dueSc) (by decide +kernel)) (fun _ _ _ _ _ => (pg_name (i := 2) sclaw.nd rfl (Or.inl rfl))) (fun _ _ _ _ _ => (pts_one (pt_cmpR op_eq (pe_ix (r := rIxT K) ix_tup (pe_ix (r := rIxL K) ix_list (pv 4) (pv 2) (fun _ _ => rfl)) pe_int (fun _ _ => rfl)) (pv 13) (nomark _)))) (fun _ _ _ _ _ => (pv 2)))))
      (pss_cons (ps_for PassesOwn.never rfl (pi_range1 rfl T.m_range (pa_cons pe_int pa_nil)) (pg_name (i := 7) sclaw.nd rfl (Or.inl rfl)) (pss_cons (ps_par (i := 8) (j := 9) (by rfl) sclaw.nd rfl rfl (by decide) rfl rfl (pa_cons (pe_dnS D_groups_of (hr.mono (by decide)) rfl (fun σ => passAt LamX.takes0 σ) (pa_cons (pv 3) pa_nil)) (pa_cons (pe_dnS D_times_of (hr.mono (by decide)) rfl (fun σ => passAt LamX.takes0 σ) (pa_cons (pv 3) pa_nil)) pa_nil)) (by rfl))
      (pss_cons (ps_if (PW.pt (pw_or (pt_not (pt_val (pe_dn D_law_same (hr.mono (by decide)) rfl (pa_cons (pv 8) (pa_cons (pv 6) pa_nil))))) (pw_or1 (pt_not (pt_val (pe_dn D_law_same (hr.mono (by decide)) rfl (pa_cons (pv 9) (pa_cons (pe_lc (own := [("group", 13), ("time", 14)]) (g := gTup K 2 (gCons (gName 13) (gCons (gName 14) gNil))) (by rfl) sclaw.nd (pi_list (pv 4)) (blkOk_by (own := [("group", 13), ("time", 14)]) (N := ["script", "pen", "k", "steps", "timed_steps", "last", "due", "again", "found", "times", "thing", "is_good", "way", "group", "time", "one"]) (sc := defScope slaw) (by decide +kernel)) (fun _ _ _ _ _ => (pg_tup rfl (pgs_cons (pg_name (i := 13) sclaw.nd rfl (Or.inl rfl)) (pgs_cons (pg_name (i := 14) sclaw.nd rfl (Or.inl rfl)) pgs_nil)))) (fun _ _ _ _ _ => pts_nil) (fun _ _ _ _ _ => (pv 14))) pa_nil)))))))) (pss_one (ps_ret pe_bl)) pss_nil)
      (pss_cons (ps_expr (pe_bm PySem.F.plainAttrs_list PySem.F.slot_list_append PySem.F.type_list_append mt_append (pe_ix ix_list (pv 8) pe_int (fun _ _ => rfl)) (pa_cons pe_int pa_nil)))
      (pss_one (ps_expr (pe_bm PySem.F.plainAttrs_list PySem.F.slot_list_append PySem.F.type_list_append mt_append (pv 9) (pa_cons pe_int pa_nil))))))))
      (pss_cons (ps_set (i := 10) sclaw.nd rfl (Or.inl rfl) (pe_dn D_law_bent (hr.mono (by decide)) rfl (pa_cons (pv 1) (pa_cons (pv 3) pa_nil))))
      (pss_cons (ps_set (i := 11) sclaw.nd rfl (Or.inl rfl) (pe_and (pe_callB call_isi (by rfl) T.m_isinstance (by decide +kernel) (pa_cons (pv 10) (pa_cons (pe_bltn (v := .ty "tuple") (u := .type "tuple") rfl T.m_tuple (by decide +kernel) rfl) pa_nil))) (pe_and (pe_cmpR op_lt (pe_callB call_len_seq (by rfl) T.m_len (by decide +kernel) (pa_cons (pv 10) pa_nil)) pe_int (nomark _)) (pe_one (pe_callB (cr_all rfl) (by rfl) T.m_all (by decide +kernel) (pa_cons (pe_lc (own := [("one", 15)]) (g := gName 15) (by rfl) sclaw.nd (pi_tup (pv 10)) (blkOk_by (own := [("one", 15)]) (N := ["script", "pen", "k", "steps", "timed_steps", "last", "due", "again", "found", "times", "thing", "is_good", "way", "group", "time", "one"]) (sc := defScope slaw) (by decide +kernel)) (fun _ _ _ _ _ => (pg_name (i := 15) sclaw.nd rfl (Or.inl rfl))) (fun _ _ _ _ _ => pts_nil) (fun _ _ _ _ _ => (pe_dn D_law_is_step (hr.mono (by decide)) rfl (pa_cons (pv 15) pa_nil)))) pa_nil))))))
      (pss_one (ps_for PassesOwn.never rfl (pi_range1 rfl T.m_range (pa_cons pe_int pa_nil)) (pg_name (i := 12) sclaw.nd rfl (Or.inl rfl)) (pss_one (ps_if (pt_cmpR op_ne (pe_dn D_law_refused (hr.mono (by decide)) rfl (pa_cons (pv 12) (pa_cons (pv 10) pa_nil))) (pe_ix ix_list (pe_lst (pa_cons pe_str (pa_cons pe_str pa_nil))) (pe_callTy call_int1 (by rfl) T.m_int (by decide +kernel) (pa_cons (pv 11) pa_nil)) (fun _ _ => rfl)) (nomark _)) (pss_one (ps_ret pe_bl)) pss_nil))))))))))))
      (pss_one (ps_ret pe_bl)))), ?_⟩
    refine ⟨_, rfl, a, ns, rfl, hS, hl, fun p L H1 np nL hP1 s1 => ?_⟩
    have g1 := tabSame g1 s1
    have g2 := tabSame g2 s1
    refine ⟨_, rfl, p, L, ns, 0, 20, rfl, hP1, (by decide), (by decide), (by decide), fun k2 H2 k20 k21 hP2 b2 => ?_⟩
    obtain ⟨g1, g2⟩ := kp_tabs hP1 g1 g2 b2.kp
    refine ⟨_, _, rfl, rfl, 1 + k2, rfl, (by omega), (by omega), ?_⟩
    refine for_range (lo := 0) (n := (1 + k2).toNat) (fun i σ H3 => ∃ v2 v3 v4 v5 v6 v7 v8 v9 v10 v11 v12 : Option V, σ = [some (.ref a), some (.ref p), v2, v3, v4, v5, v6, v7, v8, v9, v10, v11, v12, none, none, none] ∧ Pen H3 p L ns (1 + 260 * i) ∧ TabG H3 P1 ∧ TabG H3 P2) ?_ ?_ ?_
    · exact ⟨none, none, none, none, none, none, none, none, none, none, none, rfl, hP2, g1, g2⟩
    · clear hP2 g1 g2 b2 hP1 s1
      rintro i σ H3 hi ⟨v2, v3, v4, v5, v6, v7, v8, v9, v10, v11, v12, rfl, hP3, g1, g2⟩
      have hi : i < 20 := by omega
      -- steps
      refine ⟨_, rfl, (by show 2 ≤ sizeLine; decide), fun pl hpl => ?_⟩
      have npl : pl ≠ p := hP3.lt_new hpl
      have s4 := same_new (o := .lst [V.str "a", V.str "b1"]) hpl
      have xpl : (upd H3 pl (.lst [V.str "a", V.str "b1"])) pl = some (.lst POOL) := upd_same
      revert s4 xpl
      generalize upd H3 pl (.lst [V.str "a", V.str "b1"]) = H4
      intro s4 xpl
      refine ⟨(by show 2 ≤ sizeLine; decide), fun M hM => ?_⟩
      have s5 := s4.trans (same_new (o := .lst [V.int 5, V.int 24]) hM)
      have xpl := same_new (o := .lst [V.int 5, V.int 24]) hM _ _ xpl
      have xM : (upd H4 M (.lst [V.int 5, V.int 24])) M = some (.lst [V.int 5, V.int 24]) := upd_same
      have nM : M ≠ p := (hP3.keep' s4).lt_new hM
      revert s5 xM xpl
      generalize upd H4 M (.lst [V.int 5, V.int 24]) = H5
      intro s5 xpl xM
      have hP5 := hP3.keep' s5
      have g1 := tabSame g1 s5
      have g2 := tabSame g2 s5
      refine ⟨_, rfl, p, L, ns, _, 2, rfl, hP5, (by decide), (by decide), (by omega), fun k6 H6 k60 k61 hP6 b6 => ?_⟩
      obtain ⟨y6, e6, m6⟩ := listAt (xs := [V.int 5, V.int 24]) k60 k61
      obtain ⟨most, rfl, hmost⟩ : ∃ most : Nat, y6 = .int (most : Int) ∧ most ≤ 24 := by
        simp only [List.mem_cons, List.not_mem_nil, or_false] at m6
        rcases m6 with rfl | rfl
        · exact ⟨5, rfl, by decide⟩
        · exact ⟨24, rfl, by decide⟩
      obtain ⟨g1, g2⟩ := kp_tabs hP5 g1 g2 b6.kp
      refine ⟨M, _, _, _, rfl, rfl, SqL.of (b6.kp _ _ xM nM), e6, ?_⟩
      refine ⟨p, L, pl, ns, _, most, rfl, hP6, b6.kp _ _ xpl npl, npl, hmost, (by omega), fun b ts rs H7 xb lt at7 ok lr hP7 k7 => ?_⟩
      obtain ⟨g1, g2⟩ := kp_tabs hP6 g1 g2 k7
      have hg : Hand K H7 b (ts.map V.ref) rs := ⟨SqT.of xb, by rw [List.length_map, lt], fun j x r hx hr => by
        rw [List.getElem?_map] at hx
        cases ht : ts[j]? with
        | none => rw [ht] at hx; cases hx
        | some t =>
          rw [ht] at hx
          exact ⟨t, (Option.some.inj hx).symm, SqT.of (at7 j t r ht hr)⟩⟩
      obtain ⟨xs, exs⟩ : ∃ xs, xs = ts.map V.ref := ⟨_, rfl⟩
      rw [← exs] at hg
      clear xb lt at7 exs k7 xM nM hM hpl npl xpl s4 s5 hP5 hP6 b6 e6 m6 hP3
      have hP7 := hP7.up (m := 1 + 260 * i + 240) (by omega)
      -- timed
      refine ⟨_, rfl, b, rs, rfl, ⟨xs, hg.e, hg.l, hg.at_⟩, lr, fun D tt H8 s8 nD tm => ?_⟩
      have tok := times_ok rs rs.length (Nat.le_refl _)
      rw [List.take_length] at tok
      have tok : TimesOk rs rs.length (timed rs) := tok
      obtain ⟨fd, efd⟩ : ∃ fd, fd = (timed rs).fd := ⟨_, rfl⟩
      rw [← efd] at tm
      have tsnd := tok.snd
      have tfst := tok.fst
      rw [← efd] at tsnd tfst
      clear tok efd
      have g1 := tabSame g1 s8
      have g2 := tabSame g2 s8
      have hP8 := hP7.keep' s8
      have hg8 := hg.kt (KT.same s8)
      have lfd : fd.length ≤ 24 := by
        have h := congrArg List.length tfst
        rw [List.length_map, List.length_map, List.length_range] at h
        omega
      clear s8 hP7 hg
      -- last
      refine ⟨(by show 1 ≤ sizeLine; decide), fun Z hZ => ?_⟩
      have s9 := same_new (o := .lst [V.int 0]) hZ
      have xZ : (upd H8 Z (.lst [V.int 0])) Z = some (.lst (([0] : List Int).map V.int)) := upd_same
      revert s9 xZ
      generalize upd H8 Z (.lst [V.int 0]) = H9
      intro s9 xZ
      have tm9 := TM.same s9 tm
      refine ⟨_, rfl, D, rfl, ⟨_, SqL.of tm9.x⟩, fun E hE => ?_⟩
      refine lc_list (K := K) (a := D) (xs := tt.map V.ref) (fun j H => Same H9 H ∧ H E = some (.lst (((fd.take j).map (·.1)).map V.int))) ⟨same_new hE, upd_same⟩ (fun j H _ h => SqL.of (h.1 _ _ tm9.x)) ?_ ?_
      · rintro j x H hj ⟨sj, xj⟩
        obtain ⟨t, y, hy, rfl, xt⟩ := TM.one tm9 hj
        refine ⟨t, _, rfl, SqT.of (sj _ _ xt), rfl, _, _, rfl, _, _, rfl, rfl, rfl, ?_⟩
        refine ⟨_, rfl, _, xj, small1000 (by rw [List.length_map, List.length_map, List.length_take]; omega), fun b o e => ?_, ?_⟩
        · rw [upd_ne (ne_of_none e hE)]
          exact sj _ _ e
        · rw [upd_same, take_more hy, List.map_append, List.map_append] <;> rfl
      · rintro HE ⟨sE, xE⟩
        rw [List.length_map, tm9.l, List.take_length] at xE
        refine ⟨Z, E, _, _, rfl, rfl, sE _ _ xZ, xE, Nat.le_of_lt (small1000 (by rw [List.length_map, List.length_map, List.length_map]; show 1 + fd.length ≤ 1000; omega)), fun C hC => ?_⟩
        have sC := same_new (o := .lst (([0] : List Int).map V.int ++ (fd.map (·.1)).map V.int)) hC
        refine ⟨C, (0 : Int) :: fd.map (·.1), rfl, SqL.of upd_same, Nat.succ_pos _, fun m hm hy => ?_⟩
        obtain rfl := last_eq (p := isP rs) (n := rs.length) (m := m) (by rw [← tfst]; exact hm) (by rw [← tfst]; exact hy)
        have s810 := (s9.trans sE).trans sC
        revert s810
        generalize upd HE C (.lst (([0] : List Int).map V.int ++ (fd.map (·.1)).map V.int)) = H10
        intro s810
        have tm := TM.same s810 tm
        have hg10 := hg8.kt (KT.same s810)
        have hP10 := hP8.keep' s810
        have g1 := tabSame g1 s810
        have g2 := tabSame g2 s810
        clear s810 sC hC xE sE hE tm9 xZ s9 hZ hP8 hg8 hm hy
        have lgl : gl (isP rs) rs.length ≤ 24 := Nat.le_trans (gst_few (isP rs) rs.length).1 lr
        -- due
        refine ⟨_, rfl, _, _, rfl, rfl, _, rfl, (by omega), (by omega), fun W hW => ?_⟩
        refine lc_range (lo := 0) (n := (((gl (isP rs) rs.length : Nat) : Int) + 1).toNat) (fun g H => ∃ as : List Addr, Same H10 H ∧ as.length = g ∧ H W = some (.lst (as.map V.ref)) ∧ W ∉ as ∧ ∀ (j : Nat) (c : Addr), as[j]? = some c → H c = some (.lst ((grp (isP rs) rs.length j).map V.int))) ?_ ?_ ?_
        · exact ⟨[], same_new hW, rfl, upd_same, fun m => (nomatch m), fun j c h => nomatch h⟩
        · rintro g H hgn ⟨as, sg, la, xW, nW, ag⟩
          refine ⟨rfl, ?_⟩
          refine ⟨_, rfl, b, _, rfl, .inr (hg10.kt (KT.same sg)).e, _, rfl, (by omega), (by have := hg10.l; omega), fun V1 hV => ?_⟩
          refine lc_range (lo := 0) (n := ((xs.length : Nat) : Int).toNat) (fun k H' => Same H H' ∧ H' V1 = some (.lst ((grp (isP rs) k g).map V.int))) ?_ ?_ ?_
          · exact ⟨same_new hV, upd_same⟩
          · rintro k H' hk ⟨sk, xk⟩
            have hk : k < rs.length := by have := hg10.l; omega
            have hkt : (tt.map V.ref)[k]? = some ((tt.map V.ref)[k]'(by rw [List.length_map, tm.l]; have h := congrArg List.length tfst; rw [List.length_map, List.length_map, List.length_range] at h; omega)) := List.getElem?_eq_getElem _
            obtain ⟨t, y, hy, et, xt⟩ := TM.one tm hkt
            rw [et] at hkt
            have e1 : y.1 = ((gl (isP rs) (k + 1) : Nat) : Int) := by
              have h : (fd.map (·.1))[k]? = some y.1 := by rw [List.getElem?_map, hy] <;> rfl
              rw [tfst, List.getElem?_map, List.getElem?_range hk] at h
              exact (Option.some.inj h).symm
            refine ⟨rfl, ?_⟩
            have sHk := sg.trans sk
            refine ⟨_, rfl, _, rfl, D, _, _, .ref t, rfl, rfl, SqL.of (sHk _ _ tm.x), by rw [show ((0 : Int) + (k : Int)) = (k : Int) by omega]; exact atI_nat hkt, t, _, _, .int y.1, rfl, rfl, SqT.of (sHk _ _ xt), at_any (j := 0) rfl rfl, _, rfl, rfl, _, rfl, ?_⟩
            have lgr : (grp (isP rs) k g).length ≤ 24 := by
              unfold grp
              rw [List.length_map]
              have := List.length_filter_le (fun k => decide (gl (isP rs) (k + 1) = g)) (List.range k)
              rw [List.length_range] at this
              omega
            have edec : decide (V.int y.1 = V.int (0 + (g : Int))) = decide (gl (isP rs) (k + 1) = g) := decide_eq_decide.mpr ⟨fun e => by have := V.int.inj e; omega, fun e => by rw [e1, e]; congr 1; omega⟩
            rw [edec]
            refine iteB (fun h => ?_) fun h => ?_
            · have h := of_decide_eq_true h
              refine ⟨_, rfl, _, xk, small1000 (by rw [List.length_map]; omega), fun c o e => ?_, ?_⟩
              · rw [upd_ne (ne_of_none e hV)]
                exact sk _ _ e
              · rw [upd_same, grp_succ, if_pos h, List.map_append, show ((0 : Int) + (k : Int)) = (k : Int) by omega] <;> rfl
            · have h := of_decide_eq_false h
              refine ⟨sk, ?_⟩
              rw [grp_succ, if_neg h]
              exact xk
          · rintro H' ⟨sk, xk⟩
            rw [show ((xs.length : Nat) : Int).toNat = rs.length by rw [Int.toNat_natCast]; exact hg10.l] at xk
            have nWV : W ≠ V1 := ne_of_none xW hV
            have nV : V1 ∉ as := fun m => by
              obtain ⟨j, hj⟩ := List.getElem?_of_mem m
              rw [ag j V1 hj] at hV
              cases hV
            refine ⟨_, sk _ _ xW, small1000 (by rw [List.length_map, la]; omega), as ++ [V1], fun c o e => ?_, by rw [List.length_append, la] <;> rfl, ?_, fun m => ?_, fun j c hc => ?_⟩
            · rw [upd_ne (ne_of_none e hW)]
              exact sk _ _ (sg _ _ e)
            · rw [upd_same, List.map_append] <;> rfl
            · rcases List.mem_append.mp m with h | h
              · exact nW h
              · exact nWV (List.mem_singleton.mp h)
            · by_cases hj : j < as.length
              · rw [List.getElem?_append_left hj] at hc
                rw [upd_ne (fun z => nW (by rw [← z]; exact List.mem_of_getElem? hc))]
                exact sk _ _ (ag j c hc)
              · have l := (List.getElem?_eq_some_iff.mp hc).1
                rw [List.length_append, List.length_singleton] at l
                have ej : j = as.length := by omega
                rw [ej, List.getElem?_append_right (Nat.le_refl _), Nat.sub_self] at hc
                cases hc
                rw [upd_ne nWV.symm, ej, la]
                exact xk
        · rintro H11 ⟨as, s11, la, xW, nW, ag⟩
          have la : as.length = gl (isP rs) rs.length + 1 := by omega
          have egs := gof_eq (isP rs) rs.length
          have few := gof_few (p := isP rs) (n := rs.length)
          have ts2 : fd.map (·.2) = tmsof rs (gof (isP rs) rs.length) := tsnd
          obtain ⟨gs, eg⟩ : ∃ gs, gs = gof (isP rs) rs.length := ⟨_, rfl⟩
          rw [← eg] at egs few ts2
          have dueL : as.length = gs.length := by rw [egs, List.length_map, List.length_range, la]
          have dueA : ∀ (j : Nat) (c : Addr) (g : List Int), as[j]? = some c → gs[j]? = some g → H11 c = some (.lst (g.map V.int)) := fun j c g hc hg => by
            rw [egs, List.getElem?_map] at hg
            have l := (List.getElem?_eq_some_iff.mp hc).1
            rw [List.getElem?_range (by omega)] at hg
            rw [← Option.some.inj hg]
            exact ag j c hc
          have tm := TM.same s11 tm
          have hg11 := hg10.kt (KT.same s11)
          have hP11 := hP10.keep' s11
          have g1 := tabSame g1 s11
          have g2 := tabSame g2 s11
          clear s11 hP10 hg10 ag la egs tsnd tfst
          -- asked twice
          refine ⟨2, rfl, (by decide), (by decide), ?_⟩
          refine for_range (lo := 0) (n := 2) (fun j σ H => ∃ v7 v8 v9 : Option V, σ = [some (.ref a), some (.ref p), some (.int (0 + (i : Int))), some (.ref b), some (.ref D), some (.int ((gl (isP rs) rs.length : Nat) : Int)), some (.ref W), v7, v8, v9, v10, v11, v12, none, none, none] ∧ Fr P1 P2 H11 H) ?_ ?_ ?_
          · exact ⟨_, _, _, rfl, Fr.refl g1 g2⟩
          · rintro j σ H hj ⟨v7, v8, v9, rfl, fr⟩
            have hgF := hand_k2 fr.k hg11
            refine ⟨_, rfl, .ref b, rfl, fr.g1, fr.g2, .inr ⟨b, rs, rfl, ⟨xs, hgF.e, hgF.l, hgF.at_⟩, ok, lr, fun R rr H1 f1 nR xR gR => ?_⟩⟩
            have fr1 := fr.trans f1
            have hg1 := hand_k2 fr1.k hg11
            refine ⟨_, rfl, .ref b, rfl, fr1.g1, fr1.g2, .inr ⟨b, rs, rfl, ⟨xs, hg1.e, hg1.l, hg1.at_⟩, ok, lr, fun R2 H2 f2 nR2 xR2 => ?_⟩⟩
            have fr2 := fr1.trans f2
            rw [← eg] at gR xR2
            refine ⟨_, _, rfl, ?_⟩
            have xR2' := lst_k2 f2.k xR
            have dF : ∀ {H' : Hp}, Kt2 H1 H' → DpAll K H' (rr.map V.ref) (gs.map intsD) := fun k => dpA_lists gR.len fun i c g hc hg => lst_k2 k (gR.at_ i c g hc hg)
            have dW : ∀ {H' : Hp}, Kt2 H11 H' → DpAll K H' (as.map V.ref) (gs.map intsD) := fun k => dpA_lists dueL fun i c g hc hg => lst_k2 k (dueA i c g hc hg)
            have slm : Gm.slim (.list (gs.map intsD)) = true := lists_slim (by have := few.1; omega) fun g hg => by have := few.2 g hg; omega
            refine ⟨_, rfl, _, rfl, .ref R, .ref W, .list (gs.map intsD), rfl, .lst (SqL.of xR2') (dF f2.k), .lst (SqL.of (lst_k2 fr2.k xW)) (dW fr2.k), lists_dep gs, slm, fun H3 s3 => ⟨_, rfl, iteF ?_⟩⟩
            have fr3 := fr2.trans (Fr.same fr2.g1 fr2.g2 s3)
            have f23 := (f2.k).trans (Kt2.same s3)
            have tm3 := TM.k2 fr3.k tm
            have xR23 := s3 _ _ xR2
            refine ⟨_, rfl, _, rfl, D, rfl, ⟨_, SqL.of tm3.x⟩, fun E hE => ?_⟩
            refine lc_list (K := K) (a := D) (xs := tt.map V.ref) (fun k H => Same H3 H ∧ H E = some (.lst (((fd.take k).map (·.2)).map V.int))) ⟨same_new hE, upd_same⟩ (fun k H _ h => SqL.of (h.1 _ _ tm3.x)) ?_ ?_
            · rintro k x H hk ⟨sk, xk⟩
              obtain ⟨t, y, hy, rfl, xt⟩ := TM.one tm3 hk
              refine ⟨t, _, rfl, SqT.of (sk _ _ xt), rfl, _, _, rfl, _, _, rfl, rfl, rfl, ?_⟩
              refine ⟨_, rfl, _, xk, small1000 (by rw [List.length_map, List.length_map, List.length_take]; omega), fun b o e => ?_, ?_⟩
              · rw [upd_ne (ne_of_none e hE)]
                exact sk _ _ e
              · rw [upd_same, take_more hy, List.map_append, List.map_append] <;> rfl
            · rintro H4 ⟨s4, x4⟩
              rw [List.length_map, tm3.l, List.take_length, ts2] at x4
              have xR24 := s4 _ _ xR23
              have lT : (tmsof rs gs).length ≤ 24 := by rw [← ts2, List.length_map]; exact lfd
              refine ⟨.ref R2, .ref E, intsD (tmsof rs gs), rfl, dp_ints xR24, dp_ints x4, Nat.lt_of_le_of_lt (intsD_dep _) (by decide), intsD_slim (by omega), fun H5 s5 => ⟨_, rfl, iteF ?_⟩⟩
              have s35 := s4.trans s5
              have fr5 := fr3.trans (Fr.same fr3.g1 fr3.g2 s35)
              have k15 := f23.trans (Kt2.same s35)
              obtain ⟨c0, hc0⟩ : ∃ c0, rr[0]? = some c0 := by
                have h := gR.len
                have h2 : 0 < gs.length := by rw [eg]; show 0 < ((gst (isP rs) rs.length).1 ++ [(gst (isP rs) rs.length).2]).length; rw [List.length_append]; exact Nat.succ_pos _
                exact ⟨rr[0]'(by omega), List.getElem?_eq_getElem (by omega)⟩
              obtain ⟨q0, hq0⟩ : ∃ q0, gs[0]? = some q0 := by
                have h := gR.len
                have h2 := (List.getElem?_eq_some_iff.mp hc0).1
                exact ⟨gs[0]'(by omega), List.getElem?_eq_getElem (by omega)⟩
              have xc1 := gR.at_ 0 c0 q0 hc0 hq0
              have xc5 := lst_k2 k15 xc1
              have xR5 := lst_k2 k15 xR
              have xR25 := s35 _ _ xR23
              have nc : c0 ≠ R2 := ne_of_none xc1 nR2
              have lq0 := few.2 q0 (List.mem_of_getElem? hq0)
              have n0 : H11 c0 = none := fr.n _ (gR.new c0 (List.mem_of_getElem? hc0))
              have n2 : H11 R2 = none := fr1.n _ nR2
              refine ⟨_, rfl, R, _, _, V.ref c0, rfl, rfl, SqL.of xR5, at_any (j := 0) rfl (by rw [List.getElem?_map, hc0] <;> rfl), .inl ⟨rfl, _, SqL.of xc5⟩, c0, _, _, rfl, rfl, xc5, small1000 (by rw [List.length_map]; omega), ?_⟩
              have fr6 := fr5.put (zs := q0.map V.int ++ [V.int 1]) n0 xc5
              have xR26 : (upd H5 c0 (.lst (q0.map V.int ++ [V.int 1]))) R2 = some (.lst ((tmsof rs gs).map V.int)) := (upd_ne nc.symm).trans xR25
              refine ⟨_, rfl, .inl ⟨rfl, _, SqL.of xR26⟩, R2, _, _, rfl, rfl, xR26, small1000 (by rw [List.length_map]; omega), ?_⟩
              exact ⟨_, _, _, rfl, fr6.put n2 xR26⟩
          · rintro σ H ⟨v7, v8, v9, rfl, fr⟩
            have hgF := hand_k2 fr.k hg11
            have hPF := pen_fr hP11 fr
            have g1 := fr.g1
            have g2 := fr.g2
            clear fr hg11 hP11 tm dueA dueL xW eg few ts2
            -- bent
            refine ⟨_, rfl, _, rfl, p, L, b, ns, _, xs, rs, rfl, hPF, (by omega), hgF, ok, lr, fun v c H1 sd hP1 k1 => ?_⟩
            obtain ⟨g1, g2⟩ := kp_tabs hPF g1 g2 k1
            clear k1 hPF hgF
            refine seq_via (fun σ' H' => σ' = [some (.ref a), some (.ref p), some (.int (0 + (i : Int))), some (.ref b), some (.ref D), some (.int ((gl (isP rs) rs.length : Nat) : Int)), some (.ref W), v7, v8, v9, some v, v11, v12, none, none, none] ∧ H1 = H') (fun nx go => go _ _ ⟨rfl, rfl⟩) ?_
            rintro _ _ ⟨rfl, rfl⟩
            refine seq_via (fun σ' H' => σ' = [some (.ref a), some (.ref p), some (.int (0 + (i : Int))), some (.ref b), some (.ref D), some (.int ((gl (isP rs) rs.length : Nat) : Int)), some (.ref W), v7, v8, v9, some v, some (.bl c), v12, none, none, none] ∧ Same H1 H') ?_ ?_
            · intro nx go
              cases sd with
              | no hk =>
                obtain ⟨t, ty, kt⟩ := hk.ty (K := K)
                exact ⟨_, rfl, v, .ty "tuple", t, .type "tuple", false, rfl, .ty "tuple", ty, kt, _, rfl, iteF (go _ _ ⟨rfl, Same.refl _⟩)⟩
              | @tup va ys e gb hx =>
                obtain ⟨t, ty, kt⟩ := isTupW e
                refine ⟨_, rfl, .ref va, .ty "tuple", t, .type "tuple", true, rfl, .ty "tuple", ty, kt, _, rfl, iteT ?_⟩
                refine ⟨_, rfl, va, ys, rfl, .inr e, _, _, rfl, rfl, _, rfl, ?_⟩
                rw [show decide ((ys.length : Int) < 25) = decide ((ys.length : Int) ≤ 24) from decide_eq_decide.mpr (by omega)]
                refine iteB (fun h => ?_) fun h => ?_
                · rw [h, Bool.true_and] at go
                  have h := of_decide_eq_true h
                  refine ⟨_, rfl, va, rfl, ⟨_, e⟩, fun E hE => ?_⟩
                  refine lc_tup (K := K) (a := va) (xs := ys) (fun k H => Same H1 H ∧ H E = some (.lst (((ys.take k).map gb).map V.bl))) ⟨same_new hE, upd_same⟩ (fun k H _ h => sqT_same h.1 e) ?_ ?_
                  · rintro k x H hk ⟨sk, xk⟩
                    refine ⟨rfl, ?_⟩
                    refine ⟨_, rfl, x, gb x, rfl, (hx x (List.mem_of_getElem? hk)).k2 (Kt2.same sk), fun H' s' => ?_⟩
                    refine ⟨_, s' _ _ xk, small1000 (by rw [List.length_map, List.length_map, List.length_take]; omega), fun b o e => ?_, ?_⟩
                    · rw [upd_ne (ne_of_none e hE)]
                      exact s' _ _ (sk _ _ e)
                    · rw [upd_same, take_more hk, List.map_append, List.map_append] <;> rfl
                  · rintro H2 ⟨s2, x2⟩
                    rw [List.take_length] at x2
                    refine ⟨_, _, rfl, SqL.of x2, ?_⟩
                    rw [all_idb]
                    exact go _ _ ⟨rfl, s2⟩
                · rw [h] at go
                  exact go _ _ ⟨rfl, Same.refl _⟩
            rintro _ H2 ⟨rfl, s2⟩
            have sd := sd.k2 (Kt2.same s2)
            have hP2 := hP1.keep' s2
            have g1 := tabSame g1 s2
            have g2 := tabSame g2 s2
            clear s2 hP1
            refine ⟨2, rfl, (by decide), (by decide), ?_⟩
            refine for_range (lo := 0) (n := 2) (fun j σ H => ∃ v12 : Option V, σ = [some (.ref a), some (.ref p), some (.int (0 + (i : Int))), some (.ref b), some (.ref D), some (.int ((gl (isP rs) rs.length : Nat) : Int)), some (.ref W), v7, v8, v9, some v, some (.bl c), v12, none, none, none] ∧ Fr P1 P2 H2 H) ?_ ?_ ?_
            · exact ⟨_, rfl, Fr.refl g1 g2⟩
            · rintro j σ H hj ⟨v12, rfl, fr⟩
              have sdj := sd.k2 fr.k
              have hw : (0 + (j : Int)) = 0 ∨ (0 + (j : Int)) = 1 := by omega
              have fin : ∀ H', Fr P1 P2 H H' → ∀ z : Str, z = (if c = true then "told" else "steps") → True := fun _ _ _ _ => trivial
              refine ⟨_, rfl, _, rfl, 0 + (j : Int), v, rfl, hw, fr.g1, fr.g2, ?_⟩
              cases c with
              | false =>
                refine .inl ⟨sdj, fun H' f' => ?_⟩
                refine ⟨(by show 2 ≤ sizeLine; decide), fun M hM => ?_⟩
                refine ⟨_, rfl, .inr ⟨_, rfl, M, _, _, V.str "steps", rfl, rfl, SqL.of upd_same, at_any (j := 0) rfl rfl, rfl, _, rfl, ?_⟩⟩
                rw [ne_self]
                exact iteF ⟨_, rfl, (fr.trans f').new hM⟩
              | true =>
                obtain ⟨va, rv, rfl, gv, okv, lv⟩ := good_of sdj
                refine .inr ⟨va, rv, rfl, gv, okv, lv, fun H' f' => ?_⟩
                refine ⟨(by show 2 ≤ sizeLine; decide), fun M hM => ?_⟩
                refine ⟨_, rfl, .inr ⟨_, rfl, M, _, _, V.str "told", rfl, rfl, SqL.of upd_same, at_any (j := 1) rfl rfl, rfl, _, rfl, ?_⟩⟩
                rw [ne_self]
                exact iteF ⟨_, rfl, (fr.trans f').new hM⟩
            · rintro σ H ⟨v12, rfl, fr⟩
              exact ⟨_, _, _, _, _, _, _, _, _, _, _, rfl, (pen_fr hP2 fr).up (by omega), fr.g1, fr.g2⟩
    · rintro σ H3 ⟨v2, v3, v4, v5, v6, v7, v8, v9, v10, v11, v12, rfl, hP3, _⟩
      exact q _

end
end K36

set_option Elab.async false
set_option linter.all false
set_option maxRecDepth 100000
set_option maxHeartbeats 2000000
namespace K36
open PySem PySem.Spec PyProof.Rows L2 GxR Gx Gq Gd Gn Gm Gc Gk Gw Gt Gb Gp Gu Gr2 Go
theorem dnS {P : Program} {w : World} {K : PySem.W.Frag} {mg : Str → Option Value} {base : Heap} {k : Nat} {x : Str} {ps : List Str} {sp : Sp} {st : Stmt} {fd : FuncData} (F : FnP K x st (He.fAd K (x, none)) fd) (hm : mg x = some (.ref (He.ga K x)))
    (b : Binds K fd ps []) (h : FnOk P w K mg base (L2.CX P w) k (He.fAd K (x, none)) fd ps sp) : DnS P w K mg base k x ps sp := ⟨_, fd, hm, F.kp, b, h⟩

/-! ### the head -/
def dOf (x : Str) (st : Stmt) : He.DefD := ⟨(x, none), x, x, defArgs st, defBody st, defScope st, [], []⟩
def fn : List He.DefD := [dOf "is_whole" sis_whole, dOf "is_whole_within" sis_whole_within, dOf "is_one_of" sis_one_of, dOf "is_tuple_of" sis_tuple_of, dOf "is_tuple_within" sis_tuple_within, dOf "is_name" sis_name, dOf "is_step" sis_step, dOf "is_steps" sis_steps, dOf "groups_of" sgroups_of, dOf "times_in_group" stimes_in_group, dOf "times_of" stimes_of, dOf "_law_pen" slaw_pen, dOf "_law_draw" slaw_draw, dOf "_law_steps" slaw_steps, dOf "_law_same" slaw_same, dOf "_law_whole" slaw_whole, dOf "_law_is_name" slaw_is_name, dOf "_law_is_step" slaw_is_step, dOf "_law_timed" slaw_timed, dOf "_law_word" slaw_word, dOf "_law_bent" slaw_bent, dOf "_law_refused" slaw_refused, dOf "law" slaw]
def fa : List He.Fa := [.glo "is_whole", .glo "is_whole_within", .glo "is_one_of", .glo "is_tuple_of", .glo "is_tuple_within", .glo "is_name", .glo "is_step", .glo "is_steps", .glo "groups_of", .glo "times_in_group", .glo "times_of", .glo "_law_pen", .glo "_law_draw", .glo "_law_steps", .glo "_law_same", .glo "_law_whole", .glo "_law_is_name", .glo "_law_is_step", .glo "_law_timed", .glo "_law_word", .glo "_law_bent", .glo "_law_refused", .glo "law", .free "len", .free "bool", .free "isinstance", .free "list", .free "range", .free "int", .free "tuple", .free "max", .free "min", .free "str", .free "all", .free "zip", .free "enumerate", .free "ValueError", .glo "KINDS", .glo "DEEDS", .glo "DeckError", .str "LETTERS" LETS, .str "FIGURES" FIGS, .int "LONGEST_NAME" 8, .int "LONGEST_WAIT" 99, .int "MOST_STEPS" 24, .int "MOST_LINES" 12]
def tf : List He.Defn := [("is_name", none), ("is_steps", none)]
def ex : PySem.W.Frag → Bool := fun K => He.tupB K "KINDS" [.str "press", .str "with", .str "after"] && (He.tupB K "DEEDS" [.str "come", .str "go", .str "dim"] && ((CLS.all fun x => (He.Fa.glo x).ok K) && ewB K "NoSteps"))
def ts : List He.Tab := []
abbrev R : PySem.W.OpenRow := PySem.W.OpenLaw.row PySem.Challenge.rw_mastershow_k36_groups_and_times
abbrev hk : PySem.W.Hook := He.hookX 4 fa fn ts tf ex
def ob (s : PySem.W.SharedT) : He.AlX := He.obsX 4 fa fn ts tf ex (HandSHeadRun.getT s)
theorem ob_eq (s : PySem.W.SharedT) : ob s = hk.obs s.abs := He.obsX_eq (HandSHeadRun.getT_eq s)
theorem run (w : World) : HandSHeadRun.RunEq R (PySem.W.view R.prog [66]) hk ob 20000 [("DeckError" : PySem.Str), ("NoDeck" : PySem.Str), ("NoMaster" : PySem.Str), ("NoSlide" : PySem.Str), ("NoPlace" : PySem.Str), ("NoTrait" : PySem.Str), ("NoWorth" : PySem.Str), ("NoSetting" : PySem.Str), ("NoName" : PySem.Str), ("Taken" : PySem.Str), ("TooMany" : PySem.Str), ("Ring" : PySem.Str), ("Used" : PySem.Str), ("NoRoom" : PySem.Str), ("NoSteps" : PySem.Str), ("NoPress" : PySem.Str), ("NoTime" : PySem.Str), ("NoShow" : PySem.Str), ("NoLink" : PySem.Str), ("NoNumber" : PySem.Str), ("NoWord" : PySem.Str), ("NoDeed" : PySem.Str), ("NoText" : PySem.Str), ("NoRow" : PySem.Str), ("is_whole" : PySem.Str), ("is_whole_within" : PySem.Str), ("is_one_of" : PySem.Str), ("is_tuple_of" : PySem.Str), ("is_tuple_within" : PySem.Str), ("LETTERS" : PySem.Str), ("FIGURES" : PySem.Str), ("LONGEST_NAME" : PySem.Str), ("MOST_LINES" : PySem.Str), ("is_name" : PySem.Str), ("KINDS" : PySem.Str), ("DEEDS" : PySem.Str), ("LONGEST_WAIT" : PySem.Str), ("MOST_STEPS" : PySem.Str), ("is_step" : PySem.Str), ("is_steps" : PySem.Str), ("groups_of" : PySem.Str), ("times_in_group" : PySem.Str), ("times_of" : PySem.Str), ("_law_pen" : PySem.Str), ("_law_draw" : PySem.Str), ("_law_steps" : PySem.Str), ("_law_same" : PySem.Str), ("_law_whole" : PySem.Str), ("_law_is_name" : PySem.Str), ("_law_is_written" : PySem.Str), ("_law_is_lines" : PySem.Str), ("_law_is_worth" : PySem.Str), ("_law_is_place" : PySem.Str), ("_law_is_master" : PySem.Str), ("_law_rounds" : PySem.Str), ("_law_is_step" : PySem.Str), ("_law_timed" : PySem.Str), ("_law_word" : PySem.Str), ("_law_bent" : PySem.Str), ("_law_refused" : PySem.Str)] w := by
  intro os
  kernel_rfl
theorem dn {P : Program} {w : World} {K : PySem.W.Frag} {mg : Str → Option Value} {base : Heap} {k : Nat} {x : Str} {ps : List Str} {sp : Sp} {st : Stmt} {fd : FuncData} (F : FnP K x st (He.fAd K (x, none)) fd) (hm : mg x = some (.ref (He.ga K x)))
    (b : Binds K fd ps []) (h : FnOk P w K mg base CX0 k (He.fAd K (x, none)) fd ps sp) : Dn P w K mg base k x ps sp := ⟨_, fd, hm, F.kp, b, h⟩
theorem facts {w : World} {K : PySem.W.Frag} {h : Heap} {mg : Str → Option Value} {f : Addr} (X : K.In h) (G : h.Ns mainGlobals mg) (hfa : mg ("law" : Str) = some (.ref f)) (c : He.SaysX fa fn ts tf ex w h K) :
    LamX.LawAtS PySem.Challenge.rw_mastershow_k36_groups_and_times w K CX0 9 63 "script" mg f h := by
  have cd := c.t.d
  obtain ⟨fd0, F0⟩ := cd.def_ 0 (d := dOf "is_whole" sis_whole) rfl
  have F0 : FnP K "is_whole" sis_whole (He.fAd K ("is_whole", none)) fd0 := F0
  obtain ⟨fd1, F1⟩ := cd.def_ 1 (d := dOf "is_whole_within" sis_whole_within) rfl
  have F1 : FnP K "is_whole_within" sis_whole_within (He.fAd K ("is_whole_within", none)) fd1 := F1
  obtain ⟨fd2, F2⟩ := cd.def_ 2 (d := dOf "is_one_of" sis_one_of) rfl
  have F2 : FnP K "is_one_of" sis_one_of (He.fAd K ("is_one_of", none)) fd2 := F2
  obtain ⟨fd3, F3⟩ := cd.def_ 3 (d := dOf "is_tuple_of" sis_tuple_of) rfl
  have F3 : FnP K "is_tuple_of" sis_tuple_of (He.fAd K ("is_tuple_of", none)) fd3 := F3
  obtain ⟨fd4, F4⟩ := cd.def_ 4 (d := dOf "is_tuple_within" sis_tuple_within) rfl
  have F4 : FnP K "is_tuple_within" sis_tuple_within (He.fAd K ("is_tuple_within", none)) fd4 := F4
  obtain ⟨fd5, F5⟩ := cd.def_ 5 (d := dOf "is_name" sis_name) rfl
  have F5 : FnP K "is_name" sis_name (He.fAd K ("is_name", none)) fd5 := F5
  obtain ⟨fd6, F6⟩ := cd.def_ 6 (d := dOf "is_step" sis_step) rfl
  have F6 : FnP K "is_step" sis_step (He.fAd K ("is_step", none)) fd6 := F6
  obtain ⟨fd7, F7⟩ := cd.def_ 7 (d := dOf "is_steps" sis_steps) rfl
  have F7 : FnP K "is_steps" sis_steps (He.fAd K ("is_steps", none)) fd7 := F7
  obtain ⟨fd8, F8⟩ := cd.def_ 8 (d := dOf "groups_of" sgroups_of) rfl
  have F8 : FnP K "groups_of" sgroups_of (He.fAd K ("groups_of", none)) fd8 := F8
  obtain ⟨fd9, F9⟩ := cd.def_ 9 (d := dOf "times_in_group" stimes_in_group) rfl
  have F9 : FnP K "times_in_group" stimes_in_group (He.fAd K ("times_in_group", none)) fd9 := F9
  obtain ⟨fd10, F10⟩ := cd.def_ 10 (d := dOf "times_of" stimes_of) rfl
  have F10 : FnP K "times_of" stimes_of (He.fAd K ("times_of", none)) fd10 := F10
  obtain ⟨fd11, F11⟩ := cd.def_ 11 (d := dOf "_law_pen" slaw_pen) rfl
  have F11 : FnP K "_law_pen" slaw_pen (He.fAd K ("_law_pen", none)) fd11 := F11
  obtain ⟨fd12, F12⟩ := cd.def_ 12 (d := dOf "_law_draw" slaw_draw) rfl
  have F12 : FnP K "_law_draw" slaw_draw (He.fAd K ("_law_draw", none)) fd12 := F12
  obtain ⟨fd13, F13⟩ := cd.def_ 13 (d := dOf "_law_steps" slaw_steps) rfl
  have F13 : FnP K "_law_steps" slaw_steps (He.fAd K ("_law_steps", none)) fd13 := F13
  obtain ⟨fd14, F14⟩ := cd.def_ 14 (d := dOf "_law_same" slaw_same) rfl
  have F14 : FnP K "_law_same" slaw_same (He.fAd K ("_law_same", none)) fd14 := F14
  obtain ⟨fd15, F15⟩ := cd.def_ 15 (d := dOf "_law_whole" slaw_whole) rfl
  have F15 : FnP K "_law_whole" slaw_whole (He.fAd K ("_law_whole", none)) fd15 := F15
  obtain ⟨fd16, F16⟩ := cd.def_ 16 (d := dOf "_law_is_name" slaw_is_name) rfl
  have F16 : FnP K "_law_is_name" slaw_is_name (He.fAd K ("_law_is_name", none)) fd16 := F16
  obtain ⟨fd17, F17⟩ := cd.def_ 17 (d := dOf "_law_is_step" slaw_is_step) rfl
  have F17 : FnP K "_law_is_step" slaw_is_step (He.fAd K ("_law_is_step", none)) fd17 := F17
  obtain ⟨fd18, F18⟩ := cd.def_ 18 (d := dOf "_law_timed" slaw_timed) rfl
  have F18 : FnP K "_law_timed" slaw_timed (He.fAd K ("_law_timed", none)) fd18 := F18
  obtain ⟨fd19, F19⟩ := cd.def_ 19 (d := dOf "_law_word" slaw_word) rfl
  have F19 : FnP K "_law_word" slaw_word (He.fAd K ("_law_word", none)) fd19 := F19
  obtain ⟨fd20, F20⟩ := cd.def_ 20 (d := dOf "_law_bent" slaw_bent) rfl
  have F20 : FnP K "_law_bent" slaw_bent (He.fAd K ("_law_bent", none)) fd20 := F20
  obtain ⟨fd21, F21⟩ := cd.def_ 21 (d := dOf "_law_refused" slaw_refused) rfl
  have F21 : FnP K "_law_refused" slaw_refused (He.fAd K ("_law_refused", none)) fd21 := F21
  obtain ⟨fd22, F22⟩ := cd.def_ 22 (d := dOf "law" slaw) rfl
  have F22 : FnP K "law" slaw (He.fAd K ("law", none)) fd22 := F22
  have e := hfa.symm.trans (He.glo_ok X G (cd.fact 22 (f := .glo "law") rfl))
  cases e
  have T : Txt mg := ⟨He.free_ok X G (cd.fact 23 (f := .free "len") rfl),
    He.free_ok X G (cd.fact 24 (f := .free "bool") rfl),
    He.free_ok X G (cd.fact 25 (f := .free "isinstance") rfl),
    He.free_ok X G (cd.fact 26 (f := .free "list") rfl),
    He.free_ok X G (cd.fact 27 (f := .free "range") rfl),
    He.free_ok X G (cd.fact 28 (f := .free "int") rfl),
    He.free_ok X G (cd.fact 29 (f := .free "tuple") rfl),
    He.free_ok X G (cd.fact 30 (f := .free "max") rfl),
    He.free_ok X G (cd.fact 31 (f := .free "min") rfl),
    He.free_ok X G (cd.fact 32 (f := .free "str") rfl),
    He.free_ok X G (cd.fact 33 (f := .free "all") rfl),
    He.free_ok X G (cd.fact 34 (f := .free "zip") rfl),
    He.free_ok X G (cd.fact 35 (f := .free "enumerate") rfl),
    He.free_ok X G (cd.fact 36 (f := .free "ValueError") rfl)⟩
  have g_KINDS := He.glo_ok X G (cd.fact 37 (f := .glo "KINDS") rfl)
  have g_DEEDS := He.glo_ok X G (cd.fact 38 (f := .glo "DEEDS") rfl)
  have g_DeckError := He.glo_ok X G (cd.fact 39 (f := .glo "DeckError") rfl)
  obtain ⟨t_g1, g1⟩ := He.str_ok X G (cd.fact 40 (f := .str "LETTERS" LETS) rfl)
  obtain ⟨t_g2, g2⟩ := He.str_ok X G (cd.fact 41 (f := .str "FIGURES" FIGS) rfl)
  obtain ⟨t_g3, g3⟩ := He.int_ok X G (cd.fact 42 (f := .int "LONGEST_NAME" 8) rfl)
  obtain ⟨t_gW, gW⟩ := He.int_ok X G (cd.fact 43 (f := .int "LONGEST_WAIT" 99) rfl)
  obtain ⟨t_gS, gS⟩ := He.int_ok X G (cd.fact 44 (f := .int "MOST_STEPS" 24) rfl)
  obtain ⟨t_gM, gM⟩ := He.int_ok X G (cd.fact 45 (f := .int "MOST_LINES" 12) rfl)
  have mo := c.more
  unfold ex at mo
  simp only [Bool.and_eq_true] at mo
  obtain ⟨x1, x2, x3, x4⟩ := mo
  have C : TxtC K mg := ⟨fun x hx => He.glo_ok X G (List.all_eq_true.mp x3 x (List.contains_iff_mem.mp hx))⟩
  have N_NoSteps : ErW K mg "NoSteps" := ewB_ok x4 (C.cls _ (by decide +kernel)) (by decide +kernel)
  have kK : ∀ H, SqT K H (He.ga K "KINDS") KNS := fun H => He.tupB_ok (vs := [.str "press", .str "with", .str "after"]) x1 H
  have kE : ∀ H, SqT K H (He.ga K "DEEDS") DDS := fun H => He.tupB_ok (vs := [.str "come", .str "go", .str "dim"]) x2 H
  have b0 := F0.bindsN (ps := ["thing"]) fun _ _ _ _ _ _ us hl => match us, hl with | [_], _ => rfl
  have b1 := F1.bindsN (ps := ["thing", "low", "high"]) fun _ _ _ _ _ _ us hl => match us, hl with | [_, _, _], _ => rfl
  have b2 := F2.bindsN (ps := ["thing", "words"]) fun _ _ _ _ _ _ us hl => match us, hl with | [_, _], _ => rfl
  have b3 := F3.bindsN (ps := ["thing", "many"]) fun _ _ _ _ _ _ us hl => match us, hl with | [_, _], _ => rfl
  have b4 := F4.bindsN (ps := ["thing", "least", "most"]) fun _ _ _ _ _ _ us hl => match us, hl with | [_, _, _], _ => rfl
  have b5 := F5.bindsN (ps := ["thing"]) fun _ _ _ _ _ _ us hl => match us, hl with | [_], _ => rfl
  have b6 := F6.bindsN (ps := ["thing"]) fun _ _ _ _ _ _ us hl => match us, hl with | [_], _ => rfl
  have b7 := F7.bindsN (ps := ["thing"]) fun _ _ _ _ _ _ us hl => match us, hl with | [_], _ => rfl
  have b8 := F8.bindsN (ps := ["steps"]) fun _ _ _ _ _ _ us hl => match us, hl with | [_], _ => rfl
  have b9 := F9.bindsN (ps := ["steps"]) fun _ _ _ _ _ _ us hl => match us, hl with | [_], _ => rfl
  have b10 := F10.bindsN (ps := ["steps"]) fun _ _ _ _ _ _ us hl => match us, hl with | [_], _ => rfl
  have b11 := F11.bindsN (ps := ["script"]) fun _ _ _ _ _ _ us hl => match us, hl with | [_], _ => rfl
  have b12 := F12.bindsN (ps := ["pen", "many"]) fun _ _ _ _ _ _ us hl => match us, hl with | [_, _], _ => rfl
  have b13 := F13.bindsN (ps := ["pen", "pool", "most"]) fun _ _ _ _ _ _ us hl => match us, hl with | [_, _, _], _ => rfl
  have b14 := F14.bindsN (ps := ["found", "due"]) fun _ _ _ _ _ _ us hl => match us, hl with | [_, _], _ => rfl
  have b15 := F15.bindsN (ps := ["thing"]) fun _ _ _ _ _ _ us hl => match us, hl with | [_], _ => rfl
  have b16 := F16.bindsN (ps := ["thing"]) fun _ _ _ _ _ _ us hl => match us, hl with | [_], _ => rfl
  have b17 := F17.bindsN (ps := ["thing"]) fun _ _ _ _ _ _ us hl => match us, hl with | [_], _ => rfl
  have b18 := F18.bindsN (ps := ["steps"]) fun _ _ _ _ _ _ us hl => match us, hl with | [_], _ => rfl
  have b19 := F19.bindsN (ps := ["e"]) fun _ _ _ _ _ _ us hl => match us, hl with | [_], _ => rfl
  have b20 := F20.bindsN (ps := ["pen", "steps"]) fun _ _ _ _ _ _ us hl => match us, hl with | [_, _], _ => rfl
  have b21 := F21.bindsN (ps := ["way", "thing"]) fun _ _ _ _ _ _ us hl => match us, hl with | [_, _], _ => rfl
  have b22 := FunD.bindsA (ps := ["script"]) F22 fun _ _ _ _ _ _ us hl => match us, hl with | [_], _ => rfl
  refine ⟨fd22, [He.cT K ("is_name", none), He.cT K ("is_steps", none)], spLaw K (He.cT K ("is_name", none)).2 (He.cT K ("is_steps", none)).2, ?_, ?_, ?_, fun s v => b22 s [v] rfl, ?_, ?_⟩
  · intro p hp
    obtain ⟨d, hd, rfl⟩ := (List.mem_map.mp (show p ∈ tf.map (fun d => He.cT K d) from hp))
    exact c.empty d hd
  · intro p hp
    obtain ⟨d, hd, rfl⟩ := (List.mem_map.mp (show p ∈ tf.map (fun d => He.cT K d) from hp))
    exact c.out d hd
  · intro p hp
    obtain ⟨d, hd, rfl⟩ := (List.mem_map.mp (show p ∈ tf.map (fun d => He.cT K d) from hp))
    exact PySem.W.codeHd_of_K X (c.hd d hd)
  · intro H a ns hl _ hT hS
    exact ⟨a, ns, rfl, hS, hl, ⟨#[], hT _ (List.mem_cons_self), (by first | exact triples_nil | simp [TriplesOk])⟩, ⟨#[], hT _ (List.mem_cons_of_mem _ (List.mem_cons_self)), (by first | exact triples_nil | simp [TriplesOk])⟩, fun _ => rfl⟩
  · intro base _ _ hB
    have B0 := hB _ (List.mem_cons_self)
    have T0 : GxR.TabB base mg (He.codeOf K ("is_name", none)) (He.cT K ("is_name", none)).2 := ⟨B0.code, B0.bm, B0.gP⟩
    have B1 := hB _ (List.mem_cons_of_mem _ (List.mem_cons_self))
    have T1 : GxR.TabB base mg (He.codeOf K ("is_steps", none)) (He.cT K ("is_steps", none)).2 := ⟨B1.code, B1.bm, B1.gP⟩
    have D0 := dn F0 (He.glo_ok X G (cd.fact 0 (f := .glo "is_whole") rfl)) b0 (ok_whole (P := (PySem.Challenge.rw_mastershow_k36_groups_and_times).prog) (w := w) (base := base) F0 T)
    have D1 := dn F1 (He.glo_ok X G (cd.fact 1 (f := .glo "is_whole_within") rfl)) b1 (ok_within F1 T D0)
    have D2 := dn F2 (He.glo_ok X G (cd.fact 2 (f := .glo "is_one_of") rfl)) b2 (ok_oneof (P := (PySem.Challenge.rw_mastershow_k36_groups_and_times).prog) (w := w) (base := base) F2 T)
    have D3 := dn F3 (He.glo_ok X G (cd.fact 3 (f := .glo "is_tuple_of") rfl)) b3 (ok_tupo (P := (PySem.Challenge.rw_mastershow_k36_groups_and_times).prog) (w := w) (base := base) F3 T)
    have D4 := dn F4 (He.glo_ok X G (cd.fact 4 (f := .glo "is_tuple_within") rfl)) b4 (ok_tupw (P := (PySem.Challenge.rw_mastershow_k36_groups_and_times).prog) (w := w) (base := base) F4 T)
    have D5 := dn F5 (He.glo_ok X G (cd.fact 5 (f := .glo "is_name") rfl)) b5 (ok_name (P := (PySem.Challenge.rw_mastershow_k36_groups_and_times).prog) (w := w) (base := base) F5 T T0 g1 g2 g3)
    have D6 := dn F6 (He.glo_ok X G (cd.fact 6 (f := .glo "is_step") rfl)) b6 (ok_step F6 T g_KINDS kK g_DEEDS kE gW gM D3 D2 D5 D1)
    have D7 := dn F7 (He.glo_ok X G (cd.fact 7 (f := .glo "is_steps") rfl)) b7 (ok_steps F7 T T1 gS D4 D6)
    have D8 := dnS F8 (He.glo_ok X G (cd.fact 8 (f := .glo "groups_of") rfl)) b8 (ok_groups F8 T N_NoSteps.toEr D7)
    have D9 := dn F9 (He.glo_ok X G (cd.fact 9 (f := .glo "times_in_group") rfl)) b9 (ok_timesIn (P := (PySem.Challenge.rw_mastershow_k36_groups_and_times).prog) (w := w) (base := base) F9 T)
    have D10 := dnS F10 (He.glo_ok X G (cd.fact 10 (f := .glo "times_of") rfl)) b10 (ok_times F10 T N_NoSteps.toEr D8 D9)
    have D11 := dn F11 (He.glo_ok X G (cd.fact 11 (f := .glo "_law_pen") rfl)) b11 (ok_pen (P := (PySem.Challenge.rw_mastershow_k36_groups_and_times).prog) (w := w) (base := base) F11 T)
    have D12 := dn F12 (He.glo_ok X G (cd.fact 12 (f := .glo "_law_draw") rfl)) b12 (ok_draw (P := (PySem.Challenge.rw_mastershow_k36_groups_and_times).prog) (w := w) (base := base) F12 T)
    have D13 := dn F13 (He.glo_ok X G (cd.fact 13 (f := .glo "_law_steps") rfl)) b13 (ok_lsteps F13 T D12)
    have D14 := dn F14 (He.glo_ok X G (cd.fact 14 (f := .glo "_law_same") rfl)) b14 (ok_same_n (P := (PySem.Challenge.rw_mastershow_k36_groups_and_times).prog) (w := w) (base := base) F14 T (fun n h => dn F14 (He.glo_ok X G (cd.fact 14 (f := .glo "_law_same") rfl)) b14 h) 3)
    have D15 := dn F15 (He.glo_ok X G (cd.fact 15 (f := .glo "_law_whole") rfl)) b15 (ok_lwhole (P := (PySem.Challenge.rw_mastershow_k36_groups_and_times).prog) (w := w) (base := base) F15 T)
    have D16 := dn F16 (He.glo_ok X G (cd.fact 16 (f := .glo "_law_is_name") rfl)) b16 (ok_lname (P := (PySem.Challenge.rw_mastershow_k36_groups_and_times).prog) (w := w) (base := base) F16 T)
    have D17 := dn F17 (He.glo_ok X G (cd.fact 17 (f := .glo "_law_is_step") rfl)) b17 (ok_isstep F17 T D15 D16)
    have D18 := dn F18 (He.glo_ok X G (cd.fact 18 (f := .glo "_law_timed") rfl)) b18 (ok_timed (P := (PySem.Challenge.rw_mastershow_k36_groups_and_times).prog) (w := w) (base := base) F18 T)
    have D19 := dn F19 (He.glo_ok X G (cd.fact 19 (f := .glo "_law_word") rfl)) b19 (ok_word (P := (PySem.Challenge.rw_mastershow_k36_groups_and_times).prog) (w := w) (base := base) F19 T C)
    have D20 := dn F20 (He.glo_ok X G (cd.fact 20 (f := .glo "_law_bent") rfl)) b20 (ok_bent F20 T D12)
    have D21 := dn F21 (He.glo_ok X G (cd.fact 21 (f := .glo "_law_refused") rfl)) b21 (ok_ref36 F21 T g_DeckError N_NoSteps D8 D10 D19)
    exact ok_law F22 T D11 D12 D13 D18 D8 D10 D14 D20 D17 D21
end K36
open PySem PySem.W PySem.Calls PyProof.Rows
set_option maxRecDepth 100000 in
set_option maxHeartbeats 0 in
theorem PySem.Challenge.cw_mastershow_k36_groups_and_times_holds : PySem.Challenge.rw_mastershow_k36_groups_and_times.Holds := by
  w_on; o_law
  refine HandSHeadRun.head_any (r := OpenLaw.row PySem.Challenge.rw_mastershow_k36_groups_and_times) (q := view (OpenLaw.row PySem.Challenge.rw_mastershow_k36_groups_and_times).prog [66]) (H := K36.hk) (ob := K36.ob) (M := 20000) (loose := [("DeckError" : PySem.Str), ("NoDeck" : PySem.Str), ("NoMaster" : PySem.Str), ("NoSlide" : PySem.Str), ("NoPlace" : PySem.Str), ("NoTrait" : PySem.Str), ("NoWorth" : PySem.Str), ("NoSetting" : PySem.Str), ("NoName" : PySem.Str), ("Taken" : PySem.Str), ("TooMany" : PySem.Str), ("Ring" : PySem.Str), ("Used" : PySem.Str), ("NoRoom" : PySem.Str), ("NoSteps" : PySem.Str), ("NoPress" : PySem.Str), ("NoTime" : PySem.Str), ("NoShow" : PySem.Str), ("NoLink" : PySem.Str), ("NoNumber" : PySem.Str), ("NoWord" : PySem.Str), ("NoDeed" : PySem.Str), ("NoText" : PySem.Str), ("NoRow" : PySem.Str), ("is_whole" : PySem.Str), ("is_whole_within" : PySem.Str), ("is_one_of" : PySem.Str), ("is_tuple_of" : PySem.Str), ("is_tuple_within" : PySem.Str), ("LETTERS" : PySem.Str), ("FIGURES" : PySem.Str), ("LONGEST_NAME" : PySem.Str), ("MOST_LINES" : PySem.Str), ("is_name" : PySem.Str), ("KINDS" : PySem.Str), ("DEEDS" : PySem.Str), ("LONGEST_WAIT" : PySem.Str), ("MOST_STEPS" : PySem.Str), ("is_step" : PySem.Str), ("is_steps" : PySem.Str), ("groups_of" : PySem.Str), ("times_in_group" : PySem.Str), ("times_of" : PySem.Str), ("_law_pen" : PySem.Str), ("_law_draw" : PySem.Str), ("_law_steps" : PySem.Str), ("_law_same" : PySem.Str), ("_law_whole" : PySem.Str), ("_law_is_name" : PySem.Str), ("_law_is_written" : PySem.Str), ("_law_is_lines" : PySem.Str), ("_law_is_worth" : PySem.Str), ("_law_is_place" : PySem.Str), ("_law_is_master" : PySem.Str), ("_law_rounds" : PySem.Str), ("_law_is_step" : PySem.Str), ("_law_timed" : PySem.Str), ("_law_word" : PySem.Str), ("_law_bent" : PySem.Str), ("_law_refused" : PySem.Str)]) (d := HandSHeadRun.topDef (OpenLaw.row PySem.Challenge.rw_mastershow_k36_groups_and_times).prog 66) (kwd := []) K36.ob_eq
    (by kernel_rfl) (fun s => by kernel_rfl) K36.run (by kernel_rfl) (by kernel_rfl) (by kernel_rfl) (by rfl) (by first | assumption | decide +kernel) (by decide +kernel) ⟨rfl, rfl, rfl, rfl, rfl, by decide +kernel⟩ ?hw ?hc
  case hw => w_witness2
  case hc =>
    refine LamX.walk_ofTsE (l := PySem.Challenge.rw_mastershow_k36_groups_and_times) (n := 63) (k := 9) (x := "script") (CX := fun _ => L2.CX0) rfl (by decide) (by kernel_rfl) ⟨rfl, by decide, by decide⟩ ?F (fun _ _ _ _ _ z => z)
    intro w mg fa h Y G hmg0
    obtain ⟨K, KX, c⟩ := Y
    have hmg : mg ("law" : PySem.Str) = some (.ref fa) := by
      have e : (HandSHeadRun.topDef (OpenLaw.row PySem.Challenge.rw_mastershow_k36_groups_and_times).prog 66).name = ("law" : PySem.Str) := by kernel_rfl
      rw [← e]
      exact hmg0
    exact ⟨K, KX, K36.facts KX G hmg c⟩

