import Derived.Test.YtnjiinbhbjpfkaaGreatDoorStpG
set_option maxRecDepth 100000
set_option maxHeartbeats 0
set_option linter.all false
namespace Go.Proofs.YtnjiinbhbjpfkaaGreatDoor
open Go.RowKit Go.Proofs.Tryz
namespace F
def Pl.pop(s:Pl)(t:Nat):Pl:=s.dv t ((s.T t).kD (s.T t).fr.dropLast)
theorem oa(s:Pl){t u i:Nat}(h:u=t->i+1<(s.T t).fr.length):de (s.pop t) u i=de s u i:=by
 unfold de Pl.pop;by_cases e:u=t
 .subst e;rw[df];show(s.T u).fr.dropLast.getD _ _=_;have:=h rfl;rw[ar,List.getElem?_dropLast,aj (by omega),ar]
 rw[dP _ _ e]
theorem dQ.pop{p:dz}{s:Pl}{g:eE}{w w':World}{t m:Nat}(h:dQ p s g w)(ht:fe s t)(a6:(s.T t).lf=none)(hm:(s.T t).fr.length=m+1)(hT:Full w' (g.tb t) 160 7 7 (ep (gE p s g t) 1 (.slice (g.ro 12 t).1 m (g.ro 12 t).2)))(hK:w'.ownsRow 0 184 1 (.slice (g.ro 12 t).1 m (g.ro 12 t).2) m (((List.range m).map (g.fb t)).map P0))(hO:dy (λk=>k=g.tb t\/eO (g.ro 12 t).1=some k) w w'):Tr p s g w (s.pop t) g w':=by
 have o:∀u,u≠t->(s.pop t).T u=s.T u:=λu e=>dP _ _ e;have y:(s.pop t).T t=(s.T t).kD (s.T t).fr.dropLast:=df _ _ _;have a0:((s.pop t).T t).fr.length=m:=by rw[y];show(s.T t).fr.dropLast.length=_;rw[ef,hm];rfl
 have a2:∀a b,¬(a=12/\b=t)->eH (s.pop t) a b=eH s a b:=λa b e=>by
  by_cases eb:b=t
  .have i:a≠12:=λi=>e ⟨i,eb⟩;unfold eH;simp only[aa i];rfl
  exact jN rfl rfl rfl rfl rfl (by rw[o b eb]) rfl
 have a5:∀a b,¬(a=12/\b=t)->fU (s.pop t) g a b=fU s g a b:=λa b e=>by
  by_cases i:a=12
  .subst i;have eb:b≠t:=λeb=>e ⟨rfl,eb⟩;rw[kr,kr,o b eb]
  unfold fU;simp only[aa i];rfl
 have H:∀a b,¬(a=12/\b=t)->sl (s.pop t) g a b=sl s g a b:=λa b e=>by
  unfold sl;rw[a2 a b e]
 have W:sl (s.pop t) g 12 t=.slice (g.ro 12 t).1 m (g.ro 12 t).2:=by
  unfold sl;rw[jb,a0]
 have a4:∀a b c,¬((a=13\/a=14)/\b=t/\c=m)->gu (s.pop t) a b c=gu s a b c:=λa b c e=>by
  by_cases eb:b=t
  .by_cases i:a=13\/a=14
   .have ec:c≠m:=λec=>e ⟨i,eb,ec⟩;unfold gu;rw[aa (by omega),aa (by omega),aa (by omega),aa (by omega),aj i,aa (by omega),aa (by omega),aa (by omega),aa (by omega),aj i];have e1:((s.pop t).T b).fr.length=m:=by rw[eb];exact a0
    have e2:(s.T b).fr.length=m+1:=by rw[eb];exact hm
    rw[e1,e2];have a1:(s.pop t).nt=s.nt:=rfl;rw[a1];by_cases hc:c<m
    .have:c<m+1:=by omega
     simp[hc,this]
    have:¬c<m+1:=by omega
    simp[hc,this]
   unfold gu;have a1:(s.pop t).nt=s.nt:=rfl;rw[a1,aa i];by_cases a7:a=17
   .have:((s.pop t).T b).lf=(s.T b).lf:=by rw[eb,y];rfl
    rw[this,aa i]
   simp only[aa a7,aa i]
  exact nu rfl (by rw[o b eb]) (λ_ _=>by rw[o b eb])
 have a3:∀a,a=13\/a=14->¬gu (s.pop t) a t m=true:=λa ha Y=>by
  have:=(lI Y ha).2;omega
 refine h.to (λa b c=>(a=11/\b=t/\c=0)\/(a=12/\b=t/\c=0)\/((a=13\/a=14)/\b=t/\c=m)) (λ_=>(0,0,0)) (hO.mono (λk G _=>?_)) (λa b c J=>?_) (λa b c J=>?_) (λa b c k J G=>?_)
 .rcases G with G|G
  .exact⟨11,t,0,ag ⟨rfl,rfl,rfl⟩,by rw[kQ p g ht];exact G⟩
  exact⟨12,t,0,ab (ag ⟨rfl,rfl,rfl⟩),by rw[fR p g (by unfold eQ;omega) (gG (by omega) ht)];exact G⟩
 .refine jT (a4 a b c (λe=>J (ab (ab e)))) (λY=>lL Y (λ_=>jL (λa b _ _ e _=>H a b (λhh=>e hh.1)) rfl rfl) (λ_=>⟨rfl,rfl,rfl⟩) ?_ ?_ ?_ (λ_=>rfl) (λ_=>⟨rfl,rfl⟩) ?_ ?_)
  .intro i;have eb:b≠t:=λe=>J (ag ⟨i,e,(jq Y (by omega)).2⟩);refine⟨rfl,?_⟩;fB j
   unfold gE;rw[H 12 b (λe=>eb e.2),H 5 b (λe=>by omega),o b eb]
  .intro i;subst i;obtain⟨hb,hc⟩:=lI Y (by omega);refine⟨rfl,?_⟩;rw[oa s (λe=>by
    subst e;have:c≠m:=λe=>J (ab (ab ⟨ag rfl,rfl,e⟩));omega)]
  .intro i;subst i;obtain⟨hb,hc⟩:=lI Y (by omega);exact⟨rfl,oa s (λe=>by
    subst e;have:c≠m:=λe=>J (ab (ab ⟨ab rfl,rfl,e⟩));omega)⟩
  .intro i;subst i;have hl:=(ld Y).2.2;have eb:b≠t:=λe=>by rw[e,a6]at hl;cases hl
   refine⟨rfl,?_⟩;unfold ye;rw[o b eb]
  intro ha;have e:¬(a=12/\b=t):=λe=>J (ab (ag ⟨e.1,e.2,pW Y ha⟩));exact⟨rfl,a2 a b e,a5 a b e⟩
 .rcases J with⟨rfl,rfl,rfl⟩|⟨rfl,rfl,rfl⟩|⟨Z,rfl,rfl⟩
  .rw[gH (show gu (s.pop b) 11 b 0=true from gG (by omega) ht)];refine Full.congr hT (λj hj=>?_);have hc:j=0\/j=1\/j=2\/j=3\/j=4\/j=5\/j=6:=by omega
   rcases hc with rfl|rfl|rfl|rfl|rfl|rfl|rfl
   .rfl
   .exact W.symm
   .show Value.bool (s.T b).run=Value.bool ((s.pop b).T b).run;rw[y];rfl
   .show x8 p g (s.T b).wh=x8 p g ((s.pop b).T b).wh;rw[y];rfl
   .show Ba g b (s.T b).lf=Ba g b ((s.pop b).T b).lf;rw[y];rfl
   .show Value.int .i64 (s.T b).iL=Value.int .i64 ((s.pop b).T b).iL;rw[y];rfl
   exact(H 5 b (λe=>by omega)).symm
  .rw[gH (show gu (s.pop b) 12 b 0=true from gG (by omega) ht),gk (by unfold eQ;omega)];show w'.ownsRow 0 184 1 (sl (s.pop b) g 12 b) (eH (s.pop b) 12 b) (fU (s.pop b) g 12 b);rw[W,jb,kr,a0];exact hK
  rw[vq (a3 a Z)];exact trivial
 rcases J with⟨rfl,rfl,rfl⟩|⟨rfl,rfl,rfl⟩|⟨Z,rfl,rfl⟩
 .rw[kQ p _ (show fe (s.pop b) b from ht)]at G;rw[kQ p g ht];exact ag G
 .rw[fR p _ (by unfold eQ;omega) (show gu (s.pop b) 12 b 0=true from gG (by omega) ht)]at G;rw[fR p g (by unfold eQ;omega) (gG (by omega) ht)];exact ag G
 rw[vq (a3 a Z)]at G;exact G.elim
def oT.mW(v:oT)(k:Nat×Nat×Nat×Nat):oT:={ v with lf:=some k }
def qR:oT:=⟨[],false,none,none,0⟩
def Pl.new(s:Pl):Pl:={ s with nt:=s.nt+1,T:=λi=>if i=s.nt+1 then qR else s.T i,q:=λa b=>if a=5/\b=s.nt+1 then[] else s.q a b }
def eE.new(g:eE)(t tb xe xt:Nat):eE:={ g with tb:=λi=>if i=t then tb else g.tb i,xe:=λi=>if i=t then xe else g.xe i,xt:=λi=>if i=t then xt else g.xt i,ro:=λa b=>if(a=5\/a=12)/\b=t then(none,0) else g.ro a b }
theorem mi(s:Pl){t:Nat}(h:t≠s.nt+1):s.new.T t=s.T t:=aa h
theorem lM(s:Pl):s.new.T (s.nt+1)=qR:=aj rfl
theorem qA(s:Pl){a b:Nat}(h:¬(a=5/\b=s.nt+1)):s.new.q a b=s.q a b:=aa h
theorem s9(s:Pl):s.new.q 5 (s.nt+1)=[]:=aj ⟨rfl,rfl⟩
theorem G7(s:Pl):s.new.nt=s.nt+1:=rfl
theorem mm(g:eE){t tb xe xt u:Nat}(h:u≠t):(g.new t tb xe xt).tb u=g.tb u/\(g.new t tb xe xt).xe u=g.xe u/\(g.new t tb xe xt).xt u=g.xt u:=⟨aa h,aa h,aa h⟩
theorem jP(g:eE)(t tb xe xt:Nat):(g.new t tb xe xt).tb t=tb/\(g.new t tb xe xt).xe t=xe/\(g.new t tb xe xt).xt t=xt:=⟨aj rfl,aj rfl,aj rfl⟩
theorem vD(g:eE){t tb xe xt a b:Nat}(h:¬((a=5\/a=12)/\b=t)):(g.new t tb xe xt).ro a b=g.ro a b:=aa h
theorem Dx(g:eE){t tb xe xt a:Nat}(h:a=5\/a=12):(g.new t tb xe xt).ro a t=(none,0):=aj ⟨h,rfl⟩
theorem EP(s:Pl){a b c:Nat}(Y:¬((a=5\/a=11\/a=12\/a=15\/a=16)/\b=s.nt+1/\c=0)):gu s.new a b c=gu s a b c:=by
 unfold gu;rw[G7];by_cases o:a<=1\/a=2\/a=3\/(6<=a/\a<=9)\/a=18
 .rw[aj o,aj o]
 rw[aa o,aa o];by_cases u:a=4\/a=10
 .rw[aj u,aj u]
 rw[aa u,aa u];by_cases i:a=5\/a=11\/a=12\/a=15\/a=16
 .rw[aj i,aj i];have:¬(b=s.nt+1/\c=0):=λe=>Y ⟨i,e⟩;apply decide_eq_decide.2
  omega
 rw[aa i,aa i];by_cases H:b=s.nt+1
 .subst H;rw[lM];have G:¬(1<=s.nt+1/\s.nt+1<=s.nt/\c=0):=by omega
  have y:¬(1<=s.nt+1/\s.nt+1<=s.nt/\c<(s.T (s.nt+1)).fr.length):=by omega
  have J:¬(1<=s.nt+1/\s.nt+1<=s.nt+1/\c<qR.fr.length):=by
   show ¬(_/\_/\c<0);omega
  rw[fi G,fi y,fi J];have W:qR.lf.isSome=false:=rfl;rw[W];simp
 rw[mi s H];have G:decide (1<=b/\b<=s.nt+1/\c=0)=decide (1<=b/\b<=s.nt/\c=0):=decide_eq_decide.2 (by omega);have y:decide (1<=b/\b<=s.nt+1/\c<(s.T b).fr.length)=decide (1<=b/\b<=s.nt/\c<(s.T b).fr.length):=decide_eq_decide.2 (by omega);rw[G,y]
structure MW(s:Pl):Prop where
 a:∀x y,fz s x y->∀t,t∈s.q x y->fe s t
 b:∀t,t∈s.lv->fe s t
 c:∀t,fe s t->∀x y,(s.T t).wh=some (x,y)->fz s x y
theorem BQ{s:Pl}{x y:Nat}(h:gu s x y 0=true)(hx:2<=x/\x<=5):fz s x y:=by
 by_cases i:x=2
 .exact ag ⟨i,(jZ h (by omega)).1⟩
 by_cases e:x=3
 .exact ab (ag ⟨e,(jZ h (by omega)).1⟩)
 by_cases o:x=4
 .exact ab (ab (ag ⟨o,(yk h (by omega)).1⟩))
 exact ab (ab (ab ⟨by omega,(jq h (by omega)).1⟩))
theorem G4{p:dz}{s:Pl}{g:eE}{tb xe xt:Nat}(hM:MW s){a b c:Nat}(hC:¬((a=5\/a=11\/a=12\/a=15\/a=16)/\b=s.nt+1/\c=0)):ob p s.new (g.new (s.nt+1) tb xe xt) a b c=ob p s g a b c:=by
 have i:∀{t},fe s t->t≠s.nt+1:=λh=>by have:=h.2;omega
 have u:∀{t},fe s t->(g.new (s.nt+1) tb xe xt).tb t=g.tb t:=λh=>(mm g (i h)).1;have a0:∀a b,¬((a=5\/a=12)/\b=s.nt+1)->eH s.new a b=eH s a b:=λa b e=>by
  unfold eH;by_cases G:a=12
  .rw[mi s (λeb=>e ⟨ab G,eb⟩),qA s (λY=>by omega)];rfl
  rw[qA s (λY=>e ⟨ag Y.1,Y.2⟩)];simp only[aa G];rfl
 have J:∀a b,¬((a=5\/a=12)/\b=s.nt+1)->sl s.new (g.new (s.nt+1) tb xe xt) a b=sl s g a b:=λa b e=>by
  unfold sl;rw[vD g e,a0 a b e]
 refine jT (EP s hC) (λH=>lL H ?_ (λ_=>⟨rfl,rfl,rfl⟩) ?_ ?_ ?_ ?_ ?_ ?_ ?_)
 .intro _;exact jL (λa b _ e5 W _=>J a b (λe=>e.1.elim e5 W)) rfl rfl
 .intro G;have o:=(jq H (by omega)).1;have eb:=i o;refine⟨u o,?_⟩;fB j
  unfold gE;rw[J 12 b (λe=>eb e.2),J 5 b (λe=>eb e.2),mi s eb];have hw:x8 p (g.new (s.nt+1) tb xe xt) (s.T b).wh=x8 p g (s.T b).wh:=by
   cases hwh:(s.T b).wh with
   | none=>rfl
   | some xy=>
    obtain⟨x,y⟩:=xy;show Pt (tP p (g.new (s.nt+1) tb xe xt) x y) (wg x y)=Pt (tP p g x y) (wg x y);unfold tP;by_cases Z:x=5
    .rw[aj Z,aj Z,u (mO (hM.c b o x y hwh) Z)]
    rw[aa Z,aa Z]
  rw[hw];rfl
 .intro G;have o:=(lI H (by omega)).1;refine⟨rfl,?_⟩;have e1:de s.new b c=de s b c:=by unfold de;rw[mi s (i o)]
  rw[e1];unfold yf wj;rw[(mm g (i o)).2.1,(mm g (i o)).2.2,u o];rfl
 .intro G;have o:=(lI H (by omega)).1;refine⟨rfl,?_⟩;unfold de;rw[mi s (i o)]
 .intro G;exact(mm g (i (jq H (by omega)).1)).2.1
 .intro G;have o:=(jq H (by omega)).1;exact⟨(mm g (i o)).2.2,u o⟩
 .intro G;subst G;have o:=(ld H).1;refine⟨rfl,?_⟩;unfold ye;rw[mi s (i o),u o];rfl
 intro ha;have ec:=pW H ha;subst ec;have e:¬((a=5\/a=12)/\b=s.nt+1):=λe=>hC ⟨by omega,e.2,rfl⟩;refine⟨vD g e,a0 a b e,?_⟩;by_cases G:2<=a/\a<=5
 .have hl:=BQ H G;rw[nL _ _ hl,nL _ _ hl,qA s (λY=>e ⟨ag Y.1,Y.2⟩)];congr 1
  exact List.map_congr_left (λt ht=>u (hM.a a b hl t ht))
 unfold fU;by_cases e6:a=6
 .simp only[aj e6];congr 1
  exact List.map_congr_left (λt ht=>u (hM.b t ht))
 by_cases W:a=12
 .subst W;have o:=(jq H (by omega)).1;simp only[aa e6];rw[mi s (i o)];rfl
 obtain⟨r1,r2,r3⟩:=ha;have:a=7\/a=8\/a=9\/a=10:=by omega
 rcases this with rfl|rfl|rfl|rfl<;>rfl
end F
section
theorem Tryz.Dr:(prog.info? 184).map (λi=>(i.zero,i.size,i.bytes))=some (some (.pointer none),1,8):=by kernel_rfl
theorem mf(j:Nat):eC (λ_=>((0,0):B.V)) j=.int .i64 0:=by unfold eC;split<;>rfl
theorem A7{w:World}{g b e:Nat}(h:w.ownsRow e 149 2 (.slice (some ⟨g,0,none⟩) b b) b (madeCells #[.int .i64 0,.int .i64 0] (b*2)).toList):Full w g 149 (b*2) (b*2) (eC (λ_=>(0,0))):=by
 rcases h.2 with⟨h,_⟩|⟨g',u,i,H,h2,Y,h4,Z,J,W⟩
 .cases h
 cases H;refine⟨i,Y,J,λj y=>?_⟩;have o:=congrArg (λl=>l[j]?) W;have G:(madeCells #[.int .i64 0,.int .i64 0] (b*2)).toList[j]? = some (.int .i64 0):=by
  simp only[madeCells,Array.getElem?_toList,Array.getElem?_map,Array.getElem?_range];rw[aj y];have:j % 2=0\/j % 2=1:=by omega
  rcases this with h|h<;>simp[h]
 simp only[G,dh]at o;rw[aj y]at o;rw[mf];simpa using o
theorem qh{S:Nat->Prop}{w:World}(g:Nat)(e:S g):∀{w1:World} (i:List Value) (o:Nat),dy S w w1->dy S w (w1.setCells g o i)
 | _,[],_,h=>h
 | _,_ :: r,o,h=>qh g e r (o+1) (bm h (ag e) _)
def gh(u v:B.V):Nat->B.V:=λi=>if i=0 then u else if i=1 then v else(0,0)
def FO(w w':World)(tb s0 c0 r0 m ck:Nat)(ao:Option Addr)(fs:List Value)(bk:Value)(u v:B.V)(Tk:Nat->Value):Prop:=
 ∃kb ck' fb rb,Full w' tb 160 7 7 (ep Tk 1 (.slice (some ⟨kb,0,none⟩) (m+1) ck'))/\w'.ownsRow 0 184 1 (.slice (some ⟨kb,0,none⟩) (m+1) ck') (m+1) (fs++[P0 fb])/\Fr w' fb s0 c0 0 rb r0 bk (gh u v)/\w.heap.size<=fb/\w.heap.size<=rb/\dy (λk=>k=tb\/(Value.slice ao m ck).ownBlock=some k) w w'/\((Value.slice ao m ck).ownBlock=some kb\/w.heap.size<=kb)
theorem Hy(eb tb g nf y c0 r0 f m ck:Nat)(ao:Option Addr)(fs:List Value)(k:Fn)(ka kc:Array Value)(u v:B.V)(Tk:Nat->Value)(w:World)(h0:w.cell? ⟨eb,0,none⟩=some (.slice (some ⟨g,0,none⟩) nf nf))(Z:w.cell? ⟨g,f*2,none⟩=some (.int .i64 r0))(h2:w.cell? ⟨g,f*2+1,none⟩=some (.slice (some ⟨y,0,none⟩) c0 c0))(hT:Full w tb 160 7 7 Tk)(b7:Tk 1=.slice ao m ck)(hK:w.ownsRow 0 184 1 (.slice ao m ck) m fs)(hm:m<=1000)(he:eb<w.heap.size)(hg:g<w.heap.size)(hf:f<nf)(hr:2<=r0)(c7:r0<=8): Calls prog 119 #[P0 eb,P0 tb,.int .i64 f,vA u,vA v,.func k ka kc] w λe w'=>e=.returned (.tuple #[])/\FO w w' tb y c0 r0 m ck ao fs (.func k ka kc) u v Tk:=by
 obtain⟨u1,u2⟩:=u;obtain⟨v1,v2⟩:=v;obtain⟨i0,hi,aV,aR,aZ⟩:=info_parts Tryz.rE;have c5:(f:Int)<(nf:Int):=by omega
 have bQ:=hT.lt;have HT:=az hT;have aK:=az b7;have HK:=az hK;clear hT b7 hK;have bV:eb<w.heap.size+1:=by omega
 have bW:g<w.heap.size+1:=by omega
 go_in;go_wp2_with (at_make;go_loud (refine wpList_make_full _ rfl _ _ 137 rfl 0 149 i0 _ 2 underlying137 hi aV aR _ _ _ _ r0 rfl rfl rfl rfl (by rw[aZ];omega) (by unfold maxLen;omega) (dc _) ?_))
 intro w3 aH Y;have hz:=Y.size;simp at hz;have b4:=A7 aH;have bD:(w.alloc (.cells #[.int .i64 (u1:Int),.int .i64 u2] 149)).heap.size=w.heap.size+1:=by simp
 have x0:=cm Y (show(((w.alloc (.cells #[.int .i64 (u1:Int),.int .i64 u2] 149)).alloc (.cells #[.int .i64 (v1:Int),.int .i64 v2] 149)).alloc (.cells #[.int .i64 (r0:Int),.slice (some ⟨y,0,none⟩) c0 c0] 178)).heap[w.heap.size]? = some (.cells #[.int .i64 (u1:Int),.int .i64 u2] 149 (0,0)) by rw[ak _ _ _ (by simp;omega),ak _ _ _ (by simp)];exact bf _ _) (by intro e;cases e);have x1:=cm Y (show(((w.alloc (.cells #[.int .i64 (u1:Int),.int .i64 u2] 149)).alloc (.cells #[.int .i64 (v1:Int),.int .i64 v2] 149)).alloc (.cells #[.int .i64 (r0:Int),.slice (some ⟨y,0,none⟩) c0 c0] 178)).heap[w.heap.size+1]? = some (.cells #[.int .i64 (v1:Int),.int .i64 v2] 149 (0,0)) by rw[ak _ _ _ (by simp),<-bD];exact bf _ _) (by intro e;cases e);have x2:=cm Y (show(((w.alloc (.cells #[.int .i64 (u1:Int),.int .i64 u2] 149)).alloc (.cells #[.int .i64 (v1:Int),.int .i64 v2] 149)).alloc (.cells #[.int .i64 (r0:Int),.slice (some ⟨y,0,none⟩) c0 c0] 178)).heap[w.heap.size+1+1]? = some (.cells #[.int .i64 (r0:Int),.slice (some ⟨y,0,none⟩) c0 c0] 178 (0,0)) by(have:=bf ((w.alloc (.cells #[.int .i64 (u1:Int),.int .i64 u2] 149)).alloc (.cells #[.int .i64 (v1:Int),.int .i64 v2] 149)) (.cells #[.int .i64 (r0:Int),.slice (some ⟨y,0,none⟩) c0 c0] 178);simpa using this)) (by intro e;cases e);have b6:Hid (w.grownBy w3 none):=an (by repeat (first|exact ax _ _|refine au ?_ _)) Y;have H:Full w3 (w.heap.size+1+1+1) 149 (r0*2) (r0*2) (eC (λ_=>(0,0))):=by simpa using b4
 have aW:=az H;have a0:w3.cell? ⟨w.heap.size,0,none⟩=some (.int .i64 (u1:Int)):=by simp[World.cell?,x0]
 have a1:w3.cell? ⟨w.heap.size,1,none⟩=some (.int .i64 u2):=by simp[World.cell?,x0]
 have b0:w3.cell? ⟨w.heap.size+1,0,none⟩=some (.int .i64 (v1:Int)):=by simp[World.cell?,x1]
 have b1:w3.cell? ⟨w.heap.size+1,1,none⟩=some (.int .i64 v2):=by simp[World.cell?,x1]
 obtain⟨k0,e0⟩:=H.cells 0 (by omega);obtain⟨k1,e1⟩:=H.cells 1 (by omega);obtain⟨k2,e2⟩:=H.cells 2 (by omega);obtain⟨k3,e3⟩:=H.cells 3 (by omega);rw[mf]at k0 k1 k2 k3
 have c2:(1:Int)<(r0:Int):=by omega
 have bB:=az x2;clear aH Y b4 H x0 x1 x2 h0 Z h2 bD;go_wp2_with fail
 go_region
 generalize a8:World.drew ((((w3.setCell ⟨w.heap.size+1+1+1,0,none⟩ (.int .i64 (u1:Int))).setCell ⟨w.heap.size+1+1+1,1,none⟩ (.int .i64 u2)).setCell ⟨w.heap.size+1+1+1,2,none⟩ (.int .i64 (v1:Int))).setCell ⟨w.heap.size+1+1+1,3,none⟩ (.int .i64 v2))=i;have hb:∀b,b≠w.heap.size+1+1+1->i.heap[b]? = w3.heap[b]?:=by
  intro b hb;rw[<-a8];show(World.setCell _ _ _).heap[b]? = _;repeat (rw[af _ _ _ _ (by simpa using hb)])
 have aA:Hid (Full i (w.heap.size+1+1+1) 149 (r0*2) (r0*2) (eC (gh (u1,u2) (v1,v2)))):=by
  show Full _ _ _ _ _ _;rw[<-a8];refine Full.congr (show Full (World.drew _) _ _ _ _ _ from(((aW.out.ep 0 (.int .i64 (u1:Int))).ep 1 (.int .i64 u2)).ep 2 (.int .i64 (v1:Int))).ep 3 (.int .i64 v2)) (λj _=>?_);by_cases j3:j<4
  .rcases(show j=0\/j=1\/j=2\/j=3 by omega) with rfl|rfl|rfl|rfl<;>rfl
  rw[eG _ _ _ _ (by omega),eG _ _ _ _ (by omega),eG _ _ _ _ (by omega),eG _ _ _ _ (by omega)];have e:gh (u1,u2) (v1,v2) (j / 2)=(0,0):=by unfold gh;rw[aa (by omega),aa (by omega)]
  unfold eC;rw[e]
 have bG:i.heap.size=w3.heap.size:=by rw[<-a8];simp[World.setCell,World.drew]
 have aB:Hid (w.grownBy i none):=by
  rw[<-a8];repeat (first|exact b6.out|refine bq ?_|refine bp ?_ (ab (by simp;omega)) _)
 have aE:=az (HT.out.block (aB.out.block tb bQ (by intro e;cases e)));have aM:=az (dD HK.out (λk h=>aB.out.block k (dA HK.out k h).2.1 (by intro e;cases e)));have x2:=(hb (w.heap.size+1+1) (by omega)).trans bB.out;have f1:i.cell? ⟨w.heap.size+1+1,1,none⟩=some (.slice (some ⟨y,0,none⟩) c0 c0):=by simp[World.cell?,x2]
 obtain⟨t1,z1⟩:=aE.out.cells 1 (by omega);rw[aK.out]at t1;have aU:=aE.out.lt
 clear bG a8 hb x2 bB aW b6 a0 a1 b0 b1 k0 k1 k2 k3 e0 e1 e2 e3 hi aV aR aZ i0;obtain⟨j0,hj,bT,b8,bJ⟩:=info_parts Tryz.Dr;have kt:∀x,(Value.slice ao m ck).ownBlock=some x->x≠tb:=λx h=>eL HK.out HT.out (by decide) x h;have aJ:(ck<m+1/\(ao=none->m=0/\ck=0))\/(m+1<=ck/\∃G,ao=some ⟨G,0,none⟩):=by
  rcases HK.out.2 with⟨h,h0⟩|⟨g',c',bO,Z,_,_,h4,_⟩
  .injection h with a1 a2 a3;exact ag ⟨by omega,λ_=>⟨a2,a3⟩⟩
  injection Z with a1 a2 a3;by_cases bN:m+1<=ck
  .exact ab ⟨bN,g',a1⟩
  exact ag ⟨by omega,λe=>by rw[a1]at e;cases e⟩
 have hW:∀x,x<i.heap.size->(((i.alloc (ij y c0 0 (w.heap.size+1+1+1) r0 (.func k ka kc))).alloc (.cells #[P0 i.heap.size] 184)).drew).heap[x]? = i.heap[x]?:=λx hx=>(ak _ _ _ (by simp;omega)).trans (ak _ _ _ hx);have aG:(((i.alloc (ij y c0 0 (w.heap.size+1+1+1) r0 (.func k ka kc))).alloc (.cells #[P0 i.heap.size] 184)).drew).heap.size=i.heap.size+2:=by show(World.alloc _ _).heap.size=_;simp
 have aC:(((i.alloc (ij y c0 0 (w.heap.size+1+1+1) r0 (.func k ka kc))).alloc (.cells #[P0 i.heap.size] 184)).drew).heap[i.heap.size]? = some (ij y c0 0 (w.heap.size+1+1+1) r0 (.func k ka kc)):=by show(World.alloc _ _).heap[_]? = _;rw[ak _ _ _ (by simp)];exact bf _ _
 have aP:(((i.alloc (ij y c0 0 (w.heap.size+1+1+1) r0 (.func k ka kc))).alloc (.cells #[P0 i.heap.size] 184)).drew).cell? ⟨i.heap.size+1,0,none⟩=some (P0 i.heap.size):=by
  have Z:=bf (i.alloc (ij y c0 0 (w.heap.size+1+1+1) r0 (.func k ka kc))) (.cells #[P0 i.heap.size] 184);have h2:(i.alloc (ij y c0 0 (w.heap.size+1+1+1) r0 (.func k ka kc))).heap.size=i.heap.size+1:=by simp
  rw[h2]at Z;have h3:(((i.alloc (ij y c0 0 (w.heap.size+1+1+1) r0 (.func k ka kc))).alloc (.cells #[P0 i.heap.size] 184)).drew).heap[i.heap.size+1]? = some (.cells #[P0 i.heap.size] 184 (0,0)):=Z;simp only[World.cell?,h3];rfl
 have aF:∀j u,[P0 i.heap.size][j]? = some u->(((i.alloc (ij y c0 0 (w.heap.size+1+1+1) r0 (.func k ka kc))).alloc (.cells #[P0 i.heap.size] 184)).drew).cell? ((⟨i.heap.size+1,0,none⟩:Addr).add j)=some u:=λj u hj=>by
  match j,hj with
  | 0,hj=>(simp at hj;subst hj;exact aP)
 have aD:i.grownBy (((i.alloc (ij y c0 0 (w.heap.size+1+1+1) r0 (.func k ka kc))).alloc (.cells #[P0 i.heap.size] 184)).drew) none:=bq (au (au (ax _ _) _) _);rcases aJ with⟨b2,a9⟩|⟨a5,G,rfl⟩
 .have aY:=HK.out.1;have a6:∀b,ao=some b->∀j u,fs[j]? = some u->(((i.alloc (ij y c0 0 (w.heap.size+1+1+1) r0 (.func k ka kc))).alloc (.cells #[P0 i.heap.size] 184)).drew).cell? (b.add j)=some u:=λb hb j u hu=>by
   subst hb;rcases aM.out.2 with⟨h,_⟩|⟨g',c',bO,Z,_⟩
   .cases h
   injection Z with Z _ _;injection Z with Z;subst Z;obtain⟨_,_,_,_,hB,hc⟩:=iG aM.out;have h2:=hc j u hu;have h3:(((i.alloc (ij y c0 0 (w.heap.size+1+1+1) r0 (.func k ka kc))).alloc (.cells #[P0 i.heap.size] 184)).drew).cell? ⟨g',j,none⟩=some u:=by
    simp only[World.cell?]at h2 ⊢;rw[hW g' hB.lt];exact h2
   cases j with
   | zero=>simpa[Addr.add] using h3
   | succ j=>simpa[Addr.add] using h3
  have aI:=az (ay a9 (ay aY a6));have o:=az (ay aG (ay aC (ay aF aD)));clear a9 aY a6 hW aG aC aP aF aD;go_wp2_with fail
  go_region_law (refine step_append_grows rfl (.tmp 34) (.tmp 41) 156 rfl 184 j0 (.pointer none) 1 8 underlying156 hj bT b8 bJ rfl (by decide) ao m ck fs (by first|rfl|simp[Act.eval,Act.put]) aI.out.1 aI.out.2.1 aI.out.2.2 ⟨i.heap.size+1,0,none⟩ 1 1 [P0 i.heap.size] (by first|rfl|simp[Act.eval,Act.put]) rfl o.out.2.2.1 (by simp[Value.oneCell']) b2 (by unfold maxLen;omega) (by omega) ?_;intro v' w6 ho hg;obtain⟨G,bE,rfl⟩:=dM ho (by omega);have c3:=o.out.1▸(iG ho).1;have aO:=az (an o.out.2.2.2 hg);have bM:Hid (w6.heap[i.heap.size]? = some (ij y c0 0 (w.heap.size+1+1+1) r0 (.func k ka kc))):=cm hg o.out.2.1 (by intro e;cases e);have b5:=az (gw ho (dc _));have J:=az (aE.out.block (aO.out.block tb aU (by intro e;cases e)));obtain⟨d1,bL⟩:=J.out.cells 1 (by omega);have bH:=J.out.lt;clear ho hg)
  all_goals
   go_wp2_with fail
   go_end0;have aL:w.heap.size+1+1+1≠tb:=by omega
   have b9:=aA.out.lt;refine⟨rfl,G,bE,i.heap.size,w.heap.size+1+1+1,J.out.ep 1 _,dD b5.out (λx h=>af _ _ _ _ (eL b5.out J.out (by decide) x h)),⟨(af _ _ _ _ (show i.heap.size≠tb by omega)).trans bM.out,(aA.out.block (aO.out.block _ aA.out.lt (by intro e;cases e))).off aL,by omega⟩,by omega,by omega,bm (dU (an aB.out aO.out)) (ag (ag rfl)) _,ab (by omega)⟩
 obtain⟨_,bZ,bC,aS,a7,b3⟩:=iG aM.out;have aT:∀j,j < [P0 i.heap.size].length->((((i.alloc (ij y c0 0 (w.heap.size+1+1+1) r0 (.func k ka kc))).alloc (.cells #[P0 i.heap.size] 184)).drew).cell? ⟨G,0+m*1+j,none⟩).isSome=true/\(((i.alloc (ij y c0 0 (w.heap.size+1+1+1) r0 (.func k ka kc))).alloc (.cells #[P0 i.heap.size] 184)).drew).frozen? ⟨G,0+m*1+j,none⟩=false:=λj hj=>by
  have bR:j=0:=by simpa using hj
  subst bR;obtain⟨⟨v,h⟩,hf⟩:=a7.cell (0+m*1+0) (by omega);have hk:=hW G a7.lt;constructor
  .simp only[World.cell?]at h ⊢;rw[hk,h];rfl
  simp only[World.frozen?]at hf ⊢;rw[hk];exact hf
 have o:=az (ay aG (ay aC (ay aF (ay aD (ay aT hW)))));have W:=az (ay bC (ay aS (ay a7 b3)));have bK:G≠tb:=kt G rfl;have aQ:=a7.lt;clear hW aG aC aP aF aD aT bC aS a7 b3;go_wp2_with fail
 go_region_law (refine step_append_room rfl (.tmp 34) (.tmp 41) 156 rfl 184 j0 1 underlying156 hj b8 G 0 m ck (by first|rfl|simp[Act.eval,Act.put]) ⟨i.heap.size+1,0,none⟩ 1 1 [P0 i.heap.size] (by first|rfl|simp[Act.eval,Act.put]) rfl o.out.2.2.1 (by simp[Value.oneCell']) a5 o.out.2.2.2.2.1 ?_;generalize aX:World.setCells _ G _ _=w6;have a4:Hid (w6=(((i.alloc (ij y c0 0 (w.heap.size+1+1+1) r0 (.func k ka kc))).alloc (.cells #[P0 i.heap.size] 184)).drew).setCells G (0+m*1) [P0 i.heap.size]):=aX.symm;clear aX;have aN:Hid (∀x,x≠G->w6.heap[x]? = (((i.alloc (ij y c0 0 (w.heap.size+1+1+1) r0 (.func k ka kc))).alloc (.cells #[P0 i.heap.size] 184)).drew).heap[x]?):=(λx hx=>by rw[a4.out];exact eU G x hx _ _ _);have J:=az (aE.out.block ((aN.out tb (λe=>bK e.symm)).trans (o.out.2.2.2.2.2 tb aU)));obtain⟨d1,bL⟩:=J.out.cells 1 (by omega);have bH:=J.out.lt)
 all_goals
  rw[aK.out]at d1;go_wp2_with fail
  go_end0;have aL:w.heap.size+1+1+1≠tb:=by omega
  have b9:=aA.out.lt;have bI:w.heap.size+1+1+1≠G:=by
   have:=(dA HK.out G rfl).2.1;omega
  have c4:w6.heap.size=i.heap.size+2:=by rw[a4.out,lK];exact o.out.1
  have bA:w6.ownsRow 0 184 1 (.slice (some ⟨G,0,none⟩) (m+1) ck) (m+1) (fs++[P0 i.heap.size]):=by
   refine qf (dc _) a5 W.out.1 (by simp[W.out.2.1]) ?_ (λj x hx=>?_)
   .rw[a4.out];refine jB.Ex G _ _ _ ?_;obtain⟨cu,q1,q2⟩:=W.out.2.2.1;exact⟨cu,(o.out.2.2.2.2.2 G aQ).trans q1,q2⟩
   rw[a4.out];by_cases hj:j<m
   .rw[World.cell?_setCells_out G _ _ _ _ (λ_ _=>ag (by show j<0+m*1;omega))];rw[du (by rw[W.out.2.1];exact hj)]at hx;have h2:=W.out.2.2.2 j x hx;simp only[World.cell?]at h2 ⊢;rw[o.out.2.2.2.2.2 G aQ];exact h2
   have bP:j=m:=by
    have:=(bu.1 hx).1;simp[W.out.2.1]at this;omega
   subst bP;rw[dX (by rw[W.out.2.1];exact bj _),W.out.2.1,Nat.sub_self]at hx;have:=World.cell?_setCells_in G [P0 i.heap.size] (0+j*1) (((i.alloc (ij y c0 0 (w.heap.size+1+1+1) r0 (.func k ka kc))).alloc (.cells #[P0 i.heap.size] 184)).drew) (λt ht=>(o.out.2.2.2.2.1 t ht).1) 0 (by simp);rw[show(0+j*1+0)=j by omega]at this;rw[this];exact hx
  have bF:dy (λx=>x=tb\/(Value.slice (some ⟨G,0,none⟩) m ck).ownBlock=some x) w w6:=by
   rw[a4.out];exact qh G (ab rfl) _ _ (dU (an aB.out o.out.2.2.2.1))
  have bS:w6.heap[i.heap.size]? = some (ij y c0 0 (w.heap.size+1+1+1) r0 (.func k ka kc)):=(aN.out _ (by omega)).trans o.out.2.1;refine⟨rfl,G,ck,i.heap.size,w.heap.size+1+1+1,J.out.ep 1 _,dD bA (λx h=>af _ _ _ _ (eL bA J.out (by decide) x h)),⟨(af _ _ _ _ (show i.heap.size≠tb by omega)).trans bS,(aA.out.block ((aN.out _ bI).trans (o.out.2.2.2.2.2 _ b9))).off aL,by omega⟩,by omega,by omega,bm bF (ag (ag rfl)) _,ag rfl⟩
def iV(kv:List B.V)(v:B.V):List B.V:=if v.1≠0/\v∉kv then kv++[v] else kv
def J7(w w':World)(eb ob m co j k c:Nat)(ad:Option Addr)(ov kv:List B.V)(v:B.V)(E:Nat->Value):Prop:=
 ∃vv,Full w' eb 144 44 44 (ep E 31 vv)/\w'.ownsRow 0 149 2 (.slice (some ⟨ob,0,none⟩) m co) m (fT (ov.set j v))/\w'.ownsRow 0 149 2 vv (iV kv v).length (fT (iV kv v))/\dy (λx=>x=eb\/x=ob\/(Value.slice ad k c).ownBlock=some x) w w'/\(vv.ownBlock=(Value.slice ad k c).ownBlock\/∃g,vv.ownBlock=some g/\w.heap.size<=g)
theorem Jq(eb ob m co j k c:Nat)(ad:Option Addr)(v:B.V)(ov Y:List B.V)(E:Nat->Value)(w:World)(hE:Full w eb 144 44 44 E)(b2:E 30=.slice (some ⟨ob,0,none⟩) m co)(ho:w.ownsRow 0 149 2 (.slice (some ⟨ob,0,none⟩) m co) m (fT ov))(aE:E 31=.slice ad k c)(hk:w.ownsRow 0 149 2 (.slice ad k c) k (fT Y))(hj:j<m)(hm:m<=1000000000)(cV:k<=1000000)(no:∀x,(Value.slice ad k c).ownBlock=some x->x≠ob): Calls prog 211 #[P0 eb,.int .i64 ((j:Int)+1),vA v] w λe w'=>e=.returned (.tuple #[])/\J7 w w' eb ob m co j k c ad ov Y v E:=by
 obtain⟨i0,hi,cH,bJ,cL⟩:=info_parts Tryz.rE;obtain⟨bV,cF⟩:=hE.cells 30 (by omega);obtain⟨aK,b7⟩:=hE.cells 31 (by omega);rw[b2]at bV;have le:=hE.lt;have oe:=eL ho hE (by decide) ob rfl;obtain⟨_,aS,a8,a7,a6,aW⟩:=ru ho;have lo:=a6.lt;obtain⟨⟨y0,o0⟩,p0⟩:=a6.cell (j*2) (by omega);obtain⟨⟨y1,o1⟩,p1⟩:=a6.cell (j*2+1) (by omega);have c4:Y.length=k:=by
  have:=hk.1;rw[jr]at this;omega
 have HE:=az hE;have aC:=az aE;have HO:=az (ay aS (ay a8 (ay a7 (ay a6 aW))));have HK:=az hk;have bK:=az no;have Z:=az c4;clear hE b2 aE ho hk aS a8 a7 a6 aW no c4;have cC:¬eb=ob:=λe=>oe e.symm
 have d0:ob<w.heap.size+1:=by omega
 have d3:(j:Int)<m:=by omega
 have d4:IntKind.i64.wrap (j:Int)=j:=nS _ ⟨by omega,by omega⟩;have d1:(0:Int)<=j:=by omega
 obtain⟨y,G⟩:=v;go_in;go_wp2_with fail
 go_region
 generalize a9:World.drew (((w.setCell ⟨ob,j*2,none⟩ (.int .i64 y)).setCell ⟨ob,j*2+1,none⟩ (.int .i64 G)).alloc (.cells #[.int .i64 y,.int .i64 G] 149))=w2;have bG:w2.heap[w.heap.size]? = some (.cells #[.int .i64 y,.int .i64 G] 149 (0,0)):=by
  have hz:((w.setCell ⟨ob,j*2,none⟩ (.int .i64 y)).setCell ⟨ob,j*2+1,none⟩ (.int .i64 G)).heap.size=w.heap.size:=by simp[World.setCell]
  rw[<-a9,<-hz];exact bf _ _
 have cU:w2.heap.size=w.heap.size+1:=by rw[<-a9];simp[World.setCell]
 have aD:∀x,x≠ob->x<w.heap.size->w2.heap[x]? = w.heap[x]?:=λx h1 h2=>by
  rw[<-a9];show(World.alloc _ _).heap[x]? = _;rw[ak _ _ _ (by simp[World.setCell];exact h2),af _ _ _ _ h1,af _ _ _ _ h1]
 have b3:Hid (Full w2 eb 144 44 44 E):=HE.block (aD eb cC le);have b9:=az (dD HK (λx h=>aD x (bK x h) (dA HK x h).2.1));have bC:Hid (w2.ownsRow 0 149 2 (.slice (some ⟨ob,0,none⟩) m co) m (fT (ov.set j (y,G)))):=by
  obtain⟨aS,a8,a7,a6,aW⟩:=HO;have bP:jB ((w.setCell ⟨ob,j*2,none⟩ (.int .i64 y)).setCell ⟨ob,j*2+1,none⟩ (.int .i64 G)) ob 149 (co*2):=(a6.set ob _ _).set ob _ _;have hX:w2.heap[ob]? = ((w.setCell ⟨ob,j*2,none⟩ (.int .i64 y)).setCell ⟨ob,j*2+1,none⟩ (.int .i64 G)).heap[ob]?:=by
   rw[<-a9];exact ak _ _ _ bP.lt
  have aF:∀o,w2.cell? ⟨ob,o,none⟩=((w.setCell ⟨ob,j*2,none⟩ (.int .i64 y)).setCell ⟨ob,j*2+1,none⟩ (.int .i64 G)).cell? ⟨ob,o,none⟩:=λo=>by simp only[World.cell?,hX]
  refine zK (dc _) aS a8 (by rw[dq,a7]) (by obtain⟨cu,q1,q2⟩:=bP;exact⟨cu,hX.trans q1,q2⟩) (λi x hx=>?_);rw[aF,aF];by_cases bU:i=j
  .subst bU;rw[List.getElem?_set_self (by omega)]at hx;injection hx with hx;subst hx;constructor
   .rw[dF _ _ _ _ (by intro e;injection e with _ e;omega)];exact World.cell?_setCell_same _ _ _ o0
   exact World.cell?_setCell_same _ _ _ ((dF _ _ _ _ (by intro e;injection e with _ e;omega)).trans o1)
  rw[List.getElem?_set_ne (λe=>bU e.symm)]at hx;obtain⟨q1,q2⟩:=aW i x hx;constructor
  .rw[dF _ _ _ _ (by intro e;injection e with _ e;omega),dF _ _ _ _ (by intro e;injection e with _ e;omega)];exact q1
  rw[dF _ _ _ _ (by intro e;injection e with _ e;omega),dF _ _ _ _ (by intro e;injection e with _ e;omega)];exact q2
 have c7:Hid (dy (λx=>x=eb\/x=ob\/(Value.slice ad k c).ownBlock=some x) w w2):=by
  show dy _ _ _;rw[<-a9];exact qi (gF (bm (bm (dk _ _) (ag (ab (ag rfl))) _) (ag (ab (ag rfl))) _) _)
 have b0:w2.cell? ⟨w.heap.size,0,none⟩=some (.int .i64 y):=by simp[World.cell?,bG]
 have b1:w2.cell? ⟨w.heap.size,1,none⟩=some (.int .i64 G):=by simp[World.cell?,bG]
 clear a9 bV cF o0 o1 p0 p1 y0 y1 bG aD HO HE HK;obtain⟨aK,b7⟩:=b3.cells 31 (by omega);have cT:eb<w2.heap.size:=by omega
 have c9:w.heap.size<w2.heap.size:=by omega
 go_wp2_with fail
 refine(ft (y,G) _).mono ?_;rintro e w3 ⟨rfl,a5⟩;have cX:=a5.size;have bO:=az (c7.gR a5);have b8:=az (b3.block (a5.block eb cT (by intro e;cases e)));have aR:=az (dD bC (λx h=>a5.block x (dA bC x h).2.1 (by intro e;cases e)));have aB:=az (dD b9 (λx h=>a5.block x (dA b9 x h).2.1 (by intro e;cases e)));obtain⟨k0,_⟩:=bh a5 (a:=⟨w.heap.size,0,none⟩) c9;obtain⟨k1,_⟩:=bh a5 (a:=⟨w.heap.size,1,none⟩) c9;rw[b0]at k0;rw[b1]at k1;have bW:eb<w3.heap.size:=by omega
 have bZ:w.heap.size<w3.heap.size:=by omega
 obtain⟨aT,bS⟩:=b8.cells 31 (by omega);rw[aC.out]at aT;clear a5 b0 b1 b3 bC b9 c7;have aL:∀w4,w3.grownBy w4 none->iV Y (y,G)=Y->J7 w w4 eb ob m co j k c ad ov Y (y,G) E:=λw4 J aN=>by
  refine⟨.slice ad k c,(b8.block (J.block eb bW (by intro e;cases e))).congr (λi _=>?_),dD aR (λx h=>J.block x (dA aR x h).2.1 (by intro e;cases e)),?_,bO.gR J,ag rfl⟩
  .by_cases aZ:i=31
   .subst aZ;rw[gf,aC.out]
   rw[eG _ _ _ _ aZ]
  rw[aN,Z.out];exact dD aB (λx h=>J.block x (dA aB x h).2.1 (by intro e;cases e))
 have c6:=az aL;clear aL;by_cases hv:y=0
 .subst hv;simp only[decide_true];go_wp2_with fail
  go_quiet (fail)
  go_wp2_with fail
  go_end0;exact⟨rfl,c6 _ (db (ax _ _) _) (by unfold iV;rw[aa (by simp)])⟩
 have hd:decide (y=0)=false:=by simpa using hv
 simp only[hd];clear hd;have cK:Hid (∀w4,w3.grownBy w4 none->Calls prog 224 #[.slice ad k c,vA (y,G)] w4 λe w'=>e=.returned (.bool (decide (((y,G):B.V)∈Y)))/\w4.grownBy w' none):=λw4 J=>by
  have c8:=dD aB (λx h=>J.block x (dA aB x h).2.1 (by intro e;cases e));rcases c8.2 with⟨h,h0⟩|⟨g',c',bD,h1,_,h3,_⟩
  .injection h with a1 a2 a3;subst a1 a2 a3;obtain rfl:Y=[]:=List.eq_nil_of_length_eq_zero Z;exact uK (y,G) 0 0 0 none [] w4 rfl (by omega) (λi x hx=>by simp at hx) (λh=>ch rfl h)
  injection h1 with a1 a2 a3;subst a1;obtain⟨_,_,_,_,hB,hc⟩:=ru c8;exact uK (y,G) g' c k _ Y w4 Z.symm (by omega) (λi x hx=>⟨rfl,hc i x hx⟩) (λ_=>hB.lt)
 go_wp2_with fail
 go_cut [31] from 21 to 31 (λx wx=>x=.bool (!decide (((y,G):B.V)∈Y))/\Hid (w3.grownBy wx none))
 case first=>
  go_region_with (go_at_call 224;refine(cK w3.drew (bq (ax _ _))).mono ?_;rintro e w4 ⟨rfl,J⟩;have a0:Hid (w3.grownBy w4 none):=⟨J.os,J.tape,J.output,J.size,J.block⟩;clear J)
  all_goals
   go_wp2_with fail
   go_meet
   case rel=>exact⟨rfl,a0⟩
 case rest=>
  obtain⟨rfl,a0⟩:=hcut;by_cases aA:((y,G):B.V)∈Y
  .have hd:decide (((y,G):B.V)∈Y)=true:=by simpa using aA
   rw[hd];have bF:=az aA;clear aA hd;go_wp2_with fail
   go_end0;exact⟨rfl,c6 _ a0 (by unfold iV;rw[aa (λh=>h.2 bF)])⟩
  have hd:decide (((y,G):B.V)∈Y)=false:=by simpa using aA
  rw[hd];have bF:=az aA;clear aA hd;have aN:iV Y (y,G)=Y++[(y,G)]:=by unfold iV;rw[aj ⟨hv,bF⟩]
  have bR:=az aN;have cY:=a0.size;obtain⟨cI,_⟩:=bh a0 (a:=⟨w.heap.size,0,none⟩) bZ;obtain⟨cN,_⟩:=bh a0 (a:=⟨w.heap.size,1,none⟩) bZ;rw[k0]at cI;rw[k1]at cN;have aO:=az (b8.block (a0.block eb bW (by intro e;cases e)));have bX:=az (bO.gR a0);have aV:=az (dD aR (λx h=>a0.block x (dA aR x h).2.1 (by intro e;cases e)));have aI:=az (dD aB (λx h=>a0.block x (dA aB x h).2.1 (by intro e;cases e)));clear k0 k1 aT bS aN;obtain⟨aT,bS⟩:=aO.cells 31 (by omega);rw[aC.out]at aT;have bI:eb<wc.heap.size:=by omega
  have d5:w.heap.size<wc.heap.size:=by omega
  have hW:∀x,x<wc.heap.size->((wc.alloc (.cells #[.int .i64 y,.int .i64 G] 149)).drew).heap[x]? = wc.heap[x]?:=λx hx=>ak _ _ _ hx;have aY:((wc.alloc (.cells #[.int .i64 y,.int .i64 G] 149)).drew).heap.size=wc.heap.size+1:=by show(World.alloc _ _).heap.size=_;simp
  have aX:((wc.alloc (.cells #[.int .i64 y,.int .i64 G] 149)).drew).heap[wc.heap.size]? = some (.cells #[.int .i64 y,.int .i64 G] 149 (0,0)):=bf wc _;have q0:((wc.alloc (.cells #[.int .i64 y,.int .i64 G] 149)).drew).cell? ⟨wc.heap.size,0,none⟩=some (.int .i64 y):=by simp only[World.cell?,aX];rfl
  have q1:((wc.alloc (.cells #[.int .i64 y,.int .i64 G] 149)).drew).cell? ⟨wc.heap.size,0+1,none⟩=some (.int .i64 G):=by simp only[World.cell?,aX];rfl
  have aU:∀i u,[Value.int .i64 y,.int .i64 G][i]? = some u->((wc.alloc (.cells #[.int .i64 y,.int .i64 G] 149)).drew).cell? ((⟨wc.heap.size,0,none⟩:Addr).add i)=some u:=λi u hj=>by
   match i,hj with
   | 0,hj=>(simp at hj;subst hj;exact q0)
   | 1,hj=>(simp at hj;subst hj;exact q1)
  have aQ:wc.grownBy ((wc.alloc (.cells #[.int .i64 y,.int .i64 G] 149)).drew) none:=bq (au (ax _ _) _);have cJ:∀x,(Value.slice ad k c).ownBlock=some x->x≠eb:=λx h=>eL aI aO (by decide) x h;have b6:(c<k+1/\(ad=none->k=0/\c=0))\/(k+1<=c/\∃W,ad=some ⟨W,0,none⟩):=by
   rcases aI.2 with⟨h,h0⟩|⟨g',c',bD,h1,_,_,h4,_⟩
   .injection h with a1 a2 a3;exact ag ⟨by omega,λ_=>⟨a2,a3⟩⟩
   injection h1 with a1 a2 a3;by_cases cO:k+1<=c
   .exact ab ⟨cO,g',a1⟩
   exact ag ⟨by omega,λe=>by rw[a1]at e;cases e⟩
  rcases b6 with⟨bY,aM⟩|⟨aG,W,rfl⟩
  .have a7:=aI.1;have aH:∀b,ad=some b->∀i u,(fT Y)[i]? = some u->((wc.alloc (.cells #[.int .i64 y,.int .i64 G] 149)).drew).cell? (b.add i)=some u:=λb hb i u hu=>by
    subst hb;rcases aI.2 with⟨h,_⟩|⟨g',c',bD,h1,_,h3,_,_,_,h7⟩
    .cases h
    injection h1 with h1 _ _;injection h1 with h1;subst h1;have cS:i<k*2:=by
     have:=(bu.1 hu).1;omega
    rw[<-h7,dh,aj cS]at hu;have h4:((wc.alloc (.cells #[.int .i64 y,.int .i64 G] 149)).drew).cell? ⟨g',i,none⟩=some u:=by
     simp only[World.cell?,hW g' (bz h3),h3];simpa using hu
    cases i with
    | zero=>simpa[Addr.add] using h4
    | succ i=>simpa[Addr.add] using h4
   have b5:=az (ay aM (ay a7 aH));have H:=az (ay aY (ay aU aQ));clear aM a7 aH hW aY aX aU aQ;go_wp2_with fail
   go_region_law (refine step_append_grows rfl (.tmp 36) (.tmp 38) 137 rfl 149 i0 (.agg #[.int .i64 0,.int .i64 0]) 2 16 underlying137 hi cH bJ cL rfl (by decide) ad k c (fT Y) (by first|rfl|simp[Act.eval,Act.put]) b5.1 b5.2.1 b5.2.2 ⟨wc.heap.size,0,none⟩ 1 1 [.int .i64 y,.int .i64 G] (by first|rfl|simp[Act.eval,Act.put]) rfl H.2.1 (by simp[Value.oneCell']) bY (by unfold maxLen;omega) (by omega) ?_;intro v' w6 ho hg;obtain⟨g,c',rfl⟩:=dM ho (by omega);have cA:Hid (w6.ownsRow 0 149 2 (.slice (some ⟨g,0,none⟩) (k+1) c') (k+1) (fT (Y++[(y,G)]))):=(oY Y [(y,G)])▸gw ho (dc _);have d6:wc.heap.size+1<=g:=H.1▸(by rcases ho.2 with⟨h,_⟩|⟨g',c',bD,h1,h2,_⟩;cases h;cases h1;exact h2);have bE:=az (an H.2.2 hg);have a4:=az (aO.block (bE.block eb bI (by intro e;cases e)));obtain⟨bA,cP⟩:=a4.cells 31 (by omega);have cQ:=a4.lt;clear ho hg)
   all_goals
    go_wp2_with fail
    go_end0;refine⟨rfl,.slice (some ⟨g,0,none⟩) (k+1) c',a4.ep 31 _,dD aV (λx h=>?_),?_,bm (bX.gR bE) (ag (ag rfl)) _,ab ⟨g,rfl,by omega⟩⟩
    .have bB:x=ob:=by injection h with h;exact h.symm
     subst bB;exact(af _ _ _ _ oe).trans (bE.block x (dA aV x rfl).2.1 (by intro e;cases e))
    rw[bR.out,bo,Z.out];exact dD cA (λx h=>af _ _ _ _ (eL cA a4 (by decide) x h))
  obtain⟨_,cZ,a8,bL,aJ,c2⟩:=ru aI;have bM:∀i,i < [Value.int .i64 y,.int .i64 G].length->(((wc.alloc (.cells #[.int .i64 y,.int .i64 G] 149)).drew).cell? ⟨W,0+k*2+i,none⟩).isSome=true/\((wc.alloc (.cells #[.int .i64 y,.int .i64 G] 149)).drew).frozen? ⟨W,0+k*2+i,none⟩=false:=λi cR=>by
   have cW:i<2:=cR;obtain⟨⟨v,h⟩,hf⟩:=aJ.cell (0+k*2+i) (by omega);have hk:=hW W aJ.lt;constructor
   .simp only[World.cell?]at h ⊢;rw[hk,h];rfl
   simp only[World.frozen?]at hf ⊢;rw[hk];exact hf
  have H:=az (ay aY (ay aU (ay aQ (ay bM hW))));have b4:=az (ay a8 (ay bL (ay aJ c2)));have bQ:W≠eb:=cJ W rfl;have bN:W≠ob:=bK W rfl;have bH:=aJ.lt;clear hW aY aX aU aQ bM a8 bL aJ c2 q0 q1;go_wp2_with fail
  go_region_law (refine step_append_room rfl (.tmp 36) (.tmp 38) 137 rfl 149 i0 2 underlying137 hi bJ W 0 k c (by first|rfl|simp[Act.eval,Act.put]) ⟨wc.heap.size,0,none⟩ 1 1 [.int .i64 y,.int .i64 G] (by first|rfl|simp[Act.eval,Act.put]) rfl H.2.1 (by simp[Value.oneCell']) aG H.2.2.2.1 ?_;generalize bT:World.setCells _ W _ _=w6;have aP:Hid (w6=((wc.alloc (.cells #[.int .i64 y,.int .i64 G] 149)).drew).setCells W (0+k*2) [.int .i64 y,.int .i64 G]):=bT.symm;clear bT;have c3:Hid (∀x,x≠W->w6.heap[x]? = ((wc.alloc (.cells #[.int .i64 y,.int .i64 G] 149)).drew).heap[x]?):=(λx hx=>by rw[aP.out];exact eU W x hx _ _ _);have a4:=az (aO.block ((c3 eb (λe=>bQ e.symm)).trans (H.2.2.2.2 eb bI)));obtain⟨bA,cP⟩:=a4.cells 31 (by omega);have cQ:=a4.lt)
  all_goals
   rw[aC.out]at bA;go_wp2_with fail
   go_end0;have cB:w6.ownsRow 0 149 2 (.slice (some ⟨W,0,none⟩) (k+1) c) (k+1) (fT (Y++[(y,G)])):=by
    refine zK (dc _) aG b4.1 (by simp[Z.out]) ?_ (λi x hx=>?_)
    .rw[aP.out];refine jB.Ex W _ _ _ ?_;obtain⟨cu,q1,q2⟩:=b4.2.2.1;exact⟨cu,(H.2.2.2.2 W bH).trans q1,q2⟩
    rw[aP.out];by_cases cM:i<k
    .rw[du (by rw[Z.out];exact cM)]at hx;obtain⟨q1,q2⟩:=b4.2.2.2 i x hx;rw[World.cell?_setCells_out W _ _ _ _ (λ_ _=>ag (by show i*2<0+k*2;omega)),World.cell?_setCells_out W _ _ _ _ (λ_ _=>ag (by show i*2+1<0+k*2;omega))];simp only[World.cell?]at q1 q2 ⊢;rw[H.2.2.2.2 W bH];exact⟨q1,q2⟩
    have c5:i=k:=by
     have:=(bu.1 hx).1;simp[Z.out]at this;omega
    subst c5;rw[dX (by rw[Z.out];exact bj _),Z,Nat.sub_self]at hx;have cD:x=(y,G):=by
     have:some (y,G)=some x:=hx;injection this with this;exact this.symm
    subst cD;have s0:=World.cell?_setCells_in W [.int .i64 y,.int .i64 G] (0+i*2) ((wc.alloc (.cells #[.int .i64 y,.int .i64 G] 149)).drew) (λt ht=>(H.2.2.2.1 t ht).1) 0 (by simp);have s1:=World.cell?_setCells_in W [.int .i64 y,.int .i64 G] (0+i*2) ((wc.alloc (.cells #[.int .i64 y,.int .i64 G] 149)).drew) (λt ht=>(H.2.2.2.1 t ht).1) 1 (by simp);rw[show(0+i*2+0)=i*2 by omega]at s0;rw[show(0+i*2+1)=i*2+1 by omega]at s1;exact⟨s0,s1⟩
   have cG:dy (λx=>x=eb\/x=ob\/(Value.slice (some ⟨W,0,none⟩) k c).ownBlock=some x) w w6:=by
    rw[aP.out];exact qh W (ab (ab rfl)) _ _ (bX.gR H.2.2.1)
   refine⟨rfl,.slice (some ⟨W,0,none⟩) (k+1) c,a4.ep 31 _,dD aV (λx h=>?_),?_,bm cG (ag (ag rfl)) _,ag rfl⟩
   .have bB:x=ob:=by injection h with h;exact h.symm
    subst bB;exact(af _ _ _ _ oe).trans ((c3 x (λe=>bN e.symm)).trans (H.2.2.2.2 x (dA aV x rfl).2.1))
   rw[bR.out,bo,Z.out];exact dD cB (λx h=>af _ _ _ _ (eL cB a4 (by decide) x h))
end
namespace F
theorem zC{s:Pl}{g:eE}(l:List se)(a b:Nat)(_:eQ a)(i:a=4\/a=5\/a=10\/a=12\/b=0)(h:¬(a=9/\b=0)):eH { s with ev:=l } a b=eH s a b/\fU { s with ev:=l } g a b=fU s g a b:=by
 have e:a≠9:=by omega
 exact⟨by unfold eH;simp only[aa e],by unfold fU;simp only[aa e]⟩
theorem kF(a:Option Addr)(n c k:Nat):(Value.slice a n c).ownBlock=some k↔eO a=some k:=by rw[dr]
def Pl.told(s:Pl)(kind t:Nat)(x:Int):Pl:={ s with ev:=s.ev++[(kind,t,x)] }
theorem B4{p:dz}{s:Pl}{g:eE}{w:World}{t:Nat}(kind:Nat)(x:Int)(h:dQ p s g w)(ht:fe s t)(hn:s.ev.length<=100000): Calls prog 173 #[P0 p.eb,.int .i64 kind,P0 (g.tb t),.int .i64 x] w λe w'=>e=.returned (.tuple #[])/\∃r,Tr p s g w (s.told kind t x) (g.at 9 0 r) w':=by
 have o:gu s 9 0 0=true:=iq (by omega);refine(IU p.eb (g.tb t) kind t x (g.ro 9 0).1 s.ev.length (g.ro 9 0).2 s.ev (iJ p s g) (gE p s g t) w h.E rfl (h.tk ht) rfl (h.row (x:=9) (y:=0) (by unfold eQ;omega) o) hn).mono ?_;rintro e w' ⟨rfl,gb,c,J,Y,W,u⟩;have G:eH (s.told kind t x) 9 0=s.ev.length+1:=by show(s.ev++[(kind,t,x)]).length=_;rw[bo];rfl
 refine⟨rfl,(some ⟨gb,0,none⟩,c),h.yX (j0:=43) (by omega) o (by decide) rfl rfl rfl rfl rfl rfl rfl (λa b c d e=>zC _ a b c d e) ?_ ?_ (W.mono (λk i _=>?_)) (λk i=>?_)⟩
 .rw[G];exact Y
 .rw[G];exact J
 .rw[kF]at i;exact i
 have e:gb=k:=by injection i
 subst e;rw[kF]at u;exact u
def gY.set(f:gY)(a:Nat)(v:B.V):gY:={ f with R:=B.set f.R a v }
theorem DE{p:dz}{s:Pl}{g:eE}{w:World}(h:dQ p s g w){t i:Nat}(ht:fe s t)(hi:i<(s.T t).fr.length):g.fb t i≠g.rb t i:=by
 obtain⟨u,o,_⟩:=h.rg ht hi;exact λe=>dW o (h.fr ht hi) (by decide) e.symm
theorem wP{p:dz}{s:Pl}{g:eE}{w:World}{t i a:Nat}(op b c tb eb:Nat)(v:B.V)(h:dQ p s g w)(ht:fe s t)(hi:i<(s.T t).fr.length)(y:a<p.rg (de s t i).f): Calls prog 149 #[dZ op a b c (g.fb t i) tb eb,vA v] w λe w'=>e=.returned (.tuple #[])/\Tr p s g w (s.dx t i ((de s t i).set a v)) g w':=by
 refine(js op a b c (g.fb t i) tb eb _ _ _ _ _ _ (de s t i).R v w (h.fr ht hi) (h.rg ht hi) y).mono ?_;rintro e w' ⟨rfl,o,u⟩;refine⟨rfl,h.Lo ht hi ?_ u (jg o (ab rfl))⟩;exact cm o (h.fr ht hi) (by intro e;injection e with e;exact DE h ht hi e)
theorem LX{p:dz}{s:Pl}{g:eE}{w w':World}{t i:Nat}{f:gY}(h:dQ p s g w)(ht:fe s t)(hi:i<(s.T t).fr.length)(e:f.f=(de s t i).f)(u:f.bk=(de s t i).bk)(o:Fr w' (g.fb t i) (p.cb (de s t i).f) (p.len (de s t i).f) f.nx (g.rb t i) (p.rg (de s t i).f) (wj p g t i (de s t i).bk) f.R)(y:dy (λk=>k=g.fb t i\/k=g.rb t i) w w'):Tr p s g w (s.dx t i f) g w':=by
 refine h.Lo ht hi ?_ ?_ y
 .unfold yf;rw[e,u];exact o.1
 rw[e];exact o.2.1
theorem dQ.Fr{p:dz}{s:Pl}{g:eE}{w:World}{t i:Nat}(h:dQ p s g w)(ht:fe s t)(hi:i<(s.T t).fr.length):Fr w (g.fb t i) (p.cb (de s t i).f) (p.len (de s t i).f) (de s t i).nx (g.rb t i) (p.rg (de s t i).f) (wj p g t i (de s t i).bk) (de s t i).R:=⟨h.fr ht hi,h.rg ht hi,DE h ht hi⟩
theorem EA{w:World}{i size n:Nat}{e:TypeId}{v:Value}{xs:List Value}(h:w.ownsRow i e size v n xs):∃a c,v=.slice a n c:=by
 rcases h.2 with⟨o,y⟩|⟨g,c,u,o,_⟩
 .exact⟨none,0,by rw[o,y]⟩
 exact⟨_,_,o⟩
def Pl.kU(s:Pl)(j:Nat)(v:B.V):Pl:={ s with out:=s.out.set j v,kp:=iV s.kp v }
theorem Ez{s:Pl}{g:eE}(j:Nat)(v:B.V)(a b:Nat)(_:eQ a)(o:a=4\/a=5\/a=10\/a=12\/b=0)(h:¬(a=8/\b=0)):eH (s.kU j v) a b=eH s a b/\(¬(a=7/\b=0)->fU (s.kU j v) g a b=fU s g a b):=by
 have e:a≠8:=by omega
 by_cases i:a=7
 .subst i;refine⟨?_,λh=>ch ⟨rfl,by omega⟩ h⟩;show(s.out.set j v).length=s.out.length;exact dq
 exact⟨by unfold eH Pl.kU;simp only[aa e,aa i],λ_=>by unfold fU Pl.kU;simp only[aa e,aa i]⟩
theorem Jp{p:dz}{s:Pl}{g:eE}{w:World}{j:Nat}(v:B.V)(h:dQ p s g w)(hj:j<s.out.length)(hm:s.out.length<=1000000000)(i:s.kp.length<=1000000): Calls prog 211 #[P0 p.eb,.int .i64 ((j:Int)+1),vA v] w λe w'=>e=.returned (.tuple #[])/\∃r,Tr p s g w (s.kU j v) (g.at 8 0 r) w':=by
 have u:gu s 7 0 0=true:=iq (by omega);have G:gu s 8 0 0=true:=iq (by omega);have h7:=h.row (x:=7) (y:=0) (by unfold eQ;omega) u;have a0:eH s 7 0=s.out.length:=rfl;obtain⟨ob,W,Z⟩:=dM h7 (by rw[a0];omega);have o:sl s g 7 0=.slice (some ⟨ob,0,none⟩) s.out.length W:=Z;have J:g.ro 7 0=(some ⟨ob,0,none⟩,W):=by
  unfold sl at o;injection o with a b c;exact fV a c
 refine(Jq p.eb ob s.out.length W j s.kp.length (g.ro 8 0).2 (g.ro 8 0).1 v s.out s.kp (iJ p s g) w h.E o (by rw[<-o];exact h7) rfl (h.row (x:=8) (y:=0) (by unfold eQ;omega) G) hj hm i (λx hx=>?_)).mono ?_
 .rw[kF]at hx;exact h.ne (x:=8) (y:=0) (z:=0) (x':=7) (y':=0) (z':=0) (by rw[fR p g (by unfold eQ;omega) G];exact hx) (by rw[fR p g (by unfold eQ;omega) u,J];rfl) (by omega)
 rintro e w' ⟨rfl,vv,k1,k2,k3,k4,H⟩;obtain⟨a',c',rfl⟩:=EA k3;refine⟨rfl,(a',c'),h.Aj (x2:=7) (y2:=0) (j0:=31) (by omega) G (by omega) u (by decide) rfl rfl rfl rfl rfl rfl rfl (λa b c d e=>Ez j v a b c d e) k1 k3 (λ_=>?_) (k4.mono (λk i _=>?_)) (λk i=>?_)⟩
 .rw[o];exact k2
 .rw[kF]at i;rw[J];rcases i with i|i|i
  .exact ag i
  .exact ab (ab (by rw[i];rfl))
  exact ab (ag i)
 rw[dr,dr]at H;rcases H with H|⟨gb,H,k6⟩
 .exact ag (by rw[<-H];exact i)
 rw[H]at i;have e:gb=k:=by injection i
 exact ab (by omega)
end F
end Go.Proofs.YtnjiinbhbjpfkaaGreatDoor
